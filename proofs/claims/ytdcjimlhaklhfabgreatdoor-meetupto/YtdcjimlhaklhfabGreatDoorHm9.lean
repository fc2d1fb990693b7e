import Derived.Test.YtdcjimlhaklhfabGreatDoorHm6
import Derived.Test.YtdcjimlhaklhfabGreatDoorHm8
import Derived.Test.YtdcjimlhaklhfabGreatDoorHm7
import Derived.Test.YtdcjimlhaklhfabGreatDoorHm5
import Derived.Deep.RegionHeld3
namespace Go.Proofs.YtdcjimlhaklhfabGreatDoor
open Go.RowKit
/-! Which type's cells lie in a block. -/
def tyAt (w : World) (k : Nat) (t : TypeId) : Prop := ∃ cs f, w.heap[k]? = some (.cells cs t f)
theorem tyAt_inj {w : World} {k : Nat} {t t' : TypeId} (h : tyAt w k t) (g : tyAt w k t') : t = t' := by
  obtain ⟨cs, f, h⟩ := h
  obtain ⟨cs', f', g⟩ := g
  rw [h] at g; cases g; rfl
theorem tyAt_own {w : World} {base : Nat} {e : TypeId} {size : Nat} {v : Value} {n : Nat} {xs : List Value} (h : w.ownsRow base e size v n xs) : ∀ k, v.ownBlock = some k → tyAt w k e := by
  intro k hk
  rcases h.2 with ⟨rfl, _⟩ | ⟨g, cap, cur, rfl, _, hg, _⟩
  · simp [Value.ownBlock] at hk
  · simp [Value.ownBlock] at hk; subst hk; exact ⟨_, _, hg⟩
theorem tyAt_lt {w : World} {k : Nat} {t : TypeId} (h : tyAt w k t) : k < w.heap.size := by
  obtain ⟨cs, f, h⟩ := h; exact lt_of_block h
theorem rows_apart {w : World} {b1 b2 : Nat} {e1 e2 : TypeId} {s1 s2 : Nat} {u v : Value} {n m : Nat} {xs ys : List Value} (h : w.ownsRow b1 e1 s1 u n xs) (g : w.ownsRow b2 e2 s2 v m ys) (hne : e1 ≠ e2) : ∀ k, u.ownBlock = some k → v.ownBlock ≠ some k :=
  fun k h1 h2 => hne (tyAt_inj (tyAt_own h k h1) (tyAt_own g k h2))
end Go.Proofs.YtdcjimlhaklhfabGreatDoor

namespace Go.Proofs.YtdcjimlhaklhfabGreatDoor
open Go.RowKit
theorem treeAt_box (w : World) (t : Tr) : TreeAt ext0 (w.alloc (.cells (treeCells t).toArray 78)) w.heap.size t := by
  unfold TreeAt ext0; simpa using heap_alloc_new w (.cells (treeCells t).toArray 78)
theorem ndCells_app (l m : List Nd) : ndCells (l ++ m) = ndCells l ++ ndCells m := by simp [ndCells]
theorem behind_take (M : List St) (k : Nat) (h : k < M.length) : (M.take (k + 1)).map behind = (M.take k).map behind ++ [behind M[k]] := by
  rw [List.take_succ_eq_append_getElem h, List.map_append]; rfl
set_option maxHeartbeats 4000000 in
set_option maxRecDepth 100000 in
theorem wayTo_any (L : List Lo) (v g : Tr) (b o : Nat) (ao : Option Addr) (cap : Nat) (w : World) (hlog : w.cell? ⟨b, o, none⟩ = some (.slice ao L.length cap)) (hb : b < w.heap.size) (hrow : Row w ao L.length 5 (loCells L)) (hx : ∀ x ∈ L, LoOk x) (hl : L.length ≤ 4000) (hv : Valid v) (hg : Valid g) (hvw : TrW v) :
    Calls Tryz.prog 72 #[.pointer (some ⟨b, o, none⟩), .agg (treeCells v).toArray, .agg (treeCells g).toArray] w fun e w' => ∃ u, e = .returned u ∧ w'.ownsRow w.heap.size 75 3 u (renamesT (places L) v ++ (makeT v g).map behind).length (ndCells (renamesT (places L) v ++ (makeT v g).map behind)) ∧ Below w.heap.size w w' := by
  obtain ⟨i0, hi, hz0, hz1, hz2⟩ := info_parts Tryz.infoNode
  have hba := ((Below.refl w.heap.size w).alloc (Nat.le_refl _) (.cells (treeCells v).toArray 78)).alloc (by simp) (.cells (treeCells g).toArray 78)
  have hT1 : TreeAt ext0 ((w.alloc (.cells (treeCells v).toArray 78)).alloc (.cells (treeCells g).toArray 78)) w.heap.size v := (treeAt_box w v).below ((Below.refl _ _).alloc (Nat.le_refl _) _)
  have hT2 : TreeAt ext0 ((w.alloc (.cells (treeCells v).toArray 78)).alloc (.cells (treeCells g).toArray 78)) (w.heap.size + 1) g := by
    have := treeAt_box (w.alloc (.cells (treeCells v).toArray 78)) g
    simpa using this
  have HRN := hide (renamed_any L v b o w.heap.size ao cap _ (by rw [hba.cell (p := ⟨b, o, none⟩) hb]; exact hlog) (by simp; omega) (hrow.below hba) hx hl hvw hT1)
  have HMK := hide (fun W => make_own v g W hv.ok hg.ok)
  have hml := make_len hv hg
  have hrl : (renamesT (places L) v).length ≤ 99 := renamesTo_len _ _ 99
  have HT1 := hide hT1
  have HT2 := hide hT2
  have HBA := hide hba
  clear hlog hrow hx hv hg hvw hT1 hT2 hba
  generalize renamesT (places L) v = R at *
  generalize makeT v g = M at *
  go_enter Tryz.func72, Tryz.ntmps72
  go_upto_region 1 with fail
  generalize hwa : (w.alloc (.cells (treeCells v).toArray 78)).alloc (.cells (treeCells g).toArray 78) = wa at *
  have hsa : w.heap.size ≤ wa.heap.size := by rw [← hwa]; simp; omega
  clear hwa
  generalize Value.agg (treeCells v).toArray = va
  generalize Value.agg (treeCells g).toArray = vg
  go_wp2_with fail
  refine (unhide HRN).mono ?_
  rintro e w1 ⟨u, rfl, hown, hb1⟩
  obtain ⟨uo, uc, rfl, _⟩ := row_of_owns hown
  have HB1 := hide ((unhide HBA).trans (hb1.mono hsa))
  have hs1 := hb1.size
  have HR1 := hide (treeAt_range ((unhide HT1).below hb1))
  have HR2 := hide (treeAt_range ((unhide HT2).below hb1))
  have HOWN := hide hown
  clear hb1 hown
  go_wp2_with (first
    | (refine wpList_load_mid (by rfl) 78 (.tmp 4) (by rfl) w.heap.size 0 (by rfl) (treeCells v) _ (unhide HR1) Tryz.underlying78 (by rfl) (treeSize v) ?_)
    | (refine wpList_load_mid (by rfl) 78 (.tmp 5) (by rfl) (w.heap.size + 1) 0 (by rfl) (treeCells g) _ (unhide HR2) Tryz.underlying78 (by rfl) (treeSize g) ?_))
  refine (unhide HMK _).mono ?_
  rintro e w2 ⟨⟨mo, mc, rfl, hownM⟩, hb2⟩
  generalize Value.agg (treeCells v).toArray = va2
  generalize Value.agg (treeCells g).toArray = vg2
  have HB2 := hide ((unhide HB1).trans (hb2.mono (unhide HB1).size))
  have HOWN2 := hide (own_low (own_below (unhide HOWN) hb2) hsa)
  have HOM := hide hownM
  clear hownM hb2 HR1 HR2 HT1 HT2 HOWN HRN HMK
  go_wp2
  go_loopw [7, 19] (fun u i wr => ∃ k : Nat, k ≤ M.length ∧ i = .int .i64 k ∧ Hid (Below w.heap.size w wr) ∧ Hid (wr.ownsRow w.heap.size 75 3 u (R ++ (M.take k).map behind).length (ndCells (R ++ (M.take k).map behind))) ∧ Hid (wr.ownsRow w1.heap.size 169 4 (.slice mo M.length mc) M.length (stCells M))) (fun _ i _ => M.length - (intOf i).toNat)
  case atStart => exact ⟨0, Nat.zero_le _, rfl, HB2, by simpa using HOWN2, HOM⟩
  case round =>
    obtain ⟨k, hk, rfl, HB, HO, HM⟩ := hrel
    by_cases hlt : k < M.length
    · obtain ⟨q, hao, hq, c0, c1, c2, c3⟩ := st_cells (row_of (unhide HM)) hlt
      have HST : Hid (R ++ (M.take (k + 1)).map behind = R ++ (M.take k).map behind ++ [behind M[k]]) := by apply hide; rw [behind_take M k hlt, List.append_assoc]
      have hol : (R ++ (M.take k).map behind).length ≤ 400 := by rw [List.length_append, List.length_map, List.length_take]; omega
      generalize R ++ (M.take k).map behind = Q at *
      have hsr := (unhide HB).size
      have HAO := hide hao
      rw [hao]
      clear hao
      generalize M[k] = st at *
      have hB1 := (Below.refl wr.heap.size wr).alloc (Nat.le_refl _) (.cells #[.int .u8 st.kind.toNat, .int .i64 st.node.id, .int .i64 st.node.parent, .string (bs st.node.name)] 169)
      have HBH := hide (fun W => behind_any st W)
      generalize behind st = n at *
      have HB3 := hide hB1; clear hB1
      go_wp2_with fail
      refine (unhide HBH _).mono ?_
      rintro e w4 ⟨rfl, hb4⟩
      have hb5 := (unhide HB3).trans (hb4.mono (unhide HB3).size)
      have HO5 := hide (own_below (unhide HO) hb5)
      have HM5 := hide (own_below (unhide HM) hb5)
      have HB5 := hide ((unhide HB).trans (hb5.mono hsr))
      have hs5 := (unhide HB5).size
      clear hb4 hb5 c0 c1 c2 c3
      go_wp2_with (first
        | (at_builtin; (refine wpList_append_own _ rfl _ _ 126 rfl w.heap.size 75 i0 (.agg #[.int .i64 0, .int .i64 0, .string ByteArray.empty]) 3 32 Tryz.underlying126 hi hz0 hz1 hz2 rfl (by decide) _ _ _ rfl (own_below (unhide HO5) (((Below.refl _ _).alloc (Nat.le_refl _) _).alloc (by simp) _)) ⟨w4.heap.size + 1, 0, none⟩ 1 1 [.int .i64 n.id, .int .i64 n.parent, .string (bs n.name)] rfl rfl (news_three' _ _ _ _ _) (by simp [Value.oneCell']) (by unfold maxLen; omega) (by omega) (by simp; omega) ?_))
        | go_in)
      intro v' w8 hown' hgrow _
      have hb7 := ((Below.refl w4.heap.size w4).alloc (Nat.le_refl _) (.cells #[.int .i64 n.id, .int .i64 n.parent, .string (bs n.name)] 75)).alloc (by simp) (.cells #[.int .i64 n.id, .int .i64 n.parent, .string (bs n.name)] 75)
      have HB8 : Hid (Below w.heap.size w w8) := hide (((unhide HB5).trans (hb7.mono hs5)).grown hgrow (by simp; omega) (own_ge (unhide HO5)))
      have HM8 : Hid (w8.ownsRow w1.heap.size 169 4 (.slice mo M.length mc) M.length (stCells M)) := by
        apply hide
        refine own_kept (own_below (unhide HM5) hb7) (Keeps.of_grown hgrow) (fun j hj e => ?_)
        exact rows_apart (unhide HM5) (unhide HO5) (by decide) j hj e
      have HO8 : Hid (w8.ownsRow w.heap.size 75 3 v' (R ++ (M.take (k + 1)).map behind).length (ndCells (R ++ (M.take (k + 1)).map behind))) := by
        apply hide
        rw [unhide HST, ndCells_snoc, List.length_append]; exact hown'
      clear hgrow hown' hb7
      go_wp2
      go_roundw
      case rel => exact ⟨k + 1, by omega, by go_num, HB8, HO8, by have h := HM8; rw [unhide HAO] at h; exact h⟩
      case measure => simp [intOf]; omega
    · have HE : Hid (M = M.take k) := by apply hide; rw [List.take_of_length_le (by omega)]
      go_wp2
      go_ret
      refine ⟨_, rfl, ?_, unhide HB⟩
      rw [List.take_of_length_le (by omega)] at HO
      exact unhide HO
end Go.Proofs.YtdcjimlhaklhfabGreatDoor

namespace Go.Proofs.YtdcjimlhaklhfabGreatDoor
open Go.RowKit
theorem stamp_v (last site : Int) (i : Nat) (n : Nd) : stampAt last site i n = ⟨last + 1 + (i : Int), site, n⟩ := rfl
set_option maxHeartbeats 2000000 in
theorem stamped_any (way : List Nd) (last site : Int) (ao : Option Addr) (cap : Nat) (w : World) (hrow : Row w ao way.length 3 (ndCells way)) (hl : way.length ≤ 4000) (h0 : 0 ≤ last) (h9 : last ≤ 9999) :
    Calls Tryz.prog 74 #[.slice ao way.length cap, .int .i64 last, .int .i64 site] w fun e w' => ∃ u, e = .returned u ∧ w'.ownsRow w.heap.size 113 5 u (stamped way last site).length (loCells (stamped way last site)) ∧ Below w.heap.size w w' := by
  obtain ⟨i0, hi, hz0, hz1, hz2⟩ := info_parts Tryz.infoOp
  have HROW := hide hrow; clear hrow
  go_enter Tryz.func74, Tryz.ntmps74
  go_wp2
  go_loopw [7, 12] (fun u i wr => ∃ k : Nat, k ≤ way.length ∧ i = .int .i64 k ∧ Hid (Below w.heap.size w wr) ∧ Hid (wr.ownsRow w.heap.size 113 5 u k (loCells (stamped (way.take k) last site)))) (fun _ i _ => way.length - (intOf i).toNat)
  case atStart => exact ⟨0, Nat.zero_le _, rfl, hide (Below.refl _ _), hide (World.ownsRow_nil _ _ _ _)⟩
  case round =>
    obtain ⟨k, hk, rfl, HB, HO⟩ := hrel
    by_cases hlt : k < way.length
    · obtain ⟨g, hao, hg, c0, c1, c2⟩ := nd_cells (unhide HROW) (unhide HB) hlt
      rw [hao]
      clear hao
      have HST := hide (stamped_take way last site k hlt)
      have hsr := (unhide HB).size
      generalize way[k] = n at *
      have HN : Hid (loC (stampAt last site k n) = [.int .i64 (last + 1 + (k : Int)), .int .i64 site, .int .i64 n.id, .int .i64 n.parent, .string (bs n.name)]) := hide rfl
      generalize stampAt last site k n = x at *
      go_wp2_with (first
        | (at_builtin; (refine wpList_append_own _ rfl _ _ 65 rfl w.heap.size 113 i0 (.agg #[.int .i64 0, .int .i64 0, .int .i64 0, .int .i64 0, .string ByteArray.empty]) 5 48 Tryz.underlying65 hi hz0 hz1 hz2 rfl (by decide) _ _ _ rfl (own_below (unhide HO) (((Below.refl _ _).alloc (Nat.le_refl _) _).alloc (by simp) _)) ⟨wr.heap.size + 1, 0, none⟩ 1 1 [.int .i64 (last + 1 + (k : Int)), .int .i64 site, .int .i64 n.id, .int .i64 n.parent, .string (bs n.name)] rfl rfl (by have := @news_five (wr.alloc (.cells #[.int .i64 n.id, .int .i64 n.parent, .string (bs n.name)] 75)) (.int .i64 (last + 1 + (k : Int))) (.int .i64 site) (.int .i64 n.id) (.int .i64 n.parent) (.string (bs n.name)) 113; simpa using this) (by simp [Value.oneCell']) (by unfold maxLen; omega) (by omega) (by simp; omega) ?_))
        | go_in)
      intro v' w8 hown' hgrow _
      have hb7 := ((Below.refl wr.heap.size wr).alloc (Nat.le_refl _) (.cells #[.int .i64 n.id, .int .i64 n.parent, .string (bs n.name)] 75)).alloc (by simp) (.cells #[.int .i64 (last + 1 + (k : Int)), .int .i64 site, .int .i64 n.id, .int .i64 n.parent, .string (bs n.name)] 113)
      have HB8 : Hid (Below w.heap.size w w8) := hide (((unhide HB).trans (hb7.mono hsr)).grown hgrow (by simp; omega) (own_ge (unhide HO)))
      have HO8 : Hid (w8.ownsRow w.heap.size 113 5 v' (k + 1) (loCells (stamped (way.take (k + 1)) last site))) := by
        apply hide
        rw [unhide HST, loCells_snoc, unhide HN]; exact hown'
      clear hgrow hown' hb7 c0 c1 c2
      go_wp2
      go_roundw
      case rel => exact ⟨k + 1, by omega, by go_num, HB8, HO8⟩
      case measure => simp [intOf]; omega
    · have hkl : k = way.length := by omega
      subst hkl
      go_wp2
      go_ret
      refine ⟨_, rfl, ?_, unhide HB⟩
      rw [List.take_length] at HO
      rw [stamped_len]
      exact unhide HO
end Go.Proofs.YtdcjimlhaklhfabGreatDoor

namespace Go.Proofs.YtdcjimlhaklhfabGreatDoor
open Go.RowKit
/-! What was handed in is what is shown. -/
/-- The places hold the tree as it is shown; what is not shown lies below what is not shown. -/
structure Sim (t a : Tr) : Prop where
  here : ∀ i n, a i = some n → t i = some n
  hid : ∀ i n, t i = some n → a i = none → n.parent ≠ 0 ∧ a n.parent.toNat = none
/-- No node lies below one that is to be created. -/
def Clean (t a g : Tr) : Prop := ∀ i : Nat, g i ≠ none → a i = none → ∀ j n, t j = some n → n.parent ≠ (i : Int)
theorem sub_meets {t a : Tr} (h : ∀ i n, a i = some n → t i = some n) (goal : Int) : ∀ (f : Nat) (x : Int), meetsF a f x goal = true → meetsF t f x goal = true := by
  intro f
  induction f with
  | zero => intro x h; cases h
  | succ f ih =>
    intro x hx
    rw [meetsF] at hx ⊢
    split
    · rfl
    · rename_i hne
      rw [if_neg hne] at hx
      cases ha : a x.toNat with
      | none => rw [ha] at hx; cases hx
      | some n => rw [ha] at hx; rw [h _ n ha]; exact ih _ hx
theorem sim_view {t a : Tr} (hv : Valid a) (hs : Sim t a) : viewT t = a := by
  funext i
  cases ha : a i with
  | some n =>
    have hb := hv.ok.2 i n ha
    have hm : meetsT t i 0 = true := by
      have hg := hv.goes i n ha
      rw [hb.1] at hg
      have := (goes_meets hv.ok).2 hg
      exact sub_meets hs.here 0 100 _ this
    have ht := hs.here i n ha
    unfold viewT
    rw [hm, decide_eq_true hb.2.1, decide_eq_true hb.2.2.1]
    simp only [Bool.and_self, if_true]
    congr 1
    obtain ⟨j, m, j1, j2, hat, hj, jp, jn⟩ := at_le hb.2.1 hb.2.2.1 ht
    have hji : j = i := by
      cases haj : a j with
      | some m' =>
        have := hs.here j m' haj
        rw [hj] at this; cases this
        exact hv.apart j i m n haj ha jp jn
      | none =>
        obtain ⟨h0, h1⟩ := hs.hid j m hj haj
        rw [jp] at h0 h1
        rcases isParent_iff.1 (hv.parent i n ha) with e | ⟨_, k, hk⟩
        · exact absurd e h0
        · rw [h1] at hk; cases hk
    unfold shownNd
    rw [ht]
    simp only [Option.getD_some]
    rw [if_pos (by rw [hat, hji])]
  | none =>
    have key : ∀ (f : Nat) (x : Int), x ≠ 0 → a x.toNat = none → meetsF t f x 0 = false := by
      intro f
      induction f with
      | zero => intro x _ _; rfl
      | succ f ih =>
        intro x h0 hx
        rw [meetsF, if_neg h0]
        cases htx : t x.toNat with
        | none => rfl
        | some m => obtain ⟨h1, h2⟩ := hs.hid _ m htx hx; exact ih _ h1 h2
    unfold viewT
    by_cases h0 : i = 0
    · subst h0; rfl
    · have : meetsT t i 0 = false := key 100 i (by omega) (by rw [Int.toNat_natCast]; exact ha)
      rw [this]; simp
theorem sim_meets {t a : Tr} (hs : Sim t a) (ht : t 0 = none) (hv : Valid a) (goal : Int) : ∀ (f : Nat) (p : Int), isParentT a p = true → meetsF t f p goal = true → meetsF a f p goal = true := by
  intro f
  induction f with
  | zero => intro p _ h; cases h
  | succ f ih =>
    intro p hp h
    rw [meetsF] at h ⊢
    split
    · rfl
    · rename_i hne
      rw [if_neg hne] at h
      rcases isParent_iff.1 hp with e | ⟨_, n, hn⟩
      · subst e
        rw [show (0 : Int).toNat = 0 from rfl, ht] at h; cases h
      · rw [hs.here _ n hn] at h
        rw [hn]
        exact ih _ (hv.parent _ n hn) h
def placeN (t : Tr) (n : Nd) : Tr := if meetsT t n.parent n.id then t else trPut t n
theorem placeN_put {t : Tr} {n : Nd} (h : meetsT t n.parent n.id = false) : placeN t n = trPut t n := by unfold placeN; rw [h]; rfl
theorem trW_placeN {t : Tr} (h : TrW t) {n : Nd} (hn : NdW n) : TrW (placeN t n) := by
  unfold placeN; split
  · exact h
  · exact trW_put h hn
theorem trW_fold : ∀ (l : List Nd) (t : Tr), TrW t → (∀ n ∈ l, NdW n) → TrW (l.foldl placeN t) := by
  intro l
  induction l with
  | nil => intro t h _; exact h
  | cons x l ih => intro t h hx; exact ih _ (trW_placeN h (hx x (by simp))) (fun y hy => hx y (by simp [hy]))
theorem id_nat {id : Int} (h : 1 ≤ id) {i : Nat} : (i : Int) = id ↔ i = id.toNat := by omega
/-- A move. -/
theorem sim_move {t a g : Tr} (ht : TrW t) (hv : Valid a) (hs : Sim t a) (hc : Clean t a g) (hg : TrOk g) {n : Nd} (hn : 1 ≤ n.id) (he : stepE a ⟨61, n⟩ = 0) : placeN t n = trPut t n ∧ Sim (trPut t n) (trPut a n) ∧ Clean (trPut t n) (trPut a n) g := by
  have hE : moveE a n = 0 := he
  unfold moveE at hE
  split at hE
  · cases hE
  rename_i h1
  split at hE
  · cases hE
  rename_i h2
  split at hE
  · cases hE
  rename_i h3
  have hin : hasT a n.id = true := by simpa using h1
  have hpar : isParentT a n.parent = true := by simpa using h2
  obtain ⟨m0, hm0⟩ := hasT_iff.1 hin
  have hno : meetsT t n.parent n.id = false := by
    cases hq : meetsT t n.parent n.id with
    | false => rfl
    | true => exact absurd (sim_meets hs ht.1 hv _ 100 _ hpar hq) h3
  refine ⟨placeN_put hno, ⟨?_, ?_⟩, ?_⟩
  · intro i m hm
    unfold trPut at hm ⊢
    split
    · rename_i e; rw [if_pos e] at hm; exact hm
    · rename_i e; rw [if_neg e] at hm; exact hs.here i m hm
  · intro i m hm ha
    unfold trPut at hm ha ⊢
    split at ha
    · cases ha
    · rename_i e
      rw [if_neg e] at hm
      obtain ⟨k1, k2⟩ := hs.hid i m hm ha
      refine ⟨k1, ?_⟩
      rw [if_neg ?_]
      · exact k2
      · intro e2
        rw [id_nat hn] at e2
        rw [e2, hm0] at k2; cases k2
  · intro i hgi ha j m hm
    unfold trPut at ha hm
    split at ha
    · cases ha
    · rename_i e
      split at hm
      · cases hm
        intro e2
        rcases isParent_iff.1 hpar with h0 | ⟨_, k, hk⟩
        · have : i = 0 := by omega
          subst this; exact hgi hg.1
        · rw [e2, Int.toNat_natCast, ha] at hk; cases hk
      · exact hc i hgi ha j m hm
/-- A creation. -/
theorem sim_new {t a g : Tr} (ht : TrW t) (hv : Valid a) (hs : Sim t a) (hc : Clean t a g) (hg : TrOk g) {n : Nd} (hn : 1 ≤ n.id) (hgn : g n.id.toNat ≠ none) (he : stepE a ⟨43, n⟩ = 0) : placeN t n = trPut t n ∧ Sim (trPut t n) (trPut a n) ∧ Clean (trPut t n) (trPut a n) g := by
  have hE : createE a n = 0 := he
  unfold createE at hE
  split at hE
  · cases hE
  rename_i h1
  split at hE
  · cases hE
  rename_i h2
  have hout : hasT a n.id = false := by simpa using h1
  have hpar : isParentT a n.parent = true := by simpa using h2
  have hno0 : a n.id.toNat = none := by unfold hasT at hout; simpa using hout
  have hno : meetsT t n.parent n.id = false := by
    cases hq : meetsT t n.parent n.id with
    | false => rfl
    | true =>
      have h3 := sim_meets hs ht.1 hv _ 100 _ hpar hq
      rw [goes_there hv hn hout 100 _ hpar] at h3; cases h3
  refine ⟨placeN_put hno, ⟨?_, ?_⟩, ?_⟩
  · intro i m hm
    unfold trPut at hm ⊢
    split
    · rename_i e; rw [if_pos e] at hm; exact hm
    · rename_i e; rw [if_neg e] at hm; exact hs.here i m hm
  · intro i m hm ha
    unfold trPut at hm ha ⊢
    split at ha
    · cases ha
    · rename_i e
      rw [if_neg e] at hm
      obtain ⟨k1, k2⟩ := hs.hid i m hm ha
      refine ⟨k1, ?_⟩
      rw [if_neg ?_]
      · exact k2
      · intro e2
        have := hc n.id.toNat hgn hno0 i m hm
        have hw := (ht.2 i m hm).2.2.2.2.2.1
        omega
  · intro i hgi ha j m hm
    unfold trPut at ha hm
    split at ha
    · cases ha
    · rename_i e
      split at hm
      · cases hm
        intro e2
        rcases isParent_iff.1 hpar with h0 | ⟨_, k, hk⟩
        · have : i = 0 := by omega
          subst this; exact hgi hg.1
        · rw [e2, Int.toNat_natCast, ha] at hk; cases hk
      · exact hc i hgi ha j m hm
/-- A deletion. -/
theorem sim_del {t a g : Tr} (ht : TrW t) (hv : Valid a) (hs : Sim t a) (hc : Clean t a g) (hg : TrOk g) {id : Int} (h1 : 1 ≤ id) (h2 : id ≤ 99) (hgn : g id.toNat = none) : placeN t ⟨id, 100, [45]⟩ = trPut t ⟨id, 100, [45]⟩ ∧ Sim (trPut t ⟨id, 100, [45]⟩) (trRemove a id) ∧ Clean (trPut t ⟨id, 100, [45]⟩) (trRemove a id) g := by
  have h100 : ∀ {u : Tr}, TrW u → u 100 = none := by
    intro u hu
    cases h : u 100 with
    | none => rfl
    | some m => have := (hu.2 100 m h).2.2.1; omega
  have hno : meetsT t 100 id = false := by
    unfold meetsT
    rw [show (100 : Nat) = 99 + 1 from rfl, meetsF, if_neg (by omega), show (100 : Int).toNat = 100 from rfl, h100 ht]
  refine ⟨placeN_put hno, ⟨?_, ?_⟩, ?_⟩
  · intro i m hm
    unfold trRemove at hm
    unfold trPut
    split at hm
    · cases hm
    · rename_i e; rw [if_neg e]; exact hs.here i m hm
  · intro i m hm ha
    unfold trPut at hm
    unfold trRemove at ha ⊢
    by_cases e : (i : Int) = id
    · rw [if_pos e] at hm
      cases hm
      refine ⟨by show (100 : Int) ≠ 0; omega, ?_⟩
      show (if ((100 : Int).toNat : Int) = id then none else a (100 : Int).toNat) = none
      rw [if_neg (by omega)]
      cases hq : a (100 : Int).toNat with
      | none => rfl
      | some m => have := (hv.ok.2 _ m hq).2.2.1; simp at this
    · rw [if_neg e] at hm ha
      obtain ⟨k1, k2⟩ := hs.hid i m hm ha
      refine ⟨k1, ?_⟩
      split
      · rfl
      · exact k2
  · intro i hgi ha j m hm
    unfold trRemove at ha
    unfold trPut at hm
    have hi : (i : Int) ≠ id := by
      intro e
      rw [id_nat h1] at e
      rw [e] at hgi; exact hgi hgn
    rw [if_neg hi] at ha
    split at hm
    · cases hm
      intro e2
      have e3 : (100 : Int) = (i : Int) := e2
      cases hq : g i with
      | none => exact hgi hq
      | some q => have := (hg.2 i q hq).2.2.1; omega
    · exact hc i hgi ha j m hm
theorem seg_sim {g a b : Tr} {ss : List St} (h : Seg g a ss b) (hg : Valid g) : ∀ t, TrW t → Valid a → Sim t a → Clean t a g → Sim ((ss.map behind).foldl placeN t) b ∧ TrW ((ss.map behind).foldl placeN t) ∧ Valid b := by
  induction h with
  | nil a => intro t ht hv hs _; exact ⟨hs, ht, hv⟩
  | @home a b i s ss h1 h2 hs he _ ih =>
    intro t ht hv hsim hc
    have hok := home_ok hg.ok h1 h2 hs
    have hw := home_behind hg h1 h2 hs
    have hv' := valid_step hv hok.1
    rw [List.map_cons, List.foldl_cons]
    have key : Sim (placeN t (behind s)) (stepT a s) ∧ Clean (placeN t (behind s)) (stepT a s) g := by
      rcases home_cases hs with ⟨rfl, hgn, _⟩ | ⟨n, rfl, hgn, _⟩ | ⟨n, m, rfl, hgn, _, _⟩
      · obtain ⟨e, k1, k2⟩ := sim_del ht hv hsim hc hg.ok h1 h2 hgn
        rw [behind_del]
        show Sim (placeN t ⟨i, 100, [45]⟩) _ ∧ _
        rw [e]
        unfold stepT; rw [if_pos he, if_pos rfl]; exact ⟨k1, k2⟩
      · have hid : n.id = i := hok.2
        obtain ⟨e, k1, k2⟩ := sim_new ht hv hsim hc hg.ok (n := n) (by omega) (by rw [hid, hgn]; simp) he
        rw [behind_new, e]
        unfold stepT; rw [if_pos he, if_neg (show ¬ ((43 : UInt8) = 45) by decide)]; exact ⟨k1, k2⟩
      · have hid : n.id = i := hok.2
        obtain ⟨e, k1, k2⟩ := sim_move ht hv hsim hc hg.ok (n := n) (by omega) he
        rw [behind_move, e]
        unfold stepT; rw [if_pos he, if_neg (show ¬ ((61 : UInt8) = 45) by decide)]; exact ⟨k1, k2⟩
    exact ih _ (trW_placeN ht hw) hv' key.1 key.2
  | @park a b i n ss h1 h2 hno hs hp he _ ih =>
    intro t ht hv hsim hc
    have hv' := valid_step hv (park_ok h1 h2)
    rw [List.map_cons, List.foldl_cons]
    obtain ⟨e, k1, k2⟩ := sim_move ht hv hsim hc hg.ok (n := parkN i) h1 he
    have key : Sim (placeN t (behind (parkS i))) (stepT a (parkS i)) ∧ Clean (placeN t (behind (parkS i))) (stepT a (parkS i)) g := by
      show Sim (placeN t (parkN i)) _ ∧ Clean (placeN t (parkN i)) _ g
      rw [e]
      unfold stepT; rw [if_pos he, if_neg (show ¬ ((parkS i).kind = 45) by show ¬ ((61 : UInt8) = 45); decide)]; exact ⟨k1, k2⟩
    exact ih _ (trW_placeN ht (park_ndW h1 h2)) hv' key.1 key.2
/-! The renamings. -/
def mixT (t : Tr) : Tr := fun i => match viewT t i with
  | some n => some n
  | none => t i
def mixTo (t : Tr) (k : Nat) : Tr := fun i => if i ≤ k then mixT t i else t i
theorem mix_view {t : Tr} {i : Nat} {n : Nd} (h : viewT t i = some n) : mixT t i = some n := by unfold mixT; rw [h]
theorem mix_else {t : Tr} {i : Nat} (h : viewT t i = none) : mixT t i = t i := by unfold mixT; rw [h]
theorem view_of {t : Tr} (ht : TrW t) {i : Nat} {n : Nd} (h : viewT t i = some n) : ∃ m, t i = some m ∧ n.id = i ∧ m.parent = n.parent ∧ 1 ≤ i ∧ i ≤ 99 := by
  obtain ⟨h1, h2, h3, h4⟩ := view_some h
  obtain ⟨m, hm⟩ := meets_there h1 h3
  obtain ⟨e1, e2⟩ := shown_id ht hm
  exact ⟨m, hm, by rw [h4]; exact e1, by rw [h4]; exact e2.symm, h1, h2⟩
theorem mix_par {t : Tr} (ht : TrW t) (i : Nat) : (mixT t i).map (·.parent) = (t i).map (·.parent) := by
  cases h : viewT t i with
  | none => rw [mix_else h]
  | some n =>
    obtain ⟨m, hm, _, e, _⟩ := view_of ht h
    rw [mix_view h, hm]; simp [e]
theorem mixTo_par {t : Tr} (ht : TrW t) (k i : Nat) : (mixTo t k i).map (·.parent) = (t i).map (·.parent) := by
  unfold mixTo; split
  · exact mix_par ht i
  · rfl
theorem meets_par {t u : Tr} (h : ∀ i, (t i).map (·.parent) = (u i).map (·.parent)) (goal : Int) : ∀ (f : Nat) (x : Int), meetsF t f x goal = meetsF u f x goal := by
  intro f
  induction f with
  | zero => intro x; rfl
  | succ f ih =>
    intro x
    rw [meetsF, meetsF]
    split
    · rfl
    · have hx := h x.toNat
      cases ht : t x.toNat with
      | none =>
        rw [ht] at hx
        cases hu : u x.toNat with
        | none => rfl
        | some m => rw [hu] at hx; cases hx
      | some n =>
        rw [ht] at hx
        cases hu : u x.toNat with
        | none => rw [hu] at hx; cases hx
        | some m =>
          rw [hu] at hx
          have e : n.parent = m.parent := by simpa using hx
          show meetsF t f n.parent goal = meetsF u f m.parent goal
          rw [e]; exact ih _
theorem mix_sim {t : Tr} (ht : TrW t) : Sim (mixT t) (viewT t) := by
  refine ⟨fun i n h => mix_view h, fun i n h hv => ?_⟩
  rw [mix_else hv] at h
  have hb := ht.2 i n h
  have hno : ¬ Goes t i 0 := by
    intro hg
    have := (goes_meetsW ht).2 hg
    unfold viewT at hv
    rw [this, decide_eq_true hb.2.1, decide_eq_true hb.2.2.1] at hv
    cases hv
  have hup : Goes t n.parent 0 → False := fun hg => hno (goes_up (by rw [Int.toNat_natCast]; exact h) hg)
  refine ⟨fun e => hup (e ▸ goes_here t 0), ?_⟩
  cases hq : viewT t n.parent.toNat with
  | none => rfl
  | some m =>
    have := (view_some hq).2.2.1
    refine absurd ((goes_meetsW ht).1 this) (fun hg => hup ?_)
    rwa [Int.toNat_of_nonneg hb.2.2.2.2.2.1] at hg
theorem mix_trW {t : Tr} (ht : TrW t) : TrW (mixT t) := by
  refine ⟨?_, fun i n h => ?_⟩
  · rw [mix_else (by rfl)]; exact ht.1
  · cases hv : viewT t i with
    | none => rw [mix_else hv] at h; exact ht.2 i n h
    | some m =>
      rw [mix_view hv] at h; cases h
      obtain ⟨_, _, e, _, h1, h2⟩ := view_of ht hv
      exact ⟨e, h1, h2, ndW_of_valid (view_valid ht) hv⟩
theorem mix_step {t : Tr} (ht : TrW t) {k : Nat} {n : Nd} (h : viewT t (k + 1) = some n) : placeN (mixTo t k) n = mixTo t (k + 1) := by
  obtain ⟨m, hm, e1, e2, h1, h2⟩ := view_of ht h
  have hv := view_valid ht
  have hno : meetsT (mixTo t k) n.parent n.id = false := by
    unfold meetsT
    rw [meets_par (mixTo_par ht k), ← meets_par (mix_par ht)]
    cases hq : meetsF (mixT t) 100 n.parent n.id with
    | false => rfl
    | true =>
      have := sim_meets (mix_sim ht) (mix_trW ht).1 hv _ 100 _ (hv.parent _ n h) hq
      rw [e1] at this
      exact absurd ⟨100, this⟩ (no_loop hv (id := ((k + 1 : Nat) : Int)) (by omega) (by rw [Int.toNat_natCast]; exact h))
  rw [placeN_put hno]
  funext i
  unfold trPut mixTo
  rw [e1]
  by_cases hi : i = k + 1
  · subst hi; rw [if_pos rfl, if_pos (Nat.le_refl _), mix_view h]
  · rw [if_neg (by omega)]
    by_cases h3 : i ≤ k
    · rw [if_pos h3, if_pos (by omega)]
    · rw [if_neg h3, if_neg (by omega)]
theorem mix_stay {t : Tr} {k : Nat} (h : mixT t (k + 1) = t (k + 1)) : mixTo t (k + 1) = mixTo t k := by
  funext i
  unfold mixTo
  by_cases hi : i = k + 1
  · subst hi; rw [if_pos (Nat.le_refl _), if_neg (by omega), h]
  · by_cases h3 : i ≤ k
    · rw [if_pos h3, if_pos (by omega)]
    · rw [if_neg h3, if_neg (by omega)]
theorem renames_fold {t : Tr} (ht : TrW t) : ∀ k, (renamesTo t (viewT t) k).foldl placeN t = mixTo t k := by
  intro k
  induction k with
  | zero =>
    show t = mixTo t 0
    funext i
    unfold mixTo
    split
    · have : i = 0 := by omega
      subst this; rw [mix_else (by rfl)]
    · rfl
  | succ k ih =>
    rw [renamesTo_succ, List.foldl_append, ih]
    unfold renOne
    cases hv : viewT t (k + 1) with
    | none =>
      have : hasT (viewT t) ((k + 1 : Nat) : Int) = false := by unfold hasT; rw [Int.toNat_natCast, hv]; rfl
      rw [this]
      exact (mix_stay (mix_else hv)).symm
    | some n =>
      have h1 : hasT (viewT t) ((k + 1 : Nat) : Int) = true := by unfold hasT; rw [Int.toNat_natCast, hv]; rfl
      have h2 : getT (viewT t) ((k + 1 : Nat) : Int) = n := by unfold getT; rw [Int.toNat_natCast, hv]; rfl
      rw [h1, h2]
      cases hq : ndEq n (getT t ((k + 1 : Nat) : Int)) with
      | true =>
        obtain ⟨m, hm, _⟩ := view_of ht hv
        have : getT t ((k + 1 : Nat) : Int) = m := by unfold getT; rw [Int.toNat_natCast, hm]; rfl
        rw [this] at hq
        have e := ndEq_iff.1 hq
        exact (mix_stay (by rw [mix_view hv, hm, e])).symm
      | false => exact mix_step ht hv
theorem mixTo_99 {t : Tr} (_ht : TrW t) : mixTo t 99 = mixT t := by
  funext i
  unfold mixTo
  split
  · rfl
  · have h1 : viewT t i = none := by unfold viewT; rw [decide_eq_false (p := i ≤ 99) (by omega)]; simp
    rw [mix_else h1]
theorem fold_nodes : ∀ (l : List Lo) (t : Tr), l.foldl placeS t = (l.map (·.node)).foldl placeN t := by
  intro l
  induction l with
  | nil => intro t; rfl
  | cons x l ih => intro t; rw [List.foldl_cons, List.map_cons, List.foldl_cons, ih]; rfl
theorem stamped_nodes (way : List Nd) (last site : Int) : (stamped way last site).map (·.node) = way := by
  refine list_snoc_ind (P := fun way => (stamped way last site).map (·.node) = way) rfl ?_ way
  intro way n ih
  rw [stamped_snoc, List.map_append, ih]; rfl
theorem places_stamped (L : List Lo) (way : List Nd) (last site : Int) : places (L ++ stamped way last site) = way.foldl placeN (places L) := by
  unfold places
  rw [List.foldl_append, fold_nodes (stamped way last site), stamped_nodes]
theorem places_from : ∀ (L : List Lo) (t : Tr) (i : Nat) (n : Nd), L.foldl placeS t i = some n → (∃ x ∈ L, x.node = n) ∨ t i = some n := by
  intro L
  induction L with
  | nil => intro t i n h; exact .inr h
  | cons x L ih =>
    intro t i n h
    rw [List.foldl_cons] at h
    rcases ih _ i n h with ⟨y, hy, e⟩ | h
    · exact .inl ⟨y, by simp [hy], e⟩
    · unfold placeS at h
      split at h
      · exact .inr h
      · unfold trPut at h
        split at h
        · cases h; exact .inl ⟨x, by simp, rfl⟩
        · exact .inr h
theorem used_clean {L : List Lo} (hl : ∀ x ∈ L, LoOk x) {g : Tr} (hg : TrOk g) (h : usedT L (viewT (places L)) g = false) : Clean (mixT (places L)) (viewT (places L)) g := by
  intro i hgi hv j n hn e
  have ht := places_ok hl
  have hp := mix_par ht j
  rw [hn] at hp
  cases hm : places L j with
  | none => rw [hm] at hp; cases hp
  | some m =>
    rw [hm] at hp
    have hpm : n.parent = m.parent := by simpa using hp
    rcases places_from L tr0 j m hm with ⟨x, hx, ex⟩ | h0
    · have hs : speaks L i = true := by
        unfold speaks; rw [List.any_eq_true]
        refine ⟨x, hx, ?_⟩
        unfold speakIs
        rw [ex, ← hpm, e]; simp
      cases hq : g i with
      | none => exact hgi hq
      | some q =>
        have hb := hg.2 i q hq
        unfold usedT at h
        rw [decide_eq_false_iff_not] at h
        rcases scan_cases (usedIs L (viewT (places L)) g) 1 100 with ⟨hh, _⟩ | ⟨_, hno⟩
        · exact h hh
        · have := hno i hb.2.1 (by omega)
          unfold usedIs hasT at this
          rw [Int.toNat_natCast, hq, hv, hs] at this
          cases this
    · cases h0
/-- P12: what was handed in is what is shown. -/
theorem reach_view {L : List Lo} (hl : ∀ x ∈ L, LoOk x) {g : Tr} (hg : Valid g) (hu : usedT L (viewT (places L)) g = false) (last site : Int) : viewT (places (L ++ stamped (wayT (places L) g) last site)) = g := by
  have ht := places_ok hl
  have hv := view_valid ht
  rw [places_stamped]
  unfold wayT
  rw [List.foldl_append]
  unfold renamesT
  rw [renames_fold ht, mixTo_99 ht]
  obtain ⟨k1, _, k3⟩ := seg_sim (makeT_seg hv hg) hg _ (mix_trW ht) hv (mix_sim ht) (used_clean hl hg.ok hu)
  exact sim_view k3 k1
theorem reach_shows {L : List Lo} (hl : ∀ x ∈ L, LoOk x) {site : Int} {g : Tr} (hg : Valid g) (h : (reachT L site g).2 = 0) : viewT (places (L ++ (reachT L site g).1)) = g := by
  obtain ⟨h1, _, _, h4⟩ := reach_made h
  rw [h4]; exact reach_view hl hg h1 _ _
end Go.Proofs.YtdcjimlhaklhfabGreatDoor

namespace Go.Proofs.YtdcjimlhaklhfabGreatDoor
open Go.RowKit
/-! What any script must have: counted node by node, over the numbers of all nodes. -/
def total (f : Nat → Nat) : Nat := ((List.range' 1 99).map f).sum
theorem total_drop {f h : Nat → Nat} {j : Nat} (hj : 1 ≤ j ∧ j ≤ 99) (ho : ∀ i, i ≠ j → f i ≤ h i) (hlt : f j < h j) : total f < total h :=
  sum_lt _ j (by rw [List.mem_range'_1]; omega) (fun i _ => by by_cases e : i = j; (· subst e; omega); (· exact ho i e)) hlt
theorem total_le {f h : Nat → Nat} (ho : ∀ i, f i ≤ h i) : total f ≤ total h := sum_le _ (fun i _ => ho i)
theorem sum_one {f h : Nat → Nat} {j : Nat} : ∀ (l : List Nat), l.Nodup → (∀ i, i ≠ j → f i ≤ h i) → f j ≤ h j + 1 → (l.map f).sum ≤ (l.map h).sum + 1 := by
  intro l
  induction l with
  | nil => simp
  | cons x l ih =>
    intro hn ho hj
    rw [List.nodup_cons] at hn
    simp only [List.map_cons, List.sum_cons]
    by_cases e : x = j
    · subst e
      have := sum_le (f := f) (h := h) l (fun i hi => ho i (fun e2 => hn.1 (e2 ▸ hi)))
      omega
    · have h1 := ho x e
      have h2 := ih hn.2 ho hj
      omega
theorem total_one {f h : Nat → Nat} (j : Nat) (ho : ∀ i, i ≠ j → f i ≤ h i) (hj : f j ≤ h j + 1) : total f ≤ total h + 1 :=
  sum_one _ (by rw [List.nodup_iff_pairwise_ne]; exact (List.pairwise_lt_range' (s := 1) (n := 99)).imp (fun h => by omega)) ho hj
def fC (a g : Tr) (i : Nat) : Nat := match a i, g i with
  | none, some _ => 1
  | _, _ => 0
def fD (a g : Tr) (i : Nat) : Nat := match a i, g i with
  | some _, none => 1
  | _, _ => 0
def fM (a g : Tr) (i : Nat) : Nat := match a i, g i with
  | some m, some n => if ndEq m n then 0 else 1
  | _, _ => 0
def fW (a g : Tr) (i : Nat) : Nat := match a i, g i with
  | some m, some n => if ndEq m n then 0 else if parkedB a i then 1 else 2
  | _, _ => 0
theorem fM_le (a g : Tr) (i : Nat) : fM a g i ≤ 1 := by unfold fM; split; (· split <;> omega); (· omega)
theorem fW_le (a g : Tr) (i : Nat) : fW a g i ≤ 2 * fM a g i := by
  unfold fW fM
  split
  · split
    · omega
    · split <;> omega
  · omega
theorem f_congr {a b g : Tr} {i : Nat} (h : a i = b i) : fC a g i = fC b g i ∧ fD a g i = fD b g i ∧ fM a g i = fM b g i ∧ fW a g i = fW b g i := by
  unfold fC fD fM fW parkedB; rw [h]; exact ⟨rfl, rfl, rfl, rfl⟩
theorem f_home {g : Tr} {a : Tr} {i : Nat} (h : a i = g i) : fC a g i = 0 ∧ fD a g i = 0 ∧ fM a g i = 0 ∧ fW a g i = 0 := by
  unfold fC fD fM fW; rw [h]
  cases g i with
  | none => exact ⟨rfl, rfl, rfl, rfl⟩
  | some n => simp only [ndEq_iff.2 (rfl : n = n), if_true]; exact ⟨trivial, trivial, trivial, trivial⟩
def kK (k : UInt8) (l : List St) : Nat := l.countP (fun s => s.kind == k)
def pkB (s : St) : Bool := s.kind == 61 && ndEq s.node (parkN s.node.id)
def pkC (l : List St) : Nat := l.countP pkB
theorem seg_bounds {g : Tr} (hg : TrOk g) {t b : Tr} {ss : List St} (h : Seg g t ss b) :
    kK 43 ss ≤ total (fC t g) ∧ kK 45 ss ≤ total (fD t g) ∧ kK 61 ss ≤ total (fM t g) + pkC ss ∧ kK 61 ss ≤ total (fW t g) := by
  induction h with
  | nil t => simp [kK]
  | @home t b i s ss h1 h2 hs he _ ih =>
    obtain ⟨i1, i2, i3, i4⟩ := ih
    obtain ⟨j, rfl⟩ := Int.eq_ofNat_of_zero_le (show 0 ≤ i by omega)
    have hd := home_done hg h1 hs he
    have hself : stepT t s j = g j := by rw [hd, if_pos rfl]
    have hoth : ∀ k, k ≠ j → stepT t s k = t k := fun k hk => by rw [hd, if_neg (by omega)]
    have z := f_home (g := g) hself
    have oC : ∀ k, k ≠ j → fC (stepT t s) g k ≤ fC t g k := fun k hk => by rw [(f_congr (g := g) (hoth k hk)).1]; omega
    have oD : ∀ k, k ≠ j → fD (stepT t s) g k ≤ fD t g k := fun k hk => by rw [(f_congr (g := g) (hoth k hk)).2.1]; omega
    have oM : ∀ k, k ≠ j → fM (stepT t s) g k ≤ fM t g k := fun k hk => by rw [(f_congr (g := g) (hoth k hk)).2.2.1]; omega
    have oW : ∀ k, k ≠ j → fW (stepT t s) g k ≤ fW t g k := fun k hk => by rw [(f_congr (g := g) (hoth k hk)).2.2.2]; omega
    have aC : total (fC (stepT t s) g) ≤ total (fC t g) := total_le (fun k => by by_cases e : k = j; (· rw [e, z.1]; omega); (· exact oC k e))
    have aD : total (fD (stepT t s) g) ≤ total (fD t g) := total_le (fun k => by by_cases e : k = j; (· rw [e, z.2.1]; omega); (· exact oD k e))
    have aM : total (fM (stepT t s) g) ≤ total (fM t g) := total_le (fun k => by by_cases e : k = j; (· rw [e, z.2.2.1]; omega); (· exact oM k e))
    have aW : total (fW (stepT t s) g) ≤ total (fW t g) := total_le (fun k => by by_cases e : k = j; (· rw [e, z.2.2.2]; omega); (· exact oW k e))
    have hjb : 1 ≤ j ∧ j ≤ 99 := by omega
    unfold kK pkC at *
    simp only [List.countP_cons]
    rcases home_cases hs with ⟨rfl, hgn, m, hm⟩ | ⟨n, rfl, hgn, hn⟩ | ⟨n, m, rfl, hgn, hm, hmn⟩
    · have hm' : t j = some m := by simpa using hm
      have hgn' : g j = none := by simpa using hgn
      have := total_drop hjb oD (by rw [z.2.1]; unfold fD; rw [hm', hgn']; exact Nat.one_pos)
      have k1 : ((45 : UInt8) == 43) = false := rfl
      have k2 : ((45 : UInt8) == 61) = false := rfl
      have k3 : ((45 : UInt8) == 45) = true := rfl
      simp only [k1, k2, k3, if_true]
      simp only [Bool.false_eq_true, if_false, Nat.add_zero]
      refine ⟨by omega, by omega, by split <;> omega, by omega⟩
    · have hn' : t j = none := by simpa using hn
      have hgn' : g j = some n := by simpa using hgn
      have := total_drop hjb oC (by rw [z.1]; unfold fC; rw [hn', hgn']; exact Nat.one_pos)
      have k1 : ((43 : UInt8) == 43) = true := rfl
      have k2 : ((43 : UInt8) == 61) = false := rfl
      have k3 : ((43 : UInt8) == 45) = false := rfl
      simp only [k1, k2, k3, if_true]
      simp only [Bool.false_eq_true, if_false, Nat.add_zero]
      refine ⟨by omega, by omega, by split <;> omega, by omega⟩
    · have hm' : t j = some m := by simpa using hm
      have hgn' : g j = some n := by simpa using hgn
      have hq : ndEq m n = false := by cases hq : ndEq m n; (· rfl); (· exact absurd (ndEq_iff.1 hq) hmn)
      have d1 := total_drop hjb oM (by rw [z.2.2.1]; unfold fM; rw [hm', hgn']; simp [hq])
      have d2 := total_drop hjb oW (by rw [z.2.2.2]; unfold fW; rw [hm', hgn']; simp only [hq]; simp; split <;> omega)
      have k1 : ((61 : UInt8) == 43) = false := rfl
      have k2 : ((61 : UInt8) == 61) = true := rfl
      have k3 : ((61 : UInt8) == 45) = false := rfl
      simp only [k1, k2, k3, if_true]
      simp only [Bool.false_eq_true, if_false, Nat.add_zero]
      refine ⟨by omega, by omega, by split <;> omega, by omega⟩
  | @park t b i n ss h1 h2 hno hs hp he _ ih =>
    obtain ⟨i1, i2, i3, i4⟩ := ih
    obtain ⟨j, rfl⟩ := Int.eq_ofNat_of_zero_le (show 0 ≤ i by omega)
    have hd := park_done he
    have hself : stepT t (parkS j) j = some (parkN j) := by rw [hd, if_pos rfl]
    have hoth : ∀ k, k ≠ j → stepT t (parkS j) k = t k := fun k hk => by rw [hd, if_neg (by omega)]
    obtain ⟨m, hm, hgn⟩ : ∃ m, t j = some m ∧ g j = some n := by
      rcases home_cases hs with ⟨e, _⟩ | ⟨_, e, _⟩ | ⟨n', m, e, hgn, hm, _⟩
      · cases e
      · cases e
      · cases e; exact ⟨m, by simpa using hm, by simpa using hgn⟩
    have hmn : ndEq m n = false := by
      rcases home_cases hs with ⟨e, _⟩ | ⟨_, e, _⟩ | ⟨n', m', e, hgn', hm', hne⟩
      · cases e
      · cases e
      · cases e
        rw [show t j = t (j : Int).toNat by simp] at hm
        rw [hm] at hm'; cases hm'
        cases hq : ndEq m n
        · rfl
        · exact absurd (ndEq_iff.1 hq) hne
    have hpk : parkedB t j = false := by
      cases hq : parkedB t j
      · rfl
      · exact absurd (parkedB_iff.1 hq) (by simpa using hp)
    have hpk2 : parkedB (stepT t (parkS j)) j = true := parkedB_iff.2 hself
    have zC : fC (stepT t (parkS j)) g j = 0 := by unfold fC; rw [hself, hgn]
    have zD : fD (stepT t (parkS j)) g j = 0 := by unfold fD; rw [hself, hgn]
    have zM : fM (stepT t (parkS j)) g j ≤ fM t g j := by
      have h3 : fM t g j = 1 := by unfold fM; rw [hm, hgn]; simp [hmn]
      rw [h3]; exact fM_le _ _ _
    have zW : fW (stepT t (parkS j)) g j < fW t g j := by
      have h3 : fW t g j = 2 := by unfold fW; rw [hm, hgn]; simp [hmn, hpk]
      rw [h3]; unfold fW; rw [hself, hgn]; simp only [hpk2]; split <;> simp
    have aC : total (fC (stepT t (parkS j)) g) ≤ total (fC t g) := total_le (fun k => by by_cases e : k = j; (· rw [e, zC]; omega); (· rw [(f_congr (g := g) (hoth k e)).1]; omega))
    have aD : total (fD (stepT t (parkS j)) g) ≤ total (fD t g) := total_le (fun k => by by_cases e : k = j; (· rw [e, zD]; omega); (· rw [(f_congr (g := g) (hoth k e)).2.1]; omega))
    have aM : total (fM (stepT t (parkS j)) g) ≤ total (fM t g) := total_le (fun k => by by_cases e : k = j; (· rw [e]; exact zM); (· rw [(f_congr (g := g) (hoth k e)).2.2.1]; omega))
    have aW := total_drop (show 1 ≤ j ∧ j ≤ 99 by omega) (fun k hk => by rw [(f_congr (g := g) (hoth k hk)).2.2.2]; omega) zW
    have k1 : ((parkS (j : Int)).kind == 43) = false := rfl
    have k2 : ((parkS (j : Int)).kind == 61) = true := rfl
    have k3 : ((parkS (j : Int)).kind == 45) = false := rfl
    have k4 : pkB (parkS (j : Int)) = true := by
      show ((61 : UInt8) == 61 && ndEq (parkN j) (parkN j)) = true
      rw [ndEq_iff.2 rfl]; rfl
    unfold kK pkC at *
    simp only [List.countP_cons, k1, k2, k3, k4, if_true]
    simp only [Bool.false_eq_true, if_false, Nat.add_zero]
    refine ⟨by omega, by omega, by omega, by omega⟩
theorem seg_twice {g : Tr} (hg : TrOk g) {t b : Tr} {ss : List St} (h : Seg g t ss b) : kK 61 ss ≤ 2 * total (fM t g) := by
  have h1 := (seg_bounds hg h).2.2.2
  have h2 : total (fW t g) ≤ 2 * total (fM t g) := by
    have h3 : ∀ l : List Nat, (l.map (fW t g)).sum ≤ 2 * (l.map (fM t g)).sum := by
      intro l
      induction l with
      | nil => simp
      | cons x l ih => simp only [List.map_cons, List.sum_cons]; have := fW_le t g x; omega
    exact h3 _
  omega
/-- One step more of any script. -/
theorem edit_step {a t : Tr} {s : St} (hs : StOk s) (he : stepE t s = 0) :
    total (fC a (stepT t s)) ≤ total (fC a t) + (if s.kind == 43 then 1 else 0) ∧ total (fD a (stepT t s)) ≤ total (fD a t) + (if s.kind == 45 then 1 else 0) ∧
    total (fun i => fC a (stepT t s) i + fM a (stepT t s) i) ≤ total (fun i => fC a t i + fM a t i) + ((if s.kind == 43 then 1 else 0) + (if s.kind == 61 then 1 else 0)) := by
  have hid : 1 ≤ s.node.id ∧ s.node.id ≤ 99 := by rcases hs with ⟨_, h1, h2, _⟩ | ⟨_, h1, h2⟩ <;> exact ⟨h1, h2⟩
  obtain ⟨j, hj⟩ := Int.eq_ofNat_of_zero_le (show 0 ≤ s.node.id by omega)
  have hoth : ∀ k, k ≠ j → stepT t s k = t k := by
    intro k hk
    unfold stepT
    rw [if_pos he]
    split
    · unfold trRemove; rw [if_neg (by omega)]
    · rw [put_at, if_neg (by omega)]
  have cong : ∀ k, k ≠ j → fC a (stepT t s) k = fC a t k ∧ fD a (stepT t s) k = fD a t k ∧ fM a (stepT t s) k = fM a t k := by
    intro k hk
    unfold fC fD fM; rw [hoth k hk]; exact ⟨rfl, rfl, rfl⟩
  rcases hs with ⟨hk | hk, _⟩ | ⟨hk, _⟩
  · -- creation
    have hno : t j = none := by
      have e : createE t s.node = 0 := by unfold stepE at he; rwa [if_pos hk] at he
      cases hq : t j with
      | none => rfl
      | some m =>
        have : hasT t s.node.id = true := hasT_iff.2 ⟨m, by rw [hj]; simpa using hq⟩
        unfold createE at e; rw [this] at e; simp at e
    have hyes : stepT t s j = some s.node := by unfold stepT; rw [if_pos he, if_neg (by rw [hk]; decide), put_at, if_pos hj.symm]
    have k1 : (s.kind == 43) = true := by rw [hk]; rfl
    have k2 : (s.kind == 45) = false := by rw [hk]; rfl
    have k3 : (s.kind == 61) = false := by rw [hk]; rfl
    rw [k1, k2, k3]
    refine ⟨?_, ?_, ?_⟩
    · have := total_one (f := fC a (stepT t s)) (h := fC a t) j (fun i hi => by rw [(cong i hi).1]; omega) (by unfold fC; split <;> split <;> omega)
      simpa using this
    · have := total_le (f := fD a (stepT t s)) (h := fD a t) (fun i => by
        by_cases e : i = j
        · rw [e]; unfold fD; rw [hyes]; cases a j <;> simp
        · rw [(cong i e).2.1]; omega)
      simpa using this
    · have := total_one (f := fun i => fC a (stepT t s) i + fM a (stepT t s) i) (h := fun i => fC a t i + fM a t i) j (fun i hi => by rw [(cong i hi).1, (cong i hi).2.2]; omega) (by
        have h2 : fC a (stepT t s) j + fM a (stepT t s) j ≤ 1 := by
          unfold fC fM; rw [hyes]; cases a j with
          | none => simp
          | some m => simp only; split <;> omega
        show fC a (stepT t s) j + fM a (stepT t s) j ≤ fC a t j + fM a t j + 1
        omega)
      simpa using this
  · -- move
    have hthere : ∃ m, t j = some m := by
      have e : moveE t s.node = 0 := by unfold stepE at he; rwa [if_neg (by rw [hk]; decide), if_pos hk] at he
      cases hq : t j with
      | some m => exact ⟨m, rfl⟩
      | none =>
        have : hasT t s.node.id = false := by unfold hasT; rw [hj]; simp [hq]
        unfold moveE at e; rw [this] at e; simp at e
    obtain ⟨m0, hm0⟩ := hthere
    have hyes : stepT t s j = some s.node := by unfold stepT; rw [if_pos he, if_neg (by rw [hk]; decide), put_at, if_pos hj.symm]
    have k1 : (s.kind == 43) = false := by rw [hk]; rfl
    have k2 : (s.kind == 45) = false := by rw [hk]; rfl
    have k3 : (s.kind == 61) = true := by rw [hk]; rfl
    rw [k1, k2, k3]
    refine ⟨?_, ?_, ?_⟩
    · have := total_le (f := fC a (stepT t s)) (h := fC a t) (fun i => by
        by_cases e : i = j
        · rw [e]; unfold fC; rw [hyes, hm0]; cases a j <;> simp
        · rw [(cong i e).1]; omega)
      simpa using this
    · have := total_le (f := fD a (stepT t s)) (h := fD a t) (fun i => by
        by_cases e : i = j
        · rw [e]; unfold fD; rw [hyes]; cases a j <;> simp
        · rw [(cong i e).2.1]; omega)
      simpa using this
    · have := total_one (f := fun i => fC a (stepT t s) i + fM a (stepT t s) i) (h := fun i => fC a t i + fM a t i) j (fun i hi => by rw [(cong i hi).1, (cong i hi).2.2]; omega) (by
        have h2 : fC a (stepT t s) j + fM a (stepT t s) j ≤ fC a t j + fM a t j + 1 := by
          unfold fC fM; rw [hyes, hm0]; cases a j with
          | none => simp
          | some m => simp only; split <;> split <;> omega
        exact h2)
      simpa using this
  · -- deletion
    have hgone : stepT t s j = none := by unfold stepT; rw [if_pos he, if_pos hk]; unfold trRemove; rw [if_pos hj.symm]
    have k1 : (s.kind == 43) = false := by rw [hk]; rfl
    have k2 : (s.kind == 45) = true := by rw [hk]; rfl
    have k3 : (s.kind == 61) = false := by rw [hk]; rfl
    rw [k1, k2, k3]
    refine ⟨?_, ?_, ?_⟩
    · have := total_le (f := fC a (stepT t s)) (h := fC a t) (fun i => by
        by_cases e : i = j
        · rw [e]; unfold fC; rw [hgone]; cases a j <;> simp
        · rw [(cong i e).1]; omega)
      simpa using this
    · have := total_one (f := fD a (stepT t s)) (h := fD a t) j (fun i hi => by rw [(cong i hi).2.1]; omega) (by unfold fD; split <;> split <;> omega)
      simpa using this
    · have := total_le (f := fun i => fC a (stepT t s) i + fM a (stepT t s) i) (h := fun i => fC a t i + fM a t i) (fun i => by
        by_cases e : i = j
        · rw [e]; unfold fC fM; rw [hgone]; cases a j <;> simp
        · rw [(cong i e).1, (cong i e).2.2]; omega)
      simpa using this
theorem total_self (a : Tr) : total (fC a a) = 0 ∧ total (fD a a) = 0 ∧ total (fun i => fC a a i + fM a a i) = 0 := by
  have key : ∀ (f : Nat → Nat), (∀ i, f i = 0) → total f = 0 := by
    intro f hf
    have := sum_bd (f := f) (c := 0) (List.range' 1 99) (fun i _ => by rw [hf]; omega)
    unfold total; omega
  refine ⟨key _ (fun i => (f_home (g := a) rfl).1), key _ (fun i => (f_home (g := a) rfl).2.1), key _ (fun i => ?_)⟩
  have h := f_home (g := a) (a := a) (i := i) rfl
  rw [h.1, h.2.2.1]
theorem total_add (a t : Tr) : total (fun i => fC a t i + fM a t i) = total (fC a t) + total (fM a t) := by
  unfold total
  have : ∀ l : List Nat, (l.map (fun i => fC a t i + fM a t i)).sum = (l.map (fC a t)).sum + (l.map (fM a t)).sum := by
    intro l
    induction l with
    | nil => rfl
    | cons x l ih => simp only [List.map_cons, List.sum_cons, ih]; omega
  exact this _
end Go.Proofs.YtdcjimlhaklhfabGreatDoor

namespace Go.Proofs.YtdcjimlhaklhfabGreatDoor
open Go.RowKit
/-! A log's text, delivered. -/
theorem number_dec {n : Nat} {lo hi : Int} (h1 : lo ≤ (n : Int)) (h2 : (n : Int) ≤ hi) : number (dec n) lo hi = ((n : Int), true) := by
  obtain ⟨d1, d2⟩ := dec_digs n
  have hg := numGo_val hi (dec n) 0 d1 (by omega)
  have e : valF 0 (dec n) = n := d2
  rw [e, if_pos h2] at hg
  rw [number_some (dec_notBad n) hg, decide_eq_true h1]
theorem parts_lo {x : Lo} (h : LoOk x) : parts (loBody x) = [dec x.count.toNat, dec x.site.toNat, dec x.node.id.toNat, dec x.node.parent.toNat, x.node.name] := by
  have d := fun n => fun c hc => (dec_no n n (Nat.le_refl _) c hc).2
  have hn := fun c hc => (ndW_no h.2.2.2.2 c hc).2
  have e : loBody x = dec x.count.toNat ++ [32] ++ (dec x.site.toNat ++ [32] ++ (dec x.node.id.toNat ++ [32] ++ (dec x.node.parent.toNat ++ [32] ++ x.node.name))) := by simp [loBody]
  rw [e, parts_cons (d _), parts_cons (d _), parts_cons (d _), parts_cons (d _), parts_one hn]
theorem readOp_text {x : Lo} (h : LoOk x) : readOp (loText x) = some x := by
  have hb : bodyB (loText x) = true := by rw [loText_body]; unfold bodyB; simp
  have hS : bodyS (loText x) = loBody x := by unfold bodyS; rw [if_pos hb, loText_body]; simp
  unfold readOp
  rw [if_pos hb, hS, parts_lo h]
  obtain ⟨count, site, id, parent, name⟩ := x
  obtain ⟨h1, h2, h3, h4, h5, h6, h7, h8, h9⟩ := h
  simp only at h1 h2 h3 h4 h5 h6 h7 h8 h9 ⊢
  obtain ⟨c, rfl⟩ := Int.eq_ofNat_of_zero_le (show 0 ≤ count by omega)
  obtain ⟨s, rfl⟩ := Int.eq_ofNat_of_zero_le (show 0 ≤ site by omega)
  obtain ⟨i, rfl⟩ := Int.eq_ofNat_of_zero_le (show 0 ≤ id by omega)
  obtain ⟨p, rfl⟩ := Int.eq_ofNat_of_zero_le h7
  unfold opOf opOf5
  simp only [Int.toNat_natCast]
  rw [number_dec h1 h2, number_dec h3 h4, number_dec h5 h6, number_dec h7 h8]
  simp only [Bool.and_self, Bool.true_and]
  rw [h9]; rfl
theorem readOps_log : ∀ (L : List Lo), (∀ x ∈ L, LoOk x) → readOps (cut (logText L)) = some L := by
  intro L h
  rw [cut_log L h]
  induction L with
  | nil => rfl
  | cons x L ih =>
    rw [List.map_cons, readOps, readOp_text (h x (by simp))]
    simp only
    rw [ih (fun y hy => h y (by simp [hy]))]; rfl
theorem dec_len2 {n : Nat} (h : n < 100) : (dec n).length ≤ 2 := by
  rw [← digs_dec n h]; exact (digs_len _).2
theorem dec_len1 {n : Nat} (h : n < 10) : (dec n).length = 1 := by rw [dec_small h]; rfl
theorem loText_len25 {x : Lo} (h : LoOk x) : (loText x).length ≤ 25 := by
  obtain ⟨h1, h2, h3, h4, h5, h6, h7, h8, h9⟩ := h
  have c1 := dec_len x.count.toNat (by omega)
  have c2 := dec_len1 (n := x.site.toNat) (by omega)
  have c3 := dec_len2 (n := x.node.id.toNat) (by omega)
  have key : (dec x.node.parent.toNat).length + x.node.name.length ≤ 13 := by
    unfold placeB at h9
    split at h9
    · rename_i e
      rw [beq_iff_eq] at h9
      rw [e, h9]; decide
    · rw [Bool.and_eq_true] at h9
      have := name_len h9.2
      have := dec_len2 (n := x.node.parent.toNat) (by omega)
      omega
  simp only [loText, List.length_append, List.length_cons, List.length_nil]; omega
theorem logText_len25 : ∀ (L : List Lo), (∀ x ∈ L, LoOk x) → (logText L).length ≤ 25 * L.length := by
  intro L
  induction L with
  | nil => intro _; simp [logText]
  | cons x L ih =>
    intro h
    have h1 := ih (fun y hy => h y (by simp [hy]))
    have h2 := loText_len25 (h x (by simp))
    unfold logText at h1 ⊢
    rw [List.flatMap_cons, List.length_append, List.length_cons]; omega
theorem logText_app (a b : List Lo) : logText (a ++ b) = logText a ++ logText b := by simp [logText]
/-- A text of ops that were made elsewhere. -/
theorem deliver_log {L T : List Lo} (hT : ∀ x ∈ T, LoOk x) (hlen : T.length ≤ 150) : deliverT L (logText T) = if 150 < L.length + (fresh L T).length then (L, 0, 13) else (joinAll L (fresh L T), (fresh L T).length, 0) := by
  have := logText_len25 T hT
  unfold deliverT
  rw [if_neg (by omega), readOps_log T hT]
theorem sorted_distinct {L : List Lo} (h : Sorted L) : Distinct L := by
  refine List.Pairwise.imp ?_ h
  intro a b hab
  cases hq : sameStamp a b with
  | false => rfl
  | true =>
    rw [ahead_iff] at hab
    unfold sameStamp at hq
    simp only [Bool.and_eq_true, beq_iff_eq] at hq
    omega
theorem fresh_distinct {L T : List Lo} (hd : Distinct T) (hn : ∀ x ∈ T, hasStamp L x = false) : fresh L T = T := by
  revert hd hn
  refine list_snoc_ind (P := fun T => Distinct T → (∀ x ∈ T, hasStamp L x = false) → fresh L T = T) (fun _ _ => rfl) ?_ T
  intro T x ih hd hn
  have h2 := List.pairwise_append.1 hd
  rw [fresh_snoc, ih h2.1 (fun y hy => hn y (by simp [hy]))]
  unfold freshS
  rw [hn x (by simp)]
  have : hasStamp T x = false := by
    unfold hasStamp; rw [List.any_eq_false]
    intro y hy
    rw [h2.2.2 y hy x (by simp)]; simp
  rw [this]; rfl
theorem copy_log {L : List Lo} (h : LogOk L) : deliverT [] (logText L) = (L, L.length, 0) := by
  have hd := sorted_distinct h.1
  have hf := fresh_distinct (L := []) hd (fun x _ => rfl)
  have h3 := h.2.2
  rw [deliver_log h.2.1 h.2.2, hf, if_neg (by simp; omega)]
  have e : joinAll [] L = L := by
    have h1 := joinAll_sorted (L := []) List.Pairwise.nil (fresh [] L) (fresh_new [] L)
    rw [hf] at h1
    exact sorted_eq _ _ h1 h.1 (fun x => by rw [joinAll_mem]; simp)
  rw [e]
/-! How many ops there are at most, and when there is none. -/
theorem renames_le (t v : Tr) : (renamesT t v).length ≤ (nodesOf v).length := by
  have key : ∀ l : List Nat, (l.filterMap (renOne t v)).length ≤ (l.filterMap v).length := by
    intro l
    induction l with
    | nil => simp
    | cons i l ih =>
      rw [List.filterMap_cons, List.filterMap_cons]
      cases hv : v i with
      | none =>
        have : renOne t v i = none := by unfold renOne hasT; rw [Int.toNat_natCast, hv]; rfl
        rw [this]; exact ih
      | some n =>
        cases renOne t v i with
        | none => simp only [List.length_cons]; omega
        | some m => simp only [List.length_cons]; omega
  exact key _
theorem kinds_len : ∀ (ss : List St), (∀ s ∈ ss, StOk s) → ss.length = kK 43 ss + kK 61 ss + kK 45 ss := by
  intro ss
  induction ss with
  | nil => intro _; rfl
  | cons s ss ih =>
    intro h
    have h1 := ih (fun x hx => h x (by simp [hx]))
    have h2 := h s (by simp)
    unfold kK at h1 ⊢
    rw [List.countP_cons, List.countP_cons, List.countP_cons, List.length_cons, h1]
    rcases h2 with ⟨hk | hk, _⟩ | ⟨hk, _⟩ <;> rw [hk] <;> simp <;> omega
theorem make_bound {a g : Tr} (ha : Valid a) (hg : Valid g) : (makeT a g).length ≤ total (fC a g) + total (fD a g) + 2 * total (fM a g) := by
  have hseg := makeT_seg ha hg
  have h1 := seg_bounds hg.ok hseg
  have h2 := seg_twice hg.ok hseg
  have h3 := kinds_len (makeT a g) (fun s hs => (seg_can hseg hg.ok s hs).1)
  omega
theorem way_bound {t g : Tr} (ht : TrW t) (hg : Valid g) : (wayT t g).length ≤ (nodesOf (viewT t)).length + total (fC (viewT t) g) + total (fD (viewT t) g) + 2 * total (fM (viewT t) g) := by
  have h1 := renames_le t (viewT t)
  have h2 := make_bound (view_valid ht) hg
  unfold wayT
  rw [List.length_append, List.length_map]; omega
theorem used_new {L : List Lo} {v g : Tr} (h : usedT L v g = true) : 1 ≤ total (fC v g) := by
  unfold usedT at h
  rw [decide_eq_true_eq] at h
  rcases scan_cases (usedIs L v g) 1 100 with ⟨_, h1, hp, _⟩ | ⟨hh, _⟩
  · generalize scan (usedIs L v g) 1 100 = i at *
    unfold usedIs hasT at hp
    simp only [Bool.and_eq_true, Bool.not_eq_true', Int.toNat_natCast] at hp
    have := total_drop (f := fun _ => 0) (h := fC v g) (j := i) ⟨h1, by omega⟩ (fun _ _ => Nat.zero_le _) (by
      unfold fC
      cases hv : v i with
      | some n => rw [hv] at hp; simp at hp
      | none =>
        cases hg : g i with
        | none => rw [hg] at hp; simp at hp
        | some n => simp)
    omega
  · omega
theorem total_zero {f : Nat → Nat} (h : ∀ i, f i = 0) : total f = 0 := by
  have := sum_bd (f := f) (c := 0) (List.range' 1 99) (fun i _ => by rw [h]; omega)
  unfold total; omega
theorem make_self {a : Tr} (ha : Valid a) : makeT a a = [] := by
  have := seg_come (makeT_seg ha ha) ha.ok
  have h0 : toCome a a = 0 := by
    have := sum_bd (f := weight a a) (c := 0) (List.range' 1 99) (fun i _ => by rw [weight_home rfl]; omega)
    unfold toCome; omega
  exact List.length_eq_zero_iff.1 (by omega)
theorem view_nil : viewT (places []) = tr0 := by
  funext i
  cases h : viewT (places []) i with
  | none => rfl
  | some n =>
    obtain ⟨m, hm, _⟩ := view_of (t := places []) trW_0 h
    cases hm
theorem nodesOf_0 : nodesOf tr0 = [] := by
  unfold nodesOf
  rw [List.filterMap_eq_nil_iff]
  intro i _; rfl
/-- As long as the log is empty any tree is taken. -/
theorem reach_first {site : Int} {g : Tr} (hg : Valid g) : (reachT [] site g).2 = 0 := by
  have hu : usedT [] (viewT (places [])) g = false := by
    cases h : usedT [] (viewT (places [])) g with
    | false => rfl
    | true =>
      unfold usedT at h
      rw [decide_eq_true_eq] at h
      rcases scan_cases (usedIs [] (viewT (places [])) g) 1 100 with ⟨_, _, hp, _⟩ | ⟨hh, _⟩
      · unfold usedIs speaks at hp; simp at hp
      · omega
  have hw : (wayT (places []) g).length ≤ 99 := by
    unfold wayT
    rw [List.length_append, List.length_map]
    have h1 := renames_le (places []) (viewT (places []))
    rw [view_nil, nodesOf_0] at h1
    rw [view_nil]
    have hv0 : Valid tr0 := by have := view_valid (t := places []) trW_0; rwa [view_nil] at this
    have h2 := seg_come (makeT_seg hv0 hg) hg.ok
    have h3 : toCome tr0 g ≤ 1 * 99 := by
      have := sum_bd (f := weight tr0 g) (c := 1) (List.range' 1 99) (fun i _ => by
        unfold weight homeS
        show (match (match tr0 (i : Int).toNat, g (i : Int).toNat with
          | none, none => none
          | some _, none => some (⟨45, ⟨i, 0, []⟩⟩ : St)
          | none, some n => some ⟨43, n⟩
          | some m, some n => if ndEq m n then none else some ⟨61, n⟩) with
          | none => 0
          | some s => if s.kind == 61 && !parkedB tr0 i then 2 else 1) ≤ 1
        have e : tr0 (i : Int).toNat = none := rfl
        rw [e]
        cases g (i : Int).toNat <;> simp)
      simpa [toCome] using this
    simp only [List.length_nil] at h1
    omega
  unfold reachT
  rw [hu]
  simp only [Bool.false_eq_true, if_false, List.length_nil, Nat.zero_add]
  rw [if_neg (by omega), lastC_nil, if_neg (by omega)]
/-! Handed its own view. -/
theorem reach_sim {L : List Lo} (hl : ∀ x ∈ L, LoOk x) {site : Int} {g : Tr} (hg : Valid g) (h : (reachT L site g).2 = 0) : Sim (places (L ++ (reachT L site g).1)) g := by
  obtain ⟨hu, _, _, h4⟩ := reach_made h
  have ht := places_ok hl
  have hv := view_valid ht
  rw [h4, places_stamped]
  unfold wayT
  rw [List.foldl_append]
  unfold renamesT
  rw [renames_fold ht, mixTo_99 ht]
  exact (seg_sim (makeT_seg hv hg) hg _ (mix_trW ht) hv (mix_sim ht) (used_clean hl hg.ok hu)).1
theorem sim_renames {t a : Tr} (hs : Sim t a) : renamesT t a = [] := by
  unfold renamesT renamesTo
  rw [List.filterMap_eq_nil_iff]
  intro i _
  unfold renOne hasT getT
  rw [Int.toNat_natCast]
  cases ha : a i with
  | none => rfl
  | some n =>
    rw [hs.here i n ha]
    simp [ndEq_iff.2 (rfl : n = n)]
theorem used_own (L : List Lo) (v : Tr) : usedT L v v = false := by
  unfold usedT
  rw [decide_eq_false_iff_not]
  rcases scan_cases (usedIs L v v) 1 100 with ⟨_, _, hp, _⟩ | ⟨hh, _⟩
  · unfold usedIs at hp
    simp only [Bool.and_eq_true, Bool.not_eq_true'] at hp
    rw [hp.1] at hp; cases hp.2.1
  · omega
theorem reach_own {L : List Lo} (hl : LogOk L) {site : Int} (hs : Sim (places L) (viewT (places L))) : reachT L site (viewT (places L)) = ([], 0) := by
  have hw : wayT (places L) (viewT (places L)) = [] := by
    unfold wayT
    rw [sim_renames hs, make_self (view_valid (places_ok hl.2.1))]; rfl
  have h1 := hl.2.2
  have h2 := (lastC_bd hl).2
  unfold reachT
  rw [used_own, hw]
  simp only [Bool.false_eq_true, if_false, List.length_nil, Nat.add_zero]
  rw [if_neg (by omega), if_neg (by simp; omega)]; rfl
end Go.Proofs.YtdcjimlhaklhfabGreatDoor

namespace Go.Proofs.YtdcjimlhaklhfabGreatDoor
open Go.RowKit
theorem trW_of_valid {t : Tr} (h : Valid t) : TrW t := ⟨h.ok.1, fun i n hn => ⟨(h.ok.2 i n hn).1, (h.ok.2 i n hn).2.1, (h.ok.2 i n hn).2.2.1, ndW_of_valid h hn⟩⟩
theorem newTo_sorted {L M : List Lo} (h : Sorted (L ++ M)) : NewTo L M := by
  have hd := List.pairwise_append.1 (sorted_distinct h)
  refine ⟨fun x hx => ?_, hd.2.1⟩
  unfold hasStamp; rw [List.any_eq_false]
  intro y hy
  rw [hd.2.2 y hy x hx]; simp
theorem joinAll_sorted_end {L M : List Lo} (h : Sorted (L ++ M)) : joinAll L M = L ++ M := by
  refine sorted_eq _ _ (joinAll_sorted (List.pairwise_append.1 h).1 M (newTo_sorted h)) h (fun x => ?_)
  rw [joinAll_mem, List.mem_append]
theorem reachT_used {L : List Lo} {site : Int} {g : Tr} (h : usedT L (viewT (places L)) g = true) : reachT L site g = ([], 14) := by unfold reachT; rw [h]; rfl
theorem reachT_full {L : List Lo} {site : Int} {g : Tr} (h : usedT L (viewT (places L)) g = false) (h2 : 150 < L.length + (wayT (places L) g).length) : reachT L site g = ([], 13) := by unfold reachT; rw [h, if_neg (by simp), if_pos h2]
theorem reachT_count {L : List Lo} {site : Int} {g : Tr} (h : usedT L (viewT (places L)) g = false) (h2 : ¬ 150 < L.length + (wayT (places L) g).length) (h3 : 9999 < lastC L + ((wayT (places L) g).length : Int)) : reachT L site g = ([], 15) := by unfold reachT; rw [h, if_neg (by simp), if_neg h2, if_pos h3]
theorem reachT_ok {L : List Lo} {site : Int} {g : Tr} (h : usedT L (viewT (places L)) g = false) (h2 : ¬ 150 < L.length + (wayT (places L) g).length) (h3 : ¬ 9999 < lastC L + ((wayT (places L) g).length : Int)) : reachT L site g = (stamped (wayT (places L) g) (lastC L) site, 0) := by unfold reachT; rw [h, if_neg (by simp), if_neg h2, if_neg h3]
/-- What a call leaves that may make ops: the ops, and the replica behind it. -/
def MadePost (L M : List Lo) (_err : Int) (b : Nat) (site : Int) (v : Value) (w : World) (u : Value) (w' : World) : Prop :=
  w'.ownsRow w.heap.size 113 5 u M.length (loCells M) ∧ ∃ v', Repl w' b site v' (L ++ M) ∧ Keeps (Foot b v) w w' ∧ Moved w v v'
theorem madePost_none {L : List Lo} {err : Int} {b : Nat} {site : Int} {v : Value} {w w' : World} (hR : Repl w b site v L) (hb : Below w.heap.size w w') : MadePost L [] err b site v w (.slice none 0 0) w' :=
  ⟨World.ownsRow_nil _ _ _ _, v, by rw [List.append_nil]; exact hR.below hb, Keeps.of_below hb (fun k h1 h2 => by omega), .inl rfl⟩
set_option maxHeartbeats 8000000 in
set_option maxRecDepth 100000 in
theorem reach_any (L : List Lo) (g : Tr) (b : Nat) (site : Int) (v : Value) (w : World) (hR : Repl w b site v L) (hg : Valid g) (s1 : 1 ≤ site) (s2 : site ≤ 9) :
    Calls Tryz.prog 37 #[.pointer (some ⟨b, 1, none⟩), .agg (treeCells g).toArray, .int .i64 site] w fun e w' => ∃ u, e = .returned (.tuple #[u, .int .i64 (reachT L site g).2]) ∧ MadePost L (reachT L site g).1 (reachT L site g).2 b site v w u w' := by
  obtain ⟨ao, ca, rfl, hrow⟩ := row_of_owns hR.own
  have hL := hR.ok.2.2
  have hlt := hR.lt
  have HX := hide hR.ok.2.1
  have HVV := hide (view_valid (places_ok hR.ok.2.1))
  have HOKR := hide (reach_ok (site := site) hR.ok s1 s2 hg).1
  have hlc := lastC_bd hR.ok
  have hwl := way_len (places_ok hR.ok.2.1) hg
  have HSO := hide hR.ok.1
  have HNONE := hide (fun (err : Int) w' (hb : Below w.heap.size w w') => madePost_none (err := err) hR hb)
  have HC := hide (fun W (hb : Below w.heap.size w W) => (hb.cell (p := ⟨b, 1, none⟩) hlt).trans hR.at'.cell1)
  have HROW := hide hrow
  have HR := hide hR
  have hb0 := (Below.refl w.heap.size w).alloc (Nat.le_refl _) (.cells (treeCells g).toArray 78)
  have HG0 := hide (treeAt_box w g)
  have HVW := hide (view_any L b 1 ao ca _ (unhide HC _ hb0) (by simp; omega) (hrow.below hb0) hR.ok.2.1 (by omega))
  have HU := hide (fun W vb gb (hb : Below w.heap.size w W) hV hG => isUsed_any L (viewT (places L)) g b 1 vb gb ao ca W (unhide HC W hb) (by have := hb.size; omega) ((unhide HROW).below hb) (by omega) (trW_of_valid (unhide HVV)) (trW_of_valid hg) hV hG)
  have HWY := hide (fun W (hb : Below w.heap.size w W) => wayTo_any L (viewT (places L)) g b 1 ao ca W (unhide HC W hb) (by have := hb.size; omega) ((unhide HROW).below hb) (unhide HX) (by omega) (unhide HVV) hg (trW_of_valid (unhide HVV)))
  have HLC := hide (fun W (hb : Below w.heap.size w W) => lastCount_any L b 1 ao ca W (unhide HC W hb) ((unhide HROW).below hb) (by omega))
  have HE1 := hide (@reachT_used L site g)
  have HE2 := hide (@reachT_full L site g)
  have HE3 := hide (@reachT_count L site g)
  have HE4 := hide (@reachT_ok L site g)
  have eway : wayT (places L) g = renamesT (places L) (viewT (places L)) ++ (makeT (viewT (places L)) g).map behind := rfl
  rw [← eway] at HWY
  clear eway hrow hR hg
  generalize wayT (places L) g = W0 at *
  generalize usedT L (viewT (places L)) g = q at *
  generalize viewT (places L) = V at *
  have HB0 := hide hb0; clear hb0
  go_enter Tryz.func37, Tryz.ntmps37
  go_upto_region 1 with fail
  generalize w.alloc (.cells (treeCells g).toArray 78) = w0 at *
  generalize Value.agg (treeCells g).toArray = vg
  go_wp2_with fail
  refine (unhide HVW).mono ?_
  rintro e w1 ⟨rfl, hb1⟩
  have HG1 := hide ((unhide HG0).below hb1)
  have HB1 := hide ((unhide HB0).trans (hb1.mono (unhide HB0).size))
  have HN1 := hide (treeAt_new w1)
  have hbx := below_setCells ((Below.refl w1.heap.size w1).alloc (Nat.le_refl _) (.cells Tryz.zeroCells78 78)) (g := w1.heap.size) (Nat.le_refl _) (by simp) 0 (treeCells V)
  have HB2 : Hid (Below w.heap.size w ((w1.alloc (.cells Tryz.zeroCells78 78)).setCells w1.heap.size 0 (treeCells V))) := hide ((unhide HB1).trans (hbx.mono (unhide HB1).size))
  have HG2 := hide ((unhide HG1).below hbx)
  have HV2 := hide (treeAt_stored (unhide HN1) V)
  clear hbx hb1
  go_upto_region 2 with (refine wpList_store_mid (by rfl) 78 (.tmp 8) (.tmp 15) (by rfl) w1.heap.size 0 (treeCells V).toArray (by rfl) (by rfl) (by exact treeAt_there (unhide HN1) V) (treeSize' V) (treeOne V) ?_)
  generalize Value.agg (treeCells V).toArray = vV
  generalize (w1.alloc (.cells Tryz.zeroCells78 78)).setCells w1.heap.size 0 (treeCells V) = w2 at *
  go_wp2_with fail
  refine (unhide HU _ _ _ (by exact unhide HB2) (by exact unhide HV2) (by exact unhide HG2)).mono ?_
  rintro e w3 ⟨rfl, hb3⟩
  have HG3 := hide (treeAt_range ((unhide HG2).below hb3))
  have HV3 := hide (treeAt_range ((unhide HV2).below hb3))
  have HB3 := hide ((unhide HB2).trans (hb3.mono (unhide HB2).size))
  clear hb3 HG2 HV2 HG1 HN1
  cases hq : q with
  | true =>
    have HEE := hide (unhide HE1 hq)
    subst hq
    go_wp2
    go_ret2
    refine ⟨.slice none 0 0, by rw [unhide HEE]; rfl, ?_⟩
    rw [unhide HEE]; exact unhide HNONE _ _ (unhide HB3)
  | false =>
    have HQ := hide hq
    subst hq
    go_wp2_with (first
      | (refine wpList_load_mid (by rfl) 78 (.tmp 8) (by rfl) w1.heap.size 0 (by rfl) (treeCells V) _ (unhide HV3) Tryz.underlying78 (by rfl) (treeSize V) ?_)
      | (refine wpList_load_mid (by rfl) 78 (.tmp 4) (by rfl) w.heap.size 0 (by rfl) (treeCells g) _ (unhide HG3) Tryz.underlying78 (by rfl) (treeSize g) ?_))
    refine (unhide HWY _ (by exact unhide HB3)).mono ?_
    rintro e w4 ⟨u, rfl, hown, hb4⟩
    generalize Value.agg (treeCells V).toArray = vV2
    generalize Value.agg (treeCells g).toArray = vg2
    obtain ⟨uo, uc, rfl, hrw⟩ := row_of_owns hown
    have HB4 := hide ((unhide HB3).trans (hb4.mono (unhide HB3).size))
    have HRW := hide hrw
    have c4 := unhide HC _ (unhide HB4)
    clear hb4 hown hrw HV3 HG3
    by_cases hfull : 150 < L.length + W0.length
    · have HEE := hide (unhide HE2 (unhide HQ) hfull)
      have hd : decide ((150 : Int) < (L.length : Int) + (W0.length : Int)) = true := by rw [decide_eq_true_eq]; omega
      clear hfull
      go_wp2
      go_ret2
      refine ⟨.slice none 0 0, by rw [unhide HEE]; rfl, ?_⟩
      rw [unhide HEE]; exact unhide HNONE _ _ (unhide HB4)
    · have hd : decide ((150 : Int) < (L.length : Int) + (W0.length : Int)) = false := by rw [decide_eq_false_iff_not]; omega
      go_wp2_with fail
      refine (unhide HLC _ (by exact unhide HB4)).mono ?_
      rintro e w5 ⟨rfl, hb5⟩
      have HB5 := hide ((unhide HB4).trans (hb5.mono (unhide HB4).size))
      have HRW5 := hide ((unhide HRW).below hb5)
      clear hb5 c4
      by_cases hcnt : 9999 < lastC L + (W0.length : Int)
      · have HEE := hide (unhide HE3 (unhide HQ) hfull hcnt)
        generalize lastC L = lc at *
        have hd2 : decide (9999 < lc + (W0.length : Int)) = true := by rw [decide_eq_true_eq]; exact hcnt
        clear hcnt hfull
        go_wp2
        go_ret2
        refine ⟨.slice none 0 0, by rw [unhide HEE]; rfl, ?_⟩
        rw [unhide HEE]; exact unhide HNONE _ _ (unhide HB5)
      · have HEE := hide (unhide HE4 (unhide HQ) (by omega) (by omega))
        have HML : Hid (∀ u w', w'.ownsRow w.heap.size 113 5 u (stamped W0 (lastC L) site).length (loCells (stamped W0 (lastC L) site)) → (∃ v', Repl w' b site v' (L ++ stamped W0 (lastC L) site) ∧ Keeps (Foot b (.slice ao L.length ca)) w w' ∧ Moved w (.slice ao L.length ca) v') → MadePost L (reachT L site g).1 (reachT L site g).2 b site (.slice ao L.length ca) w u w') := by
          apply hide
          intro u w' h1 h2
          rw [unhide HEE]; exact ⟨h1, h2⟩
        have HSE : Hid (∀ (u : Value) n, n = (stamped W0 (lastC L) site).length → (Ending.returned (.tuple #[u, .int .i64 0])) = .returned (.tuple #[u, .int .i64 (reachT L site g).2])) := by
          apply hide; intro u n _; rw [unhide HEE]
        have hokr := unhide HOKR
        rw [unhide HEE] at hokr
        simp only at hokr
        have HOKF := hide hokr
        have HNEW := hide (newTo_sorted hokr.1)
        have HJE := hide (joinAll_sorted_end hokr.1)
        have HSTM := hide (fun W (h : Row W uo W0.length 3 (ndCells W0)) => stamped_any W0 (lastC L) site uo uc W h (by omega) hlc.1 hlc.2)
        have hfl0 : (stamped W0 (lastC L) site).length ≤ 297 := by rw [stamped_len]; omega
        have hd2 : decide (9999 < lastC L + (W0.length : Int)) = false := by rw [decide_eq_false_iff_not]; omega
        clear hokr HEE HOKR
        generalize stamped W0 (lastC L) site = fr at *
        generalize lastC L = lc at *
        go_wp2_with fail
        refine (unhide HSTM _ (by exact unhide HRW5)).mono ?_
        rintro e w6 ⟨fu, rfl, hownf, hb6⟩
        obtain ⟨fo, cf, rfl, _⟩ := row_of_owns hownf
        have HB6 := hide ((unhide HB5).trans (hb6.mono (unhide HB5).size))
        have hs5 := (unhide HB5).size
        have hR6 := (unhide HR).below (unhide HB6)
        have HR6 := hide hR6.at'
        have HOWN6 := hide hR6.own
        have HFO : Hid (∀ k, (Value.slice fo fr.length cf).ownBlock = some k → w.heap.size ≤ k ∧ k < w6.heap.size) := hide (fun k hk => by have := hownf.lt k hk; omega)
        have HVL : Hid (∀ k, (Value.slice ao L.length ca).ownBlock = some k → k < w.heap.size) := hide (fun k hk => ((unhide HR).own.lt k hk).2)
        have HOF := hide (own_low hownf hs5)
        clear hb6 hownf hR6
        go_wp2
        go_loopw [44] (fun i wr => ∃ k : Nat, ∃ v' : Value, k ≤ fr.length ∧ i = .int .i64 k ∧ Hid (RepAt wr b site v') ∧ Hid (wr.ownsRow 0 113 5 v' (joinAll L (fr.take k)).length (loCells (joinAll L (fr.take k)))) ∧ Hid (Keeps (Foot b (.slice ao L.length ca)) w6 wr) ∧ Hid (Moved w6 (.slice ao L.length ca) v') ∧ Hid (wr.ownsRow w.heap.size 113 5 (.slice fo fr.length cf) fr.length (loCells fr))) (fun i _ => fr.length - (intOf i).toNat)
        case atStart => exact ⟨0, _, Nat.zero_le _, rfl, HR6, HOWN6, hide (Keeps.refl _ _), hide (.inl rfl), HOF⟩
        case round =>
          obtain ⟨k, v', hk, rfl, HRr, HOr, HKr, HMr, HFr⟩ := hrel
          by_cases hlt2 : k < fr.length
          · obtain ⟨gg, hao, hgg, c0, c1, c2, c3, c4⟩ := lo_cells (row_of (unhide HFr)) (Below.refl wr.heap.size wr) (Nat.le_refl _) hlt2
            have HG : Hid ((Value.slice fo fr.length cf).ownBlock = some gg) := by apply hide; rw [hao]; rfl
            have HAO := hide hao
            rw [hao]
            clear hao
            have HJ := hide (joinAll_take L fr k hlt2)
            have HJL : Hid ((joinAll L (fr.take k)).length ≤ 4000) := by apply hide; rw [joinAll_len, List.length_take]; omega
            have HSR : Hid (Sorted (joinAll L (fr.take k))) := hide (joinAll_sorted (unhide HSO) _ (newTo_take (unhide HNEW) k))
            generalize fr[k] = x at *
            have hbr := (unhide HRr).lt
            have hB2 : Below wr.heap.size wr (wr.alloc (.cells #[.int .i64 x.count, .int .i64 x.site, .int .i64 x.node.id, .int .i64 x.node.parent, .string (bs x.node.name)] 113)) := (Below.refl _ _).alloc (Nat.le_refl _) _
            have HI := hide (insert_any (joinAll L (fr.take k)) x b site v' (wr.alloc (.cells #[.int .i64 x.count, .int .i64 x.site, .int .i64 x.node.id, .int .i64 x.node.parent, .string (bs x.node.name)] 113)) ((unhide HRr).below hB2 hbr) (own_below (unhide HOr) hB2) (unhide HSR) (unhide HJL))
            have HBB := hide hB2; clear hB2
            go_wp2_with fail
            refine (unhide HI).mono ?_
            rintro e w7 ⟨rfl, v7, hR7, hO7, hK7, hM7⟩
            have hw6r := (unhide HKr).size
            have HKK : Hid (Keeps (Foot b (.slice ao L.length ca)) w6 w7) := by
              apply hide
              refine ((unhide HKr).trans (Keeps.of_below (S := fun _ => False) (unhide HBB) (fun k h1 h2 => by omega)) (fun k _ h => h.elim)).trans hK7 (fun j hj h => ?_)
              rcases h with h | h
              · exact .inl h
              · rcases unhide HMr with hm | ⟨p, hm, hp⟩
                · exact .inr (hm ▸ h)
                · rw [hm] at h; cases h; omega
            have HMM : Hid (Moved w6 (.slice ao L.length ca) v7) := by
              apply hide
              rcases hM7 with h | ⟨p, h, hp⟩
              · rcases unhide HMr with hm | ⟨p, hm, hp⟩
                · exact .inl (h.trans hm)
                · exact .inr ⟨p, h.trans hm, hp⟩
              · exact .inr ⟨p, h, by have := (unhide HBB).size; omega⟩
            have HFF : Hid (w7.ownsRow w.heap.size 113 5 (.slice fo fr.length cf) fr.length (loCells fr)) := by
              apply hide
              refine own_kept (own_below (unhide HFr) (unhide HBB)) hK7 (fun j hj h => ?_)
              have h1 := unhide HFO j hj
              rcases h with h | h
              · omega
              · rcases unhide HMr with hm | ⟨p, hm, hp⟩
                · rw [hm] at h; have := unhide HVL j h; omega
                · rw [hm] at h; cases h; omega
            have HO7 : Hid (w7.ownsRow 0 113 5 v7 (joinAll L (fr.take (k + 1))).length (loCells (joinAll L (fr.take (k + 1))))) := by
              apply hide; rw [unhide HJ, ins_len]; exact hO7
            have HR7 := hide hR7
            clear hR7 hO7 hK7 hM7 c0 c1 c2 c3 c4
            go_wp2
            go_roundw
            case rel => exact ⟨k + 1, v7, by omega, by go_num, HR7, HO7, HKK, HMM, by have h := HFF; rw [unhide HAO] at h; exact h⟩
            case measure => simp [intOf]; omega
          · have HE : Hid (joinAll L (fr.take k) = L ++ fr) := by apply hide; rw [List.take_of_length_le (by omega)]; exact unhide HJE
            go_wp2
            go_ret2
            refine ⟨.slice fo fr.length cf, (by have h := unhide HSE (.slice fo fr.length cf) _ rfl; exact h), ?_⟩
            refine unhide HML _ _ (unhide HFr) ⟨v', ⟨unhide HRr, by rw [← unhide HE]; exact unhide HOr, unhide HOKF⟩, ?_, ?_⟩
            · exact (Keeps.of_below (S := fun _ => False) (unhide HB6) (fun k h1 h2 => by omega) |>.mono (fun _ _ h => h.elim)).trans (unhide HKr) (fun _ _ h => h)
            · have hs6 := (unhide HB6).size
              rcases unhide HMr with h | ⟨p, h, hp⟩
              · exact .inl h
              · exact .inr ⟨p, h, by omega⟩
end Go.Proofs.YtdcjimlhaklhfabGreatDoor

namespace Go.Proofs.YtdcjimlhaklhfabGreatDoor
open Go.RowKit
theorem ingestT_no {L : List Lo} {site : Int} {s : Str} (h : (checkT s).1 ≠ 0) : ingestT L site s = ([], (checkT s).1) := by unfold ingestT; rw [if_pos h]
theorem ingestT_yes {L : List Lo} {site : Int} {s : Str} (h : (checkT s).1 = 0) : ingestT L site s = reachT L site (readT s) := by
  unfold ingestT readT; rw [if_neg (by simpa using h), if_pos h]
theorem readT_valid {s : Str} (h : (checkT s).1 = 0) : Valid (readT s) := by unfold readT; rw [if_pos h]; exact valid_of_check h
theorem range_drew {w : World} {b o : Nat} {cs : List Value} (h : w.rangeAt b o cs) : w.drew.rangeAt b o cs := h
theorem range_kept {w w' : World} {b o : Nat} {cs : List Value} {S : Nat → Prop} (h : w.rangeAt b o cs) (hk : Keeps S w w') (hS : ¬ S b) (hb : b < w.heap.size) : w'.rangeAt b o cs := by
  intro j v hv
  rw [World.cell?_of_block (a := ⟨b, o + j, none⟩) (hk.block b hb hS)]; exact h j v hv
set_option maxHeartbeats 8000000 in
set_option maxRecDepth 100000 in
theorem ingest_any (L : List Lo) (s : ByteArray) (b : Nat) (site : Int) (v : Value) (w : World) (hR : Repl w b site v L) (s1 : 1 ≤ site) (s2 : site ≤ 9) (htab : ∀ w', Keeps (Foot b v) w w' → Tab w') :
    Calls Tryz.prog 16 #[.pointer (some ⟨b, 0, none⟩), .string s] w fun e w' => e = .returned (.tuple #[.string (bs (logText (ingestT L site (sl s)).1)), .int .i64 (ingestT L site (sl s)).2]) ∧ ∃ v', Repl w' b site v' (L ++ (ingestT L site (sl s)).1) ∧ Keeps (Foot b v) w w' ∧ Moved w v v' := by
  have hlt := hR.lt
  have HRD := hide (fun W => read_any s W)
  have HTB := hide htab
  have HR := hide hR
  have hokx := (ingest_ok hR.ok s1 s2 (sl s)).2
  have hil : (ingestT L site (sl s)).1.length ≤ 150 := by
    have := (ingest_ok hR.ok s1 s2 (sl s)).1.2.2
    rw [List.length_append] at this; omega
  clear hR htab
  by_cases hC : (checkT (sl s)).1 ≠ 0
  · rw [ingestT_no hC]
    have hC' : ((checkT (sl s)).1 != 0) = true := by rw [bne_iff_ne]; exact hC
    clear hC hokx hil
    generalize checkT (sl s) = c at *
    generalize readT (sl s) = T at *
    have HF := hide (fun w' (hb : Below w.heap.size w w') => show ∃ v', Repl w' b site v' (L ++ []) ∧ Keeps (Foot b v) w w' ∧ Moved w v v' from ⟨v, by rw [List.append_nil]; exact (unhide HR).below hb, Keeps.of_below hb (fun k h1 h2 => by omega), .inl rfl⟩)
    go_enter Tryz.func16, Tryz.ntmps16
    go_wp2_with fail
    refine (unhide HRD _).mono ?_
    rintro e w1 ⟨rfl, hb1⟩
    have HN := hide (treeAt_new w1)
    have HB1 := hide hb1; clear hb1
    go_wp2_with (refine wpList_store_mid (by rfl) 78 (.tmp 6) (.tmp 13) (by rfl) w1.heap.size 0 (treeCells T).toArray (by rfl) (by rfl) (by exact treeAt_there (unhide HN) T) (treeSize' T) (treeOne T) ?_)
    go_ret2
    exact ⟨rfl, unhide HF _ (below_setCells ((unhide HB1).alloc (unhide HB1).size _) (unhide HB1).size (by have := (unhide HB1).size; simp; omega) _ _)⟩
  · have hc0 : (checkT (sl s)).1 = 0 := Classical.not_not.1 hC
    have HVG := hide (readT_valid hc0)
    rw [ingestT_yes hc0] at hokx hil ⊢
    rw [hc0] at HRD
    clear hC hc0
    have HRE := hide (fun W (h : Repl W b site v L) => reach_any L (readT (sl s)) b site v W h (unhide HVG) s1 s2)
    have HNO := hide (@reach_none L site (readT (sl s)))
    generalize (checkT (sl s)).2 = c2 at *
    generalize readT (sl s) = T at *
    generalize reachT L site T = rt at *
    obtain ⟨M, er⟩ := rt
    simp only at HRE hokx hil HNO ⊢
    have HTX := hide (fun uo uc W (h : Row W uo M.length 5 (loCells M)) (ht : Tab W) => opsText_any M uo uc W h hokx (by omega) ht)
    clear hokx
    go_enter Tryz.func16, Tryz.ntmps16
    go_wp2_with fail
    refine (unhide HRD _).mono ?_
    rintro e w1 ⟨rfl, hb1⟩
    have HN := hide (treeAt_new w1)
    have hbx := below_setCells ((Below.refl w1.heap.size w1).alloc (Nat.le_refl _) (.cells Tryz.zeroCells78 78)) (g := w1.heap.size) (Nat.le_refl _) (by simp) 0 (treeCells T)
    have HB2 : Hid (Below w.heap.size w ((w1.alloc (.cells Tryz.zeroCells78 78)).setCells w1.heap.size 0 (treeCells T))) := hide (hb1.trans (hbx.mono hb1.size))
    have HRG := hide (treeAt_range (treeAt_stored (unhide HN) T))
    have hs1 := hb1.size
    clear hbx hb1
    go_upto_region 2 with (refine wpList_store_mid (by rfl) 78 (.tmp 6) (.tmp 13) (by rfl) w1.heap.size 0 (treeCells T).toArray (by rfl) (by rfl) (by exact treeAt_there (unhide HN) T) (treeSize' T) (treeOne T) ?_)
    have hltr : w1.heap.size < ((w1.alloc (.cells Tryz.zeroCells78 78)).setCells w1.heap.size 0 (treeCells T)).heap.size := by rw [(size_setCells _ _ _ _).1]; simp
    have HVT : Hid (Value.agg (treeCells T).toArray = .agg (treeCells T).toArray) := hide rfl
    revert HVT
    generalize hvt : Value.agg (treeCells T).toArray = vT at *
    intro _
    have HVT : Hid (Value.agg (treeCells T).toArray = vT) := hide hvt
    clear hvt
    generalize (w1.alloc (.cells Tryz.zeroCells78 78)).setCells w1.heap.size 0 (treeCells T) = w2 at *
    have hR2 := ((unhide HR).below (unhide HB2)).below (Below.refl w2.heap.size w2).drew
    have r0 := hR2.at'.cell0
    have hs2 := (unhide HB2).size
    have HR2 := hide hR2
    have HB2d : Hid (Below w.heap.size w w2.drew) := hide ((unhide HB2).trans ((Below.refl w2.heap.size w2).drew.mono hs2))
    have HAF : Hid (∀ u w3, MadePost L M er b site v w2.drew u w3 → w3.cell? ⟨b, 0, none⟩ = some (.int .i64 site) ∧ w3.rangeAt w1.heap.size 0 (treeCells T)) := by
      apply hide
      rintro u w3 ⟨_, v', hr, hk, _⟩
      refine ⟨hr.at'.cell0, range_kept (range_drew (unhide HRG)) hk ?_ hltr⟩
      rintro (e | e)
      · have e' : w1.heap.size = b := e
        omega
      · have := ((unhide HR).own.lt _ e).2; omega
    have HS0 : Hid (w2.drew.cell? ⟨b, 0, none⟩ = some (.int .i64 site) ∧ w2.drew.rangeAt w1.heap.size 0 (treeCells T)) := hide ⟨r0, range_drew (unhide HRG)⟩
    clear hR2 HN HRD r0
    go_upto_region 4 with fail
    refine wp_region_held_drew (S := fun W => W.cell? ⟨b, 0, none⟩ = some (.int .i64 site) ∧ W.rangeAt w1.heap.size 0 (treeCells T)) (by kernel_rfl) (by exact unhide HS0) (fun hHeld => ?_)
    refine wpAnyH_take (i := 0) (v := .pointer (some ⟨b, 0, none⟩)) rfl (by kernel_rfl) (by kernel_rfl) (by kernel_rfl) (fun _ _ _ h => h) (Or.inl ⟨by rfl, ?_⟩) (by assumption) ?_
    · intro W hSw
      go_simp
    simp only [Act.put, List.setIfInBounds_toArray]
    refine wpAnyH_take (i := 1) (v := .pointer (some ⟨b, 0, none⟩)) rfl (by kernel_rfl) (by kernel_rfl) (by kernel_rfl) (fun _ _ _ h => h) (Or.inl ⟨by rfl, ?_⟩) (by assumption) ?_
    · intro W hSw
      go_simp
    simp only [Act.put]
    refine wpAnyH_take (i := 2) (v := .pointer (some ⟨b, 1, none⟩)) rfl (by kernel_rfl) (by kernel_rfl) (by kernel_rfl) (fun _ _ _ h => h) (Or.inl ⟨by rfl, ?_⟩) (by assumption) ?_
    · intro W hSw
      go_simp
    simp only [Act.put]
    refine wpAnyH_take (i := 3) (v := vT) rfl (by kernel_rfl) (by kernel_rfl) (by kernel_rfl) (fun _ _ _ h => h) (by rw [← unhide HVT]; exact yieldsIf_load_mid (by rfl) _ _ rfl w1.heap.size 0 rfl (treeCells T) _ (fun W h => h.2) Tryz.underlying78 rfl (treeSize T)) (by assumption) ?_
    simp only [Act.put]
    refine wpAnyH_take (i := 4) (v := .pointer (some ⟨b, 0, none⟩)) rfl (by kernel_rfl) (by kernel_rfl) (by kernel_rfl) (fun _ _ _ h => h) (Or.inl ⟨by rfl, ?_⟩) (by assumption) ?_
    · intro W hSw
      go_simp
    simp only [Act.put]
    refine wpAnyH_take (i := 5) (v := .pointer (some ⟨b, 0, none⟩)) rfl (by kernel_rfl) (by kernel_rfl) (by kernel_rfl) (fun _ _ _ h => h) (Or.inl ⟨by rfl, ?_⟩) (by assumption) ?_
    · intro W hSw
      go_simp
    simp only [Act.put]
    refine wpAnyH_take (i := 6) (v := .pointer (some ⟨b, 0, none⟩)) rfl (by kernel_rfl) (by kernel_rfl) (by kernel_rfl) (fun _ _ _ h => h) (Or.inl ⟨by rfl, ?_⟩) (by assumption) ?_
    · intro W hSw
      go_simp
    simp only [Act.put]
    refine wpAnyH_take (i := 7) (v := .int .i64 site) rfl (by kernel_rfl) (by kernel_rfl) (by kernel_rfl) (fun _ _ _ h => h) (Or.inl ⟨by rfl, ?_⟩) (by assumption) ?_
    · intro W hSw
      go_simp
    simp only [Act.put]
    refine wpAnyH_ready (rs := [8]) (by kernel_rfl) (by simp) ?_
    refine AllReadyH.cons rfl (fun K hK => ?_) AllReadyH.nil
    go_simp
    refine (unhide HRE _ (by exact unhide HR2)).mono ?_
    rintro e w3 ⟨u, rfl, hmp⟩
    have hs3 := unhide HAF u w3 hmp
    obtain ⟨hou, v', hR3, hK3, hM3⟩ := hmp
    obtain ⟨uo, uc, rfl, hru⟩ := row_of_owns hou
    go_wp2_with fail
    refine hK.out _ _ hs3 (fun hHeld => ?_)
    clear hK
    refine wpAnyH_take (i := 9) (v := .tuple #[.slice uo M.length uc, .int .i64 er]) rfl (by kernel_rfl) (by kernel_rfl) (by kernel_rfl) (fun _ _ _ h => h) (Or.inl ⟨by rfl, ?_⟩) hHeld ?_
    · intro W hSw
      go_simp
    simp only [Act.put, List.setIfInBounds_toArray]
    refine wpAnyH_take (i := 10) (v := .slice uo M.length uc) rfl (by kernel_rfl) (by kernel_rfl) (by kernel_rfl) (fun _ _ _ h => h) (Or.inl ⟨by rfl, ?_⟩) hHeld ?_
    · intro W hSw
      go_simp
    simp only [Act.put]
    refine wpAnyH_take (i := 11) (v := .int .i64 er) rfl (by kernel_rfl) (by kernel_rfl) (by kernel_rfl) (fun _ _ _ h => h) (Or.inl ⟨by rfl, ?_⟩) hHeld ?_
    · intro W hSw
      go_simp
    simp only [Act.put]
    refine wpAnyH_take (i := 12) (v := .slice uo M.length uc) rfl (by kernel_rfl) (by kernel_rfl) (by kernel_rfl) (fun _ _ _ h => h) (Or.inl ⟨by rfl, ?_⟩) hHeld ?_
    · intro W hSw
      go_simp
    simp only [Act.put]
    refine wpAnyH_take (i := 13) (v := .int .i64 er) rfl (by kernel_rfl) (by kernel_rfl) (by kernel_rfl) (fun _ _ _ h => h) (Or.inl ⟨by rfl, ?_⟩) hHeld ?_
    · intro W hSw
      go_simp
    simp only [Act.put]
    refine wpAnyH_done (by kernel_rfl) ?_ _
    have HF : Hid (∀ w', Below w3.heap.size w3 w' → ∃ v', Repl w' b site v' (L ++ M) ∧ Keeps (Foot b v) w w' ∧ Moved w v v') := by
      apply hide
      intro w' hb
      refine ⟨v', hR3.below hb, ?_, ?_⟩
      · exact ((Keeps.of_below (S := fun _ => False) (unhide HB2d) (fun k h1 h2 => by omega) |>.mono (fun _ _ h => h.elim)).trans hK3 (fun _ _ h => h)).trans (Keeps.of_below (S := fun _ => False) hb (fun k h1 h2 => by omega)) (fun _ _ h => h.elim)
      · rcases hM3 with h | ⟨q, h, hq⟩
        · exact .inl h
        · exact .inr ⟨q, h, by have := (unhide HB2d).size; omega⟩
    have HTB3 : Hid (Tab w3) := hide (unhide HTB _ ((Keeps.of_below (S := fun _ => False) (unhide HB2d) (fun k h1 h2 => by omega) |>.mono (fun _ _ h => h.elim)).trans hK3 (fun _ _ h => h)))
    have HRU := hide hru
    clear hou hR3 hK3 hM3 hru hs3 hHeld
    by_cases her : er = 0
    · subst her
      go_wp2_with fail
      refine (unhide HTX _ _ _ (by exact unhide HRU) (by exact unhide HTB3)).mono ?_
      rintro e w4 ⟨rfl, hb4⟩
      have HF4 := hide (unhide HF _ hb4)
      clear hb4
      go_wp2
      go_ret2
      exact ⟨rfl, unhide HF4⟩
    · have hE : (er != 0) = true := by rw [bne_iff_ne]; exact her
      have hM0 : M = [] := unhide HNO her
      have HF4 := hide (unhide HF _ (Below.refl _ _))
      subst hM0
      rw [List.append_nil] at HF4
      clear her
      go_wp2
      go_ret2
      exact ⟨rfl, unhide HF4⟩
end Go.Proofs.YtdcjimlhaklhfabGreatDoor
