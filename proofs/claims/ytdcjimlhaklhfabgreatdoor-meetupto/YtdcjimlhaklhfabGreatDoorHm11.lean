import Derived.Test.YtdcjimlhaklhfabGreatDoorHm3
import Derived.Test.YtdcjimlhaklhfabGreatDoorHm10
import Derived.Test.YtdcjimlhaklhfabGreatDoorHm7
import Derived.Test.YtdcjimlhaklhfabGreatDoorHm2
import Derived.Test.YtdcjimlhaklhfabGreatDoorHm1
import Derived.Laws.BytesArg
import Derived.Test.YtdcjimlhaklhfabGreatDoorHm4
import Derived.Test.YtdcjimlhaklhfabGreatDoorHm5
import Derived.Deep.RegionHeld3
import Derived.Deep.DrawnRows
import Derived.Deep.Cut
namespace Go.Proofs.YtdcjimlhaklhfabGreatDoor
open Go.RowKit
/-! The steps home that are still to come, as a list. -/
structure LeftInv (left : List St) (a g : Tr) : Prop where
  ids : (left.map (·.node.id)).Nodup
  mem : ∀ s, s ∈ left ↔ (1 ≤ s.node.id ∧ s.node.id ≤ 99 ∧ homeS a g s.node.id = some s)
theorem left_ok {left : List St} {a g : Tr} (h : LeftInv left a g) (hg : TrOk g) : ∀ s ∈ left, StOk s := by
  intro s hs
  obtain ⟨h1, h2, h3⟩ := (h.mem s).1 hs
  exact (home_ok hg h1 h2 h3).1
theorem left_len {left : List St} {a g : Tr} (h : LeftInv left a g) : left.length ≤ 99 := by
  have := pigeon (left.map (·.node.id)) ((List.range' 1 99).map (fun i : Nat => (i : Int))) h.ids (fun x hx => by
    obtain ⟨s, hs, rfl⟩ := List.mem_map.1 hx
    obtain ⟨h1, h2, _⟩ := (h.mem s).1 hs
    refine List.mem_map.2 ⟨s.node.id.toNat, ?_, ?_⟩
    · rw [List.mem_range'_1]; omega
    · show ((s.node.id.toNat : Nat) : Int) = s.node.id; omega)
  simpa using this
theorem flat_ids {f : Nd → List St} (hf : ∀ n, ∀ s ∈ f n, s.node.id = n.id) (hl : ∀ n, (f n).length ≤ 1) : ∀ (l : List Nd), (l.map (·.id)).Nodup → ((l.flatMap f).map (·.node.id)).Nodup ∧ ∀ s ∈ l.flatMap f, ∃ n ∈ l, s ∈ f n := by
  intro l
  induction l with
  | nil => intro _; simp
  | cons n l ih =>
    intro h
    rw [List.map_cons, List.nodup_cons] at h
    obtain ⟨h1, h2⟩ := ih h.2
    refine ⟨?_, fun s hs => ?_⟩
    · rw [List.flatMap_cons, List.map_append, List.nodup_append]
      refine ⟨?_, h1, fun x hx y hy e => ?_⟩
      · have := hl n
        match hq : f n with
        | [] => simp
        | [s] => simp
        | s :: t :: r => rw [hq] at this; simp at this
      · obtain ⟨s, hs, rfl⟩ := List.mem_map.1 hx
        obtain ⟨t, ht, rfl⟩ := List.mem_map.1 hy
        obtain ⟨m, hm, htm⟩ := h2 t ht
        rw [hf n s hs, hf m t htm] at e
        exact h.1 (List.mem_map.2 ⟨m, hm, e.symm⟩)
    · rw [List.flatMap_cons] at hs
      rcases List.mem_append.1 hs with hs | hs
      · exact ⟨n, by simp, hs⟩
      · obtain ⟨m, hm, hsm⟩ := h2 s hs; exact ⟨m, by simp [hm], hsm⟩
theorem homeB_id (a : List Nd) (n : Nd) : ∀ s ∈ homeB a n, s.node.id = n.id := by
  intro s hs
  unfold homeB at hs
  split at hs
  · simp at hs; rw [hs]
  · split at hs
    · simp at hs
    · simp at hs; rw [hs]
theorem homeA_id (b : List Nd) (n : Nd) : ∀ s ∈ homeA b n, s.node.id = n.id := by
  intro s hs
  unfold homeA at hs
  split at hs
  · simp at hs; rw [hs]
  · simp at hs
theorem left_start {na nb : List Nd} {a g : Tr} (ra : Rep na a) (rg : Rep nb g) (ha : TrOk a) (hg : TrOk g) : LeftInv (homesR na nb) a g := by
  obtain ⟨b1, b2⟩ := flat_ids (homeB_id na) (homeB_len na) nb rg.ids
  obtain ⟨a1, a2⟩ := flat_ids (homeA_id nb) (homeA_len nb) na ra.ids
  have hmB : ∀ n, n ∈ nb → ∀ s, s ∈ homeB na n ↔ (s.kind ≠ 45 ∧ homeS a g n.id = some s) := by
    intro n hn s
    obtain ⟨i, hi⟩ := (rep_mem rg hg).1 hn
    have hid := hg.2 i n hi
    have hgn : g n.id.toNat = some n := by rw [show n.id.toNat = i by omega]; exact hi
    unfold homeB
    rw [rep_look ra ha]
    cases hq : a n.id.toNat with
    | none =>
      rw [home_new hq hgn]
      simp only [List.mem_singleton, Option.some.injEq]
      constructor
      · rintro rfl; exact ⟨by show (43 : UInt8) ≠ 45; decide, rfl⟩
      · rintro ⟨_, rfl⟩; rfl
    | some m =>
      simp only
      cases he : ndEq m n
      · rw [home_move hq hgn (fun e => by rw [ndEq_iff.2 e] at he; cases he), if_neg (by simp)]
        simp only [List.mem_singleton, Option.some.injEq]
        constructor
        · rintro rfl; exact ⟨by show (61 : UInt8) ≠ 45; decide, rfl⟩
        · rintro ⟨_, rfl⟩; rfl
      · rw [if_pos rfl, home_none.2 (by rw [hq, hgn, ndEq_iff.1 he])]
        simp
  have hmA : ∀ n, n ∈ na → ∀ s, s ∈ homeA nb n ↔ (s.kind = 45 ∧ homeS a g n.id = some s) := by
    intro n hn s
    obtain ⟨i, hi⟩ := (rep_mem ra ha).1 hn
    have hid := ha.2 i n hi
    have han : a n.id.toNat = some n := by rw [show n.id.toNat = i by omega]; exact hi
    unfold homeA
    rw [rep_look rg hg]
    cases hq : g n.id.toNat with
    | none =>
      rw [home_del han hq]
      simp only [List.mem_singleton, Option.some.injEq]
      constructor
      · rintro rfl; exact ⟨rfl, rfl⟩
      · rintro ⟨_, rfl⟩; rfl
    | some m =>
      simp only [List.not_mem_nil, false_iff]
      rintro ⟨hk, hs⟩
      rcases home_cases hs with ⟨_, h0, _⟩ | ⟨k, rfl, _⟩ | ⟨k, _, rfl, _⟩
      · rw [hq] at h0; cases h0
      · exact absurd hk (by show ¬ ((43 : UInt8) = 45); decide)
      · exact absurd hk (by show ¬ ((61 : UInt8) = 45); decide)
  refine ⟨?_, fun s => ?_⟩
  · unfold homesR
    rw [List.map_append, List.nodup_append]
    refine ⟨b1, a1, fun x hx y hy e => ?_⟩
    obtain ⟨s, hs, rfl⟩ := List.mem_map.1 hx
    obtain ⟨t, ht, rfl⟩ := List.mem_map.1 hy
    obtain ⟨n, hn, hsn⟩ := b2 s hs
    obtain ⟨m, hm, htm⟩ := a2 t ht
    have e1 := homeB_id na n s hsn
    have e2 := homeA_id nb m t htm
    obtain ⟨k1, k2⟩ := (hmB n hn s).1 hsn
    obtain ⟨k3, k4⟩ := (hmA m hm t).1 htm
    rw [show m.id = n.id by rw [← e1, ← e2, e], k2] at k4
    cases k4
    exact k1 k3
  · unfold homesR
    rw [List.mem_append]
    constructor
    · rintro (hs | hs)
      · obtain ⟨n, hn, hsn⟩ := b2 s hs
        have e1 := homeB_id na n s hsn
        have hb := rg.ok n hn
        rw [e1]
        exact ⟨hb.1, hb.2.1, ((hmB n hn s).1 hsn).2⟩
      · obtain ⟨n, hn, hsn⟩ := a2 s hs
        have e1 := homeA_id nb n s hsn
        have hb := ra.ok n hn
        rw [e1]
        exact ⟨hb.1, hb.2.1, ((hmA n hn s).1 hsn).2⟩
    · rintro ⟨h1, h2, h3⟩
      rcases home_cases h3 with ⟨e, hgn, m, hm⟩ | ⟨n, e, hgn, han⟩ | ⟨n, m, e, hgn, hm, _⟩
      · right
        have hmem : m ∈ na := (rep_mem ra ha).2 ⟨_, hm⟩
        have hid := (trOk_id ha (by omega) hm).1
        refine List.mem_flatMap.2 ⟨m, hmem, (hmA m hmem s).2 ⟨by rw [e], by rw [hid]; exact h3⟩⟩
      · left
        have hmem : n ∈ nb := (rep_mem rg hg).2 ⟨_, hgn⟩
        have hid := (trOk_id hg (by omega) hgn).1
        refine List.mem_flatMap.2 ⟨n, hmem, (hmB n hmem s).2 ⟨by rw [e]; show (43 : UInt8) ≠ 45; decide, by rw [hid]; exact h3⟩⟩
      · left
        have hmem : n ∈ nb := (rep_mem rg hg).2 ⟨_, hgn⟩
        have hid := (trOk_id hg (by omega) hgn).1
        refine List.mem_flatMap.2 ⟨n, hmem, (hmB n hmem s).2 ⟨by rw [e]; show (61 : UInt8) ≠ 45; decide, by rw [hid]; exact h3⟩⟩
theorem left_erase {left : List St} {a g : Tr} (h : LeftInv left a g) (hg : TrOk g) {k : Nat} (hk : k < left.length) (he : stepE a left[k] = 0) : LeftInv (left.eraseIdx k) (stepT a left[k]) g := by
  have hm : left[k] ∈ left := List.getElem_mem hk
  obtain ⟨h1, h2, h3⟩ := (h.mem _).1 hm
  have hd := home_done hg h1 h3 he
  have hids : ∀ i (hi : i < left.length), i ≠ k → (left[i]).node.id ≠ (left[k]).node.id := by
    intro i hi hne e
    have := (List.nodup_iff_pairwise_ne.1 h.ids)
    rw [List.pairwise_map] at this
    rcases Nat.lt_or_gt_of_ne hne with hlt | hlt
    · exact List.pairwise_iff_getElem.1 this i k hi hk hlt e
    · exact List.pairwise_iff_getElem.1 this k i hk hi hlt e.symm
  refine ⟨List.Nodup.sublist (List.Sublist.map _ (List.eraseIdx_sublist _ _)) h.ids, fun s => ?_⟩
  rw [List.mem_eraseIdx_iff_getElem]
  constructor
  · rintro ⟨i, hi, hne, rfl⟩
    obtain ⟨j1, j2, j3⟩ := (h.mem _).1 (List.getElem_mem hi)
    refine ⟨j1, j2, ?_⟩
    rw [← j3]
    refine home_congr ?_
    rw [hd, if_neg (by have := hids i hi hne; omega)]
  · rintro ⟨j1, j2, j3⟩
    have hne : s.node.id ≠ (left[k]).node.id := by
      intro e
      rw [e] at j3
      have : homeS (stepT a left[k]) g (left[k]).node.id = none := home_none.2 (by rw [hd, if_pos (by omega)])
      rw [this] at j3; cases j3
    have hs : s ∈ left := (h.mem s).2 ⟨j1, j2, by rw [← j3]; refine home_congr ?_; rw [hd, if_neg (by omega)]⟩
    obtain ⟨i, hi, e⟩ := List.mem_iff_getElem.1 hs
    refine ⟨i, hi, fun e2 => ?_, e⟩
    subst e2; rw [e] at hne; exact hne rfl
theorem left_park {left : List St} {a g : Tr} (h : LeftInv left a g) {id : Int} (h1 : 1 ≤ id) {n : Nd} (hs : homeS a g id = some ⟨61, n⟩) (he : stepE a (parkS id) = 0) (hnp : parkS id ∉ left) (h2 : id ≤ 99) (hg : TrOk g) : LeftInv left (stepT a (parkS id)) g := by
  have hd := park_done he
  have hn : g id.toNat = some n := by
    rcases home_cases hs with ⟨e, _⟩ | ⟨_, e, _⟩ | ⟨k, m, e, hk, _⟩
    · cases e
    · cases e
    · cases e; exact hk
  have hid := (trOk_id hg (by omega) hn).1
  have hne : parkN id ≠ n := by
    intro e
    apply hnp
    refine (h.mem _).2 ⟨h1, h2, ?_⟩
    show homeS a g id = some ⟨61, parkN id⟩
    rw [e]; exact hs
  have hsame : ∀ j, 1 ≤ j → homeS (stepT a (parkS id)) g j = homeS a g j := by
    intro j hj
    by_cases e : j = id
    · subst e
      rw [hs]
      exact home_move (m := parkN j) (by rw [hd, if_pos (by omega)]) hn hne
    · refine home_congr ?_
      rw [hd, if_neg (by omega)]
  refine ⟨h.ids, fun s => ?_⟩
  rw [h.mem s]
  constructor
  · rintro ⟨j1, j2, j3⟩; exact ⟨j1, j2, by rw [hsame _ j1]; exact j3⟩
  · rintro ⟨j1, j2, j3⟩; exact ⟨j1, j2, by rw [← hsame _ j1]; exact j3⟩
theorem left_end {left : List St} {g : Tr} (h : LeftInv left g g) : left = [] := by
  cases left with
  | nil => rfl
  | cons s l =>
    obtain ⟨_, _, h3⟩ := (h.mem s).1 (by simp)
    rw [home_none.2 rfl] at h3; cases h3
/-- A park is never a step home where nothing can be done. -/
theorem park_not_left {left : List St} {a g : Tr} (h : LeftInv left a g) (hst : Stuck a g) {id : Int} (he : stepE a (parkS id) = 0) : parkS id ∉ left := by
  intro hm
  obtain ⟨h1, h2, h3⟩ := (h.mem _).1 hm
  exact hst _ _ h1 h2 h3 he
end Go.Proofs.YtdcjimlhaklhfabGreatDoor

namespace Go.Proofs.YtdcjimlhaklhfabGreatDoor
open Go.RowKit
/-! How many steps of each kind. -/
def isK (k : UInt8) (s : St) : Bool := s.kind == k
def cntK (k : UInt8) (l : List St) : Nat := l.countP (isK k)
def isParkB (s : St) : Bool := s.kind == 61 && ndEq s.node (parkN s.node.id)
def parkCnt (l : List St) : Nat := l.countP isParkB
theorem count_erase (p : St → Bool) : ∀ (l : List St) (k : Nat) (hk : k < l.length), l.countP p = (l.eraseIdx k).countP p + (if p l[k] then 1 else 0) := by
  intro l
  induction l with
  | nil => intro k hk; simp at hk
  | cons s l ih =>
    intro k hk
    cases k with
    | zero => simp [List.countP_cons]
    | succ k =>
      have := ih k (by simpa using hk)
      simp only [List.eraseIdx_cons_succ, List.countP_cons, List.getElem_cons_succ]
      omega
theorem sum_erase (f : St → Nat) : ∀ (l : List St) (k : Nat) (hk : k < l.length), (l.map f).sum = ((l.eraseIdx k).map f).sum + f l[k] := by
  intro l
  induction l with
  | nil => intro k hk; simp at hk
  | cons s l ih =>
    intro k hk
    cases k with
    | zero => simp [Nat.add_comm]
    | succ k =>
      have := ih k (by simpa using hk)
      simp only [List.eraseIdx_cons_succ, List.map_cons, List.sum_cons, List.getElem_cons_succ]
      omega
def wtv (t : Tr) (s : St) : Nat := if s.kind == 61 then (if parkedB t s.node.id.toNat then 1 else 2) else 0
def mvW (t : Tr) (l : List St) : Nat := (l.map (wtv t)).sum
theorem mvW_le (t : Tr) : ∀ l : List St, mvW t l ≤ 2 * cntK 61 l := by
  intro l
  induction l with
  | nil => simp [mvW, cntK]
  | cons s l ih =>
    unfold mvW cntK at ih ⊢
    rw [List.map_cons, List.sum_cons, List.countP_cons]
    have hw : wtv t s = if isK 61 s then (if parkedB t s.node.id.toNat then 1 else 2) else 0 := rfl
    have hw2 : wtv t s ≤ 2 * (if isK 61 s then 1 else 0) := by
      rw [hw]
      cases isK 61 s
      · simp
      · simp only [if_true]; split <;> omega
    omega
theorem sumS_le {f h : St → Nat} : ∀ (l : List St), (∀ s ∈ l, f s ≤ h s) → (l.map f).sum ≤ (l.map h).sum := by
  intro l
  induction l with
  | nil => simp
  | cons x l ih =>
    intro hh
    have h1 := hh x (by simp)
    have h2 := ih (fun s hs => hh s (by simp [hs]))
    simp only [List.map_cons, List.sum_cons]; omega
theorem sumS_lt {f h : St → Nat} : ∀ (l : List St) (k : St), k ∈ l → (∀ s ∈ l, f s ≤ h s) → f k < h k → (l.map f).sum < (l.map h).sum := by
  intro l
  induction l with
  | nil => intro k hk; simp at hk
  | cons x l ih =>
    intro k hk hh hlt
    have h1 := hh x (by simp)
    have h2 := sumS_le l (fun s hs => hh s (by simp [hs]))
    simp only [List.map_cons, List.sum_cons]
    rcases List.mem_cons.1 hk with rfl | hk
    · omega
    · have := ih k hk (fun s hs => hh s (by simp [hs])) hlt; omega
theorem parkedB_congr {a b : Tr} {i : Nat} (h : a i = b i) : parkedB a i = parkedB b i := by unfold parkedB; rw [h]
theorem seg_counts {g : Tr} (hg : TrOk g) {t b : Tr} {ss : List St} (h : Seg g t ss b) : b = g → ∀ left, LeftInv left t g →
    cntK 43 ss = cntK 43 left ∧ cntK 45 ss = cntK 45 left ∧ cntK 61 left ≤ cntK 61 ss ∧ cntK 61 ss ≤ cntK 61 left + parkCnt ss ∧ cntK 61 ss ≤ mvW t left := by
  induction h with
  | nil t =>
    intro hb left hl
    subst hb
    rw [left_end hl]
    simp [cntK, mvW]
  | @home t b i s ss h1 h2 hs he _ ih =>
    intro hb left hl
    have hoi := (home_ok hg h1 h2 hs).2
    have hm : s ∈ left := (hl.mem s).2 ⟨by rw [hoi]; exact h1, by rw [hoi]; exact h2, by rw [hoi]; exact hs⟩
    obtain ⟨k, hk, e⟩ := List.mem_iff_getElem.1 hm
    have hl2 := left_erase hl hg hk (by rw [e]; exact he)
    rw [e] at hl2
    obtain ⟨i1, i2, i3, i4, i5⟩ := ih hb (left.eraseIdx k) hl2
    have c1 := count_erase (isK 43) left k hk
    have c2 := count_erase (isK 45) left k hk
    have c3 := count_erase (isK 61) left k hk
    have c4 := sum_erase (wtv t) left k hk
    rw [e] at c1 c2 c3 c4
    have hd := home_done hg h1 hs he
    have c5 : mvW (stepT t s) (left.eraseIdx k) = mvW t (left.eraseIdx k) := by
      unfold mvW
      congr 1
      refine List.map_congr_left (fun o ho => ?_)
      have hne : o.node.id ≠ i := by
        intro e2
        obtain ⟨o1, o2, o3⟩ := (hl2.mem o).1 ho
        rw [home_none.2 (by rw [hd, if_pos (by omega)])] at o3; cases o3
      have ho1 := ((hl2.mem o).1 ho).1
      unfold wtv
      rw [parkedB_congr (show stepT t s o.node.id.toNat = t o.node.id.toNat by rw [hd, if_neg (by omega)])]
    rw [c5] at i5
    unfold cntK parkCnt mvW at *
    simp only [List.countP_cons]
    have hw : wtv t s = if isK 61 s then (if parkedB t s.node.id.toNat then 1 else 2) else 0 := rfl
    rw [hw] at c4
    refine ⟨by omega, by omega, by omega, by omega, ?_⟩
    cases hq : isK 61 s
    · rw [hq] at c4 c3; simp at c4 c3 ⊢; omega
    · rw [hq] at c4 c3
      simp only [if_true] at c4 c3 ⊢
      split at c4 <;> omega
  | @park t b i n ss h1 h2 hno hs hp he _ ih =>
    intro hb left hl
    have hnl := park_not_left hl hno he
    have hl2 := left_park hl h1 hs he hnl h2 hg
    obtain ⟨i1, i2, i3, i4, i5⟩ := ih hb left hl2
    have hoi := (home_ok hg h1 h2 hs).2
    have hm : (⟨61, n⟩ : St) ∈ left := (hl.mem _).2 ⟨by rw [hoi]; exact h1, by rw [hoi]; exact h2, by rw [hoi]; exact hs⟩
    have hd := park_done he
    have hlt : mvW (stepT t (parkS i)) left < mvW t left := by
      refine sumS_lt left ⟨61, n⟩ hm (fun o ho => ?_) ?_
      · obtain ⟨o1, _⟩ := (hl.mem o).1 ho
        unfold wtv
        split
        · by_cases e2 : o.node.id = i
          · have : parkedB (stepT t (parkS i)) o.node.id.toNat = true := parkedB_iff.2 (by rw [hd, if_pos (by omega), e2]; congr 2; omega)
            rw [this]; simp; split <;> omega
          · rw [parkedB_congr (show stepT t (parkS i) o.node.id.toNat = t o.node.id.toNat by rw [hd, if_neg (by omega)])]; omega
        · omega
      · have e3 : n.id = i := hoi
        have q1 : parkedB (stepT t (parkS i)) n.id.toNat = true := parkedB_iff.2 (by rw [hd, if_pos (by omega), e3]; congr 2; omega)
        have q2 : parkedB t n.id.toNat = false := by
          cases hq : parkedB t n.id.toNat
          · rfl
          · have := parkedB_iff.1 hq
            rw [e3, Int.toNat_of_nonneg (by omega)] at this
            exact absurd this hp
        show (if (61 : UInt8) == 61 then (if parkedB (stepT t (parkS i)) n.id.toNat then 1 else 2) else 0) < (if (61 : UInt8) == 61 then (if parkedB t n.id.toNat then 1 else 2) else 0)
        rw [q1, q2]; decide
    have k1 : isK 43 (parkS i) = false := rfl
    have k2 : isK 45 (parkS i) = false := rfl
    have k3 : isK 61 (parkS i) = true := rfl
    have k4 : isParkB (parkS i) = true := by
      show ((61 : UInt8) == 61 && ndEq (parkN i) (parkN i)) = true
      rw [ndEq_iff.2 rfl]; rfl
    unfold cntK parkCnt at *
    simp only [List.countP_cons, k1, k2, k3, k4, if_true]
    refine ⟨by simpa using i1, by simpa using i2, by omega, by omega, by omega⟩
theorem make_counts {na nb : List Nd} {a g : Tr} (ra : Rep na a) (rg : Rep nb g) (hva : Valid a) (hvg : Valid g) :
    cntK 43 (makeT a g) = cntK 43 (homesR na nb) ∧ cntK 45 (makeT a g) = cntK 45 (homesR na nb) ∧ cntK 61 (homesR na nb) ≤ cntK 61 (makeT a g) ∧ cntK 61 (makeT a g) ≤ cntK 61 (homesR na nb) + parkCnt (makeT a g) ∧ cntK 61 (makeT a g) ≤ 2 * cntK 61 (homesR na nb) := by
  obtain ⟨h1, h2, h3, h4, h5⟩ := seg_counts hvg.ok (makeT_seg hva hvg) rfl _ (left_start ra rg hva.ok hvg.ok)
  exact ⟨h1, h2, h3, h4, Nat.le_trans h5 (mvW_le _ _)⟩
/-! The document's own counts: over the nodes of the two trees. -/
def newIs (na : List Nd) (n : Nd) : Bool := (lookR na n.id).isNone
def othIs (na : List Nd) (n : Nd) : Bool := match lookR na n.id with
  | none => false
  | some m => !ndEq m n
theorem cnt_flat (k : UInt8) (f : Nd → List St) (p : Nd → Bool) (h : ∀ n, cntK k (f n) = if p n then 1 else 0) : ∀ l : List Nd, cntK k (l.flatMap f) = l.countP p := by
  intro l
  induction l with
  | nil => rfl
  | cons n l ih =>
    unfold cntK at *
    rw [List.flatMap_cons, List.countP_append, List.countP_cons, ih, h n]; omega
theorem homes_new (na nb : List Nd) : cntK 43 (homesR na nb) = nb.countP (newIs na) := by
  have e1 : cntK 43 (nb.flatMap (homeB na)) = nb.countP (newIs na) := cnt_flat 43 _ _ (fun n => by
    unfold homeB newIs cntK
    cases lookR na n.id with
    | none => simp [isK]
    | some m => simp only; split <;> simp [isK]) nb
  have e2 : cntK 43 (na.flatMap (homeA nb)) = na.countP (fun _ => false) := cnt_flat 43 _ _ (fun n => by
    unfold homeA cntK
    cases lookR nb n.id <;> simp [isK]) na
  unfold homesR cntK at *
  rw [List.countP_append, e1, e2]; simp
theorem homes_oth (na nb : List Nd) : cntK 61 (homesR na nb) = nb.countP (othIs na) := by
  have e1 : cntK 61 (nb.flatMap (homeB na)) = nb.countP (othIs na) := cnt_flat 61 _ _ (fun n => by
    unfold homeB othIs cntK
    cases lookR na n.id with
    | none => simp [isK]
    | some m =>
      simp only
      by_cases hq : ndEq m n = true
      · rw [if_pos hq, if_neg (by simp [hq])]; rfl
      · rw [if_neg hq, if_pos (by simpa using hq)]; rfl) nb
  have e2 : cntK 61 (na.flatMap (homeA nb)) = na.countP (fun _ => false) := cnt_flat 61 _ _ (fun n => by
    unfold homeA cntK
    cases lookR nb n.id <;> simp [isK]) na
  unfold homesR cntK at *
  rw [List.countP_append, e1, e2]; simp
theorem homes_del (na nb : List Nd) : cntK 45 (homesR na nb) = na.countP (newIs nb) := by
  have e1 : cntK 45 (nb.flatMap (homeB na)) = nb.countP (fun _ => false) := cnt_flat 45 _ _ (fun n => by
    unfold homeB cntK
    cases lookR na n.id with
    | none => simp [isK]
    | some m => simp only; split <;> simp [isK]) nb
  have e2 : cntK 45 (na.flatMap (homeA nb)) = na.countP (newIs nb) := cnt_flat 45 _ _ (fun n => by
    unfold homeA newIs cntK
    cases lookR nb n.id <;> simp [isK]) na
  unfold homesR cntK at *
  rw [List.countP_append, e1, e2]; simp
theorem count_not (p : Nd → Bool) : ∀ l : List Nd, l.countP p + (l.filter (fun n => !p n)).length = l.length := by
  intro l
  induction l with
  | nil => rfl
  | cons n l ih =>
    rw [List.countP_cons, List.filter_cons, List.length_cons]
    cases p n <;> simp <;> omega
theorem both_le {na nb : List Nd} (ha : (na.map (·.id)).Nodup) : (na.filter (fun n => !newIs nb n)).length ≤ (nb.filter (fun n => !newIs na n)).length := by
  have := pigeon ((na.filter (fun n => !newIs nb n)).map (·.id)) ((nb.filter (fun n => !newIs na n)).map (·.id)) (List.Nodup.sublist (List.Sublist.map _ List.filter_sublist) ha) (fun x hx => by
    obtain ⟨n, hn, rfl⟩ := List.mem_map.1 hx
    rw [List.mem_filter] at hn
    unfold newIs at hn
    cases hq : lookR nb n.id with
    | none => rw [hq] at hn; simp at hn
    | some m =>
      obtain ⟨m1, m2⟩ := lookR_mem hq
      refine List.mem_map.2 ⟨m, List.mem_filter.2 ⟨m1, ?_⟩, m2⟩
      unfold newIs
      cases hq2 : lookR na m.id with
      | none => exact absurd m2.symm (lookR_no hq2 n hn.1)
      | some _ => rfl)
  simpa using this
/-- Deletions: by the two trees' lengths. -/
theorem homes_del_len {na nb : List Nd} {a g : Tr} (ra : Rep na a) (rg : Rep nb g) : cntK 45 (homesR na nb) + nb.length = na.length + cntK 43 (homesR na nb) := by
  rw [homes_del, homes_new]
  have h1 := count_not (newIs nb) na
  have h2 := count_not (newIs na) nb
  have h3 := both_le (nb := nb) ra.ids
  have h4 := both_le (nb := na) rg.ids
  omega
end Go.Proofs.YtdcjimlhaklhfabGreatDoor

namespace Go.Proofs.YtdcjimlhaklhfabGreatDoor
open Go.RowKit
theorem kN_step {s : St} (_hs : StOk s) (k : UInt8) : kN k (stText s) = if isK k s then 1 else 0 := by
  have hh : (stText s).head? = some s.kind := by
    unfold stText
    by_cases h : s.kind = 45
    · rw [if_pos h, h]; rfl
    · rw [if_neg h]; rfl
  unfold kN isK
  rw [hh]
  by_cases h : s.kind = k
  · rw [if_pos (by rw [h]), if_pos (by simpa using h)]
  · rw [if_neg (by simpa using h), if_neg (by simpa using h)]
theorem hit_mid (pre post : Str) : hitB (pre ++ ([32, 48, 32, 116, 126] ++ post)) pre.length = true := by
  unfold hitB
  have : ((pre ++ ([32, 48, 32, 116, 126] ++ post)).take (pre.length + 5)).drop pre.length = [32, 48, 32, 116, 126] := by
    rw [List.take_length_add_append, List.drop_left]; rfl
  rw [this]; rfl
theorem park_text {s : St} (h : isParkB s = true) : PkText (stText s) := by
  unfold isParkB at h
  rw [Bool.and_eq_true, beq_iff_eq, ndEq_iff] at h
  obtain ⟨hk, hn⟩ := h
  have e : stText s = (61 :: digs s.node.id) ++ ([32, 48, 32, 116, 126] ++ (digs s.node.id ++ [59])) := by
    unfold stText
    rw [if_neg (by rw [hk]; decide), hk]
    have e2 : nodeText s.node = digs s.node.id ++ [32] ++ digs 0 ++ [32] ++ (116 :: 126 :: digs s.node.id) ++ [59] := by
      conv => lhs; rw [hn]
      rfl
    rw [e2]
    have e3 : digs 0 = [48] := rfl
    rw [e3]; simp
  refine ⟨by rw [e]; rfl, (61 :: digs s.node.id).length, ?_, ?_⟩
  · rw [e, List.length_append, List.length_append]; simp
  · rw [e]; exact hit_mid _ _
theorem cnt_take (p : St → Bool) (ss : List St) (k : Nat) (hk : k < ss.length) : (ss.take (k + 1)).countP p = (ss.take k).countP p + (if p ss[k] then 1 else 0) := by
  rw [List.take_succ_eq_append_getElem hk, List.countP_append]; simp [List.countP_cons]
theorem row_kept {w w' : World} {ao : Option Addr} {n size : Nat} {xs : List Value} {b : Nat} (h : Row w ao n size xs) (hg : w.grownBy w' (some b)) (hne : 0 < n → ∀ g, ao = some ⟨g, 0, none⟩ → g ≠ b) : Row w' ao n size xs := by
  refine ⟨h.1, fun hn => ?_⟩
  obtain ⟨g, h1, h2, h3⟩ := h.2 hn
  refine ⟨g, h1, by have := hg.size; omega, fun j u hu => ?_⟩
  rw [World.cell?_of_block (a := ⟨g, j, none⟩) (hg.block g h2 (fun e => hne hn g h1 (by cases e; rfl)))]
  exact h3 j u hu
theorem row_apart {w : World} {ao : Option Addr} {rs : List Str} {b c m d a : Nat} (hr : Row w ao rs.length 1 (rs.map strV)) (hT : TallyAt w b c m d a) : 0 < rs.length → ∀ g, ao = some ⟨g, 0, none⟩ → g ≠ b := by
  intro hn g hao e
  obtain ⟨g', h1, _, h3⟩ := hr.2 hn
  rw [hao] at h1
  cases h1
  have hc := h3 0 (strV rs[0]) (by simp [hn])
  rw [e, hT.cells.1] at hc
  cases hc
theorem cntK_le (k : UInt8) (l : List St) : cntK k l ≤ l.length := List.countP_le_length
end Go.Proofs.YtdcjimlhaklhfabGreatDoor

namespace Go.Proofs.YtdcjimlhaklhfabGreatDoor
open Go.RowKit
theorem compileE_valid {a g : Tr} (ha : Valid a) (hg : Valid g) : compileE (textT a) (textT g) = 0 := by
  have h1 := (check_text ha).1
  have h2 := (check_text hg).1
  have l1 := textTo_len ha.ok 99
  have l2 := textTo_len hg.ok 99
  unfold compileE textT at *
  rw [if_neg (by omega), h1, h2]; rfl
theorem compileT_valid {a g : Tr} (ha : Valid a) (hg : Valid g) : compileT (textT a) (textT g) = scriptText (makeT a g) := by
  unfold compileT
  rw [if_pos (compileE_valid ha hg), (check_text ha).2, (check_text hg).2]
theorem compile_tree {a : Tr} (ha : Valid a) {s : Str} (h : (checkT s).1 = 0) : compileT (textT a) s = scriptText (makeT a (gather (readNodes (cut s)))) := by
  have hg := valid_of_check h
  have e := compileT_valid ha hg
  rwa [text_check h] at e
end Go.Proofs.YtdcjimlhaklhfabGreatDoor

namespace Go.Proofs.YtdcjimlhaklhfabGreatDoor
open Go.RowKit
theorem conv_one (W : World) (x : Int) : (convert 159 9 (.slice (some ⟨W.heap.size, 0, none⟩) 1 1)).run Tryz.prog (W.alloc (.cells #[.int .u8 x] 5)) = .ok (.string (bs [UInt8.ofNat x.toNat])) (W.alloc (.cells #[.int .u8 x] 5)) := by
  have := run_convert_bytes_arg (P := Tryz.prog) (W.alloc (.cells #[.int .u8 x] 5)) 159 5 Tryz.underlying159 Tryz.underlying5 W.heap.size 0 1 1 [x] rfl (fun i hi => by
    have hi0 : i = 0 := by omega
    subst hi0
    have := news_one (w := W) (.int .u8 x) 5 0 _ rfl
    exact this) 9 Tryz.underlying9
  exact this
theorem sl_append' (a b : ByteArray) : sl (a ++ b) = sl a ++ sl b := by simp [sl, ByteArray.data_append]
theorem bs_append (a b : Str) : bs a ++ bs b = bs (a ++ b) := by
  have h := sl_append' (bs a) (bs b)
  rw [sl_bs, sl_bs] at h
  rw [← bs_sl (bs a ++ bs b), h]
theorem add_one (S : Str) (h : S.length ≤ 1000000) (W : World) (c : UInt8) : (Op.stringOp .add (bs [c]) (bs S)).run Tryz.prog W = .ok (.string (bs (c :: S))) W := by
  rw [run_string_add_sum (P := Tryz.prog) W _ _ (by rw [bs_size, bs_size]; simp; omega), bs_append]; rfl
def DigInv (n m : Nat) (S : Str) : Prop := ∃ t, S = UInt8.ofNat (48 + m % 10) :: t ∧ dec n = dec m ++ t ∧ t.length + m ≤ n
theorem digInv_step {n m : Nat} {S : Str} (h : DigInv n m S) (hm : 10 ≤ m) : DigInv n (m / 10) (UInt8.ofNat (48 + m / 10 % 10) :: S) := by
  obtain ⟨t, h1, h2, h3⟩ := h
  refine ⟨S, rfl, ?_, ?_⟩
  · rw [h2, dec_big (by omega), h1]; simp
  · rw [h1]; simp; omega
theorem digInv_end {n m : Nat} {S : Str} (h : DigInv n m S) (hm : ¬ 10 ≤ m) : dec n = S := by
  obtain ⟨t, h1, h2, h3⟩ := h
  rw [h2, dec_small (by omega), h1]; rfl
theorem digInv_len {n m : Nat} {S : Str} (h : DigInv n m S) : S.length ≤ n + 1 := by
  obtain ⟨t, h1, h2, h3⟩ := h
  rw [h1]; simp; omega
set_option maxHeartbeats 1000000 in
theorem digits_nat (n : Nat) (w : World) (hn : n ≤ 99999) :
    Calls Tryz.prog 55 #[.int .i64 n] w fun e w' => e = .returned (.string (bs (dec n))) ∧ Below w.heap.size w w' := by
  have hconv := conv_one
  have hm0 : (0 : Int) ≤ (n : Int) % 10 := by omega
  have hm1 : (n : Int) % 10 ≤ 9 := by omega
  go_enter Tryz.func55, Tryz.ntmps55
  go_wp2
  go_loopw [0, 3] (fun a b wr => ∃ m : Nat, ∃ S : Str, m ≤ n ∧ a = .int .i64 m ∧ b = .string (bs S) ∧ Below w.heap.size w wr ∧ Hid (DigInv n m S)) (fun a _ _ => (intOf a).toNat)
  case atStart => exact ⟨n, _, Nat.le_refl _, rfl, rfl, (Below.refl _ _).alloc (Nat.le_refl _) _, hide ⟨[], rfl, by simp, by simp⟩⟩
  case round =>
    obtain ⟨m, S, hm, rfl, rfl, hbel, HI⟩ := hrel
    clear hm0 hm1
    by_cases hge : 10 ≤ m
    · have hadd := add_one S (by have := digInv_len (unhide HI); omega)
      have HI2 := hide (digInv_step (unhide HI) hge)
      have hq0 : (0 : Int) ≤ (m : Int) / 10 % 10 := by omega
      have hq1 : (m : Int) / 10 % 10 ≤ 9 := by omega
      have hsz := hbel.size
      go_wp2
      go_roundw
      case rel => exact ⟨m / 10, _, by omega, by go_num, rfl, hbel.alloc hsz _, by rw [show ((48 : UInt8) + UInt8.ofNat (m / 10 % 10)) = UInt8.ofNat (48 + m / 10 % 10) by simp]; exact HI2⟩
      case measure => simp [intOf]; omega
    · have HE := hide (digInv_end (unhide HI) hge)
      go_wp2
      go_ret
      exact ⟨ret_str (by rw [unhide HE]), hbel⟩
theorem digits_any (n : Int) (w : World) (h0 : 0 ≤ n) (h1 : n ≤ 99999) :
    Calls Tryz.prog 55 #[.int .i64 n] w fun e w' => e = .returned (.string (bs (dec n.toNat))) ∧ Below w.heap.size w w' := by
  obtain ⟨m, rfl⟩ := Int.eq_ofNat_of_zero_le h0
  exact digits_nat m w (by omega)
end Go.Proofs.YtdcjimlhaklhfabGreatDoor

namespace Go.Proofs.YtdcjimlhaklhfabGreatDoor
open Go.RowKit
set_option maxHeartbeats 1000000 in
theorem find_any (ns : List Nd) (id : Int) (ao : Option Addr) (cap : Nat) (w : World) (hrow : Row w ao ns.length 3 (ndCells ns)) (hl : ns.length ≤ 4000) :
    Calls Tryz.prog 52 #[.slice ao ns.length cap, .int .i64 id] w fun e w' => e = .returned (.int .i64 (findR ns id)) ∧ w' = w := by
  have HROW := hide hrow; clear hrow
  have HB := hide (Below.refl w.heap.size w)
  go_enter Tryz.func52, Tryz.ntmps52
  go_wp2
  go_loop [5] (fun i => ∃ k : Nat, k ≤ ns.length ∧ i = .int .i64 k ∧ Hid (NoIn (idIs ns id) 0 k)) (fun i => ns.length - (intOf i).toNat)
  case atStart => exact ⟨0, Nat.zero_le _, rfl, hide (fun j h1 h2 => by omega)⟩
  case round =>
    obtain ⟨k, hk, rfl, HN⟩ := hrel
    by_cases hlt : k < ns.length
    · obtain ⟨g, hao, hg, c0, _, _⟩ := nd_cells (unhide HROW) (unhide HB) hlt
      rw [hao]
      have HU : Hid (idIs ns id k = ((ns[k]).id == id)) := by apply hide; unfold idIs; rw [ndAt_get _ _ hlt]
      clear hao
      cases hq : ((ns[k]).id == id)
      · have HN2 := hide (noIn_succ (unhide HN) (by rw [unhide HU]; exact hq))
        go_wp2
        go_round
        case rel => exact ⟨k + 1, by omega, by go_num, HN2⟩
        case measure => simp [intOf]; omega
      · have HS : Hid (findR ns id = k) := by
          apply hide
          have e : findN ns id = k := scan_hit (by omega) hlt (by rw [unhide HU]; exact hq) (unhide HN)
          rw [(lookR_some (by rw [e]; exact hlt)).2, e]
        go_wp2
        go_ret
        exact ⟨ret_int (unhide HS).symm, rfl⟩
    · have HS : Hid (findR ns id = -1) := by
        apply hide
        have e : findN ns id = ns.length := scan_none (fun j h1 h2 => unhide HN j h1 (by omega))
        exact (lookR_none (by rw [e]; omega)).2
      go_wp2
      go_ret
      exact ⟨ret_int (unhide HS).symm, rfl⟩
theorem findR_bd (ns : List Nd) (id : Int) : -1 ≤ findR ns id ∧ findR ns id < (ns.length : Int) + 1 ∧ ((lookR ns id).isSome = decide (0 ≤ findR ns id)) := by
  by_cases h : findN ns id < ns.length
  · obtain ⟨h1, h2⟩ := lookR_some h
    rw [h1, h2]; refine ⟨by omega, by omega, by simp⟩
  · obtain ⟨h1, h2⟩ := lookR_none h
    rw [h1, h2]; refine ⟨by omega, by omega, by simp⟩
end Go.Proofs.YtdcjimlhaklhfabGreatDoor

namespace Go.Proofs.YtdcjimlhaklhfabGreatDoor
open Go.RowKit
attribute [local go_sem ↓] Go.wp_at_zero Go.wp_at_succ
theorem digits_digs (n : Int) (w : World) (h0 : 0 ≤ n) (h1 : n ≤ 99) :
    Calls Tryz.prog 55 #[.int .i64 n] w fun e w' => e = .returned (.string (bs (digs n))) ∧ Below w.heap.size w w' := by
  have e : dec n.toNat = digs n := by rw [← digs_dec n.toNat (by omega), Int.toNat_of_nonneg h0]
  rw [← e]; exact digits_any n w h0 (by omega)
abbrev trOf (ns : List Nd) : Tr := fun i => lookR ns (i : Int)
theorem textAt_some {t : Tr} {i : Nat} {n : Nd} (h : t i = some n) (hid : n.id = (i : Int)) : textAt t i = digs (i : Int) ++ [32] ++ digs n.parent ++ [32] ++ n.name ++ [59] := by
  unfold textAt; rw [h]; show nodeText n = _; unfold nodeText; rw [hid]
theorem textAt_none {t : Tr} {i : Nat} (h : t i = none) : textAt t i = [] := by unfold textAt; rw [h]
theorem kept2 {W0 W w1 : World} {g : Nat} {o1 o2 : Nat} {a b : Value} (hg : g < W0.heap.size) (hb : Below W.heap.size W w1) (h : W.cell? ⟨g, o1, none⟩ = some a ∧ W.cell? ⟨g, o2, none⟩ = some b ∧ Below W0.heap.size W0 W) : w1.cell? ⟨g, o1, none⟩ = some a ∧ w1.cell? ⟨g, o2, none⟩ = some b ∧ Below W0.heap.size W0 w1 := by
  have hlt : g < W.heap.size := by have := h.2.2.size; omega
  exact ⟨by rw [hb.cell (p := ⟨g, o1, none⟩) hlt]; exact h.1, by rw [hb.cell (p := ⟨g, o2, none⟩) hlt]; exact h.2.1, h.2.2.trans (hb.mono h.2.2.size)⟩
set_option maxHeartbeats 4000000 in
set_option maxRecDepth 100000 in
theorem print_any (ns : List Nd) (ao : Option Addr) (cap : Nat) (w : World) (hrow : Row w ao ns.length 3 (ndCells ns)) (hl : ns.length ≤ 4000) (ht : TrOk (trOf ns)) :
    Calls Tryz.prog 27 #[.slice ao ns.length cap] w fun e w' => e = .returned (.string (bs (textT (trOf ns)))) ∧ Below w.heap.size w w' := by
  have HROW := hide hrow; clear hrow
  have HT := hide ht; clear ht
  have HTT : Hid (textT (trOf ns) = textTo (trOf ns) 99) := hide rfl
  go_enter Tryz.func27, Tryz.ntmps27
  go_wp2
  go_loopw [3, 4] (fun s i wr => ∃ k : Nat, k ≤ 99 ∧ s = .string (bs (textTo (trOf ns) k)) ∧ i = .int .i64 ((k : Int) + 1) ∧ Below w.heap.size w wr) (fun _ i _ => 100 - (intOf i).toNat)
  case atStart => exact ⟨0, Nat.zero_le _, rfl, rfl, Below.refl _ _⟩
  case round =>
    obtain ⟨k, hk, rfl, rfl, hbel⟩ := hrel
    have hsl := textTo_len (unhide HT) k
    have HSU := hide (textTo_succ (trOf ns) k)
    by_cases hlt : k < 99
    · have HF := hide (find_any ns ((k : Int) + 1) ao cap wr ((unhide HROW).below hbel) hl)
      by_cases hf : findN ns ((k : Int) + 1) < ns.length
      · obtain ⟨q1, q2⟩ := lookR_some hf
        obtain ⟨g, hao, hg, _, c1, c2⟩ := nd_cells (unhide HROW) hbel hf
        rw [q2] at HF
        rw [hao] at HF ⊢
        have hidn := (lookR_mem q1).2
        have q1' : trOf ns (k + 1) = some (ns[findN ns ((k : Int) + 1)]) := by
          show lookR ns ((k + 1 : Nat) : Int) = _
          rw [show ((k + 1 : Nat) : Int) = (k : Int) + 1 by omega]; exact q1
        have hok := (unhide HT).2 _ _ q1'
        have HTX := hide (textAt_some q1' (by rw [hidn]; omega))
        clear q1 q2 q1' hao hidn
        generalize hfn : findN ns ((k : Int) + 1) = fn at *
        clear hfn
        have hfn0 : (0 : Int) ≤ fn := by omega
        have hfn1 : (fn : Int) < ns.length := by omega
        generalize ns[fn] = nd at *
        obtain ⟨_, _, _, hp0, hp1, hnm⟩ := hok
        have hnl := name_len hnm
        clear hnm
        have l1 := digs_len ((k : Int) + 1)
        have l2 := digs_len nd.parent
        have HNEW : Hid (textTo (trOf ns) (k + 1) = textTo (trOf ns) k ++ digs ((k : Int) + 1) ++ [32] ++ digs nd.parent ++ [32] ++ nd.name ++ [59]) := by
          apply hide
          rw [unhide HSU, unhide HTX, show ((k + 1 : Nat) : Int) = (k : Int) + 1 by omega]
          simp only [List.append_assoc]
        clear HSU HTX
        generalize textTo (trOf ns) k = S at *
        generalize ha : digs ((k : Int) + 1) = a at *
        generalize hb : digs nd.parent = b at *
        have a0 := add_bs S a (by omega) (by omega)
        have a1 := add_32 (S ++ a) (by simp; omega)
        have a2 := add_bs (S ++ a ++ [32]) b (by simp; omega) (by omega)
        have a3 := add_32 (S ++ a ++ [32] ++ b) (by simp; omega)
        have a4 := add_bs (S ++ a ++ [32] ++ b ++ [32]) nd.name (by simp; omega) (by omega)
        have a5 := add_59 (S ++ a ++ [32] ++ b ++ [32] ++ nd.name) (by simp; omega)
        generalize S ++ a ++ [32] ++ b ++ [32] ++ nd.name ++ [59] = r6 at *
        generalize S ++ a ++ [32] ++ b ++ [32] ++ nd.name = r5 at *
        generalize S ++ a ++ [32] ++ b ++ [32] = r4 at *
        generalize S ++ a ++ [32] ++ b = r3 at *
        generalize S ++ a ++ [32] = r2 at *
        generalize S ++ a = r1 at *
        have HS0 := hide (show wr.drew.cell? ⟨g, fn * 3 + 1, none⟩ = some (.int .i64 nd.parent) ∧ wr.drew.cell? ⟨g, fn * 3 + 2, none⟩ = some (.string (bs nd.name)) ∧ Below w.heap.size w wr.drew from ⟨c1, c2, hbel.drew⟩)
        clear c1 c2
        go_wp2_with fail
        refine (unhide HF).mono ?_
        rintro e w' ⟨rfl, rfl⟩
        go_wp2
        go_region_held3 (fun W => W.cell? ⟨g, fn * 3 + 1, none⟩ = some (.int .i64 nd.parent) ∧ W.cell? ⟨g, fn * 3 + 2, none⟩ = some (.string (bs nd.name)) ∧ Below w.heap.size w W) (first | exact unhide HS0 | assumption) ((go_at_call 55; refine (digits_digs _ _ (by omega) (by omega)).mono ?_; rintro e w1 ⟨rfl, hb1⟩; have hs1 := kept2 hg hb1 (by first | assumption | exact unhide HS0); have hbx := hs1.2.2))
        all_goals
          go_wp2
          go_roundw
          case rel => exact ⟨k + 1, by omega, by rw [unhide HNEW], by go_num, hs1.2.2⟩
          case measure => simp [intOf]; omega
      · obtain ⟨q1, q2⟩ := lookR_none hf
        have q1' : trOf ns (k + 1) = none := by
          show lookR ns ((k + 1 : Nat) : Int) = _
          rw [show ((k + 1 : Nat) : Int) = (k : Int) + 1 by omega]; exact q1
        have HNEW : Hid (textTo (trOf ns) (k + 1) = textTo (trOf ns) k) := by apply hide; rw [unhide HSU, textAt_none q1']; simp
        rw [q2] at HF
        clear q1 q2 hf q1'
        go_wp2_with fail
        refine (unhide HF).mono ?_
        rintro e w' ⟨rfl, rfl⟩
        go_wp2
        go_roundw
        case rel => exact ⟨k + 1, by omega, by rw [unhide HNEW], by go_num, hbel⟩
        case measure => simp [intOf]; omega
    · have hk9 : k = 99 := by omega
      subst hk9
      go_wp2
      go_ret
      exact ⟨ret_str (by rw [unhide HTT]), hbel⟩
end Go.Proofs.YtdcjimlhaklhfabGreatDoor

namespace Go.Proofs.YtdcjimlhaklhfabGreatDoor
open Go.RowKit
/-! Growing trees: the parts. -/
set_option maxHeartbeats 1000000 in
theorem pick_any (c : Int) (w : World) (h0 : -9223372036854775808 ≤ c) (h1 : c ≤ 9223372036854775807) :
    Calls Tryz.prog 22 #[.int .i64 c, .int .i64 1099511627776] w fun e w' => ∃ v : Int, e = .returned (.int .i64 v) ∧ 0 ≤ v ∧ v < 1099511627776 ∧ w' = w := by
  by_cases hc : c < 0
  · go_enter Tryz.func22, Tryz.ntmps22
    go_wp2
    go_ret
    refine ⟨_, rfl, ?_, ?_, rfl⟩
    · rw [← Int.neg_tmod, Int.tmod_eq_emod_of_nonneg (by omega)]; omega
    · rw [← Int.neg_tmod, Int.tmod_eq_emod_of_nonneg (by omega)]; omega
  · go_enter Tryz.func22, Tryz.ntmps22
    go_wp2
    go_ret
    refine ⟨_, rfl, ?_, ?_, rfl⟩
    · omega
    · omega
def WordOk (s : Str) : Prop := s.all plainB = true ∧ 1 ≤ s.length ∧ s.length ≤ 8
set_option maxHeartbeats 1000000 in
theorem word_any (v : Int) (w : World) (h0 : 0 ≤ v) (_h1 : v < 1099511627776) :
    Calls Tryz.prog 90 #[.int .i64 v] w fun e w' => ∃ s : Str, e = .returned (.string (bs s)) ∧ WordOk s ∧ w' = w := by
  have hv : v % 5 = 0 ∨ v % 5 = 1 ∨ v % 5 = 2 ∨ v % 5 = 3 ∨ v % 5 = 4 := by omega
  rcases hv with h | h | h | h | h
  all_goals
    have ht : v.tmod 5 = _ := (Int.tmod_eq_emod_of_nonneg h0).trans h
    clear h
    go_enter Tryz.func90, Tryz.ntmps90
    go_wp2
    go_ret
  · exact ⟨[97], rfl, ⟨by decide, by decide, by decide⟩, rfl⟩
  · exact ⟨[98], rfl, ⟨by decide, by decide, by decide⟩, rfl⟩
  · exact ⟨[116], rfl, ⟨by decide, by decide, by decide⟩, rfl⟩
  · exact ⟨[99, 46, 57], rfl, ⟨by decide, by decide, by decide⟩, rfl⟩
  · exact ⟨[108, 111, 110, 103, 110, 97, 109, 101], rfl, ⟨by decide, by decide, by decide⟩, rfl⟩
theorem plainLen_word {s : Str} (hs : s.all plainB = true) (r : Str) (hr : ∀ c l, r = c :: l → plainB c = false) : plainLen (s ++ r) = s.length :=
  plainLen_stop (s ++ r) s.length (by simp) (by simpa using hs) (fun c l h => hr c l (by simpa using h))
theorem word_name {s : Str} (hs : WordOk s) (id : Int) : isName s id = true := by
  have e : plainLen s = s.length := by have := plainLen_word hs.1 [] (fun c l h => by cases h); simpa using this
  unfold isName; rw [e]; simp [hs.2.1, hs.2.2]
theorem own_len {s : Str} (hs : WordOk s) (l : Str) : plainLen (s ++ 126 :: l) = s.length :=
  plainLen_word hs.1 (126 :: l) (fun c r h => by cases h; decide)
theorem own_name {s : Str} (hs : WordOk s) (id : Int) : isName (s ++ 126 :: digs id) id = true := by
  unfold isName; rw [own_len hs]; simp [hs.2.1, hs.2.2]
theorem own_only {s : Str} (hs : WordOk s) {x y : Int} (hx0 : 0 ≤ x) (hx : x ≤ 99) (hy0 : 0 ≤ y) (hy : y ≤ 99) (h : isName (s ++ 126 :: digs x) y = true) : x = y := by
  unfold isName at h; rw [own_len hs] at h
  simp only [List.length_append, List.length_cons, Bool.and_eq_true, Bool.or_eq_true, beq_iff_eq, List.drop_left] at h
  rcases h.2 with h | h
  · omega
  · obtain ⟨a, rfl⟩ := Int.eq_ofNat_of_zero_le hx0
    obtain ⟨b, rfl⟩ := Int.eq_ofNat_of_zero_le hy0
    have := digs_inj a (by omega) b (by omega) (by simpa using h)
    rw [this]
theorem kadd_126 (a : Str) (ha : a.length ≤ 1000000) (W : World) : (Op.stringOp .add (bs a) ⟨#[126]⟩).run Tryz.prog W = .ok (.string (bs (a ++ [126]))) W := add_bs a [126] ha (by simp) W
def nmIs (ns : List Nd) (p : Int) (s : Str) (i : Nat) : Bool := (ndAt ns i).parent == p && (ndAt ns i).name == s
set_option maxHeartbeats 2000000 in
theorem named_any (ns : List Nd) (id p v : Int) (ao : Option Addr) (cap : Nat) (w : World) (hrow : Row w ao ns.length 3 (ndCells ns)) (hl : ns.length ≤ 4000) (hok : ∀ n ∈ ns, NdOk n) (hno : ∀ n ∈ ns, n.id ≠ id) (h1 : 1 ≤ id) (h2 : id ≤ 99) (hv0 : 0 ≤ v) (hv1 : v < 1099511627776) :
    Calls Tryz.prog 54 #[.slice ao ns.length cap, .int .i64 id, .int .i64 p, .int .i64 v] w fun e w' => (∃ nm : Str, e = .returned (.string (bs nm)) ∧ isName nm id = true ∧ ∀ n ∈ ns, n.parent = p → n.name ≠ nm) ∧ Below w.heap.size w w' := by
  have HROW := hide hrow
  have HOK := hide hok
  have HNO := hide hno
  have HW := hide (fun W => word_any v W hv0 hv1)
  have HD := hide (fun W => digits_digs id W (by omega) h2)
  have l1 := digs_len id
  have HOWN : Hid (∀ s, WordOk s → ∀ n ∈ ns, n.parent = p → n.name ≠ s ++ 126 :: digs id) := hide (fun s hs n hn _ e => by
    have hb := hok n hn
    have h3 := hb.2.2.2.2
    rw [e] at h3
    exact hno n hn (own_only hs (by omega) h2 (by have := hb.1; omega) hb.2.1 h3).symm)
  have HDG := hide (show digs id = digs id from rfl)
  clear hrow hok hno
  have hd5 : v.tdiv 5 = v / 5 := Int.tdiv_eq_ediv_of_nonneg hv0
  have hq0 : 0 ≤ v / 5 := by omega
  have hd4 : (v / 5).tmod 4 = v / 5 % 4 := Int.tmod_eq_emod_of_nonneg hq0
  have hqq : v / 5 % 4 = 0 ∨ ¬ v / 5 % 4 = 0 := by omega
  generalize hdd : digs id = dg at *
  go_enter Tryz.func54, Tryz.ntmps54
  go_wp2_with fail
  refine (unhide HW _).mono ?_
  rintro e w1 ⟨s, rfl, hs, rfl⟩
  have hsl := hs.2.2
  have a1 := kadd_126 s (by omega)
  have a2 := add_bs (s ++ [126]) dg (by simp; omega) (by omega)
  have HE : Hid (s ++ [126] ++ dg = s ++ 126 :: dg) := hide (by simp)
  generalize s ++ [126] ++ dg = own at *
  generalize s ++ [126] = own0 at *
  go_wp2_with fail
  refine (unhide HD _).mono ?_
  rintro e w2 ⟨rfl, hb2⟩
  have HB := hide hb2
  have HS := hide hs
  clear hs hb2
  rcases hqq with hq | hq
  · go_wp2
    go_ret
    refine ⟨⟨own, rfl, ?_, ?_⟩, unhide HB⟩
    · rw [unhide HE, ← hdd]; exact own_name (unhide HS) id
    · rw [unhide HE]; exact unhide HOWN s (unhide HS)
  · go_wp2
    go_loop [11] (fun i => ∃ k : Nat, k ≤ ns.length ∧ i = .int .i64 k ∧ Hid (NoIn (nmIs ns p s) 0 k)) (fun i => ns.length - (intOf i).toNat)
    case atStart => exact ⟨0, Nat.zero_le _, rfl, hide (fun j h1 h2 => by omega)⟩
    case round =>
      obtain ⟨k, hk, rfl, HN⟩ := hrel
      by_cases hlt : k < ns.length
      · obtain ⟨g, hao, hg, c0, c1, c2⟩ := nd_cells (unhide HROW) (unhide HB) hlt
        rw [hao]
        clear hao
        have HU : Hid (nmIs ns p s k = ((ns[k]).parent == p && (ns[k]).name == s)) := by apply hide; unfold nmIs; rw [ndAt_get _ _ hlt]
        generalize ns[k] = nd at *
        cases hp : (nd.parent == p)
        · have HN2 := hide (noIn_succ (unhide HN) (by rw [unhide HU, hp]; rfl))
          go_wp2
          go_round
          case rel => exact ⟨k + 1, by omega, by go_num, HN2⟩
          case measure => simp [intOf]; omega
        · cases hn : (nd.name == s)
          · have HN2 := hide (noIn_succ (unhide HN) (by rw [unhide HU, hp, hn]; rfl))
            have hn2 : ((bs nd.name).toList == (bs s).toList) = false := by rw [names_eq]; exact hn
            clear hn
            go_wp2
            go_round
            case rel => exact ⟨k + 1, by omega, by go_num, HN2⟩
            case measure => simp [intOf]; omega
          · have hn2 : ((bs nd.name).toList == (bs s).toList) = true := by rw [names_eq]; exact hn
            clear hn
            go_wp2
            go_ret
            refine ⟨⟨own, rfl, ?_, ?_⟩, unhide HB⟩
            · rw [unhide HE, ← hdd]; exact own_name (unhide HS) id
            · rw [unhide HE]; exact unhide HOWN s (unhide HS)
      · go_wp2
        go_ret
        refine ⟨⟨s, rfl, word_name (unhide HS) id, ?_⟩, unhide HB⟩
        intro n hn hp e
        obtain ⟨j, hj, rfl⟩ := mem_ndAt hn
        have := unhide HN j (by omega) (by omega)
        unfold nmIs at this
        rw [hp, e] at this; simp at this
end Go.Proofs.YtdcjimlhaklhfabGreatDoor
