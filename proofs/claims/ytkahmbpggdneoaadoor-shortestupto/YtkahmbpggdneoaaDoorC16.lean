import Derived.Test.YtkahmbpggdneoaaDoorC6
import Derived.Test.YtkahmbpggdneoaaDoorC7
namespace Go.Proofs.YtkahmbpggdneoaaDoor
open Go.RowKit
/-! Scripts between two trees, as the document looks at them: lists of steps. -/
/-- the step home of a node of the second tree -/
def homeB (a : List Nd) (n : Nd) : List St := match lookR a n.id with
  | none => [⟨43, n⟩]
  | some m => if ndEq m n then [] else [⟨61, n⟩]
/-- the step home of a node of the first tree -/
def homeA (b : List Nd) (n : Nd) : List St := match lookR b n.id with
  | none => [⟨45, ⟨n.id, 0, []⟩⟩]
  | some _ => []
def homesR (a b : List Nd) : List St := b.flatMap (homeB a) ++ a.flatMap (homeA b)
theorem flat_take_succ {α : Type} (f : Nd → List α) (l : List Nd) (k : Nat) (h : k < l.length) : (l.take (k + 1)).flatMap f = (l.take k).flatMap f ++ f l[k] := by
  rw [List.take_succ_eq_append_getElem h, List.flatMap_append]; simp
theorem homeB_len (a : List Nd) (n : Nd) : (homeB a n).length ≤ 1 := by
  unfold homeB; split
  · simp
  · split <;> simp
theorem homeA_len (b : List Nd) (n : Nd) : (homeA b n).length ≤ 1 := by
  unfold homeA; split <;> simp
theorem flat_len {α : Type} (f : Nd → List α) (hf : ∀ n, (f n).length ≤ 1) : ∀ l : List Nd, (l.flatMap f).length ≤ l.length := by
  intro l
  induction l with
  | nil => simp
  | cons n l ih => rw [List.flatMap_cons, List.length_append, List.length_cons]; have := hf n; omega
theorem homesR_len (a b : List Nd) : (homesR a b).length ≤ a.length + b.length := by
  unfold homesR; rw [List.length_append]
  have h1 := flat_len (homeB a) (homeB_len a) b
  have h2 := flat_len (homeA b) (homeA_len b) a
  omega
/-- Where a step stands. -/
def atIs (l : List St) (s : St) (i : Nat) : Bool := match l[i]? with
  | none => false
  | some x => stEq x s
/-- Where 'without' stands behind i steps. -/
def WoInv (l : List St) (k i : Nat) (out : List St) : Prop := out = (l.take i).eraseIdx k
theorem woInv_yes {l : List St} {k i : Nat} {out : List St} (h : WoInv l k i out) (hi : i < l.length) (hk : i ≠ k) : WoInv l k (i + 1) (out ++ [l[i]]) := by
  unfold WoInv at *
  rw [List.take_succ_eq_append_getElem hi, h]
  have hl : (l.take i).length = i := by rw [List.length_take]; omega
  rcases Nat.lt_or_ge k i with hlt | hge
  · rw [List.eraseIdx_append_of_lt_length (by omega)]
  · rw [List.eraseIdx_of_length_le (by omega), List.eraseIdx_of_length_le (by rw [List.length_append, hl]; simp; omega)]
theorem woInv_no {l : List St} {k : Nat} {out : List St} (h : WoInv l k k out) (hi : k < l.length) : WoInv l k (k + 1) out := by
  unfold WoInv at *
  have hl : (l.take k).length = k := by rw [List.length_take]; omega
  rw [List.take_succ_eq_append_getElem hi, h, List.eraseIdx_of_length_le (by omega), List.eraseIdx_append_of_length_le (by omega), hl]
  simp
theorem woInv_end {l : List St} {k i : Nat} {out : List St} (h : WoInv l k i out) (hi : ¬ i < l.length) : l.eraseIdx k = out := by
  unfold WoInv at h
  rw [List.take_of_length_le (by omega)] at h; exact h.symm
theorem woInv_len {l : List St} {k i : Nat} {out : List St} (h : WoInv l k i out) : out.length ≤ i := by
  unfold WoInv at h; rw [h]
  have h1 := List.length_eraseIdx_le (l.take i) k
  have h2 : (l.take i).length ≤ i := by rw [List.length_take]; omega
  omega
/-- Where the first loop of 'homes' stands behind i nodes. -/
def HbInv (a b : List Nd) (i : Nat) (out : List St) : Prop := out = (b.take i).flatMap (homeB a)
def HaInv (a b : List Nd) (i : Nat) (out : List St) : Prop := out = b.flatMap (homeB a) ++ (a.take i).flatMap (homeA b)
theorem hbInv_next {a b : List Nd} {i : Nat} {out : List St} (h : HbInv a b i out) (hi : i < b.length) {x : List St} (hx : homeB a b[i] = x) : HbInv a b (i + 1) (out ++ x) := by
  unfold HbInv at *; rw [flat_take_succ _ _ _ hi, h, hx]
theorem hbInv_end {a b : List Nd} {i : Nat} {out : List St} (h : HbInv a b i out) (hi : ¬ i < b.length) : HaInv a b 0 out := by
  unfold HbInv at h; unfold HaInv
  rw [List.take_of_length_le (by omega)] at h; rw [h]; simp
theorem haInv_next {a b : List Nd} {i : Nat} {out : List St} (h : HaInv a b i out) (hi : i < a.length) {x : List St} (hx : homeA b a[i] = x) : HaInv a b (i + 1) (out ++ x) := by
  unfold HaInv at *; rw [flat_take_succ _ _ _ hi, h, hx, List.append_assoc]
theorem haInv_end {a b : List Nd} {i : Nat} {out : List St} (h : HaInv a b i out) (hi : ¬ i < a.length) : homesR a b = out := by
  unfold HaInv at h
  rw [List.take_of_length_le (by omega)] at h; rw [h]; rfl
theorem hbInv_len {a b : List Nd} {i : Nat} {out : List St} (h : HbInv a b i out) (hi : i ≤ b.length) : out.length ≤ i := by
  unfold HbInv at h; rw [h]
  have := flat_len (homeB a) (homeB_len a) (b.take i)
  rw [List.length_take] at this; omega
theorem haInv_len {a b : List Nd} {i : Nat} {out : List St} (h : HaInv a b i out) (hi : i ≤ a.length) : out.length ≤ b.length + i := by
  unfold HaInv at h; rw [h, List.length_append]
  have h1 := flat_len (homeB a) (homeB_len a) b
  have h2 := flat_len (homeA b) (homeA_len b) (a.take i)
  rw [List.length_take] at h2; omega
theorem homeB_new {a : List Nd} {n : Nd} (h : lookR a n.id = none) : homeB a n = [⟨43, n⟩] := by unfold homeB; rw [h]
theorem homeB_same {a : List Nd} {n m : Nd} (h : lookR a n.id = some m) (he : ndEq m n = true) : homeB a n = [] := by unfold homeB; rw [h]; exact if_pos he
theorem homeB_else {a : List Nd} {n m : Nd} (h : lookR a n.id = some m) (he : ndEq m n = false) : homeB a n = [⟨61, n⟩] := by unfold homeB; rw [h]; exact if_neg (by rw [he]; decide)
theorem homeA_gone {b : List Nd} {n : Nd} (h : lookR b n.id = none) : homeA b n = [⟨45, ⟨n.id, 0, []⟩⟩] := by unfold homeA; rw [h]
theorem homeA_kept {b : List Nd} {n m : Nd} (h : lookR b n.id = some m) : homeA b n = [] := by unfold homeA; rw [h]
end Go.Proofs.YtkahmbpggdneoaaDoor

namespace Go.Proofs.YtkahmbpggdneoaaDoor
open Go.RowKit
/-! The steps home that are still to come, as a list. -/
structure LeftInv (left : List St) (a g : Tr) : Prop where
  ids : (left.map (·.node.id)).Nodup
  mem : ∀ s, s ∈ left ↔ (1 ≤ s.node.id ∧ s.node.id ≤ 99 ∧ homeS a g s.node.id = some s)
theorem left_ok {left : List St} {a g : Tr} (h : LeftInv left a g) (hg : TrOk g) : ∀ s ∈ left, StOk s := by
  intro s hs
  obtain ⟨h1, h2, h3⟩ := (h.mem s).1 hs
  exact (home_ok hg h1 h2 h3).1
theorem left_len {left : List St} {a g : Tr} (h : LeftInv left a g) : left.length ≤ 99 := by
  have := pigeon (left.map (·.node.id)) ((List.range' 1 99).map (fun i : Nat => (i : Int))) h.ids (fun x hx => by
    obtain ⟨s, hs, rfl⟩ := List.mem_map.1 hx
    obtain ⟨h1, h2, _⟩ := (h.mem s).1 hs
    refine List.mem_map.2 ⟨s.node.id.toNat, ?_, ?_⟩
    · rw [List.mem_range'_1]; omega
    · show ((s.node.id.toNat : Nat) : Int) = s.node.id; omega)
  simpa using this
theorem flat_ids {f : Nd → List St} (hf : ∀ n, ∀ s ∈ f n, s.node.id = n.id) (hl : ∀ n, (f n).length ≤ 1) : ∀ (l : List Nd), (l.map (·.id)).Nodup → ((l.flatMap f).map (·.node.id)).Nodup ∧ ∀ s ∈ l.flatMap f, ∃ n ∈ l, s ∈ f n := by
  intro l
  induction l with
  | nil => intro _; simp
  | cons n l ih =>
    intro h
    rw [List.map_cons, List.nodup_cons] at h
    obtain ⟨h1, h2⟩ := ih h.2
    refine ⟨?_, fun s hs => ?_⟩
    · rw [List.flatMap_cons, List.map_append, List.nodup_append]
      refine ⟨?_, h1, fun x hx y hy e => ?_⟩
      · have := hl n
        match hq : f n with
        | [] => simp
        | [s] => simp
        | s :: t :: r => rw [hq] at this; simp at this
      · obtain ⟨s, hs, rfl⟩ := List.mem_map.1 hx
        obtain ⟨t, ht, rfl⟩ := List.mem_map.1 hy
        obtain ⟨m, hm, htm⟩ := h2 t ht
        rw [hf n s hs, hf m t htm] at e
        exact h.1 (List.mem_map.2 ⟨m, hm, e.symm⟩)
    · rw [List.flatMap_cons] at hs
      rcases List.mem_append.1 hs with hs | hs
      · exact ⟨n, by simp, hs⟩
      · obtain ⟨m, hm, hsm⟩ := h2 s hs; exact ⟨m, by simp [hm], hsm⟩
theorem homeB_id (a : List Nd) (n : Nd) : ∀ s ∈ homeB a n, s.node.id = n.id := by
  intro s hs
  unfold homeB at hs
  split at hs
  · simp at hs; rw [hs]
  · split at hs
    · simp at hs
    · simp at hs; rw [hs]
theorem homeA_id (b : List Nd) (n : Nd) : ∀ s ∈ homeA b n, s.node.id = n.id := by
  intro s hs
  unfold homeA at hs
  split at hs
  · simp at hs; rw [hs]
  · simp at hs
theorem left_start {na nb : List Nd} {a g : Tr} (ra : Rep na a) (rg : Rep nb g) (ha : TrOk a) (hg : TrOk g) : LeftInv (homesR na nb) a g := by
  obtain ⟨b1, b2⟩ := flat_ids (homeB_id na) (homeB_len na) nb rg.ids
  obtain ⟨a1, a2⟩ := flat_ids (homeA_id nb) (homeA_len nb) na ra.ids
  have hmB : ∀ n, n ∈ nb → ∀ s, s ∈ homeB na n ↔ (s.kind ≠ 45 ∧ homeS a g n.id = some s) := by
    intro n hn s
    obtain ⟨i, hi⟩ := (rep_mem rg hg).1 hn
    have hid := hg.2 i n hi
    have hgn : g n.id.toNat = some n := by rw [show n.id.toNat = i by omega]; exact hi
    unfold homeB
    rw [rep_look ra ha]
    cases hq : a n.id.toNat with
    | none =>
      rw [home_new hq hgn]
      simp only [List.mem_singleton, Option.some.injEq]
      constructor
      · rintro rfl; exact ⟨by show (43 : UInt8) ≠ 45; decide, rfl⟩
      · rintro ⟨_, rfl⟩; rfl
    | some m =>
      simp only
      cases he : ndEq m n
      · rw [home_move hq hgn (fun e => by rw [ndEq_iff.2 e] at he; cases he), if_neg (by simp)]
        simp only [List.mem_singleton, Option.some.injEq]
        constructor
        · rintro rfl; exact ⟨by show (61 : UInt8) ≠ 45; decide, rfl⟩
        · rintro ⟨_, rfl⟩; rfl
      · rw [if_pos rfl, home_none.2 (by rw [hq, hgn, ndEq_iff.1 he])]
        simp
  have hmA : ∀ n, n ∈ na → ∀ s, s ∈ homeA nb n ↔ (s.kind = 45 ∧ homeS a g n.id = some s) := by
    intro n hn s
    obtain ⟨i, hi⟩ := (rep_mem ra ha).1 hn
    have hid := ha.2 i n hi
    have han : a n.id.toNat = some n := by rw [show n.id.toNat = i by omega]; exact hi
    unfold homeA
    rw [rep_look rg hg]
    cases hq : g n.id.toNat with
    | none =>
      rw [home_del han hq]
      simp only [List.mem_singleton, Option.some.injEq]
      constructor
      · rintro rfl; exact ⟨rfl, rfl⟩
      · rintro ⟨_, rfl⟩; rfl
    | some m =>
      simp only [List.not_mem_nil, false_iff]
      rintro ⟨hk, hs⟩
      rcases home_cases hs with ⟨_, h0, _⟩ | ⟨k, rfl, _⟩ | ⟨k, _, rfl, _⟩
      · rw [hq] at h0; cases h0
      · exact absurd hk (by show ¬ ((43 : UInt8) = 45); decide)
      · exact absurd hk (by show ¬ ((61 : UInt8) = 45); decide)
  refine ⟨?_, fun s => ?_⟩
  · unfold homesR
    rw [List.map_append, List.nodup_append]
    refine ⟨b1, a1, fun x hx y hy e => ?_⟩
    obtain ⟨s, hs, rfl⟩ := List.mem_map.1 hx
    obtain ⟨t, ht, rfl⟩ := List.mem_map.1 hy
    obtain ⟨n, hn, hsn⟩ := b2 s hs
    obtain ⟨m, hm, htm⟩ := a2 t ht
    have e1 := homeB_id na n s hsn
    have e2 := homeA_id nb m t htm
    obtain ⟨k1, k2⟩ := (hmB n hn s).1 hsn
    obtain ⟨k3, k4⟩ := (hmA m hm t).1 htm
    rw [show m.id = n.id by rw [← e1, ← e2, e], k2] at k4
    cases k4
    exact k1 k3
  · unfold homesR
    rw [List.mem_append]
    constructor
    · rintro (hs | hs)
      · obtain ⟨n, hn, hsn⟩ := b2 s hs
        have e1 := homeB_id na n s hsn
        have hb := rg.ok n hn
        rw [e1]
        exact ⟨hb.1, hb.2.1, ((hmB n hn s).1 hsn).2⟩
      · obtain ⟨n, hn, hsn⟩ := a2 s hs
        have e1 := homeA_id nb n s hsn
        have hb := ra.ok n hn
        rw [e1]
        exact ⟨hb.1, hb.2.1, ((hmA n hn s).1 hsn).2⟩
    · rintro ⟨h1, h2, h3⟩
      rcases home_cases h3 with ⟨e, hgn, m, hm⟩ | ⟨n, e, hgn, han⟩ | ⟨n, m, e, hgn, hm, _⟩
      · right
        have hmem : m ∈ na := (rep_mem ra ha).2 ⟨_, hm⟩
        have hid := (trOk_id ha (by omega) hm).1
        refine List.mem_flatMap.2 ⟨m, hmem, (hmA m hmem s).2 ⟨by rw [e], by rw [hid]; exact h3⟩⟩
      · left
        have hmem : n ∈ nb := (rep_mem rg hg).2 ⟨_, hgn⟩
        have hid := (trOk_id hg (by omega) hgn).1
        refine List.mem_flatMap.2 ⟨n, hmem, (hmB n hmem s).2 ⟨by rw [e]; show (43 : UInt8) ≠ 45; decide, by rw [hid]; exact h3⟩⟩
      · left
        have hmem : n ∈ nb := (rep_mem rg hg).2 ⟨_, hgn⟩
        have hid := (trOk_id hg (by omega) hgn).1
        refine List.mem_flatMap.2 ⟨n, hmem, (hmB n hmem s).2 ⟨by rw [e]; show (61 : UInt8) ≠ 45; decide, by rw [hid]; exact h3⟩⟩
theorem left_erase {left : List St} {a g : Tr} (h : LeftInv left a g) (hg : TrOk g) {k : Nat} (hk : k < left.length) (he : stepE a left[k] = 0) : LeftInv (left.eraseIdx k) (stepT a left[k]) g := by
  have hm : left[k] ∈ left := List.getElem_mem hk
  obtain ⟨h1, h2, h3⟩ := (h.mem _).1 hm
  have hd := home_done hg h1 h3 he
  have hids : ∀ i (hi : i < left.length), i ≠ k → (left[i]).node.id ≠ (left[k]).node.id := by
    intro i hi hne e
    have := (List.nodup_iff_pairwise_ne.1 h.ids)
    rw [List.pairwise_map] at this
    rcases Nat.lt_or_gt_of_ne hne with hlt | hlt
    · exact List.pairwise_iff_getElem.1 this i k hi hk hlt e
    · exact List.pairwise_iff_getElem.1 this k i hk hi hlt e.symm
  refine ⟨List.Nodup.sublist (List.Sublist.map _ (List.eraseIdx_sublist _ _)) h.ids, fun s => ?_⟩
  rw [List.mem_eraseIdx_iff_getElem]
  constructor
  · rintro ⟨i, hi, hne, rfl⟩
    obtain ⟨j1, j2, j3⟩ := (h.mem _).1 (List.getElem_mem hi)
    refine ⟨j1, j2, ?_⟩
    rw [← j3]
    refine home_congr ?_
    rw [hd, if_neg (by have := hids i hi hne; omega)]
  · rintro ⟨j1, j2, j3⟩
    have hne : s.node.id ≠ (left[k]).node.id := by
      intro e
      rw [e] at j3
      have : homeS (stepT a left[k]) g (left[k]).node.id = none := home_none.2 (by rw [hd, if_pos (by omega)])
      rw [this] at j3; cases j3
    have hs : s ∈ left := (h.mem s).2 ⟨j1, j2, by rw [← j3]; refine home_congr ?_; rw [hd, if_neg (by omega)]⟩
    obtain ⟨i, hi, e⟩ := List.mem_iff_getElem.1 hs
    refine ⟨i, hi, fun e2 => ?_, e⟩
    subst e2; rw [e] at hne; exact hne rfl
theorem left_park {left : List St} {a g : Tr} (h : LeftInv left a g) {id : Int} (h1 : 1 ≤ id) {n : Nd} (hs : homeS a g id = some ⟨61, n⟩) (he : stepE a (parkS id) = 0) (hnp : parkS id ∉ left) (h2 : id ≤ 99) (hg : TrOk g) : LeftInv left (stepT a (parkS id)) g := by
  have hd := park_done he
  have hn : g id.toNat = some n := by
    rcases home_cases hs with ⟨e, _⟩ | ⟨_, e, _⟩ | ⟨k, m, e, hk, _⟩
    · cases e
    · cases e
    · cases e; exact hk
  have hid := (trOk_id hg (by omega) hn).1
  have hne : parkN id ≠ n := by
    intro e
    apply hnp
    refine (h.mem _).2 ⟨h1, h2, ?_⟩
    show homeS a g id = some ⟨61, parkN id⟩
    rw [e]; exact hs
  have hsame : ∀ j, 1 ≤ j → homeS (stepT a (parkS id)) g j = homeS a g j := by
    intro j hj
    by_cases e : j = id
    · subst e
      rw [hs]
      exact home_move (m := parkN j) (by rw [hd, if_pos (by omega)]) hn hne
    · refine home_congr ?_
      rw [hd, if_neg (by omega)]
  refine ⟨h.ids, fun s => ?_⟩
  rw [h.mem s]
  constructor
  · rintro ⟨j1, j2, j3⟩; exact ⟨j1, j2, by rw [hsame _ j1]; exact j3⟩
  · rintro ⟨j1, j2, j3⟩; exact ⟨j1, j2, by rw [← hsame _ j1]; exact j3⟩
theorem left_end {left : List St} {g : Tr} (h : LeftInv left g g) : left = [] := by
  cases left with
  | nil => rfl
  | cons s l =>
    obtain ⟨_, _, h3⟩ := (h.mem s).1 (by simp)
    rw [home_none.2 rfl] at h3; cases h3
/-- A park is never a step home where nothing can be done. -/
theorem park_not_left {left : List St} {a g : Tr} (h : LeftInv left a g) (hst : Stuck a g) {id : Int} (he : stepE a (parkS id) = 0) : parkS id ∉ left := by
  intro hm
  obtain ⟨h1, h2, h3⟩ := (h.mem _).1 hm
  exact hst _ _ h1 h2 h3 he
end Go.Proofs.YtkahmbpggdneoaaDoor

namespace Go.Proofs.YtkahmbpggdneoaaDoor
open Go.RowKit
/-! How many steps of each kind. -/
def isK (k : UInt8) (s : St) : Bool := s.kind == k
def cntK (k : UInt8) (l : List St) : Nat := l.countP (isK k)
def isParkB (s : St) : Bool := s.kind == 61 && ndEq s.node (parkN s.node.id)
def parkCnt (l : List St) : Nat := l.countP isParkB
theorem count_erase (p : St → Bool) : ∀ (l : List St) (k : Nat) (hk : k < l.length), l.countP p = (l.eraseIdx k).countP p + (if p l[k] then 1 else 0) := by
  intro l
  induction l with
  | nil => intro k hk; simp at hk
  | cons s l ih =>
    intro k hk
    cases k with
    | zero => simp [List.countP_cons]
    | succ k =>
      have := ih k (by simpa using hk)
      simp only [List.eraseIdx_cons_succ, List.countP_cons, List.getElem_cons_succ]
      omega
theorem sum_erase (f : St → Nat) : ∀ (l : List St) (k : Nat) (hk : k < l.length), (l.map f).sum = ((l.eraseIdx k).map f).sum + f l[k] := by
  intro l
  induction l with
  | nil => intro k hk; simp at hk
  | cons s l ih =>
    intro k hk
    cases k with
    | zero => simp [Nat.add_comm]
    | succ k =>
      have := ih k (by simpa using hk)
      simp only [List.eraseIdx_cons_succ, List.map_cons, List.sum_cons, List.getElem_cons_succ]
      omega
def wtv (t : Tr) (s : St) : Nat := if s.kind == 61 then (if parkedB t s.node.id.toNat then 1 else 2) else 0
def mvW (t : Tr) (l : List St) : Nat := (l.map (wtv t)).sum
theorem mvW_le (t : Tr) : ∀ l : List St, mvW t l ≤ 2 * cntK 61 l := by
  intro l
  induction l with
  | nil => simp [mvW, cntK]
  | cons s l ih =>
    unfold mvW cntK at ih ⊢
    rw [List.map_cons, List.sum_cons, List.countP_cons]
    have hw : wtv t s = if isK 61 s then (if parkedB t s.node.id.toNat then 1 else 2) else 0 := rfl
    have hw2 : wtv t s ≤ 2 * (if isK 61 s then 1 else 0) := by
      rw [hw]
      cases isK 61 s
      · simp
      · simp only [if_true]; split <;> omega
    omega
theorem sumS_le {f h : St → Nat} : ∀ (l : List St), (∀ s ∈ l, f s ≤ h s) → (l.map f).sum ≤ (l.map h).sum := by
  intro l
  induction l with
  | nil => simp
  | cons x l ih =>
    intro hh
    have h1 := hh x (by simp)
    have h2 := ih (fun s hs => hh s (by simp [hs]))
    simp only [List.map_cons, List.sum_cons]; omega
theorem sumS_lt {f h : St → Nat} : ∀ (l : List St) (k : St), k ∈ l → (∀ s ∈ l, f s ≤ h s) → f k < h k → (l.map f).sum < (l.map h).sum := by
  intro l
  induction l with
  | nil => intro k hk; simp at hk
  | cons x l ih =>
    intro k hk hh hlt
    have h1 := hh x (by simp)
    have h2 := sumS_le l (fun s hs => hh s (by simp [hs]))
    simp only [List.map_cons, List.sum_cons]
    rcases List.mem_cons.1 hk with rfl | hk
    · omega
    · have := ih k hk (fun s hs => hh s (by simp [hs])) hlt; omega
theorem parkedB_congr {a b : Tr} {i : Nat} (h : a i = b i) : parkedB a i = parkedB b i := by unfold parkedB; rw [h]
theorem seg_counts {g : Tr} (hg : TrOk g) {t b : Tr} {ss : List St} (h : Seg g t ss b) : b = g → ∀ left, LeftInv left t g →
    cntK 43 ss = cntK 43 left ∧ cntK 45 ss = cntK 45 left ∧ cntK 61 left ≤ cntK 61 ss ∧ cntK 61 ss ≤ cntK 61 left + parkCnt ss ∧ cntK 61 ss ≤ mvW t left := by
  induction h with
  | nil t =>
    intro hb left hl
    subst hb
    rw [left_end hl]
    simp [cntK, mvW]
  | @home t b i s ss h1 h2 hs he _ ih =>
    intro hb left hl
    have hoi := (home_ok hg h1 h2 hs).2
    have hm : s ∈ left := (hl.mem s).2 ⟨by rw [hoi]; exact h1, by rw [hoi]; exact h2, by rw [hoi]; exact hs⟩
    obtain ⟨k, hk, e⟩ := List.mem_iff_getElem.1 hm
    have hl2 := left_erase hl hg hk (by rw [e]; exact he)
    rw [e] at hl2
    obtain ⟨i1, i2, i3, i4, i5⟩ := ih hb (left.eraseIdx k) hl2
    have c1 := count_erase (isK 43) left k hk
    have c2 := count_erase (isK 45) left k hk
    have c3 := count_erase (isK 61) left k hk
    have c4 := sum_erase (wtv t) left k hk
    rw [e] at c1 c2 c3 c4
    have hd := home_done hg h1 hs he
    have c5 : mvW (stepT t s) (left.eraseIdx k) = mvW t (left.eraseIdx k) := by
      unfold mvW
      congr 1
      refine List.map_congr_left (fun o ho => ?_)
      have hne : o.node.id ≠ i := by
        intro e2
        obtain ⟨o1, o2, o3⟩ := (hl2.mem o).1 ho
        rw [home_none.2 (by rw [hd, if_pos (by omega)])] at o3; cases o3
      have ho1 := ((hl2.mem o).1 ho).1
      unfold wtv
      rw [parkedB_congr (show stepT t s o.node.id.toNat = t o.node.id.toNat by rw [hd, if_neg (by omega)])]
    rw [c5] at i5
    unfold cntK parkCnt mvW at *
    simp only [List.countP_cons]
    have hw : wtv t s = if isK 61 s then (if parkedB t s.node.id.toNat then 1 else 2) else 0 := rfl
    rw [hw] at c4
    refine ⟨by omega, by omega, by omega, by omega, ?_⟩
    cases hq : isK 61 s
    · rw [hq] at c4 c3; simp at c4 c3 ⊢; omega
    · rw [hq] at c4 c3
      simp only [if_true] at c4 c3 ⊢
      split at c4 <;> omega
  | @park t b i n ss h1 h2 hno hs hp he _ ih =>
    intro hb left hl
    have hnl := park_not_left hl hno he
    have hl2 := left_park hl h1 hs he hnl h2 hg
    obtain ⟨i1, i2, i3, i4, i5⟩ := ih hb left hl2
    have hoi := (home_ok hg h1 h2 hs).2
    have hm : (⟨61, n⟩ : St) ∈ left := (hl.mem _).2 ⟨by rw [hoi]; exact h1, by rw [hoi]; exact h2, by rw [hoi]; exact hs⟩
    have hd := park_done he
    have hlt : mvW (stepT t (parkS i)) left < mvW t left := by
      refine sumS_lt left ⟨61, n⟩ hm (fun o ho => ?_) ?_
      · obtain ⟨o1, _⟩ := (hl.mem o).1 ho
        unfold wtv
        split
        · by_cases e2 : o.node.id = i
          · have : parkedB (stepT t (parkS i)) o.node.id.toNat = true := parkedB_iff.2 (by rw [hd, if_pos (by omega), e2]; congr 2; omega)
            rw [this]; simp; split <;> omega
          · rw [parkedB_congr (show stepT t (parkS i) o.node.id.toNat = t o.node.id.toNat by rw [hd, if_neg (by omega)])]; omega
        · omega
      · have e3 : n.id = i := hoi
        have q1 : parkedB (stepT t (parkS i)) n.id.toNat = true := parkedB_iff.2 (by rw [hd, if_pos (by omega), e3]; congr 2; omega)
        have q2 : parkedB t n.id.toNat = false := by
          cases hq : parkedB t n.id.toNat
          · rfl
          · have := parkedB_iff.1 hq
            rw [e3, Int.toNat_of_nonneg (by omega)] at this
            exact absurd this hp
        show (if (61 : UInt8) == 61 then (if parkedB (stepT t (parkS i)) n.id.toNat then 1 else 2) else 0) < (if (61 : UInt8) == 61 then (if parkedB t n.id.toNat then 1 else 2) else 0)
        rw [q1, q2]; decide
    have k1 : isK 43 (parkS i) = false := rfl
    have k2 : isK 45 (parkS i) = false := rfl
    have k3 : isK 61 (parkS i) = true := rfl
    have k4 : isParkB (parkS i) = true := by
      show ((61 : UInt8) == 61 && ndEq (parkN i) (parkN i)) = true
      rw [ndEq_iff.2 rfl]; rfl
    unfold cntK parkCnt at *
    simp only [List.countP_cons, k1, k2, k3, k4, if_true]
    refine ⟨by simpa using i1, by simpa using i2, by omega, by omega, by omega⟩
theorem make_counts {na nb : List Nd} {a g : Tr} (ra : Rep na a) (rg : Rep nb g) (hva : Valid a) (hvg : Valid g) :
    cntK 43 (makeT a g) = cntK 43 (homesR na nb) ∧ cntK 45 (makeT a g) = cntK 45 (homesR na nb) ∧ cntK 61 (homesR na nb) ≤ cntK 61 (makeT a g) ∧ cntK 61 (makeT a g) ≤ cntK 61 (homesR na nb) + parkCnt (makeT a g) ∧ cntK 61 (makeT a g) ≤ 2 * cntK 61 (homesR na nb) := by
  obtain ⟨h1, h2, h3, h4, h5⟩ := seg_counts hvg.ok (makeT_seg hva hvg) rfl _ (left_start ra rg hva.ok hvg.ok)
  exact ⟨h1, h2, h3, h4, Nat.le_trans h5 (mvW_le _ _)⟩
/-! The document's own counts: over the nodes of the two trees. -/
def newIs (na : List Nd) (n : Nd) : Bool := (lookR na n.id).isNone
def othIs (na : List Nd) (n : Nd) : Bool := match lookR na n.id with
  | none => false
  | some m => !ndEq m n
theorem cnt_flat (k : UInt8) (f : Nd → List St) (p : Nd → Bool) (h : ∀ n, cntK k (f n) = if p n then 1 else 0) : ∀ l : List Nd, cntK k (l.flatMap f) = l.countP p := by
  intro l
  induction l with
  | nil => rfl
  | cons n l ih =>
    unfold cntK at *
    rw [List.flatMap_cons, List.countP_append, List.countP_cons, ih, h n]; omega
theorem homes_new (na nb : List Nd) : cntK 43 (homesR na nb) = nb.countP (newIs na) := by
  have e1 : cntK 43 (nb.flatMap (homeB na)) = nb.countP (newIs na) := cnt_flat 43 _ _ (fun n => by
    unfold homeB newIs cntK
    cases lookR na n.id with
    | none => simp [isK]
    | some m => simp only; split <;> simp [isK]) nb
  have e2 : cntK 43 (na.flatMap (homeA nb)) = na.countP (fun _ => false) := cnt_flat 43 _ _ (fun n => by
    unfold homeA cntK
    cases lookR nb n.id <;> simp [isK]) na
  unfold homesR cntK at *
  rw [List.countP_append, e1, e2]; simp
theorem homes_oth (na nb : List Nd) : cntK 61 (homesR na nb) = nb.countP (othIs na) := by
  have e1 : cntK 61 (nb.flatMap (homeB na)) = nb.countP (othIs na) := cnt_flat 61 _ _ (fun n => by
    unfold homeB othIs cntK
    cases lookR na n.id with
    | none => simp [isK]
    | some m =>
      simp only
      by_cases hq : ndEq m n = true
      · rw [if_pos hq, if_neg (by simp [hq])]; rfl
      · rw [if_neg hq, if_pos (by simpa using hq)]; rfl) nb
  have e2 : cntK 61 (na.flatMap (homeA nb)) = na.countP (fun _ => false) := cnt_flat 61 _ _ (fun n => by
    unfold homeA cntK
    cases lookR nb n.id <;> simp [isK]) na
  unfold homesR cntK at *
  rw [List.countP_append, e1, e2]; simp
theorem homes_del (na nb : List Nd) : cntK 45 (homesR na nb) = na.countP (newIs nb) := by
  have e1 : cntK 45 (nb.flatMap (homeB na)) = nb.countP (fun _ => false) := cnt_flat 45 _ _ (fun n => by
    unfold homeB cntK
    cases lookR na n.id with
    | none => simp [isK]
    | some m => simp only; split <;> simp [isK]) nb
  have e2 : cntK 45 (na.flatMap (homeA nb)) = na.countP (newIs nb) := cnt_flat 45 _ _ (fun n => by
    unfold homeA newIs cntK
    cases lookR nb n.id <;> simp [isK]) na
  unfold homesR cntK at *
  rw [List.countP_append, e1, e2]; simp
theorem count_not (p : Nd → Bool) : ∀ l : List Nd, l.countP p + (l.filter (fun n => !p n)).length = l.length := by
  intro l
  induction l with
  | nil => rfl
  | cons n l ih =>
    rw [List.countP_cons, List.filter_cons, List.length_cons]
    cases p n <;> simp <;> omega
theorem both_le {na nb : List Nd} (ha : (na.map (·.id)).Nodup) : (na.filter (fun n => !newIs nb n)).length ≤ (nb.filter (fun n => !newIs na n)).length := by
  have := pigeon ((na.filter (fun n => !newIs nb n)).map (·.id)) ((nb.filter (fun n => !newIs na n)).map (·.id)) (List.Nodup.sublist (List.Sublist.map _ List.filter_sublist) ha) (fun x hx => by
    obtain ⟨n, hn, rfl⟩ := List.mem_map.1 hx
    rw [List.mem_filter] at hn
    unfold newIs at hn
    cases hq : lookR nb n.id with
    | none => rw [hq] at hn; simp at hn
    | some m =>
      obtain ⟨m1, m2⟩ := lookR_mem hq
      refine List.mem_map.2 ⟨m, List.mem_filter.2 ⟨m1, ?_⟩, m2⟩
      unfold newIs
      cases hq2 : lookR na m.id with
      | none => exact absurd m2.symm (lookR_no hq2 n hn.1)
      | some _ => rfl)
  simpa using this
/-- Deletions: by the two trees' lengths. -/
theorem homes_del_len {na nb : List Nd} {a g : Tr} (ra : Rep na a) (rg : Rep nb g) : cntK 45 (homesR na nb) + nb.length = na.length + cntK 43 (homesR na nb) := by
  rw [homes_del, homes_new]
  have h1 := count_not (newIs nb) na
  have h2 := count_not (newIs na) nb
  have h3 := both_le (nb := nb) ra.ids
  have h4 := both_le (nb := na) rg.ids
  omega
end Go.Proofs.YtkahmbpggdneoaaDoor
