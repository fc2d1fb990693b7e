import Derived.Test.YtkjancfakplogaaGreatDoorKPure1
namespace Go.Proofs.YtkjancfakplogaaGreatDoor
open Go.RowKit
/-! A tree's nodes in the order of their numbers. -/
def nodesOf (t : Tr) : List Nd := (List.range' 1 99).filterMap t
theorem flat_filter {t : Tr} : ∀ (l : List Nat), l.flatMap (textAt t) = (l.filterMap t).flatMap nodeText := by
  intro l
  induction l with
  | nil => rfl
  | cons i l ih =>
    rw [List.flatMap_cons, ih]
    unfold textAt
    cases h : t i with
    | none => simp [h]
    | some n => simp [h]
theorem textT_nodes (t : Tr) : textT t = (nodesOf t).flatMap nodeText := flat_filter _
theorem nodesOf_mem {t : Tr} (ht : TrOk t) {n : Nd} : n ∈ nodesOf t ↔ t n.id.toNat = some n ∧ 1 ≤ n.id := by
  unfold nodesOf
  rw [List.mem_filterMap]
  constructor
  · rintro ⟨i, hi, h⟩
    have := ht.2 i n h
    rw [show n.id.toNat = i by omega]; exact ⟨h, by omega⟩
  · rintro ⟨h, h1⟩
    have := ht.2 _ n h
    exact ⟨n.id.toNat, by rw [List.mem_range'_1]; omega, h⟩
theorem nodesOf_ok {t : Tr} (ht : TrOk t) : ∀ n ∈ nodesOf t, NdOk n := by
  intro n hn
  obtain ⟨h, h1⟩ := (nodesOf_mem ht).1 hn
  have := ht.2 _ n h
  exact ⟨h1, by omega, this.2.2.2.1, this.2.2.2.2.1, this.2.2.2.2.2⟩
theorem nodesOf_len (t : Tr) : (nodesOf t).length ≤ 99 := by
  have := List.length_filterMap_le t (List.range' 1 99)
  simpa [nodesOf] using this
/-- strictly rising -/
def Rises (l : List Nd) : Prop := l.Pairwise (fun a b => a.id < b.id)
theorem rises_filter {t : Tr} (ht : TrOk t) : ∀ (k lo : Nat), Rises ((List.range' lo k).filterMap t) ∧ ∀ n ∈ (List.range' lo k).filterMap t, (lo : Int) ≤ n.id := by
  intro k
  induction k with
  | zero => intro lo; exact ⟨List.Pairwise.nil, by simp⟩
  | succ k ih =>
    intro lo
    obtain ⟨h1, h2⟩ := ih (lo + 1)
    rw [List.range'_succ]
    cases h : t lo with
    | none =>
      rw [List.filterMap_cons_none h]
      exact ⟨h1, fun n hn => by have := h2 n hn; omega⟩
    | some n =>
      rw [List.filterMap_cons_some h]
      have hid := (ht.2 lo n h).1
      refine ⟨List.Pairwise.cons (fun m hm => by have := h2 m hm; omega) h1, fun m hm => ?_⟩
      rcases List.mem_cons.1 hm with rfl | hm
      · omega
      · have := h2 m hm; omega
theorem rises_ordered {l : List Nd} (h : Rises l) : Ordered l := by
  intro i j hij hj
  rw [ndAt_get _ _ hj, ndAt_get _ _ (by omega)]
  exact List.pairwise_iff_getElem.1 h i j (by omega) hj hij
theorem ordered_rises {l : List Nd} (h : Ordered l) : Rises l := by
  refine List.pairwise_iff_getElem.2 (fun i j hi hj hij => ?_)
  have := h i j hij hj
  rwa [ndAt_get _ _ hj, ndAt_get _ _ hi] at this
theorem nodesOf_ordered {t : Tr} (ht : TrOk t) : Ordered (nodesOf t) := rises_ordered (rises_filter ht 99 1).1
/-- Two rising lists with the same members are one. -/
theorem rises_eq : ∀ (a b : List Nd), Rises a → Rises b → (∀ n, n ∈ a ↔ n ∈ b) → a = b := by
  intro a
  induction a with
  | nil =>
    intro b _ _ h
    cases b with
    | nil => rfl
    | cons m b => have := (h m).2 (by simp); simp at this
  | cons n a ih =>
    intro b ha hb h
    cases b with
    | nil => have := (h n).1 (by simp); simp at this
    | cons m b =>
      have ha' := List.pairwise_cons.1 ha
      have hb' := List.pairwise_cons.1 hb
      have hnm : n = m := by
        rcases List.mem_cons.1 ((h n).1 (by simp)) with e | e
        · exact e
        · rcases List.mem_cons.1 ((h m).2 (by simp)) with e2 | e2
          · exact e2.symm
          · have := ha'.1 m e2; have := hb'.1 n e; omega
      subst hnm
      congr 1
      refine ih b ha'.2 hb'.2 (fun x => ?_)
      constructor
      · intro hx
        rcases List.mem_cons.1 ((h x).1 (by simp [hx])) with rfl | e
        · have := ha'.1 x hx; omega
        · exact e
      · intro hx
        rcases List.mem_cons.1 ((h x).2 (by simp [hx])) with rfl | e
        · have := hb'.1 x hx; omega
        · exact e
theorem gather_mem {ns : List Nd} (hu : Unique ns) (hb : ∀ n ∈ ns, 1 ≤ n.id) {n : Nd} : gather ns n.id.toNat = some n ∧ 1 ≤ n.id ↔ n ∈ ns := by
  rw [gather_look hu hb]
  constructor
  · rintro ⟨h, _⟩; exact (lookR_mem h).1
  · intro h; exact ⟨lookR_of hu h, hb n h⟩
theorem gather_trOk {ns : List Nd} (h : ∀ n ∈ ns, NdOk n) : TrOk (gather ns) := gather_ok_aux ns tr0 trOk_0 h
theorem nodesOf_gather {ns : List Nd} (ho : Ordered ns) (h : ∀ n ∈ ns, NdOk n) : nodesOf (gather ns) = ns := by
  refine rises_eq _ _ (rises_filter (gather_trOk h) 99 1).1 (ordered_rises ho) (fun n => ?_)
  rw [nodesOf_mem (gather_trOk h), gather_mem (ordered_unique ho) (fun n hn => (h n hn).1)]
theorem gather_nodesOf {t : Tr} (ht : TrOk t) : gather (nodesOf t) = t := by
  funext i
  have ho := nodesOf_ordered ht
  have hk := nodesOf_ok ht
  have := gather_look (ordered_unique ho) (fun n hn => (hk n hn).1) (i : Int)
  rw [Int.toNat_natCast] at this
  rw [this]
  cases h : t i with
  | some n =>
    have hn := ht.2 i n h
    have hm : n ∈ nodesOf t := (nodesOf_mem ht).2 ⟨by rw [show n.id.toNat = i by omega]; exact h, by omega⟩
    have := lookR_of (ordered_unique ho) hm
    rw [hn.1] at this; exact this
  | none =>
    cases hl : lookR (nodesOf t) (i : Int) with
    | none => rfl
    | some m =>
      obtain ⟨h1, h2⟩ := lookR_mem hl
      obtain ⟨h3, h4⟩ := (nodesOf_mem ht).1 h1
      rw [show m.id.toNat = i by omega, h] at h3; cases h3
/-! What is read of a text that was written. -/
theorem cut_nodes : ∀ (ns : List Nd), (∀ n ∈ ns, NdOk n) → cut (ns.flatMap nodeText) = ns.map nodeText := by
  intro ns
  induction ns with
  | nil => intro _; rfl
  | cons n ns ih =>
    intro h
    rw [List.flatMap_cons, nodeText_body, cut_cons (body_no (h n (by simp))), ih (fun m hm => h m (by simp [hm]))]
    rw [List.map_cons, nodeText_body]
theorem readNodes_map : ∀ (ns : List Nd), (∀ n ∈ ns, NdOk n) → readNodes (ns.map nodeText) = ns := by
  intro ns
  induction ns with
  | nil => intro _; rfl
  | cons n ns ih =>
    intro h
    rw [List.map_cons, readNodes, recNode_text (h n (by simp)), ih (fun m hm => h m (by simp [hm]))]
theorem readNodes_text {t : Tr} (ht : TrOk t) : readNodes (cut (textT t)) = nodesOf t ∧ (cut (textT t)).length = (nodesOf t).length := by
  rw [textT_nodes, cut_nodes _ (nodesOf_ok ht), readNodes_map _ (nodesOf_ok ht)]; simp
theorem readNodes_all : ∀ (rs : List Str), ¬ (readNodes rs).length < rs.length → rs = (readNodes rs).map nodeText := by
  intro rs
  induction rs with
  | nil => intro _; rfl
  | cons r rs ih =>
    intro h
    unfold readNodes at h ⊢
    cases hr : recNode r with
    | none => rw [hr] at h; simp at h
    | some n =>
      rw [hr] at h
      simp only [List.length_cons] at h
      simp only [List.map_cons]
      rw [← ih (by omega), ← recNode_canon hr]
/-- What Check lets pass is written again as it was. -/
theorem check_parts {l : Str} (h : (checkT l).1 = 0) : checkT l = (0, 0) ∧ l.length ≤ 4000 ∧ ¬ (readNodes (cut l)).length < (cut l).length ∧ Ordered (readNodes (cut l)) ∧ misplaced (gather (readNodes (cut l))) (readNodes (cut l)) = (0, 0) := by
  unfold checkT at h ⊢
  split at h
  · simp at h
  · rename_i h1
    simp only [] at h ⊢
    split at h
    · simp at h
    · rename_i h2
      split at h
      · simp at h
      · rename_i h3
        have hm : misplaced (gather (readNodes (cut l))) (readNodes (cut l)) = (0, 0) := by
          unfold misplaced at h ⊢
          split <;> (try split) <;> (try split) <;> simp_all
        rw [if_neg h1, if_neg h2, if_neg h3, hm]
        exact ⟨rfl, by omega, h2, ordered_of h3, rfl⟩
theorem text_check {l : Str} (h : (checkT l).1 = 0) : textT (gather (readNodes (cut l))) = l := by
  obtain ⟨_, _, h2, h3, _⟩ := check_parts h
  have hk := readNodes_bd (cut l)
  rw [textT_nodes, nodesOf_gather h3 hk]
  have := readNodes_all (cut l) h2
  have hf := cut_flat l
  rw [this] at hf
  rw [List.flatMap_def]
  conv => rhs; rw [← hf]
end Go.Proofs.YtkjancfakplogaaGreatDoor
