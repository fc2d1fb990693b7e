import Derived.Test.YtdcjimlhaklhfabGreatDoorHm2
namespace Go.Proofs.YtdcjimlhaklhfabGreatDoor
open Go.RowKit
/-! A tree's nodes in the order of their numbers. -/
def nodesOf (t : Tr) : List Nd := (List.range' 1 99).filterMap t
theorem flat_filter {t : Tr} : ∀ (l : List Nat), l.flatMap (textAt t) = (l.filterMap t).flatMap nodeText := by
  intro l
  induction l with
  | nil => rfl
  | cons i l ih =>
    rw [List.flatMap_cons, ih]
    unfold textAt
    cases h : t i with
    | none => simp [h]
    | some n => simp [h]
theorem textT_nodes (t : Tr) : textT t = (nodesOf t).flatMap nodeText := flat_filter _
theorem nodesOf_mem {t : Tr} (ht : TrOk t) {n : Nd} : n ∈ nodesOf t ↔ t n.id.toNat = some n ∧ 1 ≤ n.id := by
  unfold nodesOf
  rw [List.mem_filterMap]
  constructor
  · rintro ⟨i, hi, h⟩
    have := ht.2 i n h
    rw [show n.id.toNat = i by omega]; exact ⟨h, by omega⟩
  · rintro ⟨h, h1⟩
    have := ht.2 _ n h
    exact ⟨n.id.toNat, by rw [List.mem_range'_1]; omega, h⟩
theorem nodesOf_ok {t : Tr} (ht : TrOk t) : ∀ n ∈ nodesOf t, NdOk n := by
  intro n hn
  obtain ⟨h, h1⟩ := (nodesOf_mem ht).1 hn
  have := ht.2 _ n h
  exact ⟨h1, by omega, this.2.2.2.1, this.2.2.2.2.1, this.2.2.2.2.2⟩
theorem nodesOf_len (t : Tr) : (nodesOf t).length ≤ 99 := by
  have := List.length_filterMap_le t (List.range' 1 99)
  simpa [nodesOf] using this
/-- strictly rising -/
def Rises (l : List Nd) : Prop := l.Pairwise (fun a b => a.id < b.id)
theorem rises_filter {t : Tr} (ht : TrOk t) : ∀ (k lo : Nat), Rises ((List.range' lo k).filterMap t) ∧ ∀ n ∈ (List.range' lo k).filterMap t, (lo : Int) ≤ n.id := by
  intro k
  induction k with
  | zero => intro lo; exact ⟨List.Pairwise.nil, by simp⟩
  | succ k ih =>
    intro lo
    obtain ⟨h1, h2⟩ := ih (lo + 1)
    rw [List.range'_succ]
    cases h : t lo with
    | none =>
      rw [List.filterMap_cons_none h]
      exact ⟨h1, fun n hn => by have := h2 n hn; omega⟩
    | some n =>
      rw [List.filterMap_cons_some h]
      have hid := (ht.2 lo n h).1
      refine ⟨List.Pairwise.cons (fun m hm => by have := h2 m hm; omega) h1, fun m hm => ?_⟩
      rcases List.mem_cons.1 hm with rfl | hm
      · omega
      · have := h2 m hm; omega
theorem rises_ordered {l : List Nd} (h : Rises l) : Ordered l := by
  intro i j hij hj
  rw [ndAt_get _ _ hj, ndAt_get _ _ (by omega)]
  exact List.pairwise_iff_getElem.1 h i j (by omega) hj hij
theorem ordered_rises {l : List Nd} (h : Ordered l) : Rises l := by
  refine List.pairwise_iff_getElem.2 (fun i j hi hj hij => ?_)
  have := h i j hij hj
  rwa [ndAt_get _ _ hj, ndAt_get _ _ hi] at this
theorem nodesOf_ordered {t : Tr} (ht : TrOk t) : Ordered (nodesOf t) := rises_ordered (rises_filter ht 99 1).1
/-- Two rising lists with the same members are one. -/
theorem rises_eq : ∀ (a b : List Nd), Rises a → Rises b → (∀ n, n ∈ a ↔ n ∈ b) → a = b := by
  intro a
  induction a with
  | nil =>
    intro b _ _ h
    cases b with
    | nil => rfl
    | cons m b => have := (h m).2 (by simp); simp at this
  | cons n a ih =>
    intro b ha hb h
    cases b with
    | nil => have := (h n).1 (by simp); simp at this
    | cons m b =>
      have ha' := List.pairwise_cons.1 ha
      have hb' := List.pairwise_cons.1 hb
      have hnm : n = m := by
        rcases List.mem_cons.1 ((h n).1 (by simp)) with e | e
        · exact e
        · rcases List.mem_cons.1 ((h m).2 (by simp)) with e2 | e2
          · exact e2.symm
          · have := ha'.1 m e2; have := hb'.1 n e; omega
      subst hnm
      congr 1
      refine ih b ha'.2 hb'.2 (fun x => ?_)
      constructor
      · intro hx
        rcases List.mem_cons.1 ((h x).1 (by simp [hx])) with rfl | e
        · have := ha'.1 x hx; omega
        · exact e
      · intro hx
        rcases List.mem_cons.1 ((h x).2 (by simp [hx])) with rfl | e
        · have := hb'.1 x hx; omega
        · exact e
theorem gather_mem {ns : List Nd} (hu : Unique ns) (hb : ∀ n ∈ ns, 1 ≤ n.id) {n : Nd} : gather ns n.id.toNat = some n ∧ 1 ≤ n.id ↔ n ∈ ns := by
  rw [gather_look hu hb]
  constructor
  · rintro ⟨h, _⟩; exact (lookR_mem h).1
  · intro h; exact ⟨lookR_of hu h, hb n h⟩
theorem gather_trOk {ns : List Nd} (h : ∀ n ∈ ns, NdOk n) : TrOk (gather ns) := gather_ok_aux ns tr0 trOk_0 h
theorem nodesOf_gather {ns : List Nd} (ho : Ordered ns) (h : ∀ n ∈ ns, NdOk n) : nodesOf (gather ns) = ns := by
  refine rises_eq _ _ (rises_filter (gather_trOk h) 99 1).1 (ordered_rises ho) (fun n => ?_)
  rw [nodesOf_mem (gather_trOk h), gather_mem (ordered_unique ho) (fun n hn => (h n hn).1)]
theorem gather_nodesOf {t : Tr} (ht : TrOk t) : gather (nodesOf t) = t := by
  funext i
  have ho := nodesOf_ordered ht
  have hk := nodesOf_ok ht
  have := gather_look (ordered_unique ho) (fun n hn => (hk n hn).1) (i : Int)
  rw [Int.toNat_natCast] at this
  rw [this]
  cases h : t i with
  | some n =>
    have hn := ht.2 i n h
    have hm : n ∈ nodesOf t := (nodesOf_mem ht).2 ⟨by rw [show n.id.toNat = i by omega]; exact h, by omega⟩
    have := lookR_of (ordered_unique ho) hm
    rw [hn.1] at this; exact this
  | none =>
    cases hl : lookR (nodesOf t) (i : Int) with
    | none => rfl
    | some m =>
      obtain ⟨h1, h2⟩ := lookR_mem hl
      obtain ⟨h3, h4⟩ := (nodesOf_mem ht).1 h1
      rw [show m.id.toNat = i by omega, h] at h3; cases h3
/-! What is read of a text that was written. -/
theorem cut_nodes : ∀ (ns : List Nd), (∀ n ∈ ns, NdOk n) → cut (ns.flatMap nodeText) = ns.map nodeText := by
  intro ns
  induction ns with
  | nil => intro _; rfl
  | cons n ns ih =>
    intro h
    rw [List.flatMap_cons, nodeText_body, cut_cons (body_no (h n (by simp))), ih (fun m hm => h m (by simp [hm]))]
    rw [List.map_cons, nodeText_body]
theorem readNodes_map : ∀ (ns : List Nd), (∀ n ∈ ns, NdOk n) → readNodes (ns.map nodeText) = ns := by
  intro ns
  induction ns with
  | nil => intro _; rfl
  | cons n ns ih =>
    intro h
    rw [List.map_cons, readNodes, recNode_text (h n (by simp)), ih (fun m hm => h m (by simp [hm]))]
theorem readNodes_text {t : Tr} (ht : TrOk t) : readNodes (cut (textT t)) = nodesOf t ∧ (cut (textT t)).length = (nodesOf t).length := by
  rw [textT_nodes, cut_nodes _ (nodesOf_ok ht), readNodes_map _ (nodesOf_ok ht)]; simp
theorem readNodes_all : ∀ (rs : List Str), ¬ (readNodes rs).length < rs.length → rs = (readNodes rs).map nodeText := by
  intro rs
  induction rs with
  | nil => intro _; rfl
  | cons r rs ih =>
    intro h
    unfold readNodes at h ⊢
    cases hr : recNode r with
    | none => rw [hr] at h; simp at h
    | some n =>
      rw [hr] at h
      simp only [List.length_cons] at h
      simp only [List.map_cons]
      rw [← ih (by omega), ← recNode_canon hr]
/-- What Check lets pass is written again as it was. -/
theorem check_parts {l : Str} (h : (checkT l).1 = 0) : checkT l = (0, 0) ∧ l.length ≤ 4000 ∧ ¬ (readNodes (cut l)).length < (cut l).length ∧ Ordered (readNodes (cut l)) ∧ misplaced (gather (readNodes (cut l))) (readNodes (cut l)) = (0, 0) := by
  unfold checkT at h ⊢
  split at h
  · simp at h
  · rename_i h1
    simp only [] at h ⊢
    split at h
    · simp at h
    · rename_i h2
      split at h
      · simp at h
      · rename_i h3
        have hm : misplaced (gather (readNodes (cut l))) (readNodes (cut l)) = (0, 0) := by
          unfold misplaced at h ⊢
          split <;> (try split) <;> (try split) <;> simp_all
        rw [if_neg h1, if_neg h2, if_neg h3, hm]
        exact ⟨rfl, by omega, h2, ordered_of h3, rfl⟩
theorem text_check {l : Str} (h : (checkT l).1 = 0) : textT (gather (readNodes (cut l))) = l := by
  obtain ⟨_, _, h2, h3, _⟩ := check_parts h
  have hk := readNodes_bd (cut l)
  rw [textT_nodes, nodesOf_gather h3 hk]
  have := readNodes_all (cut l) h2
  have hf := cut_flat l
  rw [this] at hf
  rw [List.flatMap_def]
  conv => rhs; rw [← hf]
end Go.Proofs.YtdcjimlhaklhfabGreatDoor

namespace Go.Proofs.YtdcjimlhaklhfabGreatDoor
open Go.RowKit
/-! A way up of whatever length. -/
def Goes (t : Tr) (x goal : Int) : Prop := ∃ f, meetsF t f x goal = true
theorem meets_up (t : Tr) (goal : Int) {f : Nat} {x : Int} (h : meetsF t f x goal = true) : meetsF t (f + 1) x goal = true := by
  induction f generalizing x with
  | zero => simp [meetsF] at h
  | succ f ih =>
    rw [meetsF] at h ⊢
    by_cases e : x = goal
    · rw [if_pos e]
    · rw [if_neg e] at h ⊢
      cases ht : t x.toNat with
      | none => rw [ht] at h; simp at h
      | some n => rw [ht] at h; simp only at h ⊢; exact ih h
theorem goes_meets {t : Tr} (ht : TrOk t) {x goal : Int} : meetsT t x goal = true ↔ Goes t x goal := by
  constructor
  · intro h; exact ⟨100, h⟩
  · rintro ⟨f, h⟩
    have h1 := meets_up t goal h
    rw [meets_below] at h1
    unfold meetsT
    rw [show (100 : Nat) = 99 + 1 from rfl, meets_below]
    rw [Bool.or_eq_true] at h1 ⊢
    rcases h1 with h1 | h1
    · exact .inl h1
    · right
      have hs := below_stop (ns := nodesOf t) (look := fun x : Int => t x.toNat) (fun y n hn => by
        have := ht.2 _ n hn
        refine ⟨(nodesOf_mem ht).2 ⟨by rw [show n.id.toNat = y.toNat by omega]; exact hn, by omega⟩, by omega⟩) f x h1
      exact below_le (nodesOf_len t) x hs
theorem goes_here (t : Tr) (x : Int) : Goes t x x := ⟨1, by simp [meetsF]⟩
theorem goes_up {t : Tr} {x goal : Int} {n : Nd} (h : t x.toNat = some n) (hg : Goes t n.parent goal) : Goes t x goal := by
  obtain ⟨f, hf⟩ := hg
  refine ⟨f + 1, ?_⟩
  rw [meetsF, h]
  split
  · rfl
  · exact hf
/-- A tree as Check wants it. -/
structure Valid (t : Tr) : Prop where
  ok : TrOk t
  parent : ∀ i n, t i = some n → isParentT t n.parent = true
  goes : ∀ i n, t i = some n → Goes t n.id 0
  apart : ∀ i j n m, t i = some n → t j = some m → n.parent = m.parent → n.name = m.name → i = j
theorem valid_of_check {l : Str} (h : (checkT l).1 = 0) : Valid (gather (readNodes (cut l))) := by
  obtain ⟨_, _, _, ho, hm⟩ := check_parts h
  have hk := readNodes_bd (cut l)
  generalize readNodes (cut l) = ns at *
  have hok := gather_trOk hk
  have hmem : ∀ i n, gather ns i = some n → n ∈ ns := by
    intro i n hn
    have := hok.2 i n hn
    exact (gather_mem (ordered_unique ho) (fun n hn => (hk n hn).1)).1 ⟨by rw [show n.id.toNat = i by omega]; exact hn, by omega⟩
  unfold misplaced at hm
  split at hm
  · simp at hm
  · rename_i h1
    split at hm
    · simp at hm
    · rename_i h2
      split at hm
      · simp at hm
      · rename_i h3
        have n1 : ∀ j, j < ns.length → orphan (gather ns) ns j = false := by
          rcases scan_cases (orphan (gather ns) ns) 0 ns.length with ⟨e, _⟩ | ⟨_, e⟩
          · exact absurd e h1
          · exact fun j hj => e j (by omega) hj
        have n2 : ∀ j, j < ns.length → looped (gather ns) ns j = false := by
          rcases scan_cases (looped (gather ns) ns) 0 ns.length with ⟨e, _⟩ | ⟨_, e⟩
          · exact absurd e h2
          · exact fun j hj => e j (by omega) hj
        have n3 : ∀ j, j < ns.length → twice ns j = false := by
          rcases scan_cases (twice ns) 0 ns.length with ⟨e, _⟩ | ⟨_, e⟩
          · exact absurd e h3
          · exact fun j hj => e j (by omega) hj
        refine ⟨hok, ?_, ?_, ?_⟩
        · intro i n hn
          obtain ⟨j, hj, rfl⟩ := mem_ndAt (hmem i n hn)
          have := n1 j hj; unfold orphan at this; simpa using this
        · intro i n hn
          obtain ⟨j, hj, rfl⟩ := mem_ndAt (hmem i n hn)
          have := n2 j hj; unfold looped at this
          exact (goes_meets hok).1 (by simpa using this)
        · intro i j n m hn hm' hp hnm
          obtain ⟨a, ha, rfl⟩ := mem_ndAt (hmem i n hn)
          obtain ⟨b, hb, rfl⟩ := mem_ndAt (hmem j m hm')
          have hid1 := (hok.2 i _ hn).1
          have hid2 := (hok.2 j _ hm').1
          have hno : ∀ x y, x < y → y < ns.length → (ndAt ns x).parent = (ndAt ns y).parent → (ndAt ns x).name = (ndAt ns y).name → False := by
            intro x y hxy hy h4 h5
            have := n3 y hy
            unfold twice at this
            have := of_decide_eq_false this
            exact this ⟨x, hxy, by unfold samePlace; rw [h4, h5]; simp⟩
          rcases Nat.lt_trichotomy a b with h6 | rfl | h6
          · exact (hno a b h6 hb hp hnm).elim
          · omega
          · exact (hno b a h6 ha hp.symm hnm.symm).elim
/-- A tree that is right, written and read, passes. -/
theorem check_text {t : Tr} (hv : Valid t) : checkT (textT t) = (0, 0) ∧ gather (readNodes (cut (textT t))) = t := by
  obtain ⟨e1, e2⟩ := readNodes_text hv.ok
  have ho := nodesOf_ordered hv.ok
  have hk := nodesOf_ok hv.ok
  have hg := gather_nodesOf hv.ok
  have hlen : (textT t).length ≤ 4000 := by have := textTo_len hv.ok 99; unfold textT; omega
  refine ⟨?_, by rw [e1, hg]⟩
  unfold checkT
  rw [if_neg (by omega)]
  simp only []
  rw [e1, e2, if_neg (by omega), hg]
  have h3 : ¬ scan (unordered (nodesOf t)) 1 (nodesOf t).length < (nodesOf t).length := by
    rw [scan_none]
    · omega
    · intro j h1 h2
      unfold unordered
      have := ho (j - 1) j (by omega) h2
      exact decide_eq_false (by omega)
  rw [if_neg h3]
  have hat : ∀ j, j < (nodesOf t).length → t (ndAt (nodesOf t) j).id.toNat = some (ndAt (nodesOf t) j) := fun j hj => ((nodesOf_mem hv.ok).1 (ndAt_mem hj)).1
  unfold misplaced
  rw [scan_none (p := orphan t (nodesOf t)) (fun j _ hj => by unfold orphan; rw [hv.parent _ _ (hat j hj)]; rfl), if_neg (by omega)]
  rw [scan_none (p := looped t (nodesOf t)) (fun j _ hj => by unfold looped; rw [(goes_meets hv.ok).2 (hv.goes _ _ (hat j hj))]; rfl), if_neg (by omega)]
  rw [scan_none (p := twice (nodesOf t)) (fun j _ hj => by
    unfold twice
    apply decide_eq_false
    rintro ⟨x, hx, hs⟩
    unfold samePlace at hs
    simp only [Bool.and_eq_true, beq_iff_eq] at hs
    have h4 := hv.apart _ _ _ _ (hat x (by omega)) (hat j hj) hs.1 hs.2
    have h5 := ho x j hx hj
    have h6 := (hk _ (ndAt_mem (ns := nodesOf t) (i := x) (by omega))).1
    omega), if_neg (by omega)]
/-! The steps keep trees right. -/
theorem hasT_iff {t : Tr} {id : Int} : hasT t id = true ↔ ∃ n, t id.toNat = some n := by unfold hasT; exact Option.isSome_iff_exists
theorem isParent_iff {t : Tr} {p : Int} : isParentT t p = true ↔ p = 0 ∨ (p % 2 = 0 ∧ ∃ n, t p.toNat = some n) := by
  unfold isParentT; rw [Bool.or_eq_true, Bool.and_eq_true, beq_iff_eq, beq_iff_eq, hasT_iff]
theorem atT_none {t : Tr} {p : Int} {s : Str} (h : atT t p s = 0) : ∀ i n, 1 ≤ i → i ≤ 99 → t i = some n → n.parent = p → n.name = s → False := by
  intro i n h1 h2 hn hp hs
  rcases scan_cases (spotIs t p s) 1 100 with ⟨e1, e2, _, _⟩ | ⟨_, e⟩
  · unfold atT at h; rw [if_pos e1] at h; omega
  · have := e i h1 (by omega)
    unfold spotIs at this; rw [hn] at this; simp [hp, hs] at this
theorem atT_some {t : Tr} {p : Int} {s : Str} (hv : Valid t) (h : atT t p s ≠ 0) : ∀ i n, t i = some n → n.parent = p → n.name = s → (i : Int) = atT t p s := by
  intro i n hn hp hs
  rcases scan_cases (spotIs t p s) 1 100 with ⟨e1, e2, e3, _⟩ | ⟨e, _⟩
  · unfold atT; rw [if_pos e1]
    generalize scan (spotIs t p s) 1 100 = k at *
    unfold spotIs at e3
    cases hk : t k with
    | none => rw [hk] at e3; simp at e3
    | some m =>
      rw [hk] at e3; simp at e3
      have := hv.apart i k n m hn hk (by rw [hp, e3.1]) (by rw [hs, e3.2])
      omega
  · unfold atT at h; rw [if_neg (by omega)] at h; exact absurd rfl h
theorem put_at {t : Tr} {n : Nd} {i : Nat} : trPut t n i = if (i : Int) = n.id then some n else t i := rfl
theorem valid_put {t : Tr} (hv : Valid t) {n : Nd} (hn : NdOk n) (hp : isParentT t n.parent = true) (hlo : hasT t n.id = true → ¬ Goes t n.parent n.id) (hat : ∀ i m, t i = some m → m.parent = n.parent → m.name = n.name → (i : Int) = n.id) : Valid (trPut t n) := by
  have hok := trOk_put hv.ok hn
  have hself : trPut t n n.id.toNat = some n := by rw [put_at, if_pos (by have := hn.1; omega)]
  have hoth : ∀ i : Nat, (i : Int) ≠ n.id → trPut t n i = t i := fun i hi => by rw [put_at, if_neg hi]
  have hhas : ∀ (p : Int) m, t p.toNat = some m → ∃ m', trPut t n p.toNat = some m' := by
    intro p m hm
    by_cases e : (p.toNat : Int) = n.id
    · exact ⟨n, by rw [put_at, if_pos e]⟩
    · exact ⟨m, by rw [hoth _ e]; exact hm⟩
  have hpar : ∀ p, isParentT t p = true → isParentT (trPut t n) p = true := by
    intro p h
    rw [isParent_iff] at h ⊢
    rcases h with h | ⟨h1, m, h2⟩
    · exact .inl h
    · exact .inr ⟨h1, hhas p m h2⟩
  -- the way from the new parent does not meet the node itself
  have havoid : ¬ Goes t n.parent n.id := by
    cases hh : hasT t n.id
    · rintro ⟨f, hf⟩
      have hne : t n.id.toNat = none := by
        cases hq : t n.id.toNat with
        | none => rfl
        | some m => exact absurd (hasT_iff.2 ⟨m, hq⟩) (by rw [hh]; simp)
      -- all met are parents; the node is none
      have key : ∀ f x, isParentT t x = true → meetsF t f x n.id = true → False := by
        intro f
        induction f with
        | zero => intro x _ h; simp [meetsF] at h
        | succ f ih =>
          intro x hx h
          rw [meetsF] at h
          by_cases e : x = n.id
          · rw [isParent_iff] at hx
            rcases hx with hx | ⟨_, m, hm⟩
            · have := hn.1; omega
            · rw [e, hne] at hm; cases hm
          · rw [if_neg e] at h
            cases hx2 : t x.toNat with
            | none => rw [hx2] at h; simp at h
            | some m => rw [hx2] at h; exact ih m.parent (hv.parent _ m hx2) h
      exact key f n.parent hp hf
    · exact hlo hh
  have hgp : Goes (trPut t n) n.parent 0 := by
    have h0 : Goes t n.parent 0 := by
      rw [isParent_iff] at hp
      rcases hp with hp | ⟨_, m, hm⟩
      · rw [hp]; exact goes_here t 0
      · have := hv.goes _ m hm
        have hid := (hv.ok.2 _ m hm)
        rwa [show m.id = n.parent by have := hn.2.2.1; omega] at this
    obtain ⟨f, hf⟩ := h0
    have key : ∀ f x, ¬ Goes t x n.id → meetsF t f x 0 = true → Goes (trPut t n) x 0 := by
      intro f
      induction f with
      | zero => intro x _ h; simp [meetsF] at h
      | succ f ih =>
        intro x hx h
        rw [meetsF] at h
        by_cases e : x = 0
        · rw [e]; exact goes_here _ 0
        · rw [if_neg e] at h
          cases hx2 : t x.toNat with
          | none => rw [hx2] at h; simp at h
          | some m =>
            rw [hx2] at h
            have hxn : (x.toNat : Int) ≠ n.id := by
              intro e2
              have hid := hv.ok.2 _ m hx2
              apply hx
              rw [show x = n.id by omega]; exact goes_here t _
            exact goes_up (by rw [hoth _ hxn]; exact hx2) (ih m.parent (fun hg => hx (goes_up hx2 hg)) h)
    exact key f n.parent havoid hf
  have hgn : Goes (trPut t n) n.id 0 := goes_up hself hgp
  have hall : ∀ f x, meetsF t f x 0 = true → Goes (trPut t n) x 0 := by
    intro f
    induction f with
    | zero => intro x h; simp [meetsF] at h
    | succ f ih =>
      intro x h
      rw [meetsF] at h
      by_cases e : x = 0
      · rw [e]; exact goes_here _ 0
      · rw [if_neg e] at h
        cases hx2 : t x.toNat with
        | none => rw [hx2] at h; simp at h
        | some m =>
          rw [hx2] at h
          by_cases e2 : (x.toNat : Int) = n.id
          · have hid := hv.ok.2 _ m hx2
            rw [show x = n.id by omega]; exact hgn
          · exact goes_up (by rw [hoth _ e2]; exact hx2) (ih m.parent h)
  refine ⟨hok, ?_, ?_, ?_⟩
  · intro i m hm
    by_cases e : (i : Int) = n.id
    · rw [put_at, if_pos e] at hm; cases hm; exact hpar _ hp
    · rw [hoth _ e] at hm; exact hpar _ (hv.parent i m hm)
  · intro i m hm
    by_cases e : (i : Int) = n.id
    · rw [put_at, if_pos e] at hm; cases hm; exact hgn
    · rw [hoth _ e] at hm
      obtain ⟨f, hf⟩ := hv.goes i m hm
      exact hall f _ hf
  · intro i j a b ha hb h1 h2
    by_cases e1 : (i : Int) = n.id
    · by_cases e2 : (j : Int) = n.id
      · omega
      · rw [put_at, if_pos e1] at ha; cases ha
        rw [hoth _ e2] at hb
        have := hat j b hb h1.symm h2.symm; omega
    · rw [hoth _ e1] at ha
      by_cases e2 : (j : Int) = n.id
      · rw [put_at, if_pos e2] at hb; cases hb
        have := hat i a ha h1 h2; omega
      · rw [hoth _ e2] at hb
        exact hv.apart i j a b ha hb h1 h2
theorem valid_remove {t : Tr} (hv : Valid t) {id : Int} (hk : kidsT t id = false) : Valid (trRemove t id) := by
  have hoth : ∀ i : Nat, (i : Int) ≠ id → trRemove t id i = t i := fun i hi => by unfold trRemove; rw [if_neg hi]
  have hgone : ∀ i n, trRemove t id i = some n → t i = some n ∧ (i : Int) ≠ id := by
    intro i n h
    unfold trRemove at h
    split at h
    · cases h
    · exact ⟨h, by assumption⟩
  have hno : ∀ i n, t i = some n → n.parent ≠ id := by
    intro i n hn e
    have hi := hv.ok.2 i n hn
    rcases scan_cases (kidIs t id) 1 100 with ⟨e1, _⟩ | ⟨_, e2⟩
    · unfold kidsT at hk; exact absurd e1 (of_decide_eq_false hk)
    · have := e2 i hi.2.1 (by omega)
      unfold kidIs at this; rw [hn] at this; simp [e] at this
  have hall : ∀ f x, x ≠ id → meetsF t f x 0 = true → Goes (trRemove t id) x 0 := by
    intro f
    induction f with
    | zero => intro x _ h; simp [meetsF] at h
    | succ f ih =>
      intro x hx h
      rw [meetsF] at h
      by_cases e : x = 0
      · rw [e]; exact goes_here _ 0
      · rw [if_neg e] at h
        cases hx2 : t x.toNat with
        | none => rw [hx2] at h; simp at h
        | some m =>
          rw [hx2] at h
          have hid := hv.ok.2 _ m hx2
          exact goes_up (by rw [hoth _ (by omega)]; exact hx2) (ih m.parent (hno _ m hx2) h)
  refine ⟨trOk_remove hv.ok id, ?_, ?_, ?_⟩
  · intro i n hn
    obtain ⟨h1, h2⟩ := hgone i n hn
    have hp := hv.parent i n h1
    rw [isParent_iff] at hp ⊢
    rcases hp with hp | ⟨hp, m, hm⟩
    · exact .inl hp
    · refine .inr ⟨hp, m, ?_⟩
      have := hno i n h1
      have hid := hv.ok.2 _ m hm
      rw [hoth _ (by omega)]; exact hm
  · intro i n hn
    obtain ⟨h1, h2⟩ := hgone i n hn
    obtain ⟨f, hf⟩ := hv.goes i n h1
    have hid := hv.ok.2 i n h1
    exact hall f n.id (by omega) hf
  · intro i j a b ha hb h1 h2
    exact hv.apart i j a b (hgone i a ha).1 (hgone j b hb).1 h1 h2
theorem valid_step {t : Tr} (hv : Valid t) {s : St} (hs : StOk s) : Valid (stepT t s) := by
  unfold stepT
  by_cases hE : stepE t s = 0
  · rw [if_pos hE]
    rcases hs with ⟨hk, hn⟩ | ⟨hk, hn⟩
    · have h45 : ¬ s.kind = 45 := by rcases hk with h | h <;> rw [h] <;> decide
      rw [if_neg h45]
      have hN : NdOk s.node := hn
      rcases hk with h | h
      · have e : createE t s.node = 0 := by unfold stepE at hE; rwa [if_pos h] at hE
        unfold createE at e
        cases h1 : hasT t s.node.id
        · rw [h1] at e
          cases h2 : isParentT t s.node.parent
          · rw [h2] at e; simp at e
          · rw [h2] at e
            cases h3 : (atT t s.node.parent s.node.name != 0)
            · have h3' : atT t s.node.parent s.node.name = 0 := by simpa using h3
              refine valid_put hv hN h2 (fun hh => by rw [h1] at hh; cases hh) (fun i m hm hp hnm => ?_)
              have hi := hv.ok.2 i m hm
              exact (atT_none h3' i m hi.2.1 hi.2.2.1 hm hp hnm).elim
            · rw [h3] at e; simp at e
        · rw [h1] at e; simp at e
      · have e : moveE t s.node = 0 := by unfold stepE at hE; rwa [if_neg (by rw [h]; decide), if_pos h] at hE
        unfold moveE at e
        cases h1 : hasT t s.node.id
        · rw [h1] at e; simp at e
        · rw [h1] at e
          cases h2 : isParentT t s.node.parent
          · rw [h2] at e; simp at e
          · rw [h2] at e
            cases h3 : meetsT t s.node.parent s.node.id
            · rw [h3] at e
              refine valid_put hv hN h2 (fun _ hg => by rw [(goes_meets hv.ok).2 hg] at h3; cases h3) (fun i m hm hp hnm => ?_)
              have hi := hv.ok.2 i m hm
              cases h4 : (atT t s.node.parent s.node.name != 0)
              · exact (atT_none (by simpa using h4) i m hi.2.1 hi.2.2.1 hm hp hnm).elim
              · have h4' : atT t s.node.parent s.node.name ≠ 0 := by simpa using h4
                have := atT_some hv h4' i m hm hp hnm
                cases h5 : (atT t s.node.parent s.node.name != s.node.id)
                · have : atT t s.node.parent s.node.name = s.node.id := by simpa using h5
                  omega
                · rw [h4, h5] at e; simp at e
            · rw [h3] at e; simp at e
    · rw [if_pos hk]
      have e : deleteE t s.node.id = 0 := by unfold stepE at hE; rwa [if_neg (by rw [hk]; decide), if_neg (by rw [hk]; decide), if_pos hk] at hE
      unfold deleteE at e
      cases h1 : hasT t s.node.id
      · rw [h1] at e; simp at e
      · rw [h1] at e
        cases h2 : kidsT t s.node.id
        · exact valid_remove hv h2
        · rw [h2] at e; simp at e
  · rw [if_neg hE]; exact hv
theorem valid_all : ∀ (ss : List St) (t : Tr), Valid t → (∀ s ∈ ss, StOk s) → Valid (doAllT ss t) := by
  intro ss
  induction ss with
  | nil => intro t h _; exact h
  | cons s ss ih =>
    intro t h hs
    unfold doAllT
    split
    · exact ih _ (valid_step h (hs s (by simp))) (fun x hx => hs x (by simp [hx]))
    · exact h
end Go.Proofs.YtdcjimlhaklhfabGreatDoor

namespace Go.Proofs.YtdcjimlhaklhfabGreatDoor
open Go.RowKit
def otherB (x : Nd) (n : Nd) : Bool := n.id != x.id
def layR (ns : List Nd) (x : Nd) (b : Bool) : List Nd := ns.filter (otherB x) ++ (if b then [x] else [])
def LayInv (ns : List Nd) (x : Nd) (k : Nat) (ns' : List Nd) : Prop := ns' = (ns.take k).filter (otherB x)
theorem layInv_yes {ns : List Nd} {x : Nd} {k : Nat} {ns' : List Nd} (h : LayInv ns x k ns') (hk : k < ns.length) (hq : ((ns[k]).id != x.id) = true) : LayInv ns x (k + 1) (ns' ++ [ns[k]]) := by
  unfold LayInv at *
  rw [List.take_succ_eq_append_getElem hk, List.filter_append, ← h]
  congr 1
  rw [List.filter_cons, if_pos (show otherB x ns[k] = true from hq)]; rfl
theorem layInv_no {ns : List Nd} {x : Nd} {k : Nat} {ns' : List Nd} (h : LayInv ns x k ns') (hk : k < ns.length) (hq : ((ns[k]).id != x.id) = false) : LayInv ns x (k + 1) ns' := by
  unfold LayInv at *
  rw [List.take_succ_eq_append_getElem hk, List.filter_append, ← h]
  rw [List.filter_cons, if_neg (show ¬ otherB x ns[k] = true by unfold otherB; rw [hq]; simp)]; simp
theorem layInv_end {ns : List Nd} {x : Nd} {k : Nat} {ns' : List Nd} (h : LayInv ns x k ns') (hk : ¬ k < ns.length) : layR ns x false = ns' ∧ layR ns x true = ns' ++ [x] := by
  unfold LayInv at h
  rw [List.take_of_length_le (by omega)] at h
  unfold layR; rw [← h]; simp
theorem layInv_len {ns : List Nd} {x : Nd} {k : Nat} {ns' : List Nd} (h : LayInv ns x k ns') : ns'.length ≤ k := by
  unfold LayInv at h; rw [h]
  refine Nat.le_trans (List.length_filter_le _ _) ?_
  rw [List.length_take]; omega
/-! A step, done in a list. -/
def kidAt (ns : List Nd) (id : Int) (i : Nat) : Bool := (ndAt ns i).parent == id
def kidsR (ns : List Nd) (id : Int) : Bool := decide (scan (kidAt ns id) 0 ns.length < ns.length)
def delR (ns : List Nd) (id : Int) : Int := if findR ns id < 0 then 9 else if kidsR ns id then 10 else 0
def putR (ns : List Nd) (x : Nd) : Int := if !folderR ns x.parent then 4 else if (x.parent == x.id || belowR ns x.parent x.id) then 5 else if (takenR ns x.parent x.name != 0 && takenR ns x.parent x.name != x.id) then 6 else 0
def doR (ns : List Nd) (s : St) : Int :=
  if s.kind = 45 then delR ns s.node.id
  else if s.kind = 43 ∧ 0 ≤ findR ns s.node.id then 8
  else if s.kind = 61 ∧ findR ns s.node.id < 0 then 9
  else putR ns s.node
end Go.Proofs.YtdcjimlhaklhfabGreatDoor

namespace Go.Proofs.YtdcjimlhaklhfabGreatDoor
open Go.RowKit
theorem findR_bd' (ns : List Nd) (id : Int) : decide (0 ≤ findR ns id) = (lookR ns id).isSome := by
  unfold findR lookR
  split
  · rw [decide_eq_true (by omega)]; rfl
  · rw [decide_eq_false (by omega)]; rfl
/-- A list of nodes that holds a tree. -/
structure Rep (ns : List Nd) (t : Tr) : Prop where
  uniq : Unique ns
  ids : (ns.map (·.id)).Nodup
  ok : ∀ n ∈ ns, NdOk n
  look : ∀ i : Nat, lookR ns (i : Int) = t i
theorem rep_len {ns : List Nd} {t : Tr} (h : Rep ns t) : ns.length ≤ 99 := by
  have := pigeon (ns.map (·.id)) ((List.range' 1 99).map (fun i : Nat => (i : Int))) h.ids (fun x hx => by
    obtain ⟨n, hn, rfl⟩ := List.mem_map.1 hx
    have hb := h.ok n hn
    refine List.mem_map.2 ⟨n.id.toNat, ?_, ?_⟩
    · rw [List.mem_range'_1]; have := hb.1; have := hb.2.1; omega
    · have := hb.1; show ((n.id.toNat : Nat) : Int) = n.id; omega)
  simpa using this
theorem rep_look {ns : List Nd} {t : Tr} (h : Rep ns t) (ht : TrOk t) (x : Int) : lookR ns x = t x.toNat := by
  by_cases hx : 0 ≤ x
  · have := h.look x.toNat
    rwa [Int.toNat_of_nonneg hx] at this
  · rw [show x.toNat = 0 by omega, ht.1]
    cases hl : lookR ns x with
    | none => rfl
    | some n =>
      obtain ⟨h1, h2⟩ := lookR_mem hl
      have := (h.ok n h1).1
      omega
theorem rep_mem {ns : List Nd} {t : Tr} (h : Rep ns t) (ht : TrOk t) {n : Nd} : n ∈ ns ↔ ∃ i, t i = some n := by
  constructor
  · intro hn
    refine ⟨n.id.toNat, ?_⟩
    rw [← rep_look h ht]; exact lookR_of h.uniq hn
  · rintro ⟨i, hi⟩
    rw [← h.look i] at hi
    exact (lookR_mem hi).1
theorem findR_has {ns : List Nd} {t : Tr} (h : Rep ns t) (ht : TrOk t) (id : Int) : decide (0 ≤ findR ns id) = hasT t id := by
  unfold hasT
  rw [← rep_look h ht, (findR_bd' ns id)]
theorem folder_same {ns : List Nd} {t : Tr} (h : Rep ns t) (ht : TrOk t) (p : Int) : folderR ns p = isParentT t p := by
  unfold folderR isParentT hasT
  rw [rep_look h ht]
theorem meets_same {ns : List Nd} {t : Tr} (h : Rep ns t) (ht : TrOk t) (p id : Int) : (p == id || belowR ns p id) = meetsT t p id := by
  have hfun : (fun x : Int => t x.toNat) = lookR ns := funext fun x => (rep_look h ht x).symm
  unfold meetsT belowR
  rw [meets_below, hfun, below_same (ns := ns) (look := lookR ns) (fun x n h => lookR_mem h) (rep_len h) (show ns.length ≤ ns.length + 1 by omega) p]
  congr 1
theorem kids_same {ns : List Nd} {t : Tr} (h : Rep ns t) (ht : TrOk t) (id : Int) : kidsR ns id = kidsT t id := by
  unfold kidsR kidsT
  rcases scan_cases (kidAt ns id) 0 ns.length with ⟨a1, _, a3, _⟩ | ⟨a1, a2⟩
  · rw [decide_eq_true a1]
    generalize scan (kidAt ns id) 0 ns.length = k at *
    obtain ⟨i, hi⟩ := (rep_mem h ht).1 (ndAt_mem a1)
    have hb := ht.2 i _ hi
    rcases scan_cases (kidIs t id) 1 100 with ⟨b1, _⟩ | ⟨_, b2⟩
    · rw [decide_eq_true b1]
    · have := b2 i hb.2.1 (by omega)
      unfold kidIs at this; rw [hi] at this
      unfold kidAt at a3
      have a3' : (ndAt ns k).parent == id := a3
      simp only at this
      rw [this] at a3'; cases a3'
  · rw [decide_eq_false (by omega)]
    rcases scan_cases (kidIs t id) 1 100 with ⟨b1, _, b3, _⟩ | ⟨b1, _⟩
    · generalize scan (kidIs t id) 1 100 = i at *
      unfold kidIs at b3
      cases hi : t i with
      | none => rw [hi] at b3; simp at b3
      | some n =>
        rw [hi] at b3
        have hm : n ∈ ns := (rep_mem h ht).2 ⟨i, hi⟩
        obtain ⟨j, hj, rfl⟩ := mem_ndAt hm
        have := a2 j (by omega) hj
        unfold kidAt at this
        simp only at b3
        rw [this] at b3; cases b3
    · rw [decide_eq_false (by omega)]
theorem taken_same {ns : List Nd} {t : Tr} (h : Rep ns t) (hv : Valid t) (p : Int) (s : Str) : takenR ns p s = atT t p s := by
  have ht := hv.ok
  unfold takenR takenN
  rcases scan_cases (placeIs ns p s) 0 ns.length with ⟨a1, _, a3, _⟩ | ⟨a1, a2⟩
  · rw [if_pos a1]
    generalize scan (placeIs ns p s) 0 ns.length = k at *
    obtain ⟨i, hi⟩ := (rep_mem h ht).1 (ndAt_mem a1)
    have hb := ht.2 i _ hi
    unfold placeIs at a3
    rw [Bool.and_eq_true, beq_iff_eq, beq_iff_eq] at a3
    by_cases h0 : atT t p s = 0
    · exact (atT_none h0 i _ hb.2.1 hb.2.2.1 hi a3.1 a3.2).elim
    · have := atT_some hv h0 i _ hi a3.1 a3.2
      rw [← this]; exact hb.1
  · rw [if_neg (by omega)]
    unfold atT
    rcases scan_cases (spotIs t p s) 1 100 with ⟨b1, _, b3, _⟩ | ⟨b1, _⟩
    · generalize scan (spotIs t p s) 1 100 = i at *
      unfold spotIs at b3
      cases hi : t i with
      | none => rw [hi] at b3; simp at b3
      | some n =>
        rw [hi] at b3
        have hm : n ∈ ns := (rep_mem h ht).2 ⟨i, hi⟩
        obtain ⟨j, hj, rfl⟩ := mem_ndAt hm
        have := a2 j (by omega) hj
        unfold placeIs at this
        simp only at b3
        rw [this] at b3; cases b3
    · rw [if_neg (by omega)]
/-- One who goes up in a tree meets only what is there. -/
theorem goes_there {t : Tr} (hv : Valid t) {goal : Int} (hg : 1 ≤ goal) (hno : hasT t goal = false) : ∀ (f : Nat) (p : Int), isParentT t p = true → meetsF t f p goal = false := by
  intro f
  induction f with
  | zero => intro p _; rfl
  | succ f ih =>
    intro p hp
    have hne : ¬ p = goal := by
      intro e; subst e
      rcases isParent_iff.1 hp with h0 | ⟨_, hn⟩
      · omega
      · rw [hasT_iff.2 hn] at hno; cases hno
    rw [meetsF, if_neg hne]
    cases hl : t p.toNat with
    | none => rfl
    | some n => exact ih n.parent (hv.parent _ n hl)
theorem doR_same {ns : List Nd} {t : Tr} (h : Rep ns t) (hv : Valid t) {s : St} (hs : StOk s) : doR ns s = stepE t s := by
  have ht := hv.ok
  have hF := findR_has h ht s.node.id
  rcases hs with ⟨hk, h1, h2, _⟩ | ⟨hk, h1, h2⟩
  · have h45 : ¬ s.kind = 45 := by rcases hk with e | e <;> (rw [e]; decide)
    have hP : putR ns s.node = if !isParentT t s.node.parent then 4 else if meetsT t s.node.parent s.node.id then 5 else if (atT t s.node.parent s.node.name != 0 && atT t s.node.parent s.node.name != s.node.id) then 6 else 0 := by
      unfold putR; rw [folder_same h ht, meets_same h ht, taken_same h hv]
    unfold doR stepE
    rw [if_neg h45]
    rcases hk with hk | hk
    · rw [if_pos hk]
      unfold createE
      rw [← hF]
      by_cases hf : 0 ≤ findR ns s.node.id
      · rw [if_pos ⟨hk, hf⟩, if_pos (by simpa using hf)]
      · have hno : hasT t s.node.id = false := by rw [← hF]; exact decide_eq_false hf
        rw [if_neg (fun hh => hf hh.2), if_neg (fun hh => by rw [hk] at hh; exact absurd hh.1 (by decide)), if_neg (by simpa using hf), hP]
        cases hp : isParentT t s.node.parent
        · rfl
        · rw [show meetsT t s.node.parent s.node.id = false from goes_there hv h1 hno 100 _ hp]
          have hat : (atT t s.node.parent s.node.name != 0 && atT t s.node.parent s.node.name != s.node.id) = (atT t s.node.parent s.node.name != 0) := by
            cases h6 : (atT t s.node.parent s.node.name != 0)
            · rfl
            · rw [Bool.true_and, bne_iff_ne]
              intro e
              rw [← taken_same h hv] at e h6
              have htk : takenN ns s.node.parent s.node.name < ns.length := by
                unfold takenR at h6
                rcases Nat.lt_or_ge (takenN ns s.node.parent s.node.name) ns.length with hh | hh
                · exact hh
                · rw [if_neg (by omega)] at h6; simp at h6
              unfold takenR at e
              rw [if_pos htk] at e
              obtain ⟨i, hi⟩ := (rep_mem h ht).1 (ndAt_mem htk)
              have hb := ht.2 i _ hi
              have : hasT t s.node.id = true := hasT_iff.2 ⟨_, by rw [← e, hb.1]; exact hi⟩
              rw [hno] at this; cases this
          rw [hat]; rfl
    · have h43 : ¬ s.kind = 43 := by rw [hk]; decide
      rw [if_neg (c := s.kind = 43) h43, if_pos (c := s.kind = 61) hk, if_neg (c := s.kind = 43 ∧ 0 ≤ findR ns s.node.id) (fun hh => h43 hh.1)]
      unfold moveE
      rw [← hF]
      by_cases hf : 0 ≤ findR ns s.node.id
      · rw [decide_eq_true hf, if_neg (c := s.kind = 61 ∧ findR ns s.node.id < 0) (by omega), hP]; rfl
      · rw [decide_eq_false hf, if_pos (c := s.kind = 61 ∧ findR ns s.node.id < 0) ⟨hk, by omega⟩]; rfl
  · have h43 : ¬ s.kind = 43 := by rw [hk]; decide
    have h61 : ¬ s.kind = 61 := by rw [hk]; decide
    unfold doR stepE
    rw [if_pos (c := s.kind = 45) hk, if_neg (c := s.kind = 43) h43, if_neg (c := s.kind = 61) h61, if_pos (c := s.kind = 45) hk]
    unfold delR deleteE
    rw [← hF, kids_same h ht]
    by_cases hf : 0 ≤ findR ns s.node.id
    · rw [decide_eq_true hf, if_neg (c := findR ns s.node.id < 0) (by omega)]; rfl
    · rw [decide_eq_false hf, if_pos (c := findR ns s.node.id < 0) (by omega)]; rfl
theorem nodup_snoc {l : List Int} {a : Int} (h : l.Nodup) (ha : a ∉ l) : (l ++ [a]).Nodup := by
  rw [List.nodup_append]
  exact ⟨h, by simp, fun x hx y hy => by simp at hy; subst hy; exact fun e => ha (e ▸ hx)⟩
theorem ids_unique {ns : List Nd} (h : (ns.map (·.id)).Nodup) : Unique ns := by
  induction ns with
  | nil => intro n m hn; simp at hn
  | cons a ns ih =>
    rw [List.map_cons, List.nodup_cons] at h
    intro n m hn hm e
    rcases List.mem_cons.1 hn with rfl | hn'
    · rcases List.mem_cons.1 hm with rfl | hm'
      · rfl
      · exact absurd (List.mem_map.2 ⟨m, hm', e.symm⟩) h.1
    · rcases List.mem_cons.1 hm with rfl | hm'
      · exact absurd (List.mem_map.2 ⟨n, hn', e⟩) h.1
      · exact ih h.2 n m hn' hm' e
theorem look_eq {ns : List Nd} (hu : Unique ns) {x : Int} {o : Option Nd} (hs : ∀ n, o = some n → n ∈ ns ∧ n.id = x) (hn : o = none → ∀ n ∈ ns, n.id ≠ x) : lookR ns x = o := by
  cases o with
  | some n => obtain ⟨h1, h2⟩ := hs n rfl; rw [← h2]; exact lookR_of hu h1
  | none =>
    cases hl : lookR ns x with
    | none => rfl
    | some m => obtain ⟨h1, h2⟩ := lookR_mem hl; exact absurd h2 (hn rfl m h1)
theorem filter_ids {ns : List Nd} (h : (ns.map (·.id)).Nodup) (x : Nd) : ((ns.filter (otherB x)).map (·.id)).Nodup :=
  List.Nodup.sublist (List.Sublist.map _ List.filter_sublist) h
theorem mem_filter' {ns : List Nd} {x n : Nd} : n ∈ ns.filter (otherB x) ↔ n ∈ ns ∧ n.id ≠ x.id := by
  rw [List.mem_filter]; unfold otherB; rw [bne_iff_ne]
theorem rep_remove {ns : List Nd} {t : Tr} (h : Rep ns t) (ht : TrOk t) (x : Nd) : Rep (layR ns x false) (trRemove t x.id) := by
  have e : layR ns x false = ns.filter (otherB x) := by unfold layR; simp
  rw [e]
  have hu := ids_unique (filter_ids h.ids x)
  refine ⟨hu, filter_ids h.ids x, fun n hn => h.ok n (mem_filter'.1 hn).1, fun i => ?_⟩
  unfold trRemove
  by_cases hi : (i : Int) = x.id
  · rw [if_pos hi]
    exact look_eq hu (fun n hn => by cases hn) (fun _ n hn => by rw [hi]; exact (mem_filter'.1 hn).2)
  · rw [if_neg hi]
    refine look_eq hu (fun n hn => ?_) (fun hn n hm => ?_)
    · have hb := ht.2 i n hn
      exact ⟨mem_filter'.2 ⟨(rep_mem h ht).2 ⟨i, hn⟩, by rw [hb.1]; exact hi⟩, hb.1⟩
    · rw [← h.look i] at hn
      exact lookR_no hn n (mem_filter'.1 hm).1
theorem rep_put {ns : List Nd} {t : Tr} (h : Rep ns t) (ht : TrOk t) {x : Nd} (hx : NdOk x) : Rep (layR ns x true) (trPut t x) := by
  have e : layR ns x true = ns.filter (otherB x) ++ [x] := by unfold layR; simp
  rw [e]
  have hids : ((ns.filter (otherB x) ++ [x]).map (·.id)).Nodup := by
    rw [List.map_append]
    refine nodup_snoc (filter_ids h.ids x) (fun hm => ?_)
    obtain ⟨n, hn, e⟩ := List.mem_map.1 hm
    exact (mem_filter'.1 hn).2 e
  have hu := ids_unique hids
  have hmem : ∀ n, n ∈ ns.filter (otherB x) ++ [x] ↔ (n ∈ ns ∧ n.id ≠ x.id) ∨ n = x := by
    intro n; rw [List.mem_append, mem_filter', List.mem_singleton]
  refine ⟨hu, hids, fun n hn => ?_, fun i => ?_⟩
  · rcases (hmem n).1 hn with ⟨h1, _⟩ | rfl
    · exact h.ok n h1
    · exact hx
  · unfold trPut
    by_cases hi : (i : Int) = x.id
    · rw [if_pos hi]
      exact look_eq hu (fun n hn => by cases hn; exact ⟨(hmem x).2 (.inr rfl), hi.symm⟩) (fun hn => by cases hn)
    · rw [if_neg hi]
      refine look_eq hu (fun n hn => ?_) (fun hn n hm => ?_)
      · have hb := ht.2 i n hn
        exact ⟨(hmem n).2 (.inl ⟨(rep_mem h ht).2 ⟨i, hn⟩, by rw [hb.1]; exact hi⟩), hb.1⟩
      · rw [← h.look i] at hn
        rcases (hmem n).1 hm with ⟨h1, _⟩ | rfl
        · exact lookR_no hn n h1
        · exact fun e => hi e.symm
theorem rep_read {l : Str} (h : (checkT l).1 = 0) : Rep (readNodes (cut l)) (gather (readNodes (cut l))) := by
  obtain ⟨_, _, _, ho, _⟩ := check_parts h
  have hk := readNodes_bd (cut l)
  generalize readNodes (cut l) = ns at *
  refine ⟨ordered_unique ho, ?_, hk, fun i => ?_⟩
  · have hr := ordered_rises ho
    rw [List.nodup_iff_pairwise_ne, List.pairwise_map]
    exact hr.imp (fun hab => by omega)
  · have := gather_look (ordered_unique ho) (fun n hn => (hk n hn).1) (i : Int)
    rw [Int.toNat_natCast] at this; exact this.symm
end Go.Proofs.YtdcjimlhaklhfabGreatDoor

namespace Go.Proofs.YtdcjimlhaklhfabGreatDoor
open Go.RowKit
/-- An op. -/
structure Lo where
  count : Int
  site : Int
  node : Nd
def lo0 : Lo := ⟨0, 0, nd0⟩
def placeB (n : Nd) : Bool := if n.parent = 100 then n.name == [45] else (n.parent % 2 == 0 && isName n.name n.id)
def opOf5 (a b c d e : Str) : Option Lo :=
  if (number a 1 9999).2 && (number b 1 9).2 && (number c 1 99).2 && (number d 0 100).2 && placeB ⟨(number c 1 99).1, (number d 0 100).1, e⟩ then some ⟨(number a 1 9999).1, (number b 1 9).1, ⟨(number c 1 99).1, (number d 0 100).1, e⟩⟩ else none
def opOf : List Str → Option Lo
  | [a, b, c, d, e] => opOf5 a b c d e
  | _ => none
def readOp (r : Str) : Option Lo := if bodyB r then opOf (parts (bodyS r)) else none
def readOps : List Str → Option (List Lo)
  | [] => some []
  | r :: l => match readOp r with
    | none => none
    | some x => (readOps l).map (x :: ·)
theorem opOf_other {l : List Str} (h : l.length ≠ 5) : opOf l = none := by
  unfold opOf
  split
  · simp at h
  · rfl
theorem len5 {l : List Str} (h : l.length = 5) : ∃ a b c d e, l = [a, b, c, d, e] := by
  match l, h with
  | [a, b, c, d, e], _ => exact ⟨a, b, c, d, e, rfl⟩
/-- What an op's node may be. -/
def NdW (n : Nd) : Prop := 1 ≤ n.id ∧ n.id ≤ 99 ∧ 0 ≤ n.parent ∧ n.parent ≤ 100 ∧ placeB n = true
def LoOk (x : Lo) : Prop := 1 ≤ x.count ∧ x.count ≤ 9999 ∧ 1 ≤ x.site ∧ x.site ≤ 9 ∧ NdW x.node
theorem ndW_name {n : Nd} (h : NdW n) : n.name.length ≤ 11 := by
  obtain ⟨_, _, _, _, h⟩ := h
  unfold placeB at h
  split at h
  · rw [beq_iff_eq] at h; rw [h]; simp
  · rw [Bool.and_eq_true] at h; exact name_len h.2
theorem readOp_ok {r : Str} {x : Lo} (h : readOp r = some x) : LoOk x := by
  unfold readOp at h
  split at h
  · unfold opOf at h
    split at h
    · unfold opOf5 at h
      split at h
      · rename_i a b c d e _ hc
        simp only [Bool.and_eq_true] at hc
        obtain ⟨⟨⟨⟨h1, h2⟩, h3⟩, h4⟩, h5⟩ := hc
        cases h
        have := number_lo a 1 9999 h1
        have := number_bd a 1 9999 (by omega)
        have := number_lo b 1 9 h2
        have := number_bd b 1 9 (by omega)
        have := number_lo c 1 99 h3
        have := number_bd c 1 99 (by omega)
        have := number_bd d 0 100 (by omega)
        refine ⟨?_, ?_, ?_, ?_, ?_, ?_, ?_, ?_, h5⟩ <;> (simp only []; omega)
      · cases h
    · cases h
  · cases h
theorem readOps_ok : ∀ (rs : List Str) (l : List Lo), readOps rs = some l → ∀ x ∈ l, LoOk x := by
  intro rs
  induction rs with
  | nil => intro l h; simp [readOps] at h; subst h; simp
  | cons r rs ih =>
    intro l h
    rw [readOps] at h
    cases hr : readOp r with
    | none => rw [hr] at h; cases h
    | some x =>
      rw [hr] at h
      cases hl : readOps rs with
      | none => rw [hl] at h; cases h
      | some l' =>
        rw [hl] at h; cases h
        intro y hy
        rcases List.mem_cons.1 hy with rfl | hy
        · exact readOp_ok hr
        · exact ih l' hl y hy
theorem readOps_len : ∀ (rs : List Str) (l : List Lo), readOps rs = some l → l.length = rs.length := by
  intro rs
  induction rs with
  | nil => intro l h; simp [readOps] at h; subst h; rfl
  | cons r rs ih =>
    intro l h
    rw [readOps] at h
    cases hr : readOp r with
    | none => rw [hr] at h; cases h
    | some x =>
      rw [hr] at h
      cases hl : readOps rs with
      | none => rw [hl] at h; cases h
      | some l' => rw [hl] at h; cases h; simp [ih l' hl]
/-- Where the reading stands behind k records. -/
def LoInv (rs : List Str) (k : Nat) (acc : List Lo) : Prop := acc.length = k ∧ readOps rs = (readOps (rs.drop k)).map (acc ++ ·) ∧ ∀ x ∈ acc, LoOk x
theorem loInv_0 (rs : List Str) : LoInv rs 0 [] := ⟨rfl, by simp, by simp⟩
theorem loInv_yes {rs : List Str} {k : Nat} {acc : List Lo} (h : LoInv rs k acc) (hk : k < rs.length) {x : Lo} (hx : readOp rs[k] = some x) : LoInv rs (k + 1) (acc ++ [x]) := by
  refine ⟨by simp [h.1], ?_, ?_⟩
  · rw [h.2.1, List.drop_eq_getElem_cons hk, readOps, hx]
    cases readOps (rs.drop (k + 1)) <;> simp
  · intro y hy
    rcases List.mem_append.1 hy with hy | hy
    · exact h.2.2 y hy
    · simp at hy; subst hy; exact readOp_ok hx
theorem loInv_no {rs : List Str} {k : Nat} {acc : List Lo} (h : LoInv rs k acc) (hk : k < rs.length) (hx : readOp rs[k] = none) : readOps rs = none := by
  rw [h.2.1, List.drop_eq_getElem_cons hk, readOps, hx]; rfl
theorem loInv_end {rs : List Str} {k : Nat} {acc : List Lo} (h : LoInv rs k acc) (hk : ¬ k < rs.length) : readOps rs = some acc := by
  rw [h.2.1, List.drop_eq_nil_of_le (by omega)]; simp [readOps]
/-! Stamps and their order. -/
def sameStamp (y x : Lo) : Bool := y.count == x.count && y.site == x.site
def hasStamp (l : List Lo) (x : Lo) : Bool := l.any (fun y => sameStamp y x)
def ahead (x y : Lo) : Bool := if x.count ≠ y.count then decide (x.count < y.count) else decide (x.site < y.site)
def ins (x : Lo) (l : List Lo) : List Lo := l.takeWhile (fun y => !ahead x y) ++ x :: l.dropWhile (fun y => !ahead x y)
def Sorted (l : List Lo) : Prop := l.Pairwise (fun a b => ahead a b = true)
theorem ahead_iff {x y : Lo} : ahead x y = true ↔ x.count < y.count ∨ (x.count = y.count ∧ x.site < y.site) := by
  unfold ahead; split
  · rw [decide_eq_true_eq]; omega
  · rw [decide_eq_true_eq]; omega
theorem ahead_trans {x y z : Lo} (h : ahead x y = true) (g : ahead y z = true) : ahead x z = true := by
  rw [ahead_iff] at *; omega
theorem ahead_or {x y : Lo} (h : sameStamp y x = false) (g : ahead x y = false) : ahead y x = true := by
  have g' : ¬ (ahead x y = true) := by rw [g]; simp
  rw [ahead_iff] at g' ⊢
  have h' : ¬ (y.count = x.count ∧ y.site = x.site) := by
    intro hh; unfold sameStamp at h; rw [hh.1, hh.2] at h; simp at h
  omega
theorem ins_split {x : Lo} {a b : List Lo} (ha : ∀ y ∈ a, ahead x y = false) (hb : ∀ y, b.head? = some y → ahead x y = true) : ins x (a ++ b) = a ++ x :: b := by
  unfold ins
  have h1 : ∀ (a b : List Lo), (∀ y ∈ a, ahead x y = false) → (∀ y, b.head? = some y → ahead x y = true) → (a ++ b).takeWhile (fun y => !ahead x y) = a ∧ (a ++ b).dropWhile (fun y => !ahead x y) = b := by
    intro a
    induction a with
    | nil =>
      intro b _ hb
      cases b with
      | nil => simp
      | cons y b => simp [hb y rfl]
    | cons z a ih =>
      intro b ha hb
      have := ih b (fun y hy => ha y (by simp [hy])) hb
      simp [ha z (by simp), this.1, this.2]
  rw [(h1 a b ha hb).1, (h1 a b ha hb).2]
theorem ins_mem {x y : Lo} {l : List Lo} : y ∈ ins x l ↔ y = x ∨ y ∈ l := by
  unfold ins
  rw [List.mem_append, List.mem_cons]
  have : y ∈ l ↔ y ∈ l.takeWhile (fun y => !ahead x y) ∨ y ∈ l.dropWhile (fun y => !ahead x y) := by
    rw [← List.mem_append, List.takeWhile_append_dropWhile]
  rw [this]
  constructor
  · rintro (h | h | h)
    · exact .inr (.inl h)
    · exact .inl h
    · exact .inr (.inr h)
  · rintro (h | h | h)
    · exact .inr (.inl h)
    · exact .inl h
    · exact .inr (.inr h)
theorem ins_len (x : Lo) (l : List Lo) : (ins x l).length = l.length + 1 := by
  unfold ins
  have := congrArg List.length (List.takeWhile_append_dropWhile (p := fun y => !ahead x y) (l := l))
  rw [List.length_append] at this
  rw [List.length_append, List.length_cons]; omega
/-- Where an op stands in a list that is in its order. -/
theorem sorted_cut {x : Lo} {l : List Lo} (hs : Sorted l) {i : Nat} (hi : i ≤ l.length) (hb : ∀ j (h : j < l.length), i ≤ j → ahead x l[j] = true) (ha : i = 0 ∨ ∃ h : i - 1 < l.length, ahead x l[i - 1] = false) : ins x l = l.take i ++ x :: l.drop i := by
  conv => lhs; rw [← List.take_append_drop i l]
  refine ins_split ?_ ?_
  · intro y hy
    rcases ha with h0 | ⟨h1, h2⟩
    · subst h0; simp at hy
    · obtain ⟨j, hj, rfl⟩ := List.mem_iff_getElem.1 hy
      rw [List.length_take] at hj
      rw [List.getElem_take]
      by_cases hji : j = i - 1
      · subst hji; exact h2
      · cases hq : ahead x l[j] with
        | false => rfl
        | true =>
          have := (List.pairwise_iff_getElem.1 hs) j (i - 1) (by omega) h1 (by omega)
          rw [ahead_trans hq this] at h2; cases h2
  · intro y hy
    rw [List.head?_drop] at hy
    rcases Nat.lt_or_ge i l.length with h | h
    · rw [List.getElem?_eq_getElem h] at hy; cases hy; exact hb i h (Nat.le_refl _)
    · rw [List.getElem?_eq_none h] at hy; cases hy
theorem hasStamp_ins (x y : Lo) (l : List Lo) : hasStamp (ins x l) y = (hasStamp l y || sameStamp x y) := by
  rw [Bool.eq_iff_iff]
  unfold hasStamp
  rw [List.any_eq_true, Bool.or_eq_true, List.any_eq_true]
  constructor
  · rintro ⟨z, hz, h⟩
    rcases ins_mem.1 hz with rfl | hz
    · exact .inr h
    · exact .inl ⟨z, hz, h⟩
  · rintro (⟨z, hz, h⟩ | h)
    · exact ⟨z, ins_mem.2 (.inr hz), h⟩
    · exact ⟨x, ins_mem.2 (.inl rfl), h⟩
theorem ins_sorted {x : Lo} {l : List Lo} (hs : Sorted l) (hn : hasStamp l x = false) : Sorted (ins x l) := by
  have hno : ∀ y ∈ l, sameStamp y x = false := by
    intro y hy
    cases h : sameStamp y x with
    | false => rfl
    | true => unfold hasStamp at hn; rw [List.any_eq_false] at hn; exact absurd h (hn y hy)
  unfold Sorted ins
  have hcat : l.takeWhile (fun y => !ahead x y) ++ l.dropWhile (fun y => !ahead x y) = l := List.takeWhile_append_dropWhile
  have hs' := hs
  unfold Sorted at hs'
  rw [← hcat, List.pairwise_append] at hs'
  obtain ⟨h1, h2, h3⟩ := hs'
  have hta : ∀ y ∈ l.takeWhile (fun y => !ahead x y), ahead y x = true := by
    intro y hy
    have hq : (!ahead x y) = true := by
      have := List.all_takeWhile (p := fun y => !ahead x y) (l := l)
      rw [List.all_eq_true] at this
      exact this y hy
    have : y ∈ l := (List.takeWhile_sublist _).subset hy
    exact ahead_or (hno y this) (by simpa using hq)
  have hda : ∀ y ∈ l.dropWhile (fun y => !ahead x y), ahead x y = true := by
    intro y hy
    cases hd : l.dropWhile (fun y => !ahead x y) with
    | nil => rw [hd] at hy; simp at hy
    | cons z r =>
      have hz : ahead x z = true := by
        have := List.head?_dropWhile_not (fun y => !ahead x y) l
        rw [hd] at this; simpa using this
      rw [hd] at hy h2
      rcases List.mem_cons.1 hy with rfl | hy
      · exact hz
      · exact ahead_trans hz ((List.pairwise_cons.1 h2).1 y hy)
  rw [List.pairwise_append, List.pairwise_cons]
  refine ⟨h1, ⟨hda, h2⟩, ?_⟩
  intro a ha b hb
  rcases List.mem_cons.1 hb with rfl | hb
  · exact hta a ha
  · exact h3 a ha b hb
/-! What Deliver answers. -/
def freshS (L acc : List Lo) (x : Lo) : List Lo := if hasStamp L x || hasStamp acc x then acc else acc ++ [x]
def fresh (L list : List Lo) : List Lo := list.foldl (freshS L) []
def joinAll (L fr : List Lo) : List Lo := fr.foldl (fun l x => ins x l) L
def nextS (next : List Lo) (x : Lo) : List Lo := if hasStamp next x then next else ins x next
def deliverT (L : List Lo) (s : Str) : List Lo × Nat × Int :=
  if 4000 < s.length then (L, 0, 1) else
  match readOps (cut s) with
  | none => (L, 0, 12)
  | some list => if 150 < L.length + (fresh L list).length then (L, 0, 13) else (joinAll L (fresh L list), (fresh L list).length, 0)
theorem joinAll_len (L : List Lo) : ∀ (fr : List Lo), (joinAll L fr).length = L.length + fr.length := by
  intro fr
  unfold joinAll
  induction fr generalizing L with
  | nil => rfl
  | cons x fr ih => rw [List.foldl_cons, ih, ins_len]; simp; omega
theorem joinAll_snoc (L fr : List Lo) (x : Lo) : joinAll L (fr ++ [x]) = ins x (joinAll L fr) := by simp [joinAll]
theorem list_snoc_ind {α : Type} {P : List α → Prop} (h0 : P []) (hs : ∀ l c, P l → P (l ++ [c])) : ∀ l, P l := by
  intro l
  rw [← List.reverse_reverse l]
  induction l.reverse with
  | nil => exact h0
  | cons c r ih => rw [List.reverse_cons]; exact hs _ _ ih
theorem hasStamp_joinAll (L : List Lo) (y : Lo) (fr : List Lo) : hasStamp (joinAll L fr) y = (hasStamp L y || hasStamp fr y) := by
  refine list_snoc_ind (P := fun fr => hasStamp (joinAll L fr) y = (hasStamp L y || hasStamp fr y)) (by simp [joinAll, hasStamp]) ?_ fr
  intro fr x ih
  rw [joinAll_snoc, hasStamp_ins, ih]
  simp [hasStamp, Bool.or_assoc]
theorem fresh_snoc (L list : List Lo) (x : Lo) : fresh L (list ++ [x]) = freshS L (fresh L list) x := by simp [fresh]
/-- The document's way, op by op, leads to the same. -/
theorem next_fresh (L list : List Lo) : list.foldl nextS L = joinAll L (fresh L list) := by
  refine list_snoc_ind (P := fun list => list.foldl nextS L = joinAll L (fresh L list)) rfl ?_ list
  intro list x ih
  rw [List.foldl_append, List.foldl_cons, List.foldl_nil, ih, fresh_snoc]
  unfold nextS freshS
  rw [hasStamp_joinAll]
  split
  · rfl
  · rw [joinAll_snoc]
theorem fresh_len (L list : List Lo) : (fresh L list).length ≤ list.length := by
  refine list_snoc_ind (P := fun list => (fresh L list).length ≤ list.length) (by simp [fresh]) ?_ list
  intro list x ih
  rw [fresh_snoc]; unfold freshS
  split <;> simp <;> omega
theorem fresh_mem (L list : List Lo) : ∀ x ∈ fresh L list, x ∈ list := by
  refine list_snoc_ind (P := fun list => ∀ x ∈ fresh L list, x ∈ list) (by simp [fresh]) ?_ list
  intro list x ih y
  rw [fresh_snoc]; unfold freshS
  split
  · intro hy; simp [ih y hy]
  · intro hy
    rcases List.mem_append.1 hy with hy | hy
    · simp [ih y hy]
    · simp at hy; simp [hy]
/-- A log. -/
def LogOk (L : List Lo) : Prop := Sorted L ∧ (∀ x ∈ L, LoOk x) ∧ L.length ≤ 150
/-- The new ops: no two with one stamp, none with one of the log's. -/
def NewTo (L fr : List Lo) : Prop := (∀ x ∈ fr, hasStamp L x = false) ∧ fr.Pairwise (fun a b => sameStamp a b = false)
theorem fresh_new (L list : List Lo) : NewTo L (fresh L list) := by
  refine list_snoc_ind (P := fun list => NewTo L (fresh L list)) ⟨by simp [fresh], by simp [fresh]⟩ ?_ list
  intro list x ih
  rw [fresh_snoc]; unfold freshS
  split
  · exact ih
  · rename_i h
    rw [Bool.or_eq_true, not_or] at h
    refine ⟨?_, ?_⟩
    · intro y hy
      rcases List.mem_append.1 hy with hy | hy
      · exact ih.1 y hy
      · simp at hy; subst hy; simpa using h.1
    · rw [List.pairwise_append]
      refine ⟨ih.2, by simp, ?_⟩
      intro a ha b hb
      simp at hb; subst hb
      cases hq : sameStamp a b with
      | false => rfl
      | true => exact absurd (show hasStamp (fresh L list) b = true by unfold hasStamp; rw [List.any_eq_true]; exact ⟨a, ha, hq⟩) h.2
theorem joinAll_sorted {L : List Lo} (hs : Sorted L) : ∀ (fr : List Lo), NewTo L fr → Sorted (joinAll L fr) := by
  refine list_snoc_ind (fun _ => hs) ?_
  intro fr x ih h
  rw [joinAll_snoc]
  have h2 := List.pairwise_append.1 h.2
  refine ins_sorted (ih ⟨fun y hy => h.1 y (by simp [hy]), h2.1⟩) ?_
  rw [hasStamp_joinAll, h.1 x (by simp), Bool.false_or]
  unfold hasStamp; rw [List.any_eq_false]
  intro y hy
  rw [h2.2.2 y hy x (by simp)]; simp
theorem joinAll_mem {L : List Lo} {y : Lo} : ∀ (fr : List Lo), y ∈ joinAll L fr ↔ y ∈ L ∨ y ∈ fr := by
  refine list_snoc_ind (by simp [joinAll]) ?_
  intro fr x ih
  rw [joinAll_snoc, ins_mem, ih]
  simp only [List.mem_append, List.mem_singleton]
  constructor
  · rintro (h | h | h)
    · exact .inr (.inr h)
    · exact .inl h
    · exact .inr (.inl h)
  · rintro (h | h | h)
    · exact .inr (.inl h)
    · exact .inr (.inr h)
    · exact .inl h
theorem logOk_nil : LogOk [] := ⟨List.Pairwise.nil, by simp, by simp⟩
theorem deliver_ok {L : List Lo} (h : LogOk L) (s : Str) : LogOk (deliverT L s).1 := by
  unfold deliverT
  split
  · exact h
  · split
    · exact h
    · rename_i list hl
      split
      · exact h
      · refine ⟨joinAll_sorted h.1 _ (fresh_new L list), ?_, ?_⟩
        · intro x hx
          rcases (joinAll_mem _).1 hx with hx | hx
          · exact h.2.1 x hx
          · exact readOps_ok _ _ hl x (fresh_mem L list x hx)
        · simp only []; rw [joinAll_len]; omega
/-! Texts. -/
def loText (x : Lo) : Str := dec x.count.toNat ++ [32] ++ dec x.site.toNat ++ [32] ++ dec x.node.id.toNat ++ [32] ++ dec x.node.parent.toNat ++ [32] ++ x.node.name ++ [59]
def logText (L : List Lo) : Str := L.flatMap loText
theorem loText_len {x : Lo} (h : LoOk x) : (loText x).length ≤ 32 := by
  have h1 := dec_len x.count.toNat (by have := h.2.1; omega)
  have h2 := dec_len x.site.toNat (by have := h.2.2.2.1; omega)
  have h3 := dec_len x.node.id.toNat (by have := h.2.2.2.2.2.1; omega)
  have h4 := dec_len x.node.parent.toNat (by have := h.2.2.2.2.2.2.2.1; omega)
  have h5 := ndW_name h.2.2.2.2
  simp only [loText, List.length_append, List.length_cons, List.length_nil]; omega
theorem logText_len : ∀ (L : List Lo), (∀ x ∈ L, LoOk x) → (logText L).length ≤ 32 * L.length := by
  intro L
  induction L with
  | nil => intro _; simp [logText]
  | cons x L ih =>
    intro h
    have h1 := ih (fun y hy => h y (by simp [hy]))
    have h2 := loText_len (h x (by simp))
    unfold logText at h1 ⊢
    rw [List.flatMap_cons, List.length_append, List.length_cons]; omega
theorem logText_snoc (L : List Lo) (x : Lo) : logText (L ++ [x]) = logText L ++ loText x := by simp [logText]
end Go.Proofs.YtdcjimlhaklhfabGreatDoor

namespace Go.Proofs.YtdcjimlhaklhfabGreatDoor
open Go.RowKit
/-! The places by a log. They are no tree: a way up may end anywhere. -/
def TrW (t : Tr) : Prop := t 0 = none ∧ ∀ i n, t i = some n → n.id = i ∧ 1 ≤ i ∧ i ≤ 99 ∧ NdW n
def placeS (t : Tr) (x : Lo) : Tr := if meetsT t x.node.parent x.node.id then t else trPut t x.node
def places (L : List Lo) : Tr := L.foldl placeS tr0
theorem trW_0 : TrW tr0 := ⟨rfl, fun i n h => by cases h⟩
theorem trW_put {t : Tr} (h : TrW t) {n : Nd} (hn : NdW n) : TrW (trPut t n) := by
  have h1 := hn.1
  have h2 := hn.2.1
  refine ⟨?_, fun i m hm => ?_⟩
  · unfold trPut; rw [if_neg (by omega)]; exact h.1
  · unfold trPut at hm
    split at hm
    · cases hm; rename_i e; exact ⟨e.symm, by omega, by omega, hn⟩
    · exact h.2 i m hm
theorem placeS_ok {t : Tr} (h : TrW t) {x : Lo} (hx : LoOk x) : TrW (placeS t x) := by
  unfold placeS; split
  · exact h
  · exact trW_put h hx.2.2.2.2
theorem places_aux : ∀ (L : List Lo) (t : Tr), TrW t → (∀ x ∈ L, LoOk x) → TrW (L.foldl placeS t) := by
  intro L
  induction L with
  | nil => intro t h _; exact h
  | cons x L ih => intro t h hx; exact ih _ (placeS_ok h (hx x (by simp))) (fun y hy => hx y (by simp [hy]))
theorem places_ok {L : List Lo} (h : ∀ x ∈ L, LoOk x) : TrW (places L) := places_aux L tr0 trW_0 h
theorem places_snoc (L : List Lo) (k : Nat) (h : k < L.length) : places (L.take (k + 1)) = placeS (places (L.take k)) L[k] := by
  unfold places; rw [List.take_succ_eq_append_getElem h, List.foldl_append]; rfl
/-! The view. -/
def shownNd (t : Tr) (i : Nat) : Nd :=
  let n := (t i).getD nd0
  if atT t n.parent n.name = i then n else ⟨n.id, n.parent, n.name ++ 126 :: digs i⟩
def viewT (t : Tr) : Tr := fun i => if decide (1 ≤ i) && decide (i ≤ 99) && meetsT t i 0 then some (shownNd t i) else none
/-- The view as far as the nodes below k. -/
def viewTo (t : Tr) (k : Nat) : Tr := fun i => if i ≤ k then viewT t i else none
theorem viewTo_0 (t : Tr) : viewTo t 0 = tr0 := by
  funext i; unfold viewTo tr0
  split
  · have : i = 0 := by omega
    subst this; rfl
  · rfl
theorem viewTo_99 (t : Tr) : viewTo t 99 = viewT t := by
  funext i; unfold viewTo
  split
  · rfl
  · unfold viewT; rw [decide_eq_false (p := i ≤ 99) (by omega)]; simp
theorem shown_id {t : Tr} (h : TrW t) {i : Nat} {n : Nd} (hn : t i = some n) : (shownNd t i).id = i ∧ (shownNd t i).parent = n.parent := by
  have hb := h.2 i n hn
  unfold shownNd; rw [hn]; simp only [Option.getD_some]
  split
  · exact ⟨hb.1, rfl⟩
  · exact ⟨hb.1, rfl⟩
theorem meets_there {t : Tr} {i : Nat} (h1 : 1 ≤ i) (h : meetsT t i 0 = true) : ∃ n, t i = some n := by
  unfold meetsT at h
  rw [show (100 : Nat) = 99 + 1 from rfl, meetsF, if_neg (by omega)] at h
  rw [Int.toNat_natCast] at h
  cases ht : t i with
  | none => rw [ht] at h; cases h
  | some n => exact ⟨n, rfl⟩
theorem viewTo_yes {t : Tr} (h : TrW t) {k : Nat} (hk : k < 99) (hm : meetsT t (k + 1 : Nat) 0 = true) : viewTo t (k + 1) = trPut (viewTo t k) (shownNd t (k + 1)) := by
  obtain ⟨n, hn⟩ := meets_there (by omega) hm
  have hid := (shown_id h hn).1
  funext i
  unfold viewTo trPut
  rw [hid]
  by_cases hi : i = k + 1
  · subst hi
    rw [if_pos (Nat.le_refl _), if_pos rfl]
    unfold viewT
    rw [hm, decide_eq_true (by omega), decide_eq_true (by omega)]; rfl
  · rw [if_neg (c := (i : Int) = ((k + 1 : Nat) : Int)) (by omega)]
    show (if i ≤ k + 1 then viewT t i else none) = (if i ≤ k then viewT t i else none)
    by_cases h2 : i ≤ k
    · rw [if_pos h2, if_pos (by omega)]
    · rw [if_neg h2, if_neg (by omega)]
theorem viewTo_no {t : Tr} {k : Nat} (hm : meetsT t (k + 1 : Nat) 0 = false) : viewTo t (k + 1) = viewTo t k := by
  funext i
  unfold viewTo
  by_cases hi : i = k + 1
  · subst hi
    rw [if_pos (Nat.le_refl _), if_neg (by omega)]
    unfold viewT
    rw [hm]; simp
  · by_cases h2 : i ≤ k
    · rw [if_pos h2, if_pos (by omega)]
    · rw [if_neg h2, if_neg (by omega)]
/-- The way up, in places of any kind. -/
def nodesW (t : Tr) : List Nd := (List.range' 1 99).filterMap t
theorem nodesW_mem {t : Tr} (ht : TrW t) {y : Int} {n : Nd} (h : t y.toNat = some n) : n ∈ nodesW t ∧ n.id = y := by
  have hb := ht.2 _ n h
  refine ⟨List.mem_filterMap.2 ⟨y.toNat, ?_, h⟩, by omega⟩
  rw [List.mem_range'_1]; omega
theorem nodesW_len (t : Tr) : (nodesW t).length ≤ 99 := by
  refine Nat.le_trans (List.length_filterMap_le _ _) ?_
  simp
theorem goes_meetsW {t : Tr} (ht : TrW t) {x goal : Int} : meetsT t x goal = true ↔ Goes t x goal := by
  constructor
  · intro h; exact ⟨100, h⟩
  · rintro ⟨f, h⟩
    have h1 := meets_up t goal h
    rw [meets_below] at h1
    unfold meetsT
    rw [show (100 : Nat) = 99 + 1 from rfl, meets_below]
    rw [Bool.or_eq_true] at h1 ⊢
    rcases h1 with h1 | h1
    · exact .inl h1
    · right
      have hs := below_stop (ns := nodesW t) (look := fun x : Int => t x.toNat) (fun y n hn => nodesW_mem ht hn) f x h1
      exact below_le (nodesW_len t) x hs
theorem goes_step {t : Tr} {x : Int} {n : Nd} (h : t x.toNat = some n) (h1 : 1 ≤ x) : Goes t x 0 ↔ Goes t n.parent 0 := by
  constructor
  · rintro ⟨f, hf⟩
    cases f with
    | zero => cases hf
    | succ f =>
      rw [meetsF, if_neg (by omega), h] at hf
      exact ⟨f, hf⟩
  · exact goes_up h
theorem plain_of_two {s : Str} {a b : Int} (ha : isName s a = true) (hb : isName s b = true) (h1 : 1 ≤ a) (h2 : a < b) (h3 : b ≤ 99) : plainLen s = s.length := by
  unfold isName at ha hb
  simp only [Bool.and_eq_true, decide_eq_true_eq, Bool.or_eq_true, beq_iff_eq] at ha hb
  rcases ha.2 with h | h
  · exact h
  · rcases hb.2 with g | g
    · exact g
    · rw [h] at g
      have e : digs a = digs b := (List.cons.inj g).2
      have n1 := digs_num1 a.toNat (by omega) (by omega)
      have n2 := digs_num1 b.toNat (by omega) (by omega)
      rw [Int.toNat_of_nonneg (by omega)] at n1 n2
      rw [e, n2] at n1
      have := congrArg Prod.fst n1
      simp only at this
      omega
theorem plain_tail {s : Str} {id : Int} (h : plainLen s = s.length) (h1 : 1 ≤ plainLen s) (h2 : plainLen s ≤ 8) : isName (s ++ 126 :: digs id) id = true := by
  have hall : s.all plainB = true := by
    rw [List.all_eq_true]
    intro x hx
    have ht : s.takeWhile plainB = s := by
      rw [← take_plain, h]; simp
    rw [← ht] at hx
    exact takeWhile_all s x hx
  have e : plainLen (s ++ 126 :: digs id) = s.length := by
    refine plainLen_stop _ _ (by simp) (by simp; simpa using hall) ?_
    intro c r hc
    simp at hc
    rw [← hc.1]; rfl
  unfold isName
  rw [e]
  simp [← h, h1, h2]
theorem at_le {t : Tr} {i : Nat} {n : Nd} (h1 : 1 ≤ i) (h2 : i ≤ 99) (hn : t i = some n) : ∃ j m, 1 ≤ j ∧ j ≤ i ∧ atT t n.parent n.name = (j : Int) ∧ t j = some m ∧ m.parent = n.parent ∧ m.name = n.name := by
  unfold atT
  rcases scan_cases (spotIs t n.parent n.name) 1 100 with ⟨a1, a2, a3, a4⟩ | ⟨_, a2⟩
  · rw [if_pos a1]
    generalize scan (spotIs t n.parent n.name) 1 100 = j at *
    have hle : j ≤ i := by
      rcases Nat.lt_or_ge i j with hh | hh
      · have := a4 i h1 hh
        unfold spotIs at this; rw [hn] at this; simp at this
      · exact hh
    unfold spotIs at a3
    cases hj : t j with
    | none => rw [hj] at a3; cases a3
    | some m =>
      rw [hj] at a3
      simp only [Bool.and_eq_true, beq_iff_eq] at a3
      exact ⟨j, m, a2, hle, rfl, hj, a3.1, a3.2⟩
  · have := a2 i h1 (by omega)
    unfold spotIs at this; rw [hn] at this; simp at this
theorem placeB_name {n : Nd} (h : placeB n = true) (hp : n.parent ≠ 100) : n.parent % 2 = 0 ∧ isName n.name n.id = true := by
  unfold placeB at h
  rw [if_neg hp, Bool.and_eq_true, beq_iff_eq] at h
  exact h
theorem view_some {t : Tr} {i : Nat} {m : Nd} (h : viewT t i = some m) : 1 ≤ i ∧ i ≤ 99 ∧ meetsT t i 0 = true ∧ m = shownNd t i := by
  unfold viewT at h
  split at h
  · rename_i hc
    simp only [Bool.and_eq_true, decide_eq_true_eq] at hc
    cases h; exact ⟨hc.1.1, hc.1.2, hc.2, rfl⟩
  · cases h
theorem goes_trash {t : Tr} (ht : TrW t) : ¬ Goes t 100 0 := by
  rintro ⟨f, hf⟩
  cases f with
  | zero => cases hf
  | succ f =>
    rw [meetsF, if_neg (by omega)] at hf
    cases h : t (100 : Int).toNat with
    | none => rw [h] at hf; cases hf
    | some n => have h2 := (ht.2 _ n h).2.2.1; simp at h2
/-- A name as the log has it, or with its node's number behind it. -/
theorem shown_name {t : Tr} (ht : TrW t) {i : Nat} {n : Nd} (h1 : 1 ≤ i) (h2 : i ≤ 99) (hn : t i = some n) (hp : n.parent ≠ 100) :
    isName (shownNd t i).name i = true ∧ ((shownNd t i).name = n.name ∧ (∀ j m, t j = some m → m.parent = n.parent → m.name = n.name → i ≤ j) ∨ (shownNd t i).name = n.name ++ 126 :: digs i ∧ plainLen n.name = n.name.length) := by
  have hb := ht.2 i n hn
  have hnm := (placeB_name hb.2.2.2.2.2.2.2 hp).2
  rw [hb.1] at hnm
  obtain ⟨j, m, j1, j2, hat, hj, jp, jn⟩ := at_le h1 h2 hn
  unfold shownNd; rw [hn]; simp only [Option.getD_some]
  split
  · rename_i e
    refine ⟨hnm, .inl ⟨rfl, fun q r hq qp qn => ?_⟩⟩
    have hq' := ht.2 q r hq
    obtain ⟨j', m', _, j2', hat', _⟩ := at_le hq'.2.1 hq'.2.2.1 hq
    rw [qp, qn, e] at hat'
    omega
  · rename_i e
    have hji : j < i := by
      rw [hat] at e
      omega
    have hbj := ht.2 j m hj
    have hnj := (placeB_name hbj.2.2.2.2.2.2.2 (by rw [jp]; exact hp)).2
    rw [hbj.1, jn] at hnj
    have hpl := plain_of_two hnj hnm (by omega) (by omega) (by omega)
    have hh := hnm
    unfold isName at hh
    simp only [Bool.and_eq_true, decide_eq_true_eq] at hh
    exact ⟨plain_tail hpl hh.1.1 hh.1.2, .inr ⟨rfl, hpl⟩⟩
theorem tail_no {s s' : Str} {i : Nat} (hpl : plainLen s = s.length) (e : s = s' ++ 126 :: digs i) : False := by
  have hx : (126 : UInt8) ∈ s := by rw [e]; simp
  have ht : s.takeWhile plainB = s := by rw [← take_plain, hpl]; simp
  rw [← ht] at hx
  have := takeWhile_all s _ hx
  cases this
theorem view_valid {t : Tr} (ht : TrW t) : Valid (viewT t) := by
  have key : ∀ i m, viewT t i = some m → ∃ n, t i = some n ∧ m = shownNd t i ∧ 1 ≤ i ∧ i ≤ 99 ∧ m.id = i ∧ m.parent = n.parent ∧ n.parent ≠ 100 ∧ Goes t n.parent 0 ∧ NdW n := by
    intro i m hm
    obtain ⟨h1, h2, h3, h4⟩ := view_some hm
    obtain ⟨n, hn⟩ := meets_there h1 h3
    obtain ⟨e1, e2⟩ := shown_id ht hn
    have hg := (goes_step (x := (i : Int)) (by rw [Int.toNat_natCast]; exact hn) (by omega)).1 ((goes_meetsW ht).1 h3)
    exact ⟨n, hn, h4, h1, h2, by rw [h4]; exact e1, by rw [h4]; exact e2, fun e => goes_trash ht (e ▸ hg), hg, (ht.2 i n hn).2.2.2⟩
  have hseen : ∀ p : Int, 1 ≤ p → Goes t p 0 → ∃ m, viewT t p.toNat = some m := by
    intro p h1 hg
    have hm := (goes_meetsW ht).2 hg
    obtain ⟨q, rfl⟩ := Int.eq_ofNat_of_zero_le (by omega : 0 ≤ p)
    obtain ⟨n, hn⟩ := meets_there (by omega) hm
    have hb := ht.2 q n hn
    refine ⟨shownNd t q, ?_⟩
    rw [Int.toNat_natCast]; unfold viewT
    rw [hm, decide_eq_true hb.2.1, decide_eq_true hb.2.2.1]; rfl
  have hok : TrOk (viewT t) := by
    refine ⟨by unfold viewT; simp, fun i m hm => ?_⟩
    obtain ⟨n, hn, e, h1, h2, hid, hpar, hne, _, hw⟩ := key i m hm
    have hw3 := hw.2.2.1
    have hw4 := hw.2.2.2.1
    refine ⟨hid, h1, h2, by omega, by omega, ?_⟩
    rw [hid, e]; exact (shown_name ht h1 h2 hn hne).1
  have hpar : ∀ i m, viewT t i = some m → isParentT (viewT t) m.parent = true := by
    intro i m hm
    obtain ⟨n, hn, e, h1, h2, hid, hp, hne, hg, hw⟩ := key i m hm
    rw [hp, isParent_iff]
    have hev := (placeB_name hw.2.2.2.2 hne).1
    by_cases h0 : n.parent = 0
    · exact .inl h0
    · exact .inr ⟨hev, hseen _ (by have := hw.2.2.1; omega) hg⟩
  refine ⟨hok, hpar, ?_, ?_⟩
  · have hup : ∀ (f : Nat) (x : Int), 0 ≤ x → meetsF t f x 0 = true → Goes (viewT t) x 0 := by
      intro f
      induction f with
      | zero => intro x _ h; cases h
      | succ f ih =>
        intro x hx0 h
        by_cases h0 : x = 0
        · subst h0; exact goes_here _ _
        · have hg : Goes t x 0 := ⟨f + 1, h⟩
          obtain ⟨m, hm⟩ := hseen x (by omega) hg
          obtain ⟨n, hn, e, h1, h2, hid, hp, _, _, hw⟩ := key _ m hm
          rw [meetsF, if_neg h0, hn] at h
          refine goes_up hm ?_
          rw [hp]; exact ih n.parent hw.2.2.1 h
    intro i m hm
    obtain ⟨n, hn, e, h1, h2, hid, hp, _, _, hw⟩ := key i m hm
    rw [hid]
    exact hup 100 i (by omega) (view_some hm).2.2.1
  · intro i j n m hi hj hp hnm
    obtain ⟨a, ha, ea, i1, i2, iid, ip, ine, _, iw⟩ := key i n hi
    obtain ⟨b, hb, eb, j1, j2, jid, jp, jne, _, jw⟩ := key j m hj
    have hab : a.parent = b.parent := by rw [← ip, ← jp]; exact hp
    have si := (shown_name ht i1 i2 ha ine).2
    have sj := (shown_name ht j1 j2 hb jne).2
    rw [← ea] at si
    rw [← eb] at sj
    rcases si with ⟨si, li⟩ | ⟨si, pi⟩
    · rcases sj with ⟨sj, lj⟩ | ⟨sj, pj⟩
      · have en : a.name = b.name := by rw [← si, ← sj]; exact hnm
        have := li j b hb hab.symm en.symm
        have := lj i a ha hab en
        omega
      · -- a.name = b.name ~ j : a name of i that is j's
        have en : a.name = b.name ++ 126 :: digs j := by rw [← si, ← sj]; exact hnm
        have hname := (placeB_name iw.2.2.2.2 ine).2
        rw [(ht.2 i a ha).1] at hname
        have hname2 : isName a.name j = true := by
          have := (shown_name ht j1 j2 hb jne).1
          rw [← eb, sj, ← en] at this; exact this
        rcases Nat.lt_trichotomy i j with hlt | heq | hgt
        · exact (tail_no (plain_of_two hname hname2 (by omega) (by omega) (by omega)) en).elim
        · exact heq
        · exact (tail_no (plain_of_two hname2 hname (by omega) (by omega) (by omega)) en).elim
    · rcases sj with ⟨sj, lj⟩ | ⟨sj, pj⟩
      · have en : b.name = a.name ++ 126 :: digs i := by rw [← si, ← sj]; exact hnm.symm
        have hname := (placeB_name jw.2.2.2.2 jne).2
        rw [(ht.2 j b hb).1] at hname
        have hname2 : isName b.name i = true := by
          have := (shown_name ht i1 i2 ha ine).1
          rw [← ea, si, ← en] at this; exact this
        rcases Nat.lt_trichotomy i j with hlt | heq | hgt
        · exact (tail_no (plain_of_two hname2 hname (by omega) (by omega) (by omega)) en).elim
        · exact heq
        · exact (tail_no (plain_of_two hname hname2 (by omega) (by omega) (by omega)) en).elim
      · have h1 : isName n.name i = true := by rw [ea]; exact (shown_name ht i1 i2 ha ine).1
        have h2 : isName n.name j = true := by rw [hnm, eb]; exact (shown_name ht j1 j2 hb jne).1
        rcases Nat.lt_trichotomy i j with hlt | heq | hgt
        · exact (tail_no (plain_of_two h1 h2 (by omega) (by omega) (by omega)) si).elim
        · exact heq
        · exact (tail_no (plain_of_two h2 h1 (by omega) (by omega) (by omega)) si).elim
end Go.Proofs.YtdcjimlhaklhfabGreatDoor

namespace Go.Proofs.YtdcjimlhaklhfabGreatDoor
open Go.RowKit
/-- A list of nodes that holds the places by a log. -/
structure RepW (ns : List Nd) (t : Tr) : Prop where
  uniq : Unique ns
  ids : (ns.map (·.id)).Nodup
  ok : ∀ n ∈ ns, NdW n
  look : ∀ i : Nat, lookR ns (i : Int) = t i
theorem repW_len {ns : List Nd} {t : Tr} (h : RepW ns t) : ns.length ≤ 99 := by
  have := pigeon (ns.map (·.id)) ((List.range' 1 99).map (fun i : Nat => (i : Int))) h.ids (fun x hx => by
    obtain ⟨n, hn, rfl⟩ := List.mem_map.1 hx
    have hb := h.ok n hn
    refine List.mem_map.2 ⟨n.id.toNat, ?_, ?_⟩
    · rw [List.mem_range'_1]; have := hb.1; have := hb.2.1; omega
    · have := hb.1; show ((n.id.toNat : Nat) : Int) = n.id; omega)
  simpa using this
theorem repW_look {ns : List Nd} {t : Tr} (h : RepW ns t) (ht : TrW t) (x : Int) : lookR ns x = t x.toNat := by
  by_cases hx : 0 ≤ x
  · have := h.look x.toNat
    rwa [Int.toNat_of_nonneg hx] at this
  · rw [show x.toNat = 0 by omega, ht.1]
    cases hl : lookR ns x with
    | none => rfl
    | some n =>
      obtain ⟨h1, h2⟩ := lookR_mem hl
      have := (h.ok n h1).1
      omega
theorem repW_mem {ns : List Nd} {t : Tr} (h : RepW ns t) (ht : TrW t) {n : Nd} : n ∈ ns ↔ ∃ i, t i = some n := by
  constructor
  · intro hn
    refine ⟨n.id.toNat, ?_⟩
    rw [← repW_look h ht]; exact lookR_of h.uniq hn
  · rintro ⟨i, hi⟩
    rw [← h.look i] at hi
    exact (lookR_mem hi).1
theorem meetsW_same {ns : List Nd} {t : Tr} (h : RepW ns t) (ht : TrW t) (p id : Int) : (p == id || belowR ns p id) = meetsT t p id := by
  have hfun : (fun x : Int => t x.toNat) = lookR ns := funext fun x => (repW_look h ht x).symm
  unfold meetsT belowR
  rw [meets_below, hfun, below_same (ns := ns) (look := lookR ns) (fun x n h => lookR_mem h) (repW_len h) (show ns.length ≤ ns.length + 1 by omega) p]
  congr 1
theorem repW_put {ns : List Nd} {t : Tr} (h : RepW ns t) (ht : TrW t) {x : Nd} (hx : NdW x) : RepW (layR ns x true) (trPut t x) := by
  have e : layR ns x true = ns.filter (otherB x) ++ [x] := by unfold layR; simp
  rw [e]
  have hids : ((ns.filter (otherB x) ++ [x]).map (·.id)).Nodup := by
    rw [List.map_append]
    refine nodup_snoc (filter_ids h.ids x) (fun hm => ?_)
    obtain ⟨n, hn, e⟩ := List.mem_map.1 hm
    exact (mem_filter'.1 hn).2 e
  have hu := ids_unique hids
  have hmem : ∀ n, n ∈ ns.filter (otherB x) ++ [x] ↔ (n ∈ ns ∧ n.id ≠ x.id) ∨ n = x := by
    intro n; rw [List.mem_append, mem_filter', List.mem_singleton]
  refine ⟨hu, hids, fun n hn => ?_, fun i => ?_⟩
  · rcases (hmem n).1 hn with ⟨h1, _⟩ | rfl
    · exact h.ok n h1
    · exact hx
  · unfold trPut
    by_cases hi : (i : Int) = x.id
    · rw [if_pos hi]
      exact look_eq hu (fun n hn => by cases hn; exact ⟨(hmem x).2 (.inr rfl), hi.symm⟩) (fun hn => by cases hn)
    · rw [if_neg hi]
      refine look_eq hu (fun n hn => ?_) (fun hn n hm => ?_)
      · have hb := ht.2 i n hn
        exact ⟨(hmem n).2 (.inl ⟨(repW_mem h ht).2 ⟨i, hn⟩, by rw [hb.1]; exact hi⟩), hb.1⟩
      · rw [← h.look i] at hn
        rcases (hmem n).1 hm with ⟨h1, _⟩ | rfl
        · exact lookR_no hn n h1
        · exact fun e => hi e.symm
def placeR (ns : List Nd) (x : Lo) : List Nd := if (x.node.parent != x.node.id) && !belowR ns x.node.parent x.node.id then layR ns x.node true else ns
def placesR (L : List Lo) : List Nd := L.foldl placeR []
theorem placesR_snoc (L : List Lo) (k : Nat) (h : k < L.length) : placesR (L.take (k + 1)) = placeR (placesR (L.take k)) L[k] := by
  unfold placesR; rw [List.take_succ_eq_append_getElem h, List.foldl_append]; rfl
theorem repW_nil : RepW [] tr0 := ⟨fun n m h => by simp at h, by simp, by simp, fun i => rfl⟩
theorem repW_place {ns : List Nd} {t : Tr} (h : RepW ns t) (ht : TrW t) {x : Lo} (hx : LoOk x) : RepW (placeR ns x) (placeS t x) := by
  unfold placeR placeS
  rw [← meetsW_same h ht]
  cases h1 : (x.node.parent == x.node.id)
  · cases h2 : belowR ns x.node.parent x.node.id
    · rw [if_pos (by rw [bne, h1]; rfl), if_neg (by simp)]; exact repW_put h ht hx.2.2.2.2
    · rw [if_neg (by rw [bne, h1]; simp), if_pos (by simp)]; exact h
  · rw [if_neg (by rw [bne, h1]; simp), if_pos (by simp)]; exact h
theorem repW_aux : ∀ (L : List Lo) (ns : List Nd) (t : Tr), RepW ns t → TrW t → (∀ x ∈ L, LoOk x) → RepW (L.foldl placeR ns) (L.foldl placeS t) := by
  intro L
  induction L with
  | nil => intro ns t h _ _; exact h
  | cons x L ih => intro ns t h ht hx; exact ih _ _ (repW_place h ht (hx x (by simp))) (placeS_ok ht (hx x (by simp))) (fun y hy => hx y (by simp [hy]))
theorem repW_places {L : List Lo} (h : ∀ x ∈ L, LoOk x) : RepW (placesR L) (places L) := repW_aux L [] tr0 repW_nil trW_0 h
def seenR (ns : List Nd) : List Nd := ns.filter (fun n => belowR ns n.id 0)
def clashB (x y : Nd) : Bool := y.parent == x.parent && (y.name == x.name && decide (y.id < x.id))
def shownR (l : List Nd) (x : Nd) : Str := if l.any (clashB x) then x.name ++ 126 :: digs x.id else x.name
def viewL (l : List Nd) : List Nd := l.map fun n => ⟨n.id, n.parent, shownR l n⟩
def viewR (L : List Lo) : List Nd := viewL (seenR (placesR L))
theorem seen_mem {ns : List Nd} {t : Tr} (h : RepW ns t) (ht : TrW t) {n : Nd} : n ∈ seenR ns ↔ ∃ i, t i = some n ∧ meetsT t i 0 = true := by
  unfold seenR
  rw [List.mem_filter, repW_mem h ht]
  constructor
  · rintro ⟨⟨i, hi⟩, hb⟩
    refine ⟨i, hi, ?_⟩
    rw [← meetsW_same h ht, ← (ht.2 i n hi).1, hb]; simp
  · rintro ⟨i, hi, hm⟩
    refine ⟨⟨i, hi⟩, ?_⟩
    rw [← meetsW_same h ht, ← (ht.2 i n hi).1] at hm
    have h1 := (ht.2 i n hi)
    rwa [show (n.id == 0) = false by rw [beq_eq_false_iff_ne]; omega, Bool.false_or] at hm
theorem clash_at {ns : List Nd} {t : Tr} (h : RepW ns t) (ht : TrW t) {i : Nat} {n : Nd} (hn : t i = some n) (hm : meetsT t i 0 = true) : (seenR ns).any (clashB n) = true ↔ ¬ atT t n.parent n.name = i := by
  have hb := ht.2 i n hn
  obtain ⟨j, m, j1, j2, hat, hj, jp, jn⟩ := at_le hb.2.1 hb.2.2.1 hn
  rw [hat, List.any_eq_true]
  constructor
  · rintro ⟨y, hy, hc⟩ e
    obtain ⟨q, hq, _⟩ := (seen_mem h ht).1 hy
    unfold clashB at hc
    simp only [Bool.and_eq_true, beq_iff_eq, decide_eq_true_eq] at hc
    have hqb := ht.2 q y hq
    obtain ⟨j', _, _, j2', hat', _⟩ := at_le hqb.2.1 hqb.2.2.1 hq
    rw [hc.1, hc.2.1, hat] at hat'
    have h3 := hc.2.2
    omega
  · intro e
    have hbj := ht.2 j m hj
    refine ⟨m, (seen_mem h ht).2 ⟨j, hj, ?_⟩, ?_⟩
    · have hg := (goes_step (x := (i : Int)) (by rw [Int.toNat_natCast]; exact hn) (by omega)).1 ((goes_meetsW ht).1 hm)
      refine (goes_meetsW ht).2 ?_
      refine goes_up (n := m) (by rw [Int.toNat_natCast]; exact hj) ?_
      rw [jp]; exact hg
    · unfold clashB
      simp only [Bool.and_eq_true, beq_iff_eq, decide_eq_true_eq]
      exact ⟨jp, jn, by omega⟩
theorem shown_same {ns : List Nd} {t : Tr} (h : RepW ns t) (ht : TrW t) {i : Nat} {n : Nd} (hn : t i = some n) (hm : meetsT t i 0 = true) : (⟨n.id, n.parent, shownR (seenR ns) n⟩ : Nd) = shownNd t i := by
  have hc := clash_at h ht hn hm
  have hb := ht.2 i n hn
  unfold shownNd shownR; rw [hn]; simp only [Option.getD_some]
  by_cases e : atT t n.parent n.name = i
  · rw [if_pos e, if_neg (fun hh => (hc.1 hh) e)]
  · rw [if_neg e, if_pos (hc.2 e), hb.1]
theorem rep_view {ns : List Nd} {t : Tr} (h : RepW ns t) (ht : TrW t) : Rep (viewL (seenR ns)) (viewT t) := by
  have hv := view_valid ht
  have hids : ((viewL (seenR ns)).map (·.id)).Nodup := by
    unfold viewL
    rw [List.map_map]
    exact List.Nodup.sublist (List.Sublist.map _ List.filter_sublist) h.ids
  have hu := ids_unique hids
  have hmem : ∀ m, m ∈ viewL (seenR ns) ↔ ∃ i, viewT t i = some m := by
    intro m
    unfold viewL
    rw [List.mem_map]
    constructor
    · rintro ⟨n, hn, rfl⟩
      obtain ⟨i, hi, hm⟩ := (seen_mem h ht).1 hn
      have hb := ht.2 i n hi
      refine ⟨i, ?_⟩
      rw [shown_same h ht hi hm]
      unfold viewT
      rw [hm, decide_eq_true hb.2.1, decide_eq_true hb.2.2.1]; rfl
    · rintro ⟨i, hi⟩
      obtain ⟨h1, h2, h3, h4⟩ := view_some hi
      obtain ⟨n, hn⟩ := meets_there h1 h3
      exact ⟨n, (seen_mem h ht).2 ⟨i, hn, h3⟩, by rw [shown_same h ht hn h3, h4]⟩
  refine ⟨hu, hids, fun m hm => ?_, fun i => ?_⟩
  · obtain ⟨i, hi⟩ := (hmem m).1 hm
    have hb := hv.ok.2 i m hi
    refine ⟨by omega, by omega, hb.2.2.2.1, hb.2.2.2.2.1, hb.2.2.2.2.2⟩
  · refine look_eq hu (fun n hn => ⟨(hmem n).2 ⟨i, hn⟩, (hv.ok.2 i n hn).1⟩) (fun hn n hm e => ?_)
    obtain ⟨j, hj⟩ := (hmem n).1 hm
    have := (hv.ok.2 j n hj).1
    rw [show j = i by omega, hn] at hj; cases hj
theorem viewR_rep {L : List Lo} (h : ∀ x ∈ L, LoOk x) : Rep (viewR L) (viewT (places L)) := rep_view (repW_places h) (places_ok h)
end Go.Proofs.YtdcjimlhaklhfabGreatDoor

namespace Go.Proofs.YtdcjimlhaklhfabGreatDoor
open Go.RowKit
def loC (x : Lo) : List Value := [.int .i64 x.count, .int .i64 x.site, .int .i64 x.node.id, .int .i64 x.node.parent, .string (bs x.node.name)]
def loCells (l : List Lo) : List Value := l.flatMap loC
def loAt (l : List Lo) (i : Nat) : Lo := l.getD i lo0
theorem loCells_length (l : List Lo) : (loCells l).length = l.length * 5 := by
  induction l with
  | nil => rfl
  | cons n l ih => simp only [loCells, List.flatMap_cons, List.length_append] at ih ⊢; simp [loC] at ih ⊢; omega
theorem loCells_snoc (l : List Lo) (n : Lo) : loCells (l ++ [n]) = loCells l ++ loC n := by simp [loCells]
theorem loCells_app (l m : List Lo) : loCells (l ++ m) = loCells l ++ loCells m := by simp [loCells]
theorem loCells_at (l : List Lo) (k j : Nat) (h : k < l.length) (hj : j < 5) : (loCells l)[k * 5 + j]? = (loC l[k])[j]? := by
  induction l generalizing k with
  | nil => simp at h
  | cons n l ih =>
    have e : loCells (n :: l) = loC n ++ loCells l := rfl
    have hl : (loC n).length = 5 := rfl
    cases k with
    | zero => rw [e, List.getElem?_append_left (by rw [hl]; omega)]; simp
    | succ k =>
      rw [e, show (k + 1) * 5 + j = 5 + (k * 5 + j) by omega, List.getElem?_append_right (by rw [hl]; omega), hl, show 5 + (k * 5 + j) - 5 = k * 5 + j by omega]
      rw [ih k (by simpa using h)]; rfl
theorem lo_cells {w wr : World} {ao : Option Addr} {l : List Lo} {B : Nat} (hrow : Row w ao l.length 5 (loCells l)) (hb : Below B w wr) (hB : w.heap.size ≤ B) {k : Nat} (hk : k < l.length) :
    ∃ g, ao = some ⟨g, 0, none⟩ ∧ g < w.heap.size ∧ wr.cell? ⟨g, k * 5, none⟩ = some (.int .i64 (l[k]).count) ∧ wr.cell? ⟨g, k * 5 + 1, none⟩ = some (.int .i64 (l[k]).site) ∧ wr.cell? ⟨g, k * 5 + 2, none⟩ = some (.int .i64 (l[k]).node.id) ∧ wr.cell? ⟨g, k * 5 + 3, none⟩ = some (.int .i64 (l[k]).node.parent) ∧ wr.cell? ⟨g, k * 5 + 4, none⟩ = some (.string (bs (l[k]).node.name)) := by
  obtain ⟨g, h1, h2, h3⟩ := hrow.2 (by omega)
  have key : ∀ j u, j < 5 → (loC l[k])[j]? = some u → wr.cell? ⟨g, k * 5 + j, none⟩ = some u := by
    intro j u hj hu
    rw [hb.cell (p := ⟨g, _, none⟩) (by show g < B; omega)]
    exact h3 _ _ (by rw [loCells_at l k j hk hj]; exact hu)
  exact ⟨g, h1, h2, key 0 _ (by omega) rfl, key 1 _ (by omega) rfl, key 2 _ (by omega) rfl, key 3 _ (by omega) rfl, key 4 _ (by omega) rfl⟩
set_option maxHeartbeats 1000000 in
theorem isAhead_any (a b c d : Int) (s : ByteArray) (a' b' c' d' : Int) (s' : ByteArray) (w : World) :
    Calls Tryz.prog 96 #[.agg #[.int .i64 a, .int .i64 b, .int .i64 c, .int .i64 d, .string s], .agg #[.int .i64 a', .int .i64 b', .int .i64 c', .int .i64 d', .string s']] w fun e w' => e = .returned (.bool (if a ≠ a' then decide (a < a') else decide (b < b'))) ∧ Below w.heap.size w w' := by
  by_cases h : a = a'
  · subst h
    go_enter Tryz.func96, Tryz.ntmps96
    go_wp2
    go_ret
    exact ⟨ret_bool (by simp), ((Below.refl _ _).alloc (Nat.le_refl _) _).alloc (by simp) _⟩
  · have hne : (a != a') = true := by simpa using h
    have H := hide h; clear h
    go_enter Tryz.func96, Tryz.ntmps96
    go_wp2
    go_ret
    exact ⟨ret_bool (by first | rfl | rw [if_pos (unhide H)]), ((Below.refl _ _).alloc (Nat.le_refl _) _).alloc (by simp) _⟩
theorem hasStamp_take {l : List Lo} {x : Lo} {k : Nat} (h : ∀ j (hj : j < l.length), j < k → sameStamp l[j] x = false) (hk : ¬ k < l.length) : hasStamp l x = false := by
  unfold hasStamp; rw [List.any_eq_false]
  intro y hy
  obtain ⟨j, hj, rfl⟩ := List.mem_iff_getElem.1 hy
  rw [h j hj (by omega)]; simp
set_option maxHeartbeats 2000000 in
theorem hasStamp_any (l : List Lo) (x : Lo) (ao : Option Addr) (cap : Nat) (w : World) (hrow : Row w ao l.length 5 (loCells l)) (hl : l.length ≤ 8000) :
    Calls Tryz.prog 95 #[.slice ao l.length cap, .agg #[.int .i64 x.count, .int .i64 x.site, .int .i64 x.node.id, .int .i64 x.node.parent, .string (bs x.node.name)]] w fun e w' => e = .returned (.bool (hasStamp l x)) ∧ Below w.heap.size w w' := by
  have HROW := hide hrow; clear hrow
  go_enter Tryz.func95, Tryz.ntmps95
  go_wp2
  go_loopw [9] (fun i wr => ∃ k : Nat, k ≤ l.length ∧ i = .int .i64 k ∧ Below w.heap.size w wr ∧ w.heap.size < wr.heap.size ∧ wr.cell? ⟨w.heap.size, 0, none⟩ = some (.int .i64 x.count) ∧ wr.cell? ⟨w.heap.size, 1, none⟩ = some (.int .i64 x.site) ∧ Hid (∀ j (hj : j < l.length), j < k → sameStamp l[j] x = false)) (fun i _ => l.length - (intOf i).toNat)
  case atStart =>
    refine ⟨0, Nat.zero_le _, rfl, (Below.refl _ _).alloc (Nat.le_refl _) _, by simp, ?_, ?_, hide (fun j hj h => by omega)⟩
    · simp [go_sem]
    · simp [go_sem]
  case round =>
    obtain ⟨k, hk, rfl, hbel, hsz, x0, x1, HN⟩ := hrel
    by_cases hlt : k < l.length
    · obtain ⟨g, hao, hg, c0, c1, c2, c3, c4⟩ := lo_cells (unhide HROW) hbel (Nat.le_refl _) hlt
      rw [hao]
      clear hao
      have HS : Hid (sameStamp l[k] x = ((l[k]).count == x.count && (l[k]).site == x.site)) := hide rfl
      have HB := hide (hbel.alloc (by omega) (.cells #[.int .i64 (l[k]).count, .int .i64 (l[k]).site, .int .i64 (l[k]).node.id, .int .i64 (l[k]).node.parent, .string (bs (l[k]).node.name)] 113))
      have HNX : Hid (sameStamp l[k] x = false → ∀ j (hj : j < l.length), j < k + 1 → sameStamp l[j] x = false) := by
        apply hide; intro hh j hj hjk
        by_cases e : j = k
        · subst e; exact hh
        · exact unhide HN j hj (by omega)
      have HYS : Hid (sameStamp l[k] x = true → hasStamp l x = true) := by
        apply hide; intro hh; unfold hasStamp; rw [List.any_eq_true]; exact ⟨l[k], List.getElem_mem hlt, hh⟩
      generalize l[k] = y at *
      cases h0 : (y.count == x.count)
      · have HF := hide (unhide HNX (by rw [unhide HS, h0]; rfl))
        go_wp2
        go_roundw
        case rel => exact ⟨k + 1, by omega, by go_num, unhide HB, by simp; omega, by simpa [go_sem, hsz] using x0, by simpa [go_sem, hsz] using x1, HF⟩
        case measure => simp [intOf]; omega
      · cases h1 : (y.site == x.site)
        · have HF := hide (unhide HNX (by rw [unhide HS, h0, h1]; rfl))
          go_wp2
          go_roundw
          case rel => exact ⟨k + 1, by omega, by go_num, unhide HB, by simp; omega, by simpa [go_sem, hsz] using x0, by simpa [go_sem, hsz] using x1, HF⟩
          case measure => simp [intOf]; omega
        · have HF := hide (unhide HYS (by rw [unhide HS, h0, h1]; rfl))
          go_wp2
          go_ret
          exact ⟨ret_bool (unhide HF).symm, unhide HB⟩
    · have HF := hide (hasStamp_take (unhide HN) hlt)
      go_wp2
      go_ret
      exact ⟨ret_bool (unhide HF).symm, hbel⟩
end Go.Proofs.YtdcjimlhaklhfabGreatDoor
