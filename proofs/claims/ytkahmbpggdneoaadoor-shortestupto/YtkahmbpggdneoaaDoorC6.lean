import Derived.Test.YtkahmbpggdneoaaDoorM3
import Derived.Test.YtkahmbpggdneoaaDoorC5
namespace Go.Proofs.YtkahmbpggdneoaaDoor
open Go.RowKit
/-! Cutting texts that are put together of records. -/
theorem cutFold (L : List Str) : ∀ (l c : Str), l.foldl cutStep (L, c) = (L ++ (l.foldl cutStep ([], c)).1, (l.foldl cutStep ([], c)).2) := by
  intro l
  induction l generalizing L with
  | nil => intro c; simp
  | cons x l ih =>
    intro c
    simp only [List.foldl_cons, cutStep]
    by_cases h : x = 59
    · rw [if_pos h, if_pos h, ih (L ++ [c ++ [x]]), ih ([] ++ [c ++ [x]])]; simp
    · rw [if_neg h, if_neg h, ih L]
theorem cutRec : ∀ (a c : Str), (∀ x ∈ a, x ≠ 59) → (a ++ [59]).foldl cutStep ([], c) = ([c ++ a ++ [59]], []) := by
  intro a
  induction a with
  | nil => intro c _; simp [cutStep]
  | cons x a ih =>
    intro c h
    rw [List.cons_append, List.foldl_cons, cutStep, if_neg (h x (by simp)), ih _ (fun y hy => h y (by simp [hy]))]
    simp
theorem cut_cons {a : Str} (h : ∀ x ∈ a, x ≠ 59) (rest : Str) : cut (a ++ [59] ++ rest) = (a ++ [59]) :: cut rest := by
  have e : cutTo (a ++ [59] ++ rest) = ((a ++ [59]) :: (cutTo rest).1, (cutTo rest).2) := by
    unfold cutTo
    rw [List.foldl_append, cutRec a [] h, cutFold]; simp
  unfold cut
  rw [e]
  split
  · rfl
  · simp
theorem cut_nil : cut [] = [] := rfl
theorem cut_flat (l : Str) : (cut l).flatten = l := by
  have key : (cutTo l).1.flatten ++ (cutTo l).2 = l := by
    refine snoc_ind (P := fun l => (cutTo l).1.flatten ++ (cutTo l).2 = l) rfl ?_ l
    intro l c h
    rw [cutTo_snoc]; unfold cutStep
    split
    · simp; rw [← List.append_assoc, h]
    · simp; rw [← List.append_assoc, h]
  unfold cut
  split
  · rename_i h; rw [h] at key; simpa using key
  · rw [List.flatten_append]; simpa using key
/-- A text whose records all end with their semicolon: what is cut of it and of what follows. -/
theorem cut_app {s : Str} (h : ∀ r ∈ cut s, bodyB r = true) (t : Str) : cut (s ++ t) = cut s ++ cut t := by
  have hc : (cutTo s).2 = [] := by
    cases he : (cutTo s).2 with
    | nil => rfl
    | cons x r =>
      exfalso
      have hm : (cutTo s).2 ∈ cut s := by unfold cut; rw [if_neg (by rw [he]; simp)]; simp
      have hb := h _ hm
      -- the rest behind the last semicolon holds none
      have hno : ∀ l : Str, ∀ y ∈ (cutTo l).2, y ≠ 59 := by
        intro l
        refine snoc_ind (P := fun l => ∀ y ∈ (cutTo l).2, y ≠ 59) (by simp [cutTo]) ?_ l
        intro l c ih
        rw [cutTo_snoc]; unfold cutStep
        split
        · simp
        · rename_i hne
          intro y hy
          rcases List.mem_append.1 hy with hy | hy
          · exact ih y hy
          · simp at hy; rw [hy]; exact hne
      unfold bodyB at hb
      have hl : (cutTo s).2.getLast? = some 59 := by simpa using hb
      exact hno s 59 (List.mem_of_getLast? hl) rfl
  have e : cutTo (s ++ t) = ((cutTo s).1 ++ (cutTo t).1, (cutTo t).2) := by
    have : cutTo s = ((cutTo s).1, []) := by rw [← hc]
    unfold cutTo at this ⊢
    rw [List.foldl_append, this, cutFold]
  unfold cut
  rw [e, hc]
  split
  · rw [if_pos rfl]
  · rw [if_pos rfl]; simp
/-! Parts. -/
theorem partFold (L : List Str) : ∀ (l c : Str), l.foldl partStep (L, c) = (L ++ (l.foldl partStep ([], c)).1, (l.foldl partStep ([], c)).2) := by
  intro l
  induction l generalizing L with
  | nil => intro c; simp
  | cons x l ih =>
    intro c
    simp only [List.foldl_cons, partStep]
    by_cases h : x = 32
    · rw [if_pos h, if_pos h, ih (L ++ [c]), ih ([] ++ [c])]; simp
    · rw [if_neg h, if_neg h, ih L]
theorem partNo : ∀ (a c : Str), (∀ x ∈ a, x ≠ 32) → a.foldl partStep ([], c) = ([], c ++ a) := by
  intro a
  induction a with
  | nil => intro c _; simp
  | cons x a ih =>
    intro c h
    rw [List.foldl_cons, partStep, if_neg (h x (by simp)), ih _ (fun y hy => h y (by simp [hy]))]
    simp
theorem parts_cons {a : Str} (h : ∀ x ∈ a, x ≠ 32) (rest : Str) : parts (a ++ [32] ++ rest) = a :: parts rest := by
  have e : partTo (a ++ [32] ++ rest) = (a :: (partTo rest).1, (partTo rest).2) := by
    unfold partTo
    rw [List.foldl_append, List.foldl_append, partNo a [] h]
    simp only [List.foldl_cons, List.foldl_nil, partStep, if_pos, List.nil_append]
    rw [partFold]; simp
  unfold parts; rw [e]; rfl
theorem parts_one {a : Str} (h : ∀ x ∈ a, x ≠ 32) : parts a = [a] := by
  unfold parts partTo; rw [partNo a [] h]; rfl
/-- The parts, with blanks between, are the text. -/
def joined : List Str → Str
  | [] => []
  | [a] => a
  | a :: b :: l => a ++ [32] ++ joined (b :: l)
theorem joined_snoc : ∀ (L : List Str) (a b : Str), joined (L ++ [a] ++ [b]) = joined (L ++ [a]) ++ [32] ++ b := by
  intro L
  induction L with
  | nil => intro a b; simp [joined]
  | cons x L ih =>
    intro a b
    cases L with
    | nil => simp [joined]
    | cons y L =>
      have := ih a b
      simp only [List.cons_append, joined] at this ⊢
      rw [this]; simp
theorem joined_last : ∀ (L : List Str) (a : Str) (c : UInt8), joined (L ++ [a ++ [c]]) = joined (L ++ [a]) ++ [c] := by
  intro L
  induction L with
  | nil => intro a c; simp [joined]
  | cons x L ih =>
    intro a c
    cases L with
    | nil => simp [joined]
    | cons y L =>
      have := ih a c
      simp only [List.cons_append, joined] at this ⊢
      rw [this]; simp
theorem joined_parts (l : Str) : joined (parts l) = l := by
  unfold parts
  refine snoc_ind (P := fun l => joined ((partTo l).1 ++ [(partTo l).2]) = l) rfl ?_ l
  intro l c h
  rw [partTo_snoc]; unfold partStep
  split
  · rename_i hc
    rw [joined_snoc, h, hc]; simp
  · rw [joined_last, h]
/-! Numbers and names. -/
theorem digs_no : ∀ n : Nat, n < 100 → ∀ x ∈ digs (n : Int), x ≠ 59 ∧ x ≠ 32 := by decide +kernel
theorem digs_num1 : ∀ n : Nat, n < 100 → 1 ≤ n → number (digs (n : Int)) 1 99 = ((n : Int), true) := by decide +kernel
theorem digs_num0 : ∀ n : Nat, n < 100 → number (digs (n : Int)) 0 99 = ((n : Int), true) := by decide +kernel
theorem number_digs {a : Str} {lo : Int} (h : (number a lo 99).2 = true) : digs (number a lo 99).1 = a := by
  have hb : numBad a = false := by
    cases hb : numBad a
    · rfl
    · rw [number_bad hb] at h; cases h
  have ha : a.all digB = true := by
    cases ha : a.all digB
    · rw [number_none (numGo_bad 99 a 0 ha)] at h; cases h
    · rfl
  have hr : numR a lo 99 = (number a lo 99).1 := by unfold numR; rw [h]; rfl
  rw [numR_digits ha hb (by omega)] at hr
  have bd := number_bd a lo 99 (by omega)
  split at hr
  · rename_i hh
    rw [← hr, digs_dec (val a) (by omega), val_dec a ha hb]
  · omega
theorem takeWhile_all {p : UInt8 → Bool} : ∀ (l : Str), ∀ x ∈ l.takeWhile p, p x = true := by
  intro l
  induction l with
  | nil => intro x hx; simp at hx
  | cons a l ih =>
    intro x hx
    rw [List.takeWhile_cons] at hx
    split at hx
    · rcases List.mem_cons.1 hx with rfl | hx
      · assumption
      · exact ih x hx
    · simp at hx
theorem take_plain (l : Str) : l.take (plainLen l) = l.takeWhile plainB := by
  induction l with
  | nil => rfl
  | cons a l ih =>
    unfold plainLen at ih ⊢
    rw [List.takeWhile_cons]
    split
    · simp [ih]
    · rfl
theorem plain_no {x : UInt8} (h : plainB x = true) : x ≠ 59 ∧ x ≠ 32 := by
  constructor <;> (intro e; subst e; revert h; decide)
theorem name_no {l : Str} {id : Int} (h : isName l id = true) (h0 : 0 ≤ id) (h1 : id ≤ 99) : ∀ x ∈ l, x ≠ 59 ∧ x ≠ 32 := by
  intro x hx
  rw [← List.take_append_drop (plainLen l) l] at hx
  rcases List.mem_append.1 hx with hx | hx
  · rw [take_plain] at hx; exact plain_no (takeWhile_all l x hx)
  · unfold isName at h
    simp only [Bool.and_eq_true, decide_eq_true_eq, Bool.or_eq_true, beq_iff_eq] at h
    rcases h.2 with h2 | h2
    · rw [h2, List.drop_length] at hx; simp at hx
    · rw [h2] at hx
      rcases List.mem_cons.1 hx with rfl | hx
      · exact ⟨by decide, by decide⟩
      · obtain ⟨m, rfl⟩ := Int.eq_ofNat_of_zero_le h0
        exact digs_no m (by omega) x hx
def NdOk (n : Nd) : Prop := 1 ≤ n.id ∧ n.id ≤ 99 ∧ 0 ≤ n.parent ∧ n.parent ≤ 99 ∧ isName n.name n.id = true
def ndBody (n : Nd) : Str := digs n.id ++ [32] ++ (digs n.parent ++ [32] ++ n.name)
theorem nodeText_body (n : Nd) : nodeText n = ndBody n ++ [59] := by simp [nodeText, ndBody]
theorem digs_noI {n : Int} (h0 : 0 ≤ n) (h1 : n ≤ 99) : ∀ x ∈ digs n, x ≠ 59 ∧ x ≠ 32 := by
  obtain ⟨m, rfl⟩ := Int.eq_ofNat_of_zero_le h0
  exact digs_no m (by omega)
theorem body_no {n : Nd} (h : NdOk n) : ∀ x ∈ ndBody n, x ≠ 59 := by
  intro x hx
  have h1 := digs_noI (n := n.id) (by have := h.1; omega) h.2.1
  have h2 := digs_noI h.2.2.1 h.2.2.2.1
  have h3 := name_no h.2.2.2.2 (by have := h.1; omega) h.2.1
  simp only [ndBody, List.mem_append, List.mem_singleton] at hx
  rcases hx with (hx | rfl) | (hx | rfl) | hx
  · exact (h1 x hx).1
  · decide
  · exact (h2 x hx).1
  · decide
  · exact (h3 x hx).1
theorem readNode_body {n : Nd} (h : NdOk n) : readNode (ndBody n) = some n := by
  have h1 := digs_noI (n := n.id) (by have := h.1; omega) h.2.1
  have h2 := digs_noI h.2.2.1 h.2.2.2.1
  have h3 := name_no h.2.2.2.2 (by have := h.1; omega) h.2.1
  have hp : parts (ndBody n) = [digs n.id, digs n.parent, n.name] := by
    unfold ndBody
    rw [parts_cons (fun x hx => (h1 x hx).2), parts_cons (fun x hx => (h2 x hx).2), parts_one (fun x hx => (h3 x hx).2)]
  obtain ⟨id, parent, name⟩ := n
  simp only [NdOk] at h hp ⊢
  obtain ⟨i, rfl⟩ := Int.eq_ofNat_of_zero_le (show 0 ≤ id by omega)
  obtain ⟨p, rfl⟩ := Int.eq_ofNat_of_zero_le h.2.2.1
  unfold readNode
  rw [hp]
  simp only
  rw [digs_num1 i (by omega) (by omega), digs_num0 p (by omega)]
  simp [h.2.2.2.2]
theorem recNode_text {n : Nd} (h : NdOk n) : recNode (nodeText n) = some n := by
  rw [nodeText_body]
  unfold recNode bodyS bodyB
  simp [readNode_body h]
theorem recNode_canon {r : Str} {n : Nd} (h : recNode r = some n) : r = nodeText n := by
  unfold recNode at h
  split at h
  · rename_i hb
    have hr : r = bodyS r ++ [59] := by
      unfold bodyS; rw [if_pos hb]
      unfold bodyB at hb
      have hl : r.getLast? = some 59 := by simpa using hb
      obtain ⟨ys, hy⟩ := List.getLast?_eq_some_iff.1 hl
      rw [hy]; simp
    rw [nodeText_body]
    conv => lhs; rw [hr]
    congr 1
    generalize bodyS r = b at h
    unfold readNode at h
    split at h
    · rename_i x y z hp
      split at h
      · rename_i hh
        simp only [Bool.and_eq_true] at hh
        cases h
        have hj := joined_parts b
        rw [hp] at hj
        simp only [joined] at hj
        unfold ndBody
        simp only
        rw [number_digs hh.1.1, number_digs hh.1.2]
        exact hj.symm
      · cases h
    · cases h
  · cases h
end Go.Proofs.YtkahmbpggdneoaaDoor

namespace Go.Proofs.YtkahmbpggdneoaaDoor
open Go.RowKit
/-! A tree's nodes in the order of their numbers. -/
def nodesOf (t : Tr) : List Nd := (List.range' 1 99).filterMap t
theorem flat_filter {t : Tr} : ∀ (l : List Nat), l.flatMap (textAt t) = (l.filterMap t).flatMap nodeText := by
  intro l
  induction l with
  | nil => rfl
  | cons i l ih =>
    rw [List.flatMap_cons, ih]
    unfold textAt
    cases h : t i with
    | none => simp [h]
    | some n => simp [h]
theorem textT_nodes (t : Tr) : textT t = (nodesOf t).flatMap nodeText := flat_filter _
theorem nodesOf_mem {t : Tr} (ht : TrOk t) {n : Nd} : n ∈ nodesOf t ↔ t n.id.toNat = some n ∧ 1 ≤ n.id := by
  unfold nodesOf
  rw [List.mem_filterMap]
  constructor
  · rintro ⟨i, hi, h⟩
    have := ht.2 i n h
    rw [show n.id.toNat = i by omega]; exact ⟨h, by omega⟩
  · rintro ⟨h, h1⟩
    have := ht.2 _ n h
    exact ⟨n.id.toNat, by rw [List.mem_range'_1]; omega, h⟩
theorem nodesOf_ok {t : Tr} (ht : TrOk t) : ∀ n ∈ nodesOf t, NdOk n := by
  intro n hn
  obtain ⟨h, h1⟩ := (nodesOf_mem ht).1 hn
  have := ht.2 _ n h
  exact ⟨h1, by omega, this.2.2.2.1, this.2.2.2.2.1, this.2.2.2.2.2⟩
theorem nodesOf_len (t : Tr) : (nodesOf t).length ≤ 99 := by
  have := List.length_filterMap_le t (List.range' 1 99)
  simpa [nodesOf] using this
/-- strictly rising -/
def Rises (l : List Nd) : Prop := l.Pairwise (fun a b => a.id < b.id)
theorem rises_filter {t : Tr} (ht : TrOk t) : ∀ (k lo : Nat), Rises ((List.range' lo k).filterMap t) ∧ ∀ n ∈ (List.range' lo k).filterMap t, (lo : Int) ≤ n.id := by
  intro k
  induction k with
  | zero => intro lo; exact ⟨List.Pairwise.nil, by simp⟩
  | succ k ih =>
    intro lo
    obtain ⟨h1, h2⟩ := ih (lo + 1)
    rw [List.range'_succ]
    cases h : t lo with
    | none =>
      rw [List.filterMap_cons_none h]
      exact ⟨h1, fun n hn => by have := h2 n hn; omega⟩
    | some n =>
      rw [List.filterMap_cons_some h]
      have hid := (ht.2 lo n h).1
      refine ⟨List.Pairwise.cons (fun m hm => by have := h2 m hm; omega) h1, fun m hm => ?_⟩
      rcases List.mem_cons.1 hm with rfl | hm
      · omega
      · have := h2 m hm; omega
theorem rises_ordered {l : List Nd} (h : Rises l) : Ordered l := by
  intro i j hij hj
  rw [ndAt_get _ _ hj, ndAt_get _ _ (by omega)]
  exact List.pairwise_iff_getElem.1 h i j (by omega) hj hij
theorem ordered_rises {l : List Nd} (h : Ordered l) : Rises l := by
  refine List.pairwise_iff_getElem.2 (fun i j hi hj hij => ?_)
  have := h i j hij hj
  rwa [ndAt_get _ _ hj, ndAt_get _ _ hi] at this
theorem nodesOf_ordered {t : Tr} (ht : TrOk t) : Ordered (nodesOf t) := rises_ordered (rises_filter ht 99 1).1
/-- Two rising lists with the same members are one. -/
theorem rises_eq : ∀ (a b : List Nd), Rises a → Rises b → (∀ n, n ∈ a ↔ n ∈ b) → a = b := by
  intro a
  induction a with
  | nil =>
    intro b _ _ h
    cases b with
    | nil => rfl
    | cons m b => have := (h m).2 (by simp); simp at this
  | cons n a ih =>
    intro b ha hb h
    cases b with
    | nil => have := (h n).1 (by simp); simp at this
    | cons m b =>
      have ha' := List.pairwise_cons.1 ha
      have hb' := List.pairwise_cons.1 hb
      have hnm : n = m := by
        rcases List.mem_cons.1 ((h n).1 (by simp)) with e | e
        · exact e
        · rcases List.mem_cons.1 ((h m).2 (by simp)) with e2 | e2
          · exact e2.symm
          · have := ha'.1 m e2; have := hb'.1 n e; omega
      subst hnm
      congr 1
      refine ih b ha'.2 hb'.2 (fun x => ?_)
      constructor
      · intro hx
        rcases List.mem_cons.1 ((h x).1 (by simp [hx])) with rfl | e
        · have := ha'.1 x hx; omega
        · exact e
      · intro hx
        rcases List.mem_cons.1 ((h x).2 (by simp [hx])) with rfl | e
        · have := hb'.1 x hx; omega
        · exact e
theorem gather_mem {ns : List Nd} (hu : Unique ns) (hb : ∀ n ∈ ns, 1 ≤ n.id) {n : Nd} : gather ns n.id.toNat = some n ∧ 1 ≤ n.id ↔ n ∈ ns := by
  rw [gather_look hu hb]
  constructor
  · rintro ⟨h, _⟩; exact (lookR_mem h).1
  · intro h; exact ⟨lookR_of hu h, hb n h⟩
theorem gather_trOk {ns : List Nd} (h : ∀ n ∈ ns, NdOk n) : TrOk (gather ns) := gather_ok_aux ns tr0 trOk_0 h
theorem nodesOf_gather {ns : List Nd} (ho : Ordered ns) (h : ∀ n ∈ ns, NdOk n) : nodesOf (gather ns) = ns := by
  refine rises_eq _ _ (rises_filter (gather_trOk h) 99 1).1 (ordered_rises ho) (fun n => ?_)
  rw [nodesOf_mem (gather_trOk h), gather_mem (ordered_unique ho) (fun n hn => (h n hn).1)]
theorem gather_nodesOf {t : Tr} (ht : TrOk t) : gather (nodesOf t) = t := by
  funext i
  have ho := nodesOf_ordered ht
  have hk := nodesOf_ok ht
  have := gather_look (ordered_unique ho) (fun n hn => (hk n hn).1) (i : Int)
  rw [Int.toNat_natCast] at this
  rw [this]
  cases h : t i with
  | some n =>
    have hn := ht.2 i n h
    have hm : n ∈ nodesOf t := (nodesOf_mem ht).2 ⟨by rw [show n.id.toNat = i by omega]; exact h, by omega⟩
    have := lookR_of (ordered_unique ho) hm
    rw [hn.1] at this; exact this
  | none =>
    cases hl : lookR (nodesOf t) (i : Int) with
    | none => rfl
    | some m =>
      obtain ⟨h1, h2⟩ := lookR_mem hl
      obtain ⟨h3, h4⟩ := (nodesOf_mem ht).1 h1
      rw [show m.id.toNat = i by omega, h] at h3; cases h3
/-! What is read of a text that was written. -/
theorem cut_nodes : ∀ (ns : List Nd), (∀ n ∈ ns, NdOk n) → cut (ns.flatMap nodeText) = ns.map nodeText := by
  intro ns
  induction ns with
  | nil => intro _; rfl
  | cons n ns ih =>
    intro h
    rw [List.flatMap_cons, nodeText_body, cut_cons (body_no (h n (by simp))), ih (fun m hm => h m (by simp [hm]))]
    rw [List.map_cons, nodeText_body]
theorem readNodes_map : ∀ (ns : List Nd), (∀ n ∈ ns, NdOk n) → readNodes (ns.map nodeText) = ns := by
  intro ns
  induction ns with
  | nil => intro _; rfl
  | cons n ns ih =>
    intro h
    rw [List.map_cons, readNodes, recNode_text (h n (by simp)), ih (fun m hm => h m (by simp [hm]))]
theorem readNodes_text {t : Tr} (ht : TrOk t) : readNodes (cut (textT t)) = nodesOf t ∧ (cut (textT t)).length = (nodesOf t).length := by
  rw [textT_nodes, cut_nodes _ (nodesOf_ok ht), readNodes_map _ (nodesOf_ok ht)]; simp
theorem readNodes_all : ∀ (rs : List Str), ¬ (readNodes rs).length < rs.length → rs = (readNodes rs).map nodeText := by
  intro rs
  induction rs with
  | nil => intro _; rfl
  | cons r rs ih =>
    intro h
    unfold readNodes at h ⊢
    cases hr : recNode r with
    | none => rw [hr] at h; simp at h
    | some n =>
      rw [hr] at h
      simp only [List.length_cons] at h
      simp only [List.map_cons]
      rw [← ih (by omega), ← recNode_canon hr]
/-- What Check lets pass is written again as it was. -/
theorem check_parts {l : Str} (h : (checkT l).1 = 0) : checkT l = (0, 0) ∧ l.length ≤ 4000 ∧ ¬ (readNodes (cut l)).length < (cut l).length ∧ Ordered (readNodes (cut l)) ∧ misplaced (gather (readNodes (cut l))) (readNodes (cut l)) = (0, 0) := by
  unfold checkT at h ⊢
  split at h
  · simp at h
  · rename_i h1
    simp only [] at h ⊢
    split at h
    · simp at h
    · rename_i h2
      split at h
      · simp at h
      · rename_i h3
        have hm : misplaced (gather (readNodes (cut l))) (readNodes (cut l)) = (0, 0) := by
          unfold misplaced at h ⊢
          split <;> (try split) <;> (try split) <;> simp_all
        rw [if_neg h1, if_neg h2, if_neg h3, hm]
        exact ⟨rfl, by omega, h2, ordered_of h3, rfl⟩
theorem text_check {l : Str} (h : (checkT l).1 = 0) : textT (gather (readNodes (cut l))) = l := by
  obtain ⟨_, _, h2, h3, _⟩ := check_parts h
  have hk := readNodes_bd (cut l)
  rw [textT_nodes, nodesOf_gather h3 hk]
  have := readNodes_all (cut l) h2
  have hf := cut_flat l
  rw [this] at hf
  rw [List.flatMap_def]
  conv => rhs; rw [← hf]
end Go.Proofs.YtkahmbpggdneoaaDoor

namespace Go.Proofs.YtkahmbpggdneoaaDoor
open Go.RowKit
/-! A way up of whatever length. -/
def Goes (t : Tr) (x goal : Int) : Prop := ∃ f, meetsF t f x goal = true
theorem meets_up (t : Tr) (goal : Int) {f : Nat} {x : Int} (h : meetsF t f x goal = true) : meetsF t (f + 1) x goal = true := by
  induction f generalizing x with
  | zero => simp [meetsF] at h
  | succ f ih =>
    rw [meetsF] at h ⊢
    by_cases e : x = goal
    · rw [if_pos e]
    · rw [if_neg e] at h ⊢
      cases ht : t x.toNat with
      | none => rw [ht] at h; simp at h
      | some n => rw [ht] at h; simp only at h ⊢; exact ih h
theorem goes_meets {t : Tr} (ht : TrOk t) {x goal : Int} : meetsT t x goal = true ↔ Goes t x goal := by
  constructor
  · intro h; exact ⟨100, h⟩
  · rintro ⟨f, h⟩
    have h1 := meets_up t goal h
    rw [meets_below] at h1
    unfold meetsT
    rw [show (100 : Nat) = 99 + 1 from rfl, meets_below]
    rw [Bool.or_eq_true] at h1 ⊢
    rcases h1 with h1 | h1
    · exact .inl h1
    · right
      have hs := below_stop (ns := nodesOf t) (look := fun x : Int => t x.toNat) (fun y n hn => by
        have := ht.2 _ n hn
        refine ⟨(nodesOf_mem ht).2 ⟨by rw [show n.id.toNat = y.toNat by omega]; exact hn, by omega⟩, by omega⟩) f x h1
      exact below_le (nodesOf_len t) x hs
theorem goes_here (t : Tr) (x : Int) : Goes t x x := ⟨1, by simp [meetsF]⟩
theorem goes_up {t : Tr} {x goal : Int} {n : Nd} (h : t x.toNat = some n) (hg : Goes t n.parent goal) : Goes t x goal := by
  obtain ⟨f, hf⟩ := hg
  refine ⟨f + 1, ?_⟩
  rw [meetsF, h]
  split
  · rfl
  · exact hf
/-- A tree as Check wants it. -/
structure Valid (t : Tr) : Prop where
  ok : TrOk t
  parent : ∀ i n, t i = some n → isParentT t n.parent = true
  goes : ∀ i n, t i = some n → Goes t n.id 0
  apart : ∀ i j n m, t i = some n → t j = some m → n.parent = m.parent → n.name = m.name → i = j
theorem valid_of_check {l : Str} (h : (checkT l).1 = 0) : Valid (gather (readNodes (cut l))) := by
  obtain ⟨_, _, _, ho, hm⟩ := check_parts h
  have hk := readNodes_bd (cut l)
  generalize readNodes (cut l) = ns at *
  have hok := gather_trOk hk
  have hmem : ∀ i n, gather ns i = some n → n ∈ ns := by
    intro i n hn
    have := hok.2 i n hn
    exact (gather_mem (ordered_unique ho) (fun n hn => (hk n hn).1)).1 ⟨by rw [show n.id.toNat = i by omega]; exact hn, by omega⟩
  unfold misplaced at hm
  split at hm
  · simp at hm
  · rename_i h1
    split at hm
    · simp at hm
    · rename_i h2
      split at hm
      · simp at hm
      · rename_i h3
        have n1 : ∀ j, j < ns.length → orphan (gather ns) ns j = false := by
          rcases scan_cases (orphan (gather ns) ns) 0 ns.length with ⟨e, _⟩ | ⟨_, e⟩
          · exact absurd e h1
          · exact fun j hj => e j (by omega) hj
        have n2 : ∀ j, j < ns.length → looped (gather ns) ns j = false := by
          rcases scan_cases (looped (gather ns) ns) 0 ns.length with ⟨e, _⟩ | ⟨_, e⟩
          · exact absurd e h2
          · exact fun j hj => e j (by omega) hj
        have n3 : ∀ j, j < ns.length → twice ns j = false := by
          rcases scan_cases (twice ns) 0 ns.length with ⟨e, _⟩ | ⟨_, e⟩
          · exact absurd e h3
          · exact fun j hj => e j (by omega) hj
        refine ⟨hok, ?_, ?_, ?_⟩
        · intro i n hn
          obtain ⟨j, hj, rfl⟩ := mem_ndAt (hmem i n hn)
          have := n1 j hj; unfold orphan at this; simpa using this
        · intro i n hn
          obtain ⟨j, hj, rfl⟩ := mem_ndAt (hmem i n hn)
          have := n2 j hj; unfold looped at this
          exact (goes_meets hok).1 (by simpa using this)
        · intro i j n m hn hm' hp hnm
          obtain ⟨a, ha, rfl⟩ := mem_ndAt (hmem i n hn)
          obtain ⟨b, hb, rfl⟩ := mem_ndAt (hmem j m hm')
          have hid1 := (hok.2 i _ hn).1
          have hid2 := (hok.2 j _ hm').1
          have hno : ∀ x y, x < y → y < ns.length → (ndAt ns x).parent = (ndAt ns y).parent → (ndAt ns x).name = (ndAt ns y).name → False := by
            intro x y hxy hy h4 h5
            have := n3 y hy
            unfold twice at this
            have := of_decide_eq_false this
            exact this ⟨x, hxy, by unfold samePlace; rw [h4, h5]; simp⟩
          rcases Nat.lt_trichotomy a b with h6 | rfl | h6
          · exact (hno a b h6 hb hp hnm).elim
          · omega
          · exact (hno b a h6 ha hp.symm hnm.symm).elim
/-- A tree that is right, written and read, passes. -/
theorem check_text {t : Tr} (hv : Valid t) : checkT (textT t) = (0, 0) ∧ gather (readNodes (cut (textT t))) = t := by
  obtain ⟨e1, e2⟩ := readNodes_text hv.ok
  have ho := nodesOf_ordered hv.ok
  have hk := nodesOf_ok hv.ok
  have hg := gather_nodesOf hv.ok
  have hlen : (textT t).length ≤ 4000 := by have := textTo_len hv.ok 99; unfold textT; omega
  refine ⟨?_, by rw [e1, hg]⟩
  unfold checkT
  rw [if_neg (by omega)]
  simp only []
  rw [e1, e2, if_neg (by omega), hg]
  have h3 : ¬ scan (unordered (nodesOf t)) 1 (nodesOf t).length < (nodesOf t).length := by
    rw [scan_none]
    · omega
    · intro j h1 h2
      unfold unordered
      have := ho (j - 1) j (by omega) h2
      exact decide_eq_false (by omega)
  rw [if_neg h3]
  have hat : ∀ j, j < (nodesOf t).length → t (ndAt (nodesOf t) j).id.toNat = some (ndAt (nodesOf t) j) := fun j hj => ((nodesOf_mem hv.ok).1 (ndAt_mem hj)).1
  unfold misplaced
  rw [scan_none (p := orphan t (nodesOf t)) (fun j _ hj => by unfold orphan; rw [hv.parent _ _ (hat j hj)]; rfl), if_neg (by omega)]
  rw [scan_none (p := looped t (nodesOf t)) (fun j _ hj => by unfold looped; rw [(goes_meets hv.ok).2 (hv.goes _ _ (hat j hj))]; rfl), if_neg (by omega)]
  rw [scan_none (p := twice (nodesOf t)) (fun j _ hj => by
    unfold twice
    apply decide_eq_false
    rintro ⟨x, hx, hs⟩
    unfold samePlace at hs
    simp only [Bool.and_eq_true, beq_iff_eq] at hs
    have h4 := hv.apart _ _ _ _ (hat x (by omega)) (hat j hj) hs.1 hs.2
    have h5 := ho x j hx hj
    have h6 := (hk _ (ndAt_mem (ns := nodesOf t) (i := x) (by omega))).1
    omega), if_neg (by omega)]
/-! The steps keep trees right. -/
theorem hasT_iff {t : Tr} {id : Int} : hasT t id = true ↔ ∃ n, t id.toNat = some n := by unfold hasT; exact Option.isSome_iff_exists
theorem isParent_iff {t : Tr} {p : Int} : isParentT t p = true ↔ p = 0 ∨ (p % 2 = 0 ∧ ∃ n, t p.toNat = some n) := by
  unfold isParentT; rw [Bool.or_eq_true, Bool.and_eq_true, beq_iff_eq, beq_iff_eq, hasT_iff]
theorem atT_none {t : Tr} {p : Int} {s : Str} (h : atT t p s = 0) : ∀ i n, 1 ≤ i → i ≤ 99 → t i = some n → n.parent = p → n.name = s → False := by
  intro i n h1 h2 hn hp hs
  rcases scan_cases (spotIs t p s) 1 100 with ⟨e1, e2, _, _⟩ | ⟨_, e⟩
  · unfold atT at h; rw [if_pos e1] at h; omega
  · have := e i h1 (by omega)
    unfold spotIs at this; rw [hn] at this; simp [hp, hs] at this
theorem atT_some {t : Tr} {p : Int} {s : Str} (hv : Valid t) (h : atT t p s ≠ 0) : ∀ i n, t i = some n → n.parent = p → n.name = s → (i : Int) = atT t p s := by
  intro i n hn hp hs
  rcases scan_cases (spotIs t p s) 1 100 with ⟨e1, e2, e3, _⟩ | ⟨e, _⟩
  · unfold atT; rw [if_pos e1]
    generalize scan (spotIs t p s) 1 100 = k at *
    unfold spotIs at e3
    cases hk : t k with
    | none => rw [hk] at e3; simp at e3
    | some m =>
      rw [hk] at e3; simp at e3
      have := hv.apart i k n m hn hk (by rw [hp, e3.1]) (by rw [hs, e3.2])
      omega
  · unfold atT at h; rw [if_neg (by omega)] at h; exact absurd rfl h
theorem put_at {t : Tr} {n : Nd} {i : Nat} : trPut t n i = if (i : Int) = n.id then some n else t i := rfl
theorem valid_put {t : Tr} (hv : Valid t) {n : Nd} (hn : NdOk n) (hp : isParentT t n.parent = true) (hlo : hasT t n.id = true → ¬ Goes t n.parent n.id) (hat : ∀ i m, t i = some m → m.parent = n.parent → m.name = n.name → (i : Int) = n.id) : Valid (trPut t n) := by
  have hok := trOk_put hv.ok hn
  have hself : trPut t n n.id.toNat = some n := by rw [put_at, if_pos (by have := hn.1; omega)]
  have hoth : ∀ i : Nat, (i : Int) ≠ n.id → trPut t n i = t i := fun i hi => by rw [put_at, if_neg hi]
  have hhas : ∀ (p : Int) m, t p.toNat = some m → ∃ m', trPut t n p.toNat = some m' := by
    intro p m hm
    by_cases e : (p.toNat : Int) = n.id
    · exact ⟨n, by rw [put_at, if_pos e]⟩
    · exact ⟨m, by rw [hoth _ e]; exact hm⟩
  have hpar : ∀ p, isParentT t p = true → isParentT (trPut t n) p = true := by
    intro p h
    rw [isParent_iff] at h ⊢
    rcases h with h | ⟨h1, m, h2⟩
    · exact .inl h
    · exact .inr ⟨h1, hhas p m h2⟩
  -- the way from the new parent does not meet the node itself
  have havoid : ¬ Goes t n.parent n.id := by
    cases hh : hasT t n.id
    · rintro ⟨f, hf⟩
      have hne : t n.id.toNat = none := by
        cases hq : t n.id.toNat with
        | none => rfl
        | some m => exact absurd (hasT_iff.2 ⟨m, hq⟩) (by rw [hh]; simp)
      -- all met are parents; the node is none
      have key : ∀ f x, isParentT t x = true → meetsF t f x n.id = true → False := by
        intro f
        induction f with
        | zero => intro x _ h; simp [meetsF] at h
        | succ f ih =>
          intro x hx h
          rw [meetsF] at h
          by_cases e : x = n.id
          · rw [isParent_iff] at hx
            rcases hx with hx | ⟨_, m, hm⟩
            · have := hn.1; omega
            · rw [e, hne] at hm; cases hm
          · rw [if_neg e] at h
            cases hx2 : t x.toNat with
            | none => rw [hx2] at h; simp at h
            | some m => rw [hx2] at h; exact ih m.parent (hv.parent _ m hx2) h
      exact key f n.parent hp hf
    · exact hlo hh
  have hgp : Goes (trPut t n) n.parent 0 := by
    have h0 : Goes t n.parent 0 := by
      rw [isParent_iff] at hp
      rcases hp with hp | ⟨_, m, hm⟩
      · rw [hp]; exact goes_here t 0
      · have := hv.goes _ m hm
        have hid := (hv.ok.2 _ m hm)
        rwa [show m.id = n.parent by have := hn.2.2.1; omega] at this
    obtain ⟨f, hf⟩ := h0
    have key : ∀ f x, ¬ Goes t x n.id → meetsF t f x 0 = true → Goes (trPut t n) x 0 := by
      intro f
      induction f with
      | zero => intro x _ h; simp [meetsF] at h
      | succ f ih =>
        intro x hx h
        rw [meetsF] at h
        by_cases e : x = 0
        · rw [e]; exact goes_here _ 0
        · rw [if_neg e] at h
          cases hx2 : t x.toNat with
          | none => rw [hx2] at h; simp at h
          | some m =>
            rw [hx2] at h
            have hxn : (x.toNat : Int) ≠ n.id := by
              intro e2
              have hid := hv.ok.2 _ m hx2
              apply hx
              rw [show x = n.id by omega]; exact goes_here t _
            exact goes_up (by rw [hoth _ hxn]; exact hx2) (ih m.parent (fun hg => hx (goes_up hx2 hg)) h)
    exact key f n.parent havoid hf
  have hgn : Goes (trPut t n) n.id 0 := goes_up hself hgp
  have hall : ∀ f x, meetsF t f x 0 = true → Goes (trPut t n) x 0 := by
    intro f
    induction f with
    | zero => intro x h; simp [meetsF] at h
    | succ f ih =>
      intro x h
      rw [meetsF] at h
      by_cases e : x = 0
      · rw [e]; exact goes_here _ 0
      · rw [if_neg e] at h
        cases hx2 : t x.toNat with
        | none => rw [hx2] at h; simp at h
        | some m =>
          rw [hx2] at h
          by_cases e2 : (x.toNat : Int) = n.id
          · have hid := hv.ok.2 _ m hx2
            rw [show x = n.id by omega]; exact hgn
          · exact goes_up (by rw [hoth _ e2]; exact hx2) (ih m.parent h)
  refine ⟨hok, ?_, ?_, ?_⟩
  · intro i m hm
    by_cases e : (i : Int) = n.id
    · rw [put_at, if_pos e] at hm; cases hm; exact hpar _ hp
    · rw [hoth _ e] at hm; exact hpar _ (hv.parent i m hm)
  · intro i m hm
    by_cases e : (i : Int) = n.id
    · rw [put_at, if_pos e] at hm; cases hm; exact hgn
    · rw [hoth _ e] at hm
      obtain ⟨f, hf⟩ := hv.goes i m hm
      exact hall f _ hf
  · intro i j a b ha hb h1 h2
    by_cases e1 : (i : Int) = n.id
    · by_cases e2 : (j : Int) = n.id
      · omega
      · rw [put_at, if_pos e1] at ha; cases ha
        rw [hoth _ e2] at hb
        have := hat j b hb h1.symm h2.symm; omega
    · rw [hoth _ e1] at ha
      by_cases e2 : (j : Int) = n.id
      · rw [put_at, if_pos e2] at hb; cases hb
        have := hat i a ha h1 h2; omega
      · rw [hoth _ e2] at hb
        exact hv.apart i j a b ha hb h1 h2
theorem valid_remove {t : Tr} (hv : Valid t) {id : Int} (hk : kidsT t id = false) : Valid (trRemove t id) := by
  have hoth : ∀ i : Nat, (i : Int) ≠ id → trRemove t id i = t i := fun i hi => by unfold trRemove; rw [if_neg hi]
  have hgone : ∀ i n, trRemove t id i = some n → t i = some n ∧ (i : Int) ≠ id := by
    intro i n h
    unfold trRemove at h
    split at h
    · cases h
    · exact ⟨h, by assumption⟩
  have hno : ∀ i n, t i = some n → n.parent ≠ id := by
    intro i n hn e
    have hi := hv.ok.2 i n hn
    rcases scan_cases (kidIs t id) 1 100 with ⟨e1, _⟩ | ⟨_, e2⟩
    · unfold kidsT at hk; exact absurd e1 (of_decide_eq_false hk)
    · have := e2 i hi.2.1 (by omega)
      unfold kidIs at this; rw [hn] at this; simp [e] at this
  have hall : ∀ f x, x ≠ id → meetsF t f x 0 = true → Goes (trRemove t id) x 0 := by
    intro f
    induction f with
    | zero => intro x _ h; simp [meetsF] at h
    | succ f ih =>
      intro x hx h
      rw [meetsF] at h
      by_cases e : x = 0
      · rw [e]; exact goes_here _ 0
      · rw [if_neg e] at h
        cases hx2 : t x.toNat with
        | none => rw [hx2] at h; simp at h
        | some m =>
          rw [hx2] at h
          have hid := hv.ok.2 _ m hx2
          exact goes_up (by rw [hoth _ (by omega)]; exact hx2) (ih m.parent (hno _ m hx2) h)
  refine ⟨trOk_remove hv.ok id, ?_, ?_, ?_⟩
  · intro i n hn
    obtain ⟨h1, h2⟩ := hgone i n hn
    have hp := hv.parent i n h1
    rw [isParent_iff] at hp ⊢
    rcases hp with hp | ⟨hp, m, hm⟩
    · exact .inl hp
    · refine .inr ⟨hp, m, ?_⟩
      have := hno i n h1
      have hid := hv.ok.2 _ m hm
      rw [hoth _ (by omega)]; exact hm
  · intro i n hn
    obtain ⟨h1, h2⟩ := hgone i n hn
    obtain ⟨f, hf⟩ := hv.goes i n h1
    have hid := hv.ok.2 i n h1
    exact hall f n.id (by omega) hf
  · intro i j a b ha hb h1 h2
    exact hv.apart i j a b (hgone i a ha).1 (hgone j b hb).1 h1 h2
theorem valid_step {t : Tr} (hv : Valid t) {s : St} (hs : StOk s) : Valid (stepT t s) := by
  unfold stepT
  by_cases hE : stepE t s = 0
  · rw [if_pos hE]
    rcases hs with ⟨hk, hn⟩ | ⟨hk, hn⟩
    · have h45 : ¬ s.kind = 45 := by rcases hk with h | h <;> rw [h] <;> decide
      rw [if_neg h45]
      have hN : NdOk s.node := hn
      rcases hk with h | h
      · have e : createE t s.node = 0 := by unfold stepE at hE; rwa [if_pos h] at hE
        unfold createE at e
        cases h1 : hasT t s.node.id
        · rw [h1] at e
          cases h2 : isParentT t s.node.parent
          · rw [h2] at e; simp at e
          · rw [h2] at e
            cases h3 : (atT t s.node.parent s.node.name != 0)
            · have h3' : atT t s.node.parent s.node.name = 0 := by simpa using h3
              refine valid_put hv hN h2 (fun hh => by rw [h1] at hh; cases hh) (fun i m hm hp hnm => ?_)
              have hi := hv.ok.2 i m hm
              exact (atT_none h3' i m hi.2.1 hi.2.2.1 hm hp hnm).elim
            · rw [h3] at e; simp at e
        · rw [h1] at e; simp at e
      · have e : moveE t s.node = 0 := by unfold stepE at hE; rwa [if_neg (by rw [h]; decide), if_pos h] at hE
        unfold moveE at e
        cases h1 : hasT t s.node.id
        · rw [h1] at e; simp at e
        · rw [h1] at e
          cases h2 : isParentT t s.node.parent
          · rw [h2] at e; simp at e
          · rw [h2] at e
            cases h3 : meetsT t s.node.parent s.node.id
            · rw [h3] at e
              refine valid_put hv hN h2 (fun _ hg => by rw [(goes_meets hv.ok).2 hg] at h3; cases h3) (fun i m hm hp hnm => ?_)
              have hi := hv.ok.2 i m hm
              cases h4 : (atT t s.node.parent s.node.name != 0)
              · exact (atT_none (by simpa using h4) i m hi.2.1 hi.2.2.1 hm hp hnm).elim
              · have h4' : atT t s.node.parent s.node.name ≠ 0 := by simpa using h4
                have := atT_some hv h4' i m hm hp hnm
                cases h5 : (atT t s.node.parent s.node.name != s.node.id)
                · have : atT t s.node.parent s.node.name = s.node.id := by simpa using h5
                  omega
                · rw [h4, h5] at e; simp at e
            · rw [h3] at e; simp at e
    · rw [if_pos hk]
      have e : deleteE t s.node.id = 0 := by unfold stepE at hE; rwa [if_neg (by rw [hk]; decide), if_neg (by rw [hk]; decide), if_pos hk] at hE
      unfold deleteE at e
      cases h1 : hasT t s.node.id
      · rw [h1] at e; simp at e
      · rw [h1] at e
        cases h2 : kidsT t s.node.id
        · exact valid_remove hv h2
        · rw [h2] at e; simp at e
  · rw [if_neg hE]; exact hv
theorem valid_all : ∀ (ss : List St) (t : Tr), Valid t → (∀ s ∈ ss, StOk s) → Valid (doAllT ss t) := by
  intro ss
  induction ss with
  | nil => intro t h _; exact h
  | cons s ss ih =>
    intro t h hs
    unfold doAllT
    split
    · exact ih _ (valid_step h (hs s (by simp))) (fun x hx => hs x (by simp [hx]))
    · exact h
end Go.Proofs.YtkahmbpggdneoaaDoor

namespace Go.Proofs.YtkahmbpggdneoaaDoor
open Go.RowKit
def otherB (x : Nd) (n : Nd) : Bool := n.id != x.id
def layR (ns : List Nd) (x : Nd) (b : Bool) : List Nd := ns.filter (otherB x) ++ (if b then [x] else [])
def LayInv (ns : List Nd) (x : Nd) (k : Nat) (ns' : List Nd) : Prop := ns' = (ns.take k).filter (otherB x)
theorem layInv_yes {ns : List Nd} {x : Nd} {k : Nat} {ns' : List Nd} (h : LayInv ns x k ns') (hk : k < ns.length) (hq : ((ns[k]).id != x.id) = true) : LayInv ns x (k + 1) (ns' ++ [ns[k]]) := by
  unfold LayInv at *
  rw [List.take_succ_eq_append_getElem hk, List.filter_append, ← h]
  congr 1
  rw [List.filter_cons, if_pos (show otherB x ns[k] = true from hq)]; rfl
theorem layInv_no {ns : List Nd} {x : Nd} {k : Nat} {ns' : List Nd} (h : LayInv ns x k ns') (hk : k < ns.length) (hq : ((ns[k]).id != x.id) = false) : LayInv ns x (k + 1) ns' := by
  unfold LayInv at *
  rw [List.take_succ_eq_append_getElem hk, List.filter_append, ← h]
  rw [List.filter_cons, if_neg (show ¬ otherB x ns[k] = true by unfold otherB; rw [hq]; simp)]; simp
theorem layInv_end {ns : List Nd} {x : Nd} {k : Nat} {ns' : List Nd} (h : LayInv ns x k ns') (hk : ¬ k < ns.length) : layR ns x false = ns' ∧ layR ns x true = ns' ++ [x] := by
  unfold LayInv at h
  rw [List.take_of_length_le (by omega)] at h
  unfold layR; rw [← h]; simp
theorem layInv_len {ns : List Nd} {x : Nd} {k : Nat} {ns' : List Nd} (h : LayInv ns x k ns') : ns'.length ≤ k := by
  unfold LayInv at h; rw [h]
  refine Nat.le_trans (List.length_filter_le _ _) ?_
  rw [List.length_take]; omega
/-! A step, done in a list. -/
def kidAt (ns : List Nd) (id : Int) (i : Nat) : Bool := (ndAt ns i).parent == id
def kidsR (ns : List Nd) (id : Int) : Bool := decide (scan (kidAt ns id) 0 ns.length < ns.length)
def delR (ns : List Nd) (id : Int) : Int := if findR ns id < 0 then 9 else if kidsR ns id then 10 else 0
def putR (ns : List Nd) (x : Nd) : Int := if !folderR ns x.parent then 4 else if (x.parent == x.id || belowR ns x.parent x.id) then 5 else if (takenR ns x.parent x.name != 0 && takenR ns x.parent x.name != x.id) then 6 else 0
def doR (ns : List Nd) (s : St) : Int :=
  if s.kind = 45 then delR ns s.node.id
  else if s.kind = 43 ∧ 0 ≤ findR ns s.node.id then 8
  else if s.kind = 61 ∧ findR ns s.node.id < 0 then 9
  else putR ns s.node
end Go.Proofs.YtkahmbpggdneoaaDoor

namespace Go.Proofs.YtkahmbpggdneoaaDoor
open Go.RowKit
theorem findR_bd' (ns : List Nd) (id : Int) : decide (0 ≤ findR ns id) = (lookR ns id).isSome := by
  unfold findR lookR
  split
  · rw [decide_eq_true (by omega)]; rfl
  · rw [decide_eq_false (by omega)]; rfl
/-- A list of nodes that holds a tree. -/
structure Rep (ns : List Nd) (t : Tr) : Prop where
  uniq : Unique ns
  ids : (ns.map (·.id)).Nodup
  ok : ∀ n ∈ ns, NdOk n
  look : ∀ i : Nat, lookR ns (i : Int) = t i
theorem rep_len {ns : List Nd} {t : Tr} (h : Rep ns t) : ns.length ≤ 99 := by
  have := pigeon (ns.map (·.id)) ((List.range' 1 99).map (fun i : Nat => (i : Int))) h.ids (fun x hx => by
    obtain ⟨n, hn, rfl⟩ := List.mem_map.1 hx
    have hb := h.ok n hn
    refine List.mem_map.2 ⟨n.id.toNat, ?_, ?_⟩
    · rw [List.mem_range'_1]; have := hb.1; have := hb.2.1; omega
    · have := hb.1; show ((n.id.toNat : Nat) : Int) = n.id; omega)
  simpa using this
theorem rep_look {ns : List Nd} {t : Tr} (h : Rep ns t) (ht : TrOk t) (x : Int) : lookR ns x = t x.toNat := by
  by_cases hx : 0 ≤ x
  · have := h.look x.toNat
    rwa [Int.toNat_of_nonneg hx] at this
  · rw [show x.toNat = 0 by omega, ht.1]
    cases hl : lookR ns x with
    | none => rfl
    | some n =>
      obtain ⟨h1, h2⟩ := lookR_mem hl
      have := (h.ok n h1).1
      omega
theorem rep_mem {ns : List Nd} {t : Tr} (h : Rep ns t) (ht : TrOk t) {n : Nd} : n ∈ ns ↔ ∃ i, t i = some n := by
  constructor
  · intro hn
    refine ⟨n.id.toNat, ?_⟩
    rw [← rep_look h ht]; exact lookR_of h.uniq hn
  · rintro ⟨i, hi⟩
    rw [← h.look i] at hi
    exact (lookR_mem hi).1
theorem findR_has {ns : List Nd} {t : Tr} (h : Rep ns t) (ht : TrOk t) (id : Int) : decide (0 ≤ findR ns id) = hasT t id := by
  unfold hasT
  rw [← rep_look h ht, (findR_bd' ns id)]
theorem folder_same {ns : List Nd} {t : Tr} (h : Rep ns t) (ht : TrOk t) (p : Int) : folderR ns p = isParentT t p := by
  unfold folderR isParentT hasT
  rw [rep_look h ht]
theorem meets_same {ns : List Nd} {t : Tr} (h : Rep ns t) (ht : TrOk t) (p id : Int) : (p == id || belowR ns p id) = meetsT t p id := by
  have hfun : (fun x : Int => t x.toNat) = lookR ns := funext fun x => (rep_look h ht x).symm
  unfold meetsT belowR
  rw [meets_below, hfun, below_same (ns := ns) (look := lookR ns) (fun x n h => lookR_mem h) (rep_len h) (show ns.length ≤ ns.length + 1 by omega) p]
  congr 1
theorem kids_same {ns : List Nd} {t : Tr} (h : Rep ns t) (ht : TrOk t) (id : Int) : kidsR ns id = kidsT t id := by
  unfold kidsR kidsT
  rcases scan_cases (kidAt ns id) 0 ns.length with ⟨a1, _, a3, _⟩ | ⟨a1, a2⟩
  · rw [decide_eq_true a1]
    generalize scan (kidAt ns id) 0 ns.length = k at *
    obtain ⟨i, hi⟩ := (rep_mem h ht).1 (ndAt_mem a1)
    have hb := ht.2 i _ hi
    rcases scan_cases (kidIs t id) 1 100 with ⟨b1, _⟩ | ⟨_, b2⟩
    · rw [decide_eq_true b1]
    · have := b2 i hb.2.1 (by omega)
      unfold kidIs at this; rw [hi] at this
      unfold kidAt at a3
      have a3' : (ndAt ns k).parent == id := a3
      simp only at this
      rw [this] at a3'; cases a3'
  · rw [decide_eq_false (by omega)]
    rcases scan_cases (kidIs t id) 1 100 with ⟨b1, _, b3, _⟩ | ⟨b1, _⟩
    · generalize scan (kidIs t id) 1 100 = i at *
      unfold kidIs at b3
      cases hi : t i with
      | none => rw [hi] at b3; simp at b3
      | some n =>
        rw [hi] at b3
        have hm : n ∈ ns := (rep_mem h ht).2 ⟨i, hi⟩
        obtain ⟨j, hj, rfl⟩ := mem_ndAt hm
        have := a2 j (by omega) hj
        unfold kidAt at this
        simp only at b3
        rw [this] at b3; cases b3
    · rw [decide_eq_false (by omega)]
theorem taken_same {ns : List Nd} {t : Tr} (h : Rep ns t) (hv : Valid t) (p : Int) (s : Str) : takenR ns p s = atT t p s := by
  have ht := hv.ok
  unfold takenR takenN
  rcases scan_cases (placeIs ns p s) 0 ns.length with ⟨a1, _, a3, _⟩ | ⟨a1, a2⟩
  · rw [if_pos a1]
    generalize scan (placeIs ns p s) 0 ns.length = k at *
    obtain ⟨i, hi⟩ := (rep_mem h ht).1 (ndAt_mem a1)
    have hb := ht.2 i _ hi
    unfold placeIs at a3
    rw [Bool.and_eq_true, beq_iff_eq, beq_iff_eq] at a3
    by_cases h0 : atT t p s = 0
    · exact (atT_none h0 i _ hb.2.1 hb.2.2.1 hi a3.1 a3.2).elim
    · have := atT_some hv h0 i _ hi a3.1 a3.2
      rw [← this]; exact hb.1
  · rw [if_neg (by omega)]
    unfold atT
    rcases scan_cases (spotIs t p s) 1 100 with ⟨b1, _, b3, _⟩ | ⟨b1, _⟩
    · generalize scan (spotIs t p s) 1 100 = i at *
      unfold spotIs at b3
      cases hi : t i with
      | none => rw [hi] at b3; simp at b3
      | some n =>
        rw [hi] at b3
        have hm : n ∈ ns := (rep_mem h ht).2 ⟨i, hi⟩
        obtain ⟨j, hj, rfl⟩ := mem_ndAt hm
        have := a2 j (by omega) hj
        unfold placeIs at this
        simp only at b3
        rw [this] at b3; cases b3
    · rw [if_neg (by omega)]
/-- One who goes up in a tree meets only what is there. -/
theorem goes_there {t : Tr} (hv : Valid t) {goal : Int} (hg : 1 ≤ goal) (hno : hasT t goal = false) : ∀ (f : Nat) (p : Int), isParentT t p = true → meetsF t f p goal = false := by
  intro f
  induction f with
  | zero => intro p _; rfl
  | succ f ih =>
    intro p hp
    have hne : ¬ p = goal := by
      intro e; subst e
      rcases isParent_iff.1 hp with h0 | ⟨_, hn⟩
      · omega
      · rw [hasT_iff.2 hn] at hno; cases hno
    rw [meetsF, if_neg hne]
    cases hl : t p.toNat with
    | none => rfl
    | some n => exact ih n.parent (hv.parent _ n hl)
theorem doR_same {ns : List Nd} {t : Tr} (h : Rep ns t) (hv : Valid t) {s : St} (hs : StOk s) : doR ns s = stepE t s := by
  have ht := hv.ok
  have hF := findR_has h ht s.node.id
  rcases hs with ⟨hk, h1, h2, _⟩ | ⟨hk, h1, h2⟩
  · have h45 : ¬ s.kind = 45 := by rcases hk with e | e <;> (rw [e]; decide)
    have hP : putR ns s.node = if !isParentT t s.node.parent then 4 else if meetsT t s.node.parent s.node.id then 5 else if (atT t s.node.parent s.node.name != 0 && atT t s.node.parent s.node.name != s.node.id) then 6 else 0 := by
      unfold putR; rw [folder_same h ht, meets_same h ht, taken_same h hv]
    unfold doR stepE
    rw [if_neg h45]
    rcases hk with hk | hk
    · rw [if_pos hk]
      unfold createE
      rw [← hF]
      by_cases hf : 0 ≤ findR ns s.node.id
      · rw [if_pos ⟨hk, hf⟩, if_pos (by simpa using hf)]
      · have hno : hasT t s.node.id = false := by rw [← hF]; exact decide_eq_false hf
        rw [if_neg (fun hh => hf hh.2), if_neg (fun hh => by rw [hk] at hh; exact absurd hh.1 (by decide)), if_neg (by simpa using hf), hP]
        cases hp : isParentT t s.node.parent
        · rfl
        · rw [show meetsT t s.node.parent s.node.id = false from goes_there hv h1 hno 100 _ hp]
          have hat : (atT t s.node.parent s.node.name != 0 && atT t s.node.parent s.node.name != s.node.id) = (atT t s.node.parent s.node.name != 0) := by
            cases h6 : (atT t s.node.parent s.node.name != 0)
            · rfl
            · rw [Bool.true_and, bne_iff_ne]
              intro e
              rw [← taken_same h hv] at e h6
              have htk : takenN ns s.node.parent s.node.name < ns.length := by
                unfold takenR at h6
                rcases Nat.lt_or_ge (takenN ns s.node.parent s.node.name) ns.length with hh | hh
                · exact hh
                · rw [if_neg (by omega)] at h6; simp at h6
              unfold takenR at e
              rw [if_pos htk] at e
              obtain ⟨i, hi⟩ := (rep_mem h ht).1 (ndAt_mem htk)
              have hb := ht.2 i _ hi
              have : hasT t s.node.id = true := hasT_iff.2 ⟨_, by rw [← e, hb.1]; exact hi⟩
              rw [hno] at this; cases this
          rw [hat]; rfl
    · have h43 : ¬ s.kind = 43 := by rw [hk]; decide
      rw [if_neg (c := s.kind = 43) h43, if_pos (c := s.kind = 61) hk, if_neg (c := s.kind = 43 ∧ 0 ≤ findR ns s.node.id) (fun hh => h43 hh.1)]
      unfold moveE
      rw [← hF]
      by_cases hf : 0 ≤ findR ns s.node.id
      · rw [decide_eq_true hf, if_neg (c := s.kind = 61 ∧ findR ns s.node.id < 0) (by omega), hP]; rfl
      · rw [decide_eq_false hf, if_pos (c := s.kind = 61 ∧ findR ns s.node.id < 0) ⟨hk, by omega⟩]; rfl
  · have h43 : ¬ s.kind = 43 := by rw [hk]; decide
    have h61 : ¬ s.kind = 61 := by rw [hk]; decide
    unfold doR stepE
    rw [if_pos (c := s.kind = 45) hk, if_neg (c := s.kind = 43) h43, if_neg (c := s.kind = 61) h61, if_pos (c := s.kind = 45) hk]
    unfold delR deleteE
    rw [← hF, kids_same h ht]
    by_cases hf : 0 ≤ findR ns s.node.id
    · rw [decide_eq_true hf, if_neg (c := findR ns s.node.id < 0) (by omega)]; rfl
    · rw [decide_eq_false hf, if_pos (c := findR ns s.node.id < 0) (by omega)]; rfl
theorem nodup_snoc {l : List Int} {a : Int} (h : l.Nodup) (ha : a ∉ l) : (l ++ [a]).Nodup := by
  rw [List.nodup_append]
  exact ⟨h, by simp, fun x hx y hy => by simp at hy; subst hy; exact fun e => ha (e ▸ hx)⟩
theorem ids_unique {ns : List Nd} (h : (ns.map (·.id)).Nodup) : Unique ns := by
  induction ns with
  | nil => intro n m hn; simp at hn
  | cons a ns ih =>
    rw [List.map_cons, List.nodup_cons] at h
    intro n m hn hm e
    rcases List.mem_cons.1 hn with rfl | hn'
    · rcases List.mem_cons.1 hm with rfl | hm'
      · rfl
      · exact absurd (List.mem_map.2 ⟨m, hm', e.symm⟩) h.1
    · rcases List.mem_cons.1 hm with rfl | hm'
      · exact absurd (List.mem_map.2 ⟨n, hn', e⟩) h.1
      · exact ih h.2 n m hn' hm' e
theorem look_eq {ns : List Nd} (hu : Unique ns) {x : Int} {o : Option Nd} (hs : ∀ n, o = some n → n ∈ ns ∧ n.id = x) (hn : o = none → ∀ n ∈ ns, n.id ≠ x) : lookR ns x = o := by
  cases o with
  | some n => obtain ⟨h1, h2⟩ := hs n rfl; rw [← h2]; exact lookR_of hu h1
  | none =>
    cases hl : lookR ns x with
    | none => rfl
    | some m => obtain ⟨h1, h2⟩ := lookR_mem hl; exact absurd h2 (hn rfl m h1)
theorem filter_ids {ns : List Nd} (h : (ns.map (·.id)).Nodup) (x : Nd) : ((ns.filter (otherB x)).map (·.id)).Nodup :=
  List.Nodup.sublist (List.Sublist.map _ List.filter_sublist) h
theorem mem_filter' {ns : List Nd} {x n : Nd} : n ∈ ns.filter (otherB x) ↔ n ∈ ns ∧ n.id ≠ x.id := by
  rw [List.mem_filter]; unfold otherB; rw [bne_iff_ne]
theorem rep_remove {ns : List Nd} {t : Tr} (h : Rep ns t) (ht : TrOk t) (x : Nd) : Rep (layR ns x false) (trRemove t x.id) := by
  have e : layR ns x false = ns.filter (otherB x) := by unfold layR; simp
  rw [e]
  have hu := ids_unique (filter_ids h.ids x)
  refine ⟨hu, filter_ids h.ids x, fun n hn => h.ok n (mem_filter'.1 hn).1, fun i => ?_⟩
  unfold trRemove
  by_cases hi : (i : Int) = x.id
  · rw [if_pos hi]
    exact look_eq hu (fun n hn => by cases hn) (fun _ n hn => by rw [hi]; exact (mem_filter'.1 hn).2)
  · rw [if_neg hi]
    refine look_eq hu (fun n hn => ?_) (fun hn n hm => ?_)
    · have hb := ht.2 i n hn
      exact ⟨mem_filter'.2 ⟨(rep_mem h ht).2 ⟨i, hn⟩, by rw [hb.1]; exact hi⟩, hb.1⟩
    · rw [← h.look i] at hn
      exact lookR_no hn n (mem_filter'.1 hm).1
theorem rep_put {ns : List Nd} {t : Tr} (h : Rep ns t) (ht : TrOk t) {x : Nd} (hx : NdOk x) : Rep (layR ns x true) (trPut t x) := by
  have e : layR ns x true = ns.filter (otherB x) ++ [x] := by unfold layR; simp
  rw [e]
  have hids : ((ns.filter (otherB x) ++ [x]).map (·.id)).Nodup := by
    rw [List.map_append]
    refine nodup_snoc (filter_ids h.ids x) (fun hm => ?_)
    obtain ⟨n, hn, e⟩ := List.mem_map.1 hm
    exact (mem_filter'.1 hn).2 e
  have hu := ids_unique hids
  have hmem : ∀ n, n ∈ ns.filter (otherB x) ++ [x] ↔ (n ∈ ns ∧ n.id ≠ x.id) ∨ n = x := by
    intro n; rw [List.mem_append, mem_filter', List.mem_singleton]
  refine ⟨hu, hids, fun n hn => ?_, fun i => ?_⟩
  · rcases (hmem n).1 hn with ⟨h1, _⟩ | rfl
    · exact h.ok n h1
    · exact hx
  · unfold trPut
    by_cases hi : (i : Int) = x.id
    · rw [if_pos hi]
      exact look_eq hu (fun n hn => by cases hn; exact ⟨(hmem x).2 (.inr rfl), hi.symm⟩) (fun hn => by cases hn)
    · rw [if_neg hi]
      refine look_eq hu (fun n hn => ?_) (fun hn n hm => ?_)
      · have hb := ht.2 i n hn
        exact ⟨(hmem n).2 (.inl ⟨(rep_mem h ht).2 ⟨i, hn⟩, by rw [hb.1]; exact hi⟩), hb.1⟩
      · rw [← h.look i] at hn
        rcases (hmem n).1 hm with ⟨h1, _⟩ | rfl
        · exact lookR_no hn n h1
        · exact fun e => hi e.symm
theorem rep_read {l : Str} (h : (checkT l).1 = 0) : Rep (readNodes (cut l)) (gather (readNodes (cut l))) := by
  obtain ⟨_, _, _, ho, _⟩ := check_parts h
  have hk := readNodes_bd (cut l)
  generalize readNodes (cut l) = ns at *
  refine ⟨ordered_unique ho, ?_, hk, fun i => ?_⟩
  · have hr := ordered_rises ho
    rw [List.nodup_iff_pairwise_ne, List.pairwise_map]
    exact hr.imp (fun hab => by omega)
  · have := gather_look (ordered_unique ho) (fun n hn => (hk n hn).1) (i : Int)
    rw [Int.toNat_natCast] at this; exact this.symm
end Go.Proofs.YtkahmbpggdneoaaDoor
