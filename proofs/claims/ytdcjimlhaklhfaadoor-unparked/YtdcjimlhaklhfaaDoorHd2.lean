import Derived.Test.YtdcjimlhaklhfaaDoorHd1
import Derived.Test.YtdcjimlhaklhfaaDoorRows
import Derived.WalkKit
import Derived.WalkSpells
import Derived.WalkLawsBesides
import Derived.Deep.AppendLies
import Derived.Deep.QuietTactic
import Derived.BigQuiet
import Derived.WalkSmall
namespace Go.Proofs.YtdcjimlhaklhfaaDoor
open Go.RowKit
/-! Cutting texts that are put together of records. -/
theorem cutFold (L : List Str) : ∀ (l c : Str), l.foldl cutStep (L, c) = (L ++ (l.foldl cutStep ([], c)).1, (l.foldl cutStep ([], c)).2) := by
  intro l
  induction l generalizing L with
  | nil => intro c; simp
  | cons x l ih =>
    intro c
    simp only [List.foldl_cons, cutStep]
    by_cases h : x = 59
    · rw [if_pos h, if_pos h, ih (L ++ [c ++ [x]]), ih ([] ++ [c ++ [x]])]; simp
    · rw [if_neg h, if_neg h, ih L]
theorem cutRec : ∀ (a c : Str), (∀ x ∈ a, x ≠ 59) → (a ++ [59]).foldl cutStep ([], c) = ([c ++ a ++ [59]], []) := by
  intro a
  induction a with
  | nil => intro c _; simp [cutStep]
  | cons x a ih =>
    intro c h
    rw [List.cons_append, List.foldl_cons, cutStep, if_neg (h x (by simp)), ih _ (fun y hy => h y (by simp [hy]))]
    simp
theorem cut_cons {a : Str} (h : ∀ x ∈ a, x ≠ 59) (rest : Str) : cut (a ++ [59] ++ rest) = (a ++ [59]) :: cut rest := by
  have e : cutTo (a ++ [59] ++ rest) = ((a ++ [59]) :: (cutTo rest).1, (cutTo rest).2) := by
    unfold cutTo
    rw [List.foldl_append, cutRec a [] h, cutFold]; simp
  unfold cut
  rw [e]
  split
  · rfl
  · simp
theorem cut_nil : cut [] = [] := rfl
theorem cut_flat (l : Str) : (cut l).flatten = l := by
  have key : (cutTo l).1.flatten ++ (cutTo l).2 = l := by
    refine snoc_ind (P := fun l => (cutTo l).1.flatten ++ (cutTo l).2 = l) rfl ?_ l
    intro l c h
    rw [cutTo_snoc]; unfold cutStep
    split
    · simp; rw [← List.append_assoc, h]
    · simp; rw [← List.append_assoc, h]
  unfold cut
  split
  · rename_i h; rw [h] at key; simpa using key
  · rw [List.flatten_append]; simpa using key
/-- A text whose records all end with their semicolon: what is cut of it and of what follows. -/
theorem cut_app {s : Str} (h : ∀ r ∈ cut s, bodyB r = true) (t : Str) : cut (s ++ t) = cut s ++ cut t := by
  have hc : (cutTo s).2 = [] := by
    cases he : (cutTo s).2 with
    | nil => rfl
    | cons x r =>
      exfalso
      have hm : (cutTo s).2 ∈ cut s := by unfold cut; rw [if_neg (by rw [he]; simp)]; simp
      have hb := h _ hm
      -- the rest behind the last semicolon holds none
      have hno : ∀ l : Str, ∀ y ∈ (cutTo l).2, y ≠ 59 := by
        intro l
        refine snoc_ind (P := fun l => ∀ y ∈ (cutTo l).2, y ≠ 59) (by simp [cutTo]) ?_ l
        intro l c ih
        rw [cutTo_snoc]; unfold cutStep
        split
        · simp
        · rename_i hne
          intro y hy
          rcases List.mem_append.1 hy with hy | hy
          · exact ih y hy
          · simp at hy; rw [hy]; exact hne
      unfold bodyB at hb
      have hl : (cutTo s).2.getLast? = some 59 := by simpa using hb
      exact hno s 59 (List.mem_of_getLast? hl) rfl
  have e : cutTo (s ++ t) = ((cutTo s).1 ++ (cutTo t).1, (cutTo t).2) := by
    have : cutTo s = ((cutTo s).1, []) := by rw [← hc]
    unfold cutTo at this ⊢
    rw [List.foldl_append, this, cutFold]
  unfold cut
  rw [e, hc]
  split
  · rw [if_pos rfl]
  · rw [if_pos rfl]; simp
/-! Parts. -/
theorem partFold (L : List Str) : ∀ (l c : Str), l.foldl partStep (L, c) = (L ++ (l.foldl partStep ([], c)).1, (l.foldl partStep ([], c)).2) := by
  intro l
  induction l generalizing L with
  | nil => intro c; simp
  | cons x l ih =>
    intro c
    simp only [List.foldl_cons, partStep]
    by_cases h : x = 32
    · rw [if_pos h, if_pos h, ih (L ++ [c]), ih ([] ++ [c])]; simp
    · rw [if_neg h, if_neg h, ih L]
theorem partNo : ∀ (a c : Str), (∀ x ∈ a, x ≠ 32) → a.foldl partStep ([], c) = ([], c ++ a) := by
  intro a
  induction a with
  | nil => intro c _; simp
  | cons x a ih =>
    intro c h
    rw [List.foldl_cons, partStep, if_neg (h x (by simp)), ih _ (fun y hy => h y (by simp [hy]))]
    simp
theorem parts_cons {a : Str} (h : ∀ x ∈ a, x ≠ 32) (rest : Str) : parts (a ++ [32] ++ rest) = a :: parts rest := by
  have e : partTo (a ++ [32] ++ rest) = (a :: (partTo rest).1, (partTo rest).2) := by
    unfold partTo
    rw [List.foldl_append, List.foldl_append, partNo a [] h]
    simp only [List.foldl_cons, List.foldl_nil, partStep, if_pos, List.nil_append]
    rw [partFold]; simp
  unfold parts; rw [e]; rfl
theorem parts_one {a : Str} (h : ∀ x ∈ a, x ≠ 32) : parts a = [a] := by
  unfold parts partTo; rw [partNo a [] h]; rfl
/-- The parts, with blanks between, are the text. -/
def joined : List Str → Str
  | [] => []
  | [a] => a
  | a :: b :: l => a ++ [32] ++ joined (b :: l)
theorem joined_snoc : ∀ (L : List Str) (a b : Str), joined (L ++ [a] ++ [b]) = joined (L ++ [a]) ++ [32] ++ b := by
  intro L
  induction L with
  | nil => intro a b; simp [joined]
  | cons x L ih =>
    intro a b
    cases L with
    | nil => simp [joined]
    | cons y L =>
      have := ih a b
      simp only [List.cons_append, joined] at this ⊢
      rw [this]; simp
theorem joined_last : ∀ (L : List Str) (a : Str) (c : UInt8), joined (L ++ [a ++ [c]]) = joined (L ++ [a]) ++ [c] := by
  intro L
  induction L with
  | nil => intro a c; simp [joined]
  | cons x L ih =>
    intro a c
    cases L with
    | nil => simp [joined]
    | cons y L =>
      have := ih a c
      simp only [List.cons_append, joined] at this ⊢
      rw [this]; simp
theorem joined_parts (l : Str) : joined (parts l) = l := by
  unfold parts
  refine snoc_ind (P := fun l => joined ((partTo l).1 ++ [(partTo l).2]) = l) rfl ?_ l
  intro l c h
  rw [partTo_snoc]; unfold partStep
  split
  · rename_i hc
    rw [joined_snoc, h, hc]; simp
  · rw [joined_last, h]
/-! Numbers and names. -/
theorem digs_no : ∀ n : Nat, n < 100 → ∀ x ∈ digs (n : Int), x ≠ 59 ∧ x ≠ 32 := by decide +kernel
theorem digs_num1 : ∀ n : Nat, n < 100 → 1 ≤ n → number (digs (n : Int)) 1 99 = ((n : Int), true) := by decide +kernel
theorem digs_num0 : ∀ n : Nat, n < 100 → number (digs (n : Int)) 0 99 = ((n : Int), true) := by decide +kernel
theorem number_digs {a : Str} {lo : Int} (h : (number a lo 99).2 = true) : digs (number a lo 99).1 = a := by
  have hb : numBad a = false := by
    cases hb : numBad a
    · rfl
    · rw [number_bad hb] at h; cases h
  have ha : a.all digB = true := by
    cases ha : a.all digB
    · rw [number_none (numGo_bad 99 a 0 ha)] at h; cases h
    · rfl
  have hr : numR a lo 99 = (number a lo 99).1 := by unfold numR; rw [h]; rfl
  rw [numR_digits ha hb (by omega)] at hr
  have bd := number_bd a lo 99 (by omega)
  split at hr
  · rename_i hh
    rw [← hr, digs_dec (val a) (by omega), val_dec a ha hb]
  · omega
theorem takeWhile_all {p : UInt8 → Bool} : ∀ (l : Str), ∀ x ∈ l.takeWhile p, p x = true := by
  intro l
  induction l with
  | nil => intro x hx; simp at hx
  | cons a l ih =>
    intro x hx
    rw [List.takeWhile_cons] at hx
    split at hx
    · rcases List.mem_cons.1 hx with rfl | hx
      · assumption
      · exact ih x hx
    · simp at hx
theorem take_plain (l : Str) : l.take (plainLen l) = l.takeWhile plainB := by
  induction l with
  | nil => rfl
  | cons a l ih =>
    unfold plainLen at ih ⊢
    rw [List.takeWhile_cons]
    split
    · simp [ih]
    · rfl
theorem plain_no {x : UInt8} (h : plainB x = true) : x ≠ 59 ∧ x ≠ 32 := by
  constructor <;> (intro e; subst e; revert h; decide)
theorem name_no {l : Str} {id : Int} (h : isName l id = true) (h0 : 0 ≤ id) (h1 : id ≤ 99) : ∀ x ∈ l, x ≠ 59 ∧ x ≠ 32 := by
  intro x hx
  rw [← List.take_append_drop (plainLen l) l] at hx
  rcases List.mem_append.1 hx with hx | hx
  · rw [take_plain] at hx; exact plain_no (takeWhile_all l x hx)
  · unfold isName at h
    simp only [Bool.and_eq_true, decide_eq_true_eq, Bool.or_eq_true, beq_iff_eq] at h
    rcases h.2 with h2 | h2
    · rw [h2, List.drop_length] at hx; simp at hx
    · rw [h2] at hx
      rcases List.mem_cons.1 hx with rfl | hx
      · exact ⟨by decide, by decide⟩
      · obtain ⟨m, rfl⟩ := Int.eq_ofNat_of_zero_le h0
        exact digs_no m (by omega) x hx
def NdOk (n : Nd) : Prop := 1 ≤ n.id ∧ n.id ≤ 99 ∧ 0 ≤ n.parent ∧ n.parent ≤ 99 ∧ isName n.name n.id = true
def ndBody (n : Nd) : Str := digs n.id ++ [32] ++ (digs n.parent ++ [32] ++ n.name)
theorem nodeText_body (n : Nd) : nodeText n = ndBody n ++ [59] := by simp [nodeText, ndBody]
theorem digs_noI {n : Int} (h0 : 0 ≤ n) (h1 : n ≤ 99) : ∀ x ∈ digs n, x ≠ 59 ∧ x ≠ 32 := by
  obtain ⟨m, rfl⟩ := Int.eq_ofNat_of_zero_le h0
  exact digs_no m (by omega)
theorem body_no {n : Nd} (h : NdOk n) : ∀ x ∈ ndBody n, x ≠ 59 := by
  intro x hx
  have h1 := digs_noI (n := n.id) (by have := h.1; omega) h.2.1
  have h2 := digs_noI h.2.2.1 h.2.2.2.1
  have h3 := name_no h.2.2.2.2 (by have := h.1; omega) h.2.1
  simp only [ndBody, List.mem_append, List.mem_singleton] at hx
  rcases hx with (hx | rfl) | (hx | rfl) | hx
  · exact (h1 x hx).1
  · decide
  · exact (h2 x hx).1
  · decide
  · exact (h3 x hx).1
theorem readNode_body {n : Nd} (h : NdOk n) : readNode (ndBody n) = some n := by
  have h1 := digs_noI (n := n.id) (by have := h.1; omega) h.2.1
  have h2 := digs_noI h.2.2.1 h.2.2.2.1
  have h3 := name_no h.2.2.2.2 (by have := h.1; omega) h.2.1
  have hp : parts (ndBody n) = [digs n.id, digs n.parent, n.name] := by
    unfold ndBody
    rw [parts_cons (fun x hx => (h1 x hx).2), parts_cons (fun x hx => (h2 x hx).2), parts_one (fun x hx => (h3 x hx).2)]
  obtain ⟨id, parent, name⟩ := n
  simp only [NdOk] at h hp ⊢
  obtain ⟨i, rfl⟩ := Int.eq_ofNat_of_zero_le (show 0 ≤ id by omega)
  obtain ⟨p, rfl⟩ := Int.eq_ofNat_of_zero_le h.2.2.1
  unfold readNode
  rw [hp]
  simp only
  rw [digs_num1 i (by omega) (by omega), digs_num0 p (by omega)]
  simp [h.2.2.2.2]
theorem recNode_text {n : Nd} (h : NdOk n) : recNode (nodeText n) = some n := by
  rw [nodeText_body]
  unfold recNode bodyS bodyB
  simp [readNode_body h]
theorem recNode_canon {r : Str} {n : Nd} (h : recNode r = some n) : r = nodeText n := by
  unfold recNode at h
  split at h
  · rename_i hb
    have hr : r = bodyS r ++ [59] := by
      unfold bodyS; rw [if_pos hb]
      unfold bodyB at hb
      have hl : r.getLast? = some 59 := by simpa using hb
      obtain ⟨ys, hy⟩ := List.getLast?_eq_some_iff.1 hl
      rw [hy]; simp
    rw [nodeText_body]
    conv => lhs; rw [hr]
    congr 1
    generalize bodyS r = b at h
    unfold readNode at h
    split at h
    · rename_i x y z hp
      split at h
      · rename_i hh
        simp only [Bool.and_eq_true] at hh
        cases h
        have hj := joined_parts b
        rw [hp] at hj
        simp only [joined] at hj
        unfold ndBody
        simp only
        rw [number_digs hh.1.1, number_digs hh.1.2]
        exact hj.symm
      · cases h
    · cases h
  · cases h
end Go.Proofs.YtdcjimlhaklhfaaDoor

namespace Go.Proofs.YtdcjimlhaklhfaaDoor
open Go.RowKit
/-! A tree's nodes in the order of their numbers. -/
def nodesOf (t : Tr) : List Nd := (List.range' 1 99).filterMap t
theorem flat_filter {t : Tr} : ∀ (l : List Nat), l.flatMap (textAt t) = (l.filterMap t).flatMap nodeText := by
  intro l
  induction l with
  | nil => rfl
  | cons i l ih =>
    rw [List.flatMap_cons, ih]
    unfold textAt
    cases h : t i with
    | none => simp [h]
    | some n => simp [h]
theorem textT_nodes (t : Tr) : textT t = (nodesOf t).flatMap nodeText := flat_filter _
theorem nodesOf_mem {t : Tr} (ht : TrOk t) {n : Nd} : n ∈ nodesOf t ↔ t n.id.toNat = some n ∧ 1 ≤ n.id := by
  unfold nodesOf
  rw [List.mem_filterMap]
  constructor
  · rintro ⟨i, hi, h⟩
    have := ht.2 i n h
    rw [show n.id.toNat = i by omega]; exact ⟨h, by omega⟩
  · rintro ⟨h, h1⟩
    have := ht.2 _ n h
    exact ⟨n.id.toNat, by rw [List.mem_range'_1]; omega, h⟩
theorem nodesOf_ok {t : Tr} (ht : TrOk t) : ∀ n ∈ nodesOf t, NdOk n := by
  intro n hn
  obtain ⟨h, h1⟩ := (nodesOf_mem ht).1 hn
  have := ht.2 _ n h
  exact ⟨h1, by omega, this.2.2.2.1, this.2.2.2.2.1, this.2.2.2.2.2⟩
theorem nodesOf_len (t : Tr) : (nodesOf t).length ≤ 99 := by
  have := List.length_filterMap_le t (List.range' 1 99)
  simpa [nodesOf] using this
/-- strictly rising -/
def Rises (l : List Nd) : Prop := l.Pairwise (fun a b => a.id < b.id)
theorem rises_filter {t : Tr} (ht : TrOk t) : ∀ (k lo : Nat), Rises ((List.range' lo k).filterMap t) ∧ ∀ n ∈ (List.range' lo k).filterMap t, (lo : Int) ≤ n.id := by
  intro k
  induction k with
  | zero => intro lo; exact ⟨List.Pairwise.nil, by simp⟩
  | succ k ih =>
    intro lo
    obtain ⟨h1, h2⟩ := ih (lo + 1)
    rw [List.range'_succ]
    cases h : t lo with
    | none =>
      rw [List.filterMap_cons_none h]
      exact ⟨h1, fun n hn => by have := h2 n hn; omega⟩
    | some n =>
      rw [List.filterMap_cons_some h]
      have hid := (ht.2 lo n h).1
      refine ⟨List.Pairwise.cons (fun m hm => by have := h2 m hm; omega) h1, fun m hm => ?_⟩
      rcases List.mem_cons.1 hm with rfl | hm
      · omega
      · have := h2 m hm; omega
theorem rises_ordered {l : List Nd} (h : Rises l) : Ordered l := by
  intro i j hij hj
  rw [ndAt_get _ _ hj, ndAt_get _ _ (by omega)]
  exact List.pairwise_iff_getElem.1 h i j (by omega) hj hij
theorem ordered_rises {l : List Nd} (h : Ordered l) : Rises l := by
  refine List.pairwise_iff_getElem.2 (fun i j hi hj hij => ?_)
  have := h i j hij hj
  rwa [ndAt_get _ _ hj, ndAt_get _ _ hi] at this
theorem nodesOf_ordered {t : Tr} (ht : TrOk t) : Ordered (nodesOf t) := rises_ordered (rises_filter ht 99 1).1
/-- Two rising lists with the same members are one. -/
theorem rises_eq : ∀ (a b : List Nd), Rises a → Rises b → (∀ n, n ∈ a ↔ n ∈ b) → a = b := by
  intro a
  induction a with
  | nil =>
    intro b _ _ h
    cases b with
    | nil => rfl
    | cons m b => have := (h m).2 (by simp); simp at this
  | cons n a ih =>
    intro b ha hb h
    cases b with
    | nil => have := (h n).1 (by simp); simp at this
    | cons m b =>
      have ha' := List.pairwise_cons.1 ha
      have hb' := List.pairwise_cons.1 hb
      have hnm : n = m := by
        rcases List.mem_cons.1 ((h n).1 (by simp)) with e | e
        · exact e
        · rcases List.mem_cons.1 ((h m).2 (by simp)) with e2 | e2
          · exact e2.symm
          · have := ha'.1 m e2; have := hb'.1 n e; omega
      subst hnm
      congr 1
      refine ih b ha'.2 hb'.2 (fun x => ?_)
      constructor
      · intro hx
        rcases List.mem_cons.1 ((h x).1 (by simp [hx])) with rfl | e
        · have := ha'.1 x hx; omega
        · exact e
      · intro hx
        rcases List.mem_cons.1 ((h x).2 (by simp [hx])) with rfl | e
        · have := hb'.1 x hx; omega
        · exact e
theorem gather_mem {ns : List Nd} (hu : Unique ns) (hb : ∀ n ∈ ns, 1 ≤ n.id) {n : Nd} : gather ns n.id.toNat = some n ∧ 1 ≤ n.id ↔ n ∈ ns := by
  rw [gather_look hu hb]
  constructor
  · rintro ⟨h, _⟩; exact (lookR_mem h).1
  · intro h; exact ⟨lookR_of hu h, hb n h⟩
theorem gather_trOk {ns : List Nd} (h : ∀ n ∈ ns, NdOk n) : TrOk (gather ns) := gather_ok_aux ns tr0 trOk_0 h
theorem nodesOf_gather {ns : List Nd} (ho : Ordered ns) (h : ∀ n ∈ ns, NdOk n) : nodesOf (gather ns) = ns := by
  refine rises_eq _ _ (rises_filter (gather_trOk h) 99 1).1 (ordered_rises ho) (fun n => ?_)
  rw [nodesOf_mem (gather_trOk h), gather_mem (ordered_unique ho) (fun n hn => (h n hn).1)]
theorem gather_nodesOf {t : Tr} (ht : TrOk t) : gather (nodesOf t) = t := by
  funext i
  have ho := nodesOf_ordered ht
  have hk := nodesOf_ok ht
  have := gather_look (ordered_unique ho) (fun n hn => (hk n hn).1) (i : Int)
  rw [Int.toNat_natCast] at this
  rw [this]
  cases h : t i with
  | some n =>
    have hn := ht.2 i n h
    have hm : n ∈ nodesOf t := (nodesOf_mem ht).2 ⟨by rw [show n.id.toNat = i by omega]; exact h, by omega⟩
    have := lookR_of (ordered_unique ho) hm
    rw [hn.1] at this; exact this
  | none =>
    cases hl : lookR (nodesOf t) (i : Int) with
    | none => rfl
    | some m =>
      obtain ⟨h1, h2⟩ := lookR_mem hl
      obtain ⟨h3, h4⟩ := (nodesOf_mem ht).1 h1
      rw [show m.id.toNat = i by omega, h] at h3; cases h3
/-! What is read of a text that was written. -/
theorem cut_nodes : ∀ (ns : List Nd), (∀ n ∈ ns, NdOk n) → cut (ns.flatMap nodeText) = ns.map nodeText := by
  intro ns
  induction ns with
  | nil => intro _; rfl
  | cons n ns ih =>
    intro h
    rw [List.flatMap_cons, nodeText_body, cut_cons (body_no (h n (by simp))), ih (fun m hm => h m (by simp [hm]))]
    rw [List.map_cons, nodeText_body]
theorem readNodes_map : ∀ (ns : List Nd), (∀ n ∈ ns, NdOk n) → readNodes (ns.map nodeText) = ns := by
  intro ns
  induction ns with
  | nil => intro _; rfl
  | cons n ns ih =>
    intro h
    rw [List.map_cons, readNodes, recNode_text (h n (by simp)), ih (fun m hm => h m (by simp [hm]))]
theorem readNodes_text {t : Tr} (ht : TrOk t) : readNodes (cut (textT t)) = nodesOf t ∧ (cut (textT t)).length = (nodesOf t).length := by
  rw [textT_nodes, cut_nodes _ (nodesOf_ok ht), readNodes_map _ (nodesOf_ok ht)]; simp
theorem readNodes_all : ∀ (rs : List Str), ¬ (readNodes rs).length < rs.length → rs = (readNodes rs).map nodeText := by
  intro rs
  induction rs with
  | nil => intro _; rfl
  | cons r rs ih =>
    intro h
    unfold readNodes at h ⊢
    cases hr : recNode r with
    | none => rw [hr] at h; simp at h
    | some n =>
      rw [hr] at h
      simp only [List.length_cons] at h
      simp only [List.map_cons]
      rw [← ih (by omega), ← recNode_canon hr]
/-- What Check lets pass is written again as it was. -/
theorem check_parts {l : Str} (h : (checkT l).1 = 0) : checkT l = (0, 0) ∧ l.length ≤ 4000 ∧ ¬ (readNodes (cut l)).length < (cut l).length ∧ Ordered (readNodes (cut l)) ∧ misplaced (gather (readNodes (cut l))) (readNodes (cut l)) = (0, 0) := by
  unfold checkT at h ⊢
  split at h
  · simp at h
  · rename_i h1
    simp only [] at h ⊢
    split at h
    · simp at h
    · rename_i h2
      split at h
      · simp at h
      · rename_i h3
        have hm : misplaced (gather (readNodes (cut l))) (readNodes (cut l)) = (0, 0) := by
          unfold misplaced at h ⊢
          split <;> (try split) <;> (try split) <;> simp_all
        rw [if_neg h1, if_neg h2, if_neg h3, hm]
        exact ⟨rfl, by omega, h2, ordered_of h3, rfl⟩
theorem text_check {l : Str} (h : (checkT l).1 = 0) : textT (gather (readNodes (cut l))) = l := by
  obtain ⟨_, _, h2, h3, _⟩ := check_parts h
  have hk := readNodes_bd (cut l)
  rw [textT_nodes, nodesOf_gather h3 hk]
  have := readNodes_all (cut l) h2
  have hf := cut_flat l
  rw [this] at hf
  rw [List.flatMap_def]
  conv => rhs; rw [← hf]
end Go.Proofs.YtdcjimlhaklhfaaDoor

namespace Go.Proofs.YtdcjimlhaklhfaaDoor
open Go.RowKit
/-! A way up of whatever length. -/
def Goes (t : Tr) (x goal : Int) : Prop := ∃ f, meetsF t f x goal = true
theorem meets_up (t : Tr) (goal : Int) {f : Nat} {x : Int} (h : meetsF t f x goal = true) : meetsF t (f + 1) x goal = true := by
  induction f generalizing x with
  | zero => simp [meetsF] at h
  | succ f ih =>
    rw [meetsF] at h ⊢
    by_cases e : x = goal
    · rw [if_pos e]
    · rw [if_neg e] at h ⊢
      cases ht : t x.toNat with
      | none => rw [ht] at h; simp at h
      | some n => rw [ht] at h; simp only at h ⊢; exact ih h
theorem goes_meets {t : Tr} (ht : TrOk t) {x goal : Int} : meetsT t x goal = true ↔ Goes t x goal := by
  constructor
  · intro h; exact ⟨100, h⟩
  · rintro ⟨f, h⟩
    have h1 := meets_up t goal h
    rw [meets_below] at h1
    unfold meetsT
    rw [show (100 : Nat) = 99 + 1 from rfl, meets_below]
    rw [Bool.or_eq_true] at h1 ⊢
    rcases h1 with h1 | h1
    · exact .inl h1
    · right
      have hs := below_stop (ns := nodesOf t) (look := fun x : Int => t x.toNat) (fun y n hn => by
        have := ht.2 _ n hn
        refine ⟨(nodesOf_mem ht).2 ⟨by rw [show n.id.toNat = y.toNat by omega]; exact hn, by omega⟩, by omega⟩) f x h1
      exact below_le (nodesOf_len t) x hs
theorem goes_here (t : Tr) (x : Int) : Goes t x x := ⟨1, by simp [meetsF]⟩
theorem goes_up {t : Tr} {x goal : Int} {n : Nd} (h : t x.toNat = some n) (hg : Goes t n.parent goal) : Goes t x goal := by
  obtain ⟨f, hf⟩ := hg
  refine ⟨f + 1, ?_⟩
  rw [meetsF, h]
  split
  · rfl
  · exact hf
/-- A tree as Check wants it. -/
structure Valid (t : Tr) : Prop where
  ok : TrOk t
  parent : ∀ i n, t i = some n → isParentT t n.parent = true
  goes : ∀ i n, t i = some n → Goes t n.id 0
  apart : ∀ i j n m, t i = some n → t j = some m → n.parent = m.parent → n.name = m.name → i = j
theorem valid_of_check {l : Str} (h : (checkT l).1 = 0) : Valid (gather (readNodes (cut l))) := by
  obtain ⟨_, _, _, ho, hm⟩ := check_parts h
  have hk := readNodes_bd (cut l)
  generalize readNodes (cut l) = ns at *
  have hok := gather_trOk hk
  have hmem : ∀ i n, gather ns i = some n → n ∈ ns := by
    intro i n hn
    have := hok.2 i n hn
    exact (gather_mem (ordered_unique ho) (fun n hn => (hk n hn).1)).1 ⟨by rw [show n.id.toNat = i by omega]; exact hn, by omega⟩
  unfold misplaced at hm
  split at hm
  · simp at hm
  · rename_i h1
    split at hm
    · simp at hm
    · rename_i h2
      split at hm
      · simp at hm
      · rename_i h3
        have n1 : ∀ j, j < ns.length → orphan (gather ns) ns j = false := by
          rcases scan_cases (orphan (gather ns) ns) 0 ns.length with ⟨e, _⟩ | ⟨_, e⟩
          · exact absurd e h1
          · exact fun j hj => e j (by omega) hj
        have n2 : ∀ j, j < ns.length → looped (gather ns) ns j = false := by
          rcases scan_cases (looped (gather ns) ns) 0 ns.length with ⟨e, _⟩ | ⟨_, e⟩
          · exact absurd e h2
          · exact fun j hj => e j (by omega) hj
        have n3 : ∀ j, j < ns.length → twice ns j = false := by
          rcases scan_cases (twice ns) 0 ns.length with ⟨e, _⟩ | ⟨_, e⟩
          · exact absurd e h3
          · exact fun j hj => e j (by omega) hj
        refine ⟨hok, ?_, ?_, ?_⟩
        · intro i n hn
          obtain ⟨j, hj, rfl⟩ := mem_ndAt (hmem i n hn)
          have := n1 j hj; unfold orphan at this; simpa using this
        · intro i n hn
          obtain ⟨j, hj, rfl⟩ := mem_ndAt (hmem i n hn)
          have := n2 j hj; unfold looped at this
          exact (goes_meets hok).1 (by simpa using this)
        · intro i j n m hn hm' hp hnm
          obtain ⟨a, ha, rfl⟩ := mem_ndAt (hmem i n hn)
          obtain ⟨b, hb, rfl⟩ := mem_ndAt (hmem j m hm')
          have hid1 := (hok.2 i _ hn).1
          have hid2 := (hok.2 j _ hm').1
          have hno : ∀ x y, x < y → y < ns.length → (ndAt ns x).parent = (ndAt ns y).parent → (ndAt ns x).name = (ndAt ns y).name → False := by
            intro x y hxy hy h4 h5
            have := n3 y hy
            unfold twice at this
            have := of_decide_eq_false this
            exact this ⟨x, hxy, by unfold samePlace; rw [h4, h5]; simp⟩
          rcases Nat.lt_trichotomy a b with h6 | rfl | h6
          · exact (hno a b h6 hb hp hnm).elim
          · omega
          · exact (hno b a h6 ha hp.symm hnm.symm).elim
/-- A tree that is right, written and read, passes. -/
theorem check_text {t : Tr} (hv : Valid t) : checkT (textT t) = (0, 0) ∧ gather (readNodes (cut (textT t))) = t := by
  obtain ⟨e1, e2⟩ := readNodes_text hv.ok
  have ho := nodesOf_ordered hv.ok
  have hk := nodesOf_ok hv.ok
  have hg := gather_nodesOf hv.ok
  have hlen : (textT t).length ≤ 4000 := by have := textTo_len hv.ok 99; unfold textT; omega
  refine ⟨?_, by rw [e1, hg]⟩
  unfold checkT
  rw [if_neg (by omega)]
  simp only []
  rw [e1, e2, if_neg (by omega), hg]
  have h3 : ¬ scan (unordered (nodesOf t)) 1 (nodesOf t).length < (nodesOf t).length := by
    rw [scan_none]
    · omega
    · intro j h1 h2
      unfold unordered
      have := ho (j - 1) j (by omega) h2
      exact decide_eq_false (by omega)
  rw [if_neg h3]
  have hat : ∀ j, j < (nodesOf t).length → t (ndAt (nodesOf t) j).id.toNat = some (ndAt (nodesOf t) j) := fun j hj => ((nodesOf_mem hv.ok).1 (ndAt_mem hj)).1
  unfold misplaced
  rw [scan_none (p := orphan t (nodesOf t)) (fun j _ hj => by unfold orphan; rw [hv.parent _ _ (hat j hj)]; rfl), if_neg (by omega)]
  rw [scan_none (p := looped t (nodesOf t)) (fun j _ hj => by unfold looped; rw [(goes_meets hv.ok).2 (hv.goes _ _ (hat j hj))]; rfl), if_neg (by omega)]
  rw [scan_none (p := twice (nodesOf t)) (fun j _ hj => by
    unfold twice
    apply decide_eq_false
    rintro ⟨x, hx, hs⟩
    unfold samePlace at hs
    simp only [Bool.and_eq_true, beq_iff_eq] at hs
    have h4 := hv.apart _ _ _ _ (hat x (by omega)) (hat j hj) hs.1 hs.2
    have h5 := ho x j hx hj
    have h6 := (hk _ (ndAt_mem (ns := nodesOf t) (i := x) (by omega))).1
    omega), if_neg (by omega)]
/-! The steps keep trees right. -/
theorem hasT_iff {t : Tr} {id : Int} : hasT t id = true ↔ ∃ n, t id.toNat = some n := by unfold hasT; exact Option.isSome_iff_exists
theorem isParent_iff {t : Tr} {p : Int} : isParentT t p = true ↔ p = 0 ∨ (p % 2 = 0 ∧ ∃ n, t p.toNat = some n) := by
  unfold isParentT; rw [Bool.or_eq_true, Bool.and_eq_true, beq_iff_eq, beq_iff_eq, hasT_iff]
theorem atT_none {t : Tr} {p : Int} {s : Str} (h : atT t p s = 0) : ∀ i n, 1 ≤ i → i ≤ 99 → t i = some n → n.parent = p → n.name = s → False := by
  intro i n h1 h2 hn hp hs
  rcases scan_cases (spotIs t p s) 1 100 with ⟨e1, e2, _, _⟩ | ⟨_, e⟩
  · unfold atT at h; rw [if_pos e1] at h; omega
  · have := e i h1 (by omega)
    unfold spotIs at this; rw [hn] at this; simp [hp, hs] at this
theorem atT_some {t : Tr} {p : Int} {s : Str} (hv : Valid t) (h : atT t p s ≠ 0) : ∀ i n, t i = some n → n.parent = p → n.name = s → (i : Int) = atT t p s := by
  intro i n hn hp hs
  rcases scan_cases (spotIs t p s) 1 100 with ⟨e1, e2, e3, _⟩ | ⟨e, _⟩
  · unfold atT; rw [if_pos e1]
    generalize scan (spotIs t p s) 1 100 = k at *
    unfold spotIs at e3
    cases hk : t k with
    | none => rw [hk] at e3; simp at e3
    | some m =>
      rw [hk] at e3; simp at e3
      have := hv.apart i k n m hn hk (by rw [hp, e3.1]) (by rw [hs, e3.2])
      omega
  · unfold atT at h; rw [if_neg (by omega)] at h; exact absurd rfl h
theorem put_at {t : Tr} {n : Nd} {i : Nat} : trPut t n i = if (i : Int) = n.id then some n else t i := rfl
theorem valid_put {t : Tr} (hv : Valid t) {n : Nd} (hn : NdOk n) (hp : isParentT t n.parent = true) (hlo : hasT t n.id = true → ¬ Goes t n.parent n.id) (hat : ∀ i m, t i = some m → m.parent = n.parent → m.name = n.name → (i : Int) = n.id) : Valid (trPut t n) := by
  have hok := trOk_put hv.ok hn
  have hself : trPut t n n.id.toNat = some n := by rw [put_at, if_pos (by have := hn.1; omega)]
  have hoth : ∀ i : Nat, (i : Int) ≠ n.id → trPut t n i = t i := fun i hi => by rw [put_at, if_neg hi]
  have hhas : ∀ (p : Int) m, t p.toNat = some m → ∃ m', trPut t n p.toNat = some m' := by
    intro p m hm
    by_cases e : (p.toNat : Int) = n.id
    · exact ⟨n, by rw [put_at, if_pos e]⟩
    · exact ⟨m, by rw [hoth _ e]; exact hm⟩
  have hpar : ∀ p, isParentT t p = true → isParentT (trPut t n) p = true := by
    intro p h
    rw [isParent_iff] at h ⊢
    rcases h with h | ⟨h1, m, h2⟩
    · exact .inl h
    · exact .inr ⟨h1, hhas p m h2⟩
  -- the way from the new parent does not meet the node itself
  have havoid : ¬ Goes t n.parent n.id := by
    cases hh : hasT t n.id
    · rintro ⟨f, hf⟩
      have hne : t n.id.toNat = none := by
        cases hq : t n.id.toNat with
        | none => rfl
        | some m => exact absurd (hasT_iff.2 ⟨m, hq⟩) (by rw [hh]; simp)
      -- all met are parents; the node is none
      have key : ∀ f x, isParentT t x = true → meetsF t f x n.id = true → False := by
        intro f
        induction f with
        | zero => intro x _ h; simp [meetsF] at h
        | succ f ih =>
          intro x hx h
          rw [meetsF] at h
          by_cases e : x = n.id
          · rw [isParent_iff] at hx
            rcases hx with hx | ⟨_, m, hm⟩
            · have := hn.1; omega
            · rw [e, hne] at hm; cases hm
          · rw [if_neg e] at h
            cases hx2 : t x.toNat with
            | none => rw [hx2] at h; simp at h
            | some m => rw [hx2] at h; exact ih m.parent (hv.parent _ m hx2) h
      exact key f n.parent hp hf
    · exact hlo hh
  have hgp : Goes (trPut t n) n.parent 0 := by
    have h0 : Goes t n.parent 0 := by
      rw [isParent_iff] at hp
      rcases hp with hp | ⟨_, m, hm⟩
      · rw [hp]; exact goes_here t 0
      · have := hv.goes _ m hm
        have hid := (hv.ok.2 _ m hm)
        rwa [show m.id = n.parent by have := hn.2.2.1; omega] at this
    obtain ⟨f, hf⟩ := h0
    have key : ∀ f x, ¬ Goes t x n.id → meetsF t f x 0 = true → Goes (trPut t n) x 0 := by
      intro f
      induction f with
      | zero => intro x _ h; simp [meetsF] at h
      | succ f ih =>
        intro x hx h
        rw [meetsF] at h
        by_cases e : x = 0
        · rw [e]; exact goes_here _ 0
        · rw [if_neg e] at h
          cases hx2 : t x.toNat with
          | none => rw [hx2] at h; simp at h
          | some m =>
            rw [hx2] at h
            have hxn : (x.toNat : Int) ≠ n.id := by
              intro e2
              have hid := hv.ok.2 _ m hx2
              apply hx
              rw [show x = n.id by omega]; exact goes_here t _
            exact goes_up (by rw [hoth _ hxn]; exact hx2) (ih m.parent (fun hg => hx (goes_up hx2 hg)) h)
    exact key f n.parent havoid hf
  have hgn : Goes (trPut t n) n.id 0 := goes_up hself hgp
  have hall : ∀ f x, meetsF t f x 0 = true → Goes (trPut t n) x 0 := by
    intro f
    induction f with
    | zero => intro x h; simp [meetsF] at h
    | succ f ih =>
      intro x h
      rw [meetsF] at h
      by_cases e : x = 0
      · rw [e]; exact goes_here _ 0
      · rw [if_neg e] at h
        cases hx2 : t x.toNat with
        | none => rw [hx2] at h; simp at h
        | some m =>
          rw [hx2] at h
          by_cases e2 : (x.toNat : Int) = n.id
          · have hid := hv.ok.2 _ m hx2
            rw [show x = n.id by omega]; exact hgn
          · exact goes_up (by rw [hoth _ e2]; exact hx2) (ih m.parent h)
  refine ⟨hok, ?_, ?_, ?_⟩
  · intro i m hm
    by_cases e : (i : Int) = n.id
    · rw [put_at, if_pos e] at hm; cases hm; exact hpar _ hp
    · rw [hoth _ e] at hm; exact hpar _ (hv.parent i m hm)
  · intro i m hm
    by_cases e : (i : Int) = n.id
    · rw [put_at, if_pos e] at hm; cases hm; exact hgn
    · rw [hoth _ e] at hm
      obtain ⟨f, hf⟩ := hv.goes i m hm
      exact hall f _ hf
  · intro i j a b ha hb h1 h2
    by_cases e1 : (i : Int) = n.id
    · by_cases e2 : (j : Int) = n.id
      · omega
      · rw [put_at, if_pos e1] at ha; cases ha
        rw [hoth _ e2] at hb
        have := hat j b hb h1.symm h2.symm; omega
    · rw [hoth _ e1] at ha
      by_cases e2 : (j : Int) = n.id
      · rw [put_at, if_pos e2] at hb; cases hb
        have := hat i a ha h1 h2; omega
      · rw [hoth _ e2] at hb
        exact hv.apart i j a b ha hb h1 h2
theorem valid_remove {t : Tr} (hv : Valid t) {id : Int} (hk : kidsT t id = false) : Valid (trRemove t id) := by
  have hoth : ∀ i : Nat, (i : Int) ≠ id → trRemove t id i = t i := fun i hi => by unfold trRemove; rw [if_neg hi]
  have hgone : ∀ i n, trRemove t id i = some n → t i = some n ∧ (i : Int) ≠ id := by
    intro i n h
    unfold trRemove at h
    split at h
    · cases h
    · exact ⟨h, by assumption⟩
  have hno : ∀ i n, t i = some n → n.parent ≠ id := by
    intro i n hn e
    have hi := hv.ok.2 i n hn
    rcases scan_cases (kidIs t id) 1 100 with ⟨e1, _⟩ | ⟨_, e2⟩
    · unfold kidsT at hk; exact absurd e1 (of_decide_eq_false hk)
    · have := e2 i hi.2.1 (by omega)
      unfold kidIs at this; rw [hn] at this; simp [e] at this
  have hall : ∀ f x, x ≠ id → meetsF t f x 0 = true → Goes (trRemove t id) x 0 := by
    intro f
    induction f with
    | zero => intro x _ h; simp [meetsF] at h
    | succ f ih =>
      intro x hx h
      rw [meetsF] at h
      by_cases e : x = 0
      · rw [e]; exact goes_here _ 0
      · rw [if_neg e] at h
        cases hx2 : t x.toNat with
        | none => rw [hx2] at h; simp at h
        | some m =>
          rw [hx2] at h
          have hid := hv.ok.2 _ m hx2
          exact goes_up (by rw [hoth _ (by omega)]; exact hx2) (ih m.parent (hno _ m hx2) h)
  refine ⟨trOk_remove hv.ok id, ?_, ?_, ?_⟩
  · intro i n hn
    obtain ⟨h1, h2⟩ := hgone i n hn
    have hp := hv.parent i n h1
    rw [isParent_iff] at hp ⊢
    rcases hp with hp | ⟨hp, m, hm⟩
    · exact .inl hp
    · refine .inr ⟨hp, m, ?_⟩
      have := hno i n h1
      have hid := hv.ok.2 _ m hm
      rw [hoth _ (by omega)]; exact hm
  · intro i n hn
    obtain ⟨h1, h2⟩ := hgone i n hn
    obtain ⟨f, hf⟩ := hv.goes i n h1
    have hid := hv.ok.2 i n h1
    exact hall f n.id (by omega) hf
  · intro i j a b ha hb h1 h2
    exact hv.apart i j a b (hgone i a ha).1 (hgone j b hb).1 h1 h2
theorem valid_step {t : Tr} (hv : Valid t) {s : St} (hs : StOk s) : Valid (stepT t s) := by
  unfold stepT
  by_cases hE : stepE t s = 0
  · rw [if_pos hE]
    rcases hs with ⟨hk, hn⟩ | ⟨hk, hn⟩
    · have h45 : ¬ s.kind = 45 := by rcases hk with h | h <;> rw [h] <;> decide
      rw [if_neg h45]
      have hN : NdOk s.node := hn
      rcases hk with h | h
      · have e : createE t s.node = 0 := by unfold stepE at hE; rwa [if_pos h] at hE
        unfold createE at e
        cases h1 : hasT t s.node.id
        · rw [h1] at e
          cases h2 : isParentT t s.node.parent
          · rw [h2] at e; simp at e
          · rw [h2] at e
            cases h3 : (atT t s.node.parent s.node.name != 0)
            · have h3' : atT t s.node.parent s.node.name = 0 := by simpa using h3
              refine valid_put hv hN h2 (fun hh => by rw [h1] at hh; cases hh) (fun i m hm hp hnm => ?_)
              have hi := hv.ok.2 i m hm
              exact (atT_none h3' i m hi.2.1 hi.2.2.1 hm hp hnm).elim
            · rw [h3] at e; simp at e
        · rw [h1] at e; simp at e
      · have e : moveE t s.node = 0 := by unfold stepE at hE; rwa [if_neg (by rw [h]; decide), if_pos h] at hE
        unfold moveE at e
        cases h1 : hasT t s.node.id
        · rw [h1] at e; simp at e
        · rw [h1] at e
          cases h2 : isParentT t s.node.parent
          · rw [h2] at e; simp at e
          · rw [h2] at e
            cases h3 : meetsT t s.node.parent s.node.id
            · rw [h3] at e
              refine valid_put hv hN h2 (fun _ hg => by rw [(goes_meets hv.ok).2 hg] at h3; cases h3) (fun i m hm hp hnm => ?_)
              have hi := hv.ok.2 i m hm
              cases h4 : (atT t s.node.parent s.node.name != 0)
              · exact (atT_none (by simpa using h4) i m hi.2.1 hi.2.2.1 hm hp hnm).elim
              · have h4' : atT t s.node.parent s.node.name ≠ 0 := by simpa using h4
                have := atT_some hv h4' i m hm hp hnm
                cases h5 : (atT t s.node.parent s.node.name != s.node.id)
                · have : atT t s.node.parent s.node.name = s.node.id := by simpa using h5
                  omega
                · rw [h4, h5] at e; simp at e
            · rw [h3] at e; simp at e
    · rw [if_pos hk]
      have e : deleteE t s.node.id = 0 := by unfold stepE at hE; rwa [if_neg (by rw [hk]; decide), if_neg (by rw [hk]; decide), if_pos hk] at hE
      unfold deleteE at e
      cases h1 : hasT t s.node.id
      · rw [h1] at e; simp at e
      · rw [h1] at e
        cases h2 : kidsT t s.node.id
        · exact valid_remove hv h2
        · rw [h2] at e; simp at e
  · rw [if_neg hE]; exact hv
theorem valid_all : ∀ (ss : List St) (t : Tr), Valid t → (∀ s ∈ ss, StOk s) → Valid (doAllT ss t) := by
  intro ss
  induction ss with
  | nil => intro t h _; exact h
  | cons s ss ih =>
    intro t h hs
    unfold doAllT
    split
    · exact ih _ (valid_step h (hs s (by simp))) (fun x hx => hs x (by simp [hx]))
    · exact h
end Go.Proofs.YtdcjimlhaklhfaaDoor

namespace Go.Proofs.YtdcjimlhaklhfaaDoor
open Go.RowKit
set_option maxHeartbeats 400000 in
theorem isPlain_any (c : UInt8) (w : World) :
    Calls Tryd.prog 95 #[.int .u8 c.toNat] w fun e w' => e = .returned (.bool (plainB c)) ∧ w' = w := by
  go_enter Tryd.func95, Tryd.ntmps95
  go_wp2
  all_goals
    go_ret
    refine ⟨ret_bool ?_, rfl⟩
    rw [Bool.eq_iff_iff]; simp [plainB]; omega
set_option maxHeartbeats 400000 in
theorem isFolder_any (n : Int) (w : World) (h0 : 0 ≤ n) (h1 : n ≤ 1000) :
    Calls Tryd.prog 91 #[.int .i64 n] w fun e w' => e = .returned (.bool (n % 2 == 0)) ∧ w' = w := by
  go_enter Tryd.func91, Tryd.ntmps91
  go_wp2
  all_goals
    go_ret
    exact ⟨rfl, rfl⟩
set_option maxHeartbeats 400000 in
theorem plainBytes_any (s : ByteArray) (w : World) (hs : s.size ≤ 4000) :
    Calls Tryd.prog 90 #[.string s] w fun e w' => e = .returned (.int .i64 (plainLen (sl s))) ∧ w' = w := by
  go_enter Tryd.func90, Tryd.ntmps90
  go_wp2
  go_loop [3] (fun i => ∃ k : Nat, k ≤ s.size ∧ i = .int .i64 k ∧ ((sl s).take k).all plainB = true) (fun i => s.size - (intOf i).toNat)
  case atStart => exact ⟨0, Nat.zero_le _, rfl, by simp⟩
  case round =>
    obtain ⟨k, hk, rfl, ha⟩ := hrel
    by_cases hlt : k < s.size
    · cases hp : plainB s[k]
      · have HP := hide hp; clear hp
        have HA := hide ha; clear ha
        go_wp2_with (go_at_call 95; refine (isPlain_any _ _).mono ?_; rintro e w' ⟨rfl, rfl⟩; rw [unhide HP])
        go_ret
        refine ⟨ret_int ?_, rfl⟩
        rw [plainLen_stop (sl s) k (by rw [sl_length]; omega) (unhide HA) (fun c r h => by rw [drop_cons s k hlt] at h; cases h; exact unhide HP)]
      · have HP := hide hp; clear hp
        have HA := hide ha; clear ha
        go_wp2_with (go_at_call 95; refine (isPlain_any _ _).mono ?_; rintro e w' ⟨rfl, rfl⟩; rw [unhide HP])
        go_round
        case rel => exact ⟨k + 1, by omega, by go_num, by rw [take_snoc s k hlt]; simp [unhide HP]; simpa using unhide HA⟩
        case measure => simp [intOf]; omega
    · have HA := hide ha; clear ha
      go_wp2
      go_ret
      refine ⟨ret_int ?_, rfl⟩
      rw [plainLen_stop (sl s) k (by rw [sl_length]; omega) (unhide HA) (fun c r h => by rw [List.drop_eq_nil_of_le (by rw [sl_length]; omega)] at h; cases h)]
set_option maxHeartbeats 400000 in
theorem body_any (s : ByteArray) (w : World) (hs : s.size ≤ 4000) :
    Calls Tryd.prog 54 #[.string s] w fun e w' => e = .returned (.tuple #[.string (bs (bodyS (sl s))), .bool (bodyB (sl s))]) ∧ w' = w := by
  by_cases h0 : 0 < s.size
  · have HB := hide (bodyB_at s h0)
    by_cases hc : s[s.size - 1] = 59
    · go_enter Tryd.func54, Tryd.ntmps54
      go_wp2
      go_ret2
      have h := unhide HB; rw [hc] at h
      exact ⟨ret_sb (by rw [bodyS, h]; exact dropLast_ext s) (by rw [h]; rfl), rfl⟩
    · have hc' : (((s[s.size - 1]).toNat : Int) != 59) = true := by
        rw [bne_iff_ne]; intro h; exact hc (UInt8.toNat_inj.1 (by simpa using (by omega : (s[s.size - 1]).toNat = 59)))
      have HC := hide hc; clear hc
      go_enter Tryd.func54, Tryd.ntmps54
      go_wp2
      go_ret2
      have h := unhide HB
      have h' : bodyB (sl s) = false := by rw [h]; exact beq_eq_false_iff_ne.2 (unhide HC)
      exact ⟨ret_sb (by rw [bodyS, h']; rfl) (by rw [h']), rfl⟩
  · have hz : s.size = 0 := by omega
    have HB := hide (bodyB_nil s hz)
    go_enter Tryd.func54, Tryd.ntmps54
    go_wp2
    go_ret2
    exact ⟨ret_sb (by rw [bodyS, unhide HB]; rfl) (by rw [unhide HB]), rfl⟩
theorem ret_num {l : Str} {a b x : Int} {y : Bool} (h : number l a b = (x, y)) : Ending.returned (.tuple #[.int .i64 x, .bool y]) = .returned (.tuple #[.int .i64 (number l a b).1, .bool (number l a b).2]) := by rw [h]
set_option maxHeartbeats 1000000 in
theorem number_loop (s : ByteArray) (a b : Int) (w : World) (hs : s.size ≤ 4000) (hb : 0 ≤ b) (hb' : b ≤ 100000) (h0 : 0 < s.size) (h48 : ¬ (s[0].toNat = 48 ∧ 1 < s.size)) :
    Calls Tryd.prog 60 #[.string s, .int .i64 a, .int .i64 b] w fun e w' => e = .returned (.tuple #[.int .i64 (number (sl s) a b).1, .bool (number (sl s) a b).2]) ∧ w' = w := by
  have HB := hide (numBad_not s h0 h48)
  have hne := ne_nil_at s h0
  have hne2 : s.toList.isEmpty = false := by rw [List.isEmpty_eq_false_iff]; exact hne
  have hz : (0 : Int) < s.size := by omega
  have key : (((s[0].toNat : Int) == 48) = true ∧ (s.size : Int) ≤ 1) ∨ ((s[0].toNat : Int) == 48) = false := by
    by_cases e : s[0].toNat = 48
    · left; exact ⟨by rw [beq_iff_eq]; omega, by omega⟩
    · right; rw [beq_eq_false_iff_ne]; omega
  clear h48
  rcases key with ⟨e48, e1⟩ | e48
  all_goals
    go_enter Tryd.func60, Tryd.ntmps60
    go_wp2
    go_loop [8, 9] (fun n i => ∃ k : Nat, ∃ m : Int, k ≤ s.size ∧ i = .int .i64 k ∧ n = .int .i64 m ∧ 0 ≤ m ∧ m ≤ b ∧ Hid (numGo b 0 (sl s) = numGo b m ((sl s).drop k))) (fun _ i => s.size - (intOf i).toNat)
    case atStart => exact ⟨0, 0, Nat.zero_le _, rfl, rfl, by omega, hb, hide (by simp)⟩
    case round =>
      obtain ⟨k, m, hk, rfl, rfl, hm0, hmb, HG⟩ := hrel
      by_cases hlt : k < s.size
      · have HD := hide (drop_cons s k hlt)
        clear e48 hne hne2
        by_cases hd : 48 ≤ s[k].toNat ∧ s[k].toNat ≤ 57
        · obtain ⟨hd1, hd2⟩ := hd
          by_cases hbig : m * 10 + ((s[k].toNat : Int) - 48) > b
          · have HF : Hid (number (sl s) a b = (0, false)) := by
              apply hide; apply number_none; rw [unhide HG, unhide HD]; exact numGo_big hbig
            go_wp2
            go_ret2
            exact ⟨ret_num (unhide HF), rfl⟩
          · have HF : Hid (numGo b 0 (sl s) = numGo b (m * 10 + ((s[k].toNat : Int) - 48)) ((sl s).drop (k + 1))) := by
              apply hide; rw [unhide HG, unhide HD]; exact numGo_cons hd1 hd2 hbig
            go_wp2
            go_round
            case rel => exact ⟨k + 1, m * 10 + ((s[k].toNat : Int) - 48), by omega, by go_num, by go_num, by omega, by omega, HF⟩
            case measure => simp [intOf]; omega
        · have HF : Hid (number (sl s) a b = (0, false)) := by
            apply hide; apply number_none; rw [unhide HG, unhide HD]; exact numGo_no hd
          have hd' : s[k].toNat < 48 ∨ 57 < s[k].toNat := by omega
          clear hd
          rcases hd' with hd | hd
          all_goals
            go_wp2
            go_ret2
            exact ⟨ret_num (unhide HF), rfl⟩
      · have HF : Hid (number (sl s) a b = (m, decide (a ≤ m))) := by
          apply hide; apply number_some (unhide HB); rw [unhide HG, List.drop_eq_nil_of_le (by rw [sl_length]; omega)]; rfl
        go_wp2
        go_ret2
        exact ⟨ret_num (unhide HF), rfl⟩
set_option maxHeartbeats 1000000 in
theorem number_any (s : ByteArray) (a b : Int) (w : World) (hs : s.size ≤ 4000) (hb : 0 ≤ b) (hb' : b ≤ 100000) :
    Calls Tryd.prog 60 #[.string s, .int .i64 a, .int .i64 b] w fun e w' => e = .returned (.tuple #[.int .i64 (number (sl s) a b).1, .bool (number (sl s) a b).2]) ∧ w' = w := by
  by_cases h0 : 0 < s.size
  · by_cases h48 : s[0].toNat = 48 ∧ 1 < s.size
    · have HB := hide (numBad_zero s h48.2 h48.1)
      have hne := ne_nil_at s h0
      have hne2 : s.toList.isEmpty = false := by rw [List.isEmpty_eq_false_iff]; exact hne
      have e48 : ((s[0].toNat : Int) == 48) = true := by rw [beq_iff_eq]; omega
      have h1 : (1 : Int) < s.size := by omega
      clear h48
      go_enter Tryd.func60, Tryd.ntmps60
      go_wp2
      go_ret2
      exact ⟨ret_num (number_bad (unhide HB)), rfl⟩
    · exact number_loop s a b w hs hb hb' h0 h48
  · have HB := hide (numBad_empty s (by omega))
    have hne := nil_at s (by omega)
    go_enter Tryd.func60, Tryd.ntmps60
    go_wp2
    go_ret2
    exact ⟨ret_num (number_bad (unhide HB)), rfl⟩
end Go.Proofs.YtdcjimlhaklhfaaDoor

namespace Go.Proofs.YtdcjimlhaklhfaaDoor
open Go.RowKit
theorem small_one (m : Nat) (h : m < 10) : (ByteArray.mk #[48, 49, 50, 51, 52, 53, 54, 55, 56, 57, 97, 98, 99, 100, 101, 102, 103, 104, 105, 106, 107, 108, 109, 110, 111, 112, 113, 114, 115, 116, 117, 118, 119, 120, 121, 122]).extract m (m + 1) = bs (digs m) := by
  have : ∀ m, m < 10 → (ByteArray.mk #[48, 49, 50, 51, 52, 53, 54, 55, 56, 57, 97, 98, 99, 100, 101, 102, 103, 104, 105, 106, 107, 108, 109, 110, 111, 112, 113, 114, 115, 116, 117, 118, 119, 120, 121, 122]).extract m (m + 1) = bs (digs m) := by decide +kernel
  exact this m h
theorem small_two (m : Nat) (h0 : 10 ≤ m) (h : m ≤ 99) : (ByteArray.mk #[48, 48, 48, 49, 48, 50, 48, 51, 48, 52, 48, 53, 48, 54, 48, 55, 48, 56, 48, 57, 49, 48, 49, 49, 49, 50, 49, 51, 49, 52, 49, 53, 49, 54, 49, 55, 49, 56, 49, 57, 50, 48, 50, 49, 50, 50, 50, 51, 50, 52, 50, 53, 50, 54, 50, 55, 50, 56, 50, 57, 51, 48, 51, 49, 51, 50, 51, 51, 51, 52, 51, 53, 51, 54, 51, 55, 51, 56, 51, 57, 52, 48, 52, 49, 52, 50, 52, 51, 52, 52, 52, 53, 52, 54, 52, 55, 52, 56, 52, 57, 53, 48, 53, 49, 53, 50, 53, 51, 53, 52, 53, 53, 53, 54, 53, 55, 53, 56, 53, 57, 54, 48, 54, 49, 54, 50, 54, 51, 54, 52, 54, 53, 54, 54, 54, 55, 54, 56, 54, 57, 55, 48, 55, 49, 55, 50, 55, 51, 55, 52, 55, 53, 55, 54, 55, 55, 55, 56, 55, 57, 56, 48, 56, 49, 56, 50, 56, 51, 56, 52, 56, 53, 56, 54, 56, 55, 56, 56, 56, 57, 57, 48, 57, 49, 57, 50, 57, 51, 57, 52, 57, 53, 57, 54, 57, 55, 57, 56, 57, 57]).extract (m * 2) (m * 2 + 2) = bs (digs m) := by
  have : ∀ m, m < 100 → 10 ≤ m → (ByteArray.mk #[48, 48, 48, 49, 48, 50, 48, 51, 48, 52, 48, 53, 48, 54, 48, 55, 48, 56, 48, 57, 49, 48, 49, 49, 49, 50, 49, 51, 49, 52, 49, 53, 49, 54, 49, 55, 49, 56, 49, 57, 50, 48, 50, 49, 50, 50, 50, 51, 50, 52, 50, 53, 50, 54, 50, 55, 50, 56, 50, 57, 51, 48, 51, 49, 51, 50, 51, 51, 51, 52, 51, 53, 51, 54, 51, 55, 51, 56, 51, 57, 52, 48, 52, 49, 52, 50, 52, 51, 52, 52, 52, 53, 52, 54, 52, 55, 52, 56, 52, 57, 53, 48, 53, 49, 53, 50, 53, 51, 53, 52, 53, 53, 53, 54, 53, 55, 53, 56, 53, 57, 54, 48, 54, 49, 54, 50, 54, 51, 54, 52, 54, 53, 54, 54, 54, 55, 54, 56, 54, 57, 55, 48, 55, 49, 55, 50, 55, 51, 55, 52, 55, 53, 55, 54, 55, 55, 55, 56, 55, 57, 56, 48, 56, 49, 56, 50, 56, 51, 56, 52, 56, 53, 56, 54, 56, 55, 56, 56, 56, 57, 57, 48, 57, 49, 57, 50, 57, 51, 57, 52, 57, 53, 57, 54, 57, 55, 57, 56, 57, 57]).extract (m * 2) (m * 2 + 2) = bs (digs m) := by decide +kernel
  exact this m (by omega) h0
set_option maxRecDepth 100000 in
set_option maxHeartbeats 400000 in
theorem small_any (m : Nat) (w : World) (h1 : m ≤ 99) :
    Calls Tryd.prog 96 #[.int .i64 m] w fun e w' => e = .returned (.string (bs (digs m))) ∧ w' = w := by
  by_cases h : m < 10
  · go_enter Tryd.func96, Tryd.ntmps96
    go_wp2
    go_ret
    exact ⟨ret_str (small_one m h), rfl⟩
  · go_enter Tryd.func96, Tryd.ntmps96
    go_wp2
    go_ret
    exact ⟨ret_str (small_two m (by omega) h1), rfl⟩
set_option maxHeartbeats 400000 in
theorem itoa_nat (m : Nat) (w : World) (h1 : m ≤ 99) :
    Calls Tryd.prog 64 #[.int .i64 m] w fun e w' => e = .returned (.string (bs (digs m))) ∧ w' = w := by
  go_enter Tryd.func64, Tryd.ntmps64
  go_wp2_with (first | (go_at_call 96; refine (small_any _ _ h1).mono ?_; rintro e w' ⟨rfl, rfl⟩) | go_in)
  go_ret
  exact ⟨rfl, rfl⟩
theorem itoa_any (n : Int) (w : World) (h0 : 0 ≤ n) (h1 : n ≤ 99) :
    Calls Tryd.prog 64 #[.int .i64 n] w fun e w' => e = .returned (.string (bs (digs n))) ∧ w' = w := by
  obtain ⟨m, rfl⟩ := Int.eq_ofNat_of_zero_le h0
  exact itoa_nat m w (by omega)

/-! Rows of cells. -/
def Row (w : World) (ao : Option Addr) (n size : Nat) (xs : List Value) : Prop :=
  xs.length = n * size ∧ (0 < n → ∃ g, ao = some ⟨g, 0, none⟩ ∧ g < w.heap.size ∧ ∀ j u, xs[j]? = some u → w.cell? ⟨g, j, none⟩ = some u)
theorem row_of_owns {w : World} {base : Nat} {e : TypeId} {size : Nat} {v : Value} {n : Nat} {xs : List Value} (h : w.ownsRow base e size v n xs) : ∃ ao cap, v = .slice ao n cap ∧ Row w ao n size xs := by
  obtain ⟨h1, h2⟩ := h
  rcases h2 with ⟨rfl, rfl⟩ | ⟨g, cap, cur, rfl, hb, hg, hn, _, hs, ht⟩
  · exact ⟨none, 0, rfl, h1, fun h => by omega⟩
  · refine ⟨_, cap, rfl, h1, fun _ => ⟨g, rfl, lt_of_block hg, fun j u hu => ?_⟩⟩
    rw [cell_of_row w g j cur e (0, 0) hg]
    rw [← ht, List.getElem?_take] at hu
    split at hu
    · simpa using hu
    · cases hu
theorem own_ge {w : World} {base : Nat} {e : TypeId} {size : Nat} {v : Value} {n : Nat} {xs : List Value} (h : w.ownsRow base e size v n xs) : ∀ k, v.ownBlock = some k → base ≤ k := by
  intro k hk
  rcases h.2 with ⟨rfl, rfl⟩ | ⟨g, cap, cur, rfl, hb, _⟩
  · simp [Value.ownBlock] at hk
  · simp [Value.ownBlock] at hk; omega
theorem Row.below {w w' : World} {ao : Option Addr} {n size : Nat} {xs : List Value} (h : Row w ao n size xs) (hb : Below w.heap.size w w') : Row w' ao n size xs := by
  refine ⟨h.1, fun hn => ?_⟩
  obtain ⟨g, hg, hlt, hc⟩ := h.2 hn
  exact ⟨g, hg, by have := hb.size; omega, fun j u hu => by rw [hb.cell (p := ⟨g, j, none⟩) hlt]; exact hc j u hu⟩
theorem below_app {B : Nat} {w wr w1 : World} {e : TypeId} {size : Nat} {v : Value} {n : Nat} {xs : List Value} {o : Obj} (hb : Below B w wr) (hB : B ≤ wr.heap.size) (hown : wr.ownsRow B e size v n xs) (hg : (wr.alloc o).grownBy w1 v.ownBlock) : Below B w w1 :=
  (hb.alloc hB o).grown hg (by simp; omega) (own_ge hown)
theorem news_one {w : World} (u : Value) (t : TypeId) : ∀ j x, [u][j]? = some x → (w.alloc (.cells #[u] t)).cell? ((⟨w.heap.size, 0, none⟩ : Addr).add j) = some x := by
  intro j x hx
  exact World.news_of_block (cs := #[u]) (heap_alloc_new w _) j x hx

def strV (l : Str) : Value := .string (bs l)
theorem Tryd.infoStr : (Tryd.prog.info? 9).map (fun i => (i.zero, i.size, i.bytes)) = some (some (.string ByteArray.empty), 1, 16) := by kernel_rfl

/-! Cut. -/
def CutInv (s : ByteArray) (k st n : Nat) (xs : List Value) : Prop :=
  n = (cutTo ((sl s).take k)).1.length ∧ xs = (cutTo ((sl s).take k)).1.map strV ∧ st + (cutTo ((sl s).take k)).2.length = k
theorem cutInv_le {s : ByteArray} {k st n : Nat} {xs : List Value} (h : CutInv s k st n xs) : n ≤ k ∧ st ≤ k := by
  have h1 := cutTo_len ((sl s).take k)
  have h2 : ((sl s).take k).length ≤ k := List.length_take_le _ _
  obtain ⟨h3, _, h4⟩ := h
  omega
theorem cut_cur (s : ByteArray) (k st : Nat) (hk : k ≤ s.size) (h : st + (cutTo ((sl s).take k)).2.length = k) : (cutTo ((sl s).take k)).2 = ((sl s).take k).drop st := by
  obtain ⟨a, ha⟩ := cutTo_suf ((sl s).take k)
  have hl : ((sl s).take k).length = k := by rw [List.length_take, sl_length]; omega
  have := (suf_drop ha).1
  rw [hl] at this
  rw [show st = k - (cutTo ((sl s).take k)).2.length by omega]
  exact this
theorem cutInv_hit {s : ByteArray} {k st n : Nat} {xs : List Value} (h : CutInv s k st n xs) (hk : k < s.size) (hc : s[k] = 59) : CutInv s (k + 1) (k + 1) (n + 1) (xs ++ [.string (s.extract st (k + 1))]) := by
  obtain ⟨h1, h2, h3⟩ := h
  have hcur := cut_cur s k st (by omega) h3
  unfold CutInv
  rw [take_snoc s k hk, cutTo_snoc, cutStep, if_pos hc]
  refine ⟨by simp [h1], ?_, by simp⟩
  rw [List.map_append, ← h2]
  have hst : st ≤ k := by omega
  have : s.extract st (k + 1) = bs ((cutTo ((sl s).take k)).2 ++ [s[k]]) := by
    rw [bs_extract, take_snoc s k hk, hcur, List.drop_append_of_le_length (by rw [List.length_take, sl_length]; omega)]
  rw [this]; rfl
theorem cutInv_miss {s : ByteArray} {k st n : Nat} {xs : List Value} (h : CutInv s k st n xs) (hk : k < s.size) (hc : ¬ s[k] = 59) : CutInv s (k + 1) st n xs := by
  obtain ⟨h1, h2, h3⟩ := h
  unfold CutInv
  rw [take_snoc s k hk, cutTo_snoc, cutStep, if_neg hc]
  exact ⟨h1, h2, by simp; omega⟩
theorem cutInv_end {s : ByteArray} {st n : Nat} {xs : List Value} (h : CutInv s s.size st n xs) (hk : ¬ st < s.size) : n = (cut (sl s)).length ∧ xs = (cut (sl s)).map strV := by
  obtain ⟨h1, h2, h3⟩ := h
  rw [List.take_of_length_le (by rw [sl_length]; omega)] at h1 h2 h3
  have : (cutTo (sl s)).2 = [] := List.length_eq_zero_iff.1 (by omega)
  unfold cut; rw [if_pos this]; exact ⟨h1, h2⟩
theorem cutInv_last {s : ByteArray} {st n : Nat} {xs : List Value} (h : CutInv s s.size st n xs) (hk : st < s.size) : n + 1 = (cut (sl s)).length ∧ xs ++ [.string (s.extract st s.size)] = (cut (sl s)).map strV := by
  have h' := h
  obtain ⟨h1, h2, h3⟩ := h
  have hcur := cut_cur s s.size st (by omega) h3
  have e1 : s.extract st s.size = bs (cutTo ((sl s).take s.size)).2 := by rw [bs_extract, hcur]
  rw [List.take_of_length_le (by rw [sl_length]; omega)] at h1 h2 h3 e1
  have : ¬ (cutTo (sl s)).2 = [] := by intro e; rw [e] at h3; simp at h3; omega
  unfold cut; rw [if_neg this, e1, h1, h2]; exact ⟨by simp, by simp [strV]⟩
set_option maxHeartbeats 1000000 in
theorem cut_any (s : ByteArray) (w : World) (hs : s.size ≤ 4000) :
    Calls Tryd.prog 37 #[.string s] w fun e w' => ∃ ao cap, e = .returned (.slice ao (cut (sl s)).length cap) ∧ Row w' ao (cut (sl s)).length 1 ((cut (sl s)).map strV) ∧ Below w.heap.size w w' := by
  obtain ⟨i0, hi, hz0, hz1, hz2⟩ := info_parts Tryd.infoStr
  have hsz : (0 : Int) ≤ s.size := by omega
  go_enter Tryd.func37, Tryd.ntmps37
  go_wp2
  go_loopw [3, 4, 5] (fun v st i wr => ∃ k t n : Nat, ∃ xs : List Value, k ≤ s.size ∧ t ≤ k ∧ n ≤ k ∧ i = .int .i64 k ∧ st = .int .i64 t ∧ wr.ownsRow w.heap.size 9 1 v n xs ∧ Below w.heap.size w wr ∧ Hid (CutInv s k t n xs)) (fun _ _ i _ => s.size - (intOf i).toNat)
  case atStart => exact ⟨0, 0, 0, [], Nat.zero_le _, Nat.le_refl _, Nat.le_refl _, rfl, rfl, World.ownsRow_nil _ _ _ _, Below.refl _ _, hide ⟨by simp [cutTo], by simp [cutTo], by simp [cutTo]⟩⟩
  case round =>
    obtain ⟨k, t, n, xs, hk, ht, hn, rfl, rfl, hown, hbel, HI⟩ := hrel
    by_cases hlt : k < s.size
    · by_cases hc : s[k] = 59
      · have HN := hide (cutInv_hit (unhide HI) hlt hc)
        go_wp2_with (first
          | (at_builtin; refine wpList_append_own _ rfl _ _ 27 rfl w.heap.size 9 i0 (.string ByteArray.empty) 1 16 Tryd.underlying27 hi hz0 hz1 hz2 rfl (by decide) _ _ _ rfl (hown.alloc _) ⟨wr.heap.size, 0, none⟩ 1 1 [.string (s.extract t (k + 1))] rfl rfl (news_one _ _) (by simp [Value.oneCell']) (by unfold maxLen; omega) (by omega) (by have := hbel.size; simp; omega) ?_)
          | go_in)
        intro v' w1 hown' hgrow _
        have hb1 := below_app hbel (by have := hbel.size; omega) hown hgrow
        clear hgrow hown hbel
        go_wp2
        go_roundw
        case rel => exact ⟨k + 1, k + 1, n + 1, _, by omega, by omega, by omega, by go_num, by go_num, hown', hb1, HN⟩
        case measure => simp [intOf]; omega
      · have HN := hide (cutInv_miss (unhide HI) hlt hc)
        have hc' : (((s[k]).toNat : Int) == 59) = false := by
          rw [beq_eq_false_iff_ne]; intro h; exact hc (UInt8.toNat_inj.1 (by simpa using (by omega : (s[k]).toNat = 59)))
        have HC := hide hc; clear hc
        go_wp2
        go_roundw
        case rel => exact ⟨k + 1, t, n, _, by omega, by omega, by omega, by go_num, rfl, hown, hbel, HN⟩
        case measure => simp [intOf]; omega
    · have hks : k = s.size := by omega
      subst hks
      by_cases hts : t < s.size
      · have HN := hide (cutInv_last (unhide HI) hts)
        go_wp2_with (first
          | (at_builtin; refine wpList_append_own _ rfl _ _ 27 rfl w.heap.size 9 i0 (.string ByteArray.empty) 1 16 Tryd.underlying27 hi hz0 hz1 hz2 rfl (by decide) _ _ _ rfl (hown.alloc _) ⟨wr.heap.size, 0, none⟩ 1 1 [.string (s.extract t s.size)] rfl rfl (news_one _ _) (by simp [Value.oneCell']) (by unfold maxLen; omega) (by omega) (by have := hbel.size; simp; omega) ?_)
          | go_in)
        intro v' w1 hown' hgrow _
        have hb1 := below_app hbel (by have := hbel.size; omega) hown hgrow
        clear hgrow hown hbel
        go_wp2
        go_ret
        obtain ⟨e1, e2⟩ := unhide HN
        obtain ⟨ao, cap, rfl, hr⟩ := row_of_owns hown'
        rw [e1, e2] at hr
        exact ⟨ao, cap, by rw [← e1]; rfl, hr, hb1⟩
      · have HN := hide (cutInv_end (unhide HI) hts)
        go_wp2
        go_ret
        obtain ⟨e1, e2⟩ := unhide HN
        obtain ⟨ao, cap, rfl, hr⟩ := row_of_owns hown
        rw [e1, e2] at hr
        exact ⟨ao, cap, by rw [← e1]; rfl, hr, hbel⟩
end Go.Proofs.YtdcjimlhaklhfaaDoor

namespace Go.Proofs.YtdcjimlhaklhfaaDoor
open Go.RowKit
/-! Parts. -/
def PartInv (s : ByteArray) (k st n : Nat) (xs : List Value) : Prop :=
  n = (partTo ((sl s).take k)).1.length ∧ xs = (partTo ((sl s).take k)).1.map strV ∧ st + (partTo ((sl s).take k)).2.length = k
theorem part_cur (s : ByteArray) (k st : Nat) (hk : k ≤ s.size) (h : st + (partTo ((sl s).take k)).2.length = k) : (partTo ((sl s).take k)).2 = ((sl s).take k).drop st := by
  obtain ⟨a, ha⟩ := partTo_suf ((sl s).take k)
  have hl : ((sl s).take k).length = k := by rw [List.length_take, sl_length]; omega
  have := (suf_drop ha).1
  rw [hl] at this
  rw [show st = k - (partTo ((sl s).take k)).2.length by omega]
  exact this
theorem partInv_hit {s : ByteArray} {k st n : Nat} {xs : List Value} (h : PartInv s k st n xs) (hk : k < s.size) (hc : s[k] = 32) : PartInv s (k + 1) (k + 1) (n + 1) (xs ++ [.string (s.extract st k)]) := by
  obtain ⟨h1, h2, h3⟩ := h
  have hcur := part_cur s k st (by omega) h3
  unfold PartInv
  rw [take_snoc s k hk, partTo_snoc, partStep, if_pos hc]
  refine ⟨by simp [h1], ?_, by simp⟩
  rw [List.map_append, ← h2]
  have : s.extract st k = bs (partTo ((sl s).take k)).2 := by rw [bs_extract, hcur]
  rw [this]; rfl
theorem partInv_miss {s : ByteArray} {k st n : Nat} {xs : List Value} (h : PartInv s k st n xs) (hk : k < s.size) (hc : ¬ s[k] = 32) : PartInv s (k + 1) st n xs := by
  obtain ⟨h1, h2, h3⟩ := h
  unfold PartInv
  rw [take_snoc s k hk, partTo_snoc, partStep, if_neg hc]
  exact ⟨h1, h2, by simp; omega⟩
theorem partInv_last {s : ByteArray} {st n : Nat} {xs : List Value} (h : PartInv s s.size st n xs) : n + 1 = (parts (sl s)).length ∧ xs ++ [.string (s.extract st s.size)] = (parts (sl s)).map strV := by
  obtain ⟨h1, h2, h3⟩ := h
  have hcur := part_cur s s.size st (by omega) h3
  have e1 : s.extract st s.size = bs (partTo ((sl s).take s.size)).2 := by rw [bs_extract, hcur]
  rw [List.take_of_length_le (by rw [sl_length]; omega)] at h1 h2 e1
  unfold parts; rw [e1, h1, h2]; exact ⟨by simp, by simp [strV]⟩
set_option maxHeartbeats 1000000 in
theorem parts_any (s : ByteArray) (w : World) (hs : s.size ≤ 4000) :
    Calls Tryd.prog 73 #[.string s] w fun e w' => ∃ ao cap, e = .returned (.slice ao (parts (sl s)).length cap) ∧ Row w' ao (parts (sl s)).length 1 ((parts (sl s)).map strV) ∧ Below w.heap.size w w' := by
  obtain ⟨i0, hi, hz0, hz1, hz2⟩ := info_parts Tryd.infoStr
  have hsz : (0 : Int) ≤ s.size := by omega
  go_enter Tryd.func73, Tryd.ntmps73
  go_wp2
  go_loopw [3, 4, 5] (fun v st i wr => ∃ k t n : Nat, ∃ xs : List Value, k ≤ s.size ∧ t ≤ k ∧ n ≤ k ∧ i = .int .i64 k ∧ st = .int .i64 t ∧ wr.ownsRow w.heap.size 9 1 v n xs ∧ Below w.heap.size w wr ∧ Hid (PartInv s k t n xs)) (fun _ _ i _ => s.size - (intOf i).toNat)
  case atStart => exact ⟨0, 0, 0, [], Nat.zero_le _, Nat.le_refl _, Nat.le_refl _, rfl, rfl, World.ownsRow_nil _ _ _ _, Below.refl _ _, hide ⟨by simp [partTo], by simp [partTo], by simp [partTo]⟩⟩
  case round =>
    obtain ⟨k, t, n, xs, hk, ht, hn, rfl, rfl, hown, hbel, HI⟩ := hrel
    by_cases hlt : k < s.size
    · by_cases hc : s[k] = 32
      · have HN := hide (partInv_hit (unhide HI) hlt hc)
        go_wp2_with (first
          | (at_builtin; refine wpList_append_own _ rfl _ _ 27 rfl w.heap.size 9 i0 (.string ByteArray.empty) 1 16 Tryd.underlying27 hi hz0 hz1 hz2 rfl (by decide) _ _ _ rfl (hown.alloc _) ⟨wr.heap.size, 0, none⟩ 1 1 [.string (s.extract t k)] rfl rfl (news_one _ _) (by simp [Value.oneCell']) (by unfold maxLen; omega) (by omega) (by have := hbel.size; simp; omega) ?_)
          | go_in)
        intro v' w1 hown' hgrow _
        have hb1 := below_app hbel (by have := hbel.size; omega) hown hgrow
        clear hgrow hown hbel
        go_wp2
        go_roundw
        case rel => exact ⟨k + 1, k + 1, n + 1, _, by omega, by omega, by omega, by go_num, by go_num, hown', hb1, HN⟩
        case measure => simp [intOf]; omega
      · have HN := hide (partInv_miss (unhide HI) hlt hc)
        have hc' : (((s[k]).toNat : Int) == 32) = false := by
          rw [beq_eq_false_iff_ne]; intro h; exact hc (UInt8.toNat_inj.1 (by simpa using (by omega : (s[k]).toNat = 32)))
        have HC := hide hc; clear hc
        go_wp2
        go_roundw
        case rel => exact ⟨k + 1, t, n, _, by omega, by omega, by omega, by go_num, rfl, hown, hbel, HN⟩
        case measure => simp [intOf]; omega
    · have hks : k = s.size := by omega
      subst hks
      have HN := hide (partInv_last (unhide HI))
      go_wp2_with (first
        | (at_builtin; refine wpList_append_own _ rfl _ _ 27 rfl w.heap.size 9 i0 (.string ByteArray.empty) 1 16 Tryd.underlying27 hi hz0 hz1 hz2 rfl (by decide) _ _ _ rfl (hown.alloc _) ⟨wr.heap.size, 0, none⟩ 1 1 [.string (s.extract t s.size)] rfl rfl (news_one _ _) (by simp [Value.oneCell']) (by unfold maxLen; omega) (by omega) (by have := hbel.size; simp; omega) ?_)
        | go_in)
      intro v' w1 hown' hgrow _
      have hb1 := below_app hbel (by have := hbel.size; omega) hown hgrow
      clear hgrow hown hbel
      go_wp2
      go_ret
      obtain ⟨e1, e2⟩ := unhide HN
      obtain ⟨ao, cap, rfl, hr⟩ := row_of_owns hown'
      rw [e1, e2] at hr
      exact ⟨ao, cap, by rw [← e1]; rfl, hr, hb1⟩
theorem sl_append (a b : ByteArray) : sl (a ++ b) = sl a ++ sl b := by simp [sl, ByteArray.data_append]
theorem tail_eq (s : ByteArray) (p : Nat) (d : Str) : ((s.extract p s.size).toList == (({ data := #[126] } : ByteArray) ++ bs d).toList) = ((sl s).drop p == 126 :: d) := by
  rw [tl_sl, tl_sl, sl_append, bs_extract, sl_bs, sl_bs, List.take_of_length_le (by rw [sl_length]; omega)]; rfl
theorem plain_lt (s : ByteArray) : plainLen (sl s) ≤ s.size := by rw [← sl_length]; exact plainLen_le _
set_option maxHeartbeats 400000 in
theorem isName_any (s : ByteArray) (id : Int) (w : World) (hs : s.size ≤ 4000) (h0 : 0 ≤ id) (h1 : id ≤ 99) :
    Calls Tryd.prog 74 #[.string s, .int .i64 id] w fun e w' => e = .returned (.bool (isName (sl s) id)) ∧ ∃ n, w' = w.drewN n := by
  have hle := plain_lt s
  have HI : Hid (isName (sl s) id = (decide (1 ≤ plainLen (sl s)) && decide (plainLen (sl s) ≤ 8) && (plainLen (sl s) == s.size || (sl s).drop (plainLen (sl s)) == 126 :: digs id))) := by
    apply hide; rw [← sl_length]; rfl
  have HP := hide (plainBytes_any s w hs)
  generalize plainLen (sl s) = p at *
  by_cases hp1 : 1 ≤ p
  · by_cases hp8 : p ≤ 8
    · by_cases hps : p = s.size
      · have hpe : ((p : Int) == (s.size : Int)) = true := by rw [beq_iff_eq]; omega
        have HF : Hid (isName (sl s) id = true) := by apply hide; rw [unhide HI]; simp [hp1, hp8, hps.symm]
        clear hps
        go_enter Tryd.func74, Tryd.ntmps74
        go_wp2_with (go_at_call 90; refine (unhide HP).mono ?_; rintro e w' ⟨rfl, rfl⟩)
        go_quiet (fail)
        go_wp2
        go_ret
        exact ⟨ret_bool (unhide HF).symm, _, rfl⟩
      · have hpe : ((p : Int) == (s.size : Int)) = false := by rw [beq_eq_false_iff_ne]; omega
        have HF : Hid (isName (sl s) id = ((sl s).drop p == 126 :: digs id)) := by apply hide; rw [unhide HI]; simp [hp1, hp8, hps]
        have hplt : p < s.size := by omega
        clear hps
        have hadd : ∀ W : World, (Op.stringOp .add ⟨#[126]⟩ (bs (digs id))).run Tryd.prog W = .ok (.string (⟨#[126]⟩ ++ bs (digs id))) W := fun W => run_string_add_sum (P := Tryd.prog) W _ _ (by rw [bs_size]; have := digs_len id; show 1 + _ ≤ _; omega)
        go_enter Tryd.func74, Tryd.ntmps74
        go_wp2_with (go_at_call 90; refine (unhide HP).mono ?_; rintro e w' ⟨rfl, rfl⟩)
        go_quiet ((go_at_call 64; exact Calls.quiet_of_same (itoa_any _ _ h0 h1)))
        go_wp2
        go_ret
        exact ⟨ret_bool (by rw [tail_eq, unhide HF]), _, rfl⟩
    · have HF : Hid (isName (sl s) id = false) := by apply hide; rw [unhide HI]; simp [hp8]
      go_enter Tryd.func74, Tryd.ntmps74
      go_wp2_with (go_at_call 90; refine (unhide HP).mono ?_; rintro e w' ⟨rfl, rfl⟩)
      go_ret
      exact ⟨ret_bool (unhide HF).symm, 0, rfl⟩
  · have HF : Hid (isName (sl s) id = false) := by apply hide; rw [unhide HI]; simp [hp1]
    go_enter Tryd.func74, Tryd.ntmps74
    go_wp2_with (go_at_call 90; refine (unhide HP).mono ?_; rintro e w' ⟨rfl, rfl⟩)
    go_ret
    exact ⟨ret_bool (unhide HF).symm, 0, rfl⟩
theorem bcell {W w1 : World} (hb : Below W.heap.size W w1) : (∀ b o, b < W.heap.size → w1.cell? ⟨b, o, none⟩ = W.cell? ⟨b, o, none⟩) ∧ (∀ b o, b < W.heap.size → w1.frozen? ⟨b, o, none⟩ = W.frozen? ⟨b, o, none⟩) :=
  ⟨fun b o h => hb.cell (p := ⟨b, o, none⟩) h, fun b o h => hb.frozen (p := ⟨b, o, none⟩) h⟩
theorem isName_below (s : ByteArray) (id : Int) (w : World) (hs : s.size ≤ 4000) (h0 : 0 ≤ id) (h1 : id ≤ 99) :
    Calls Tryd.prog 74 #[.string s, .int .i64 id] w fun e w' => e = .returned (.bool (isName (sl s) id)) ∧ ∃ n, w' = w.drewN n := isName_any s id w hs h0 h1
theorem readNode_three {l a b c : Str} (h : parts l = [a, b, c]) : readNode l = if (number a 1 99).2 && (number b 0 99).2 && isName c (number a 1 99).1 then some ⟨(number a 1 99).1, (number b 0 99).1, c⟩ else none := by
  unfold readNode; rw [h]
theorem readNode_other {l : Str} (h : (parts l).length ≠ 3) : readNode l = none := by
  unfold readNode
  split
  · rename_i a b c e; rw [e] at h; simp at h
  · rfl
theorem len3 {l : List Str} (h : l.length = 3) : ∃ a b c, l = [a, b, c] := by
  match l, h with
  | [a, b, c], _ => exact ⟨a, b, c, rfl⟩
set_option maxHeartbeats 1000000 in
theorem readNode_no (s : ByteArray) (w : World) (hs : s.size ≤ 4000) (h3 : (parts (sl s)).length ≠ 3) :
    Calls Tryd.prog 55 #[.string s] w fun e w' => e = .returned (.tuple #[.agg #[.int .i64 0, .int .i64 0, .string ByteArray.empty], .bool false]) ∧ Below w.heap.size w w' := by
  have hne : (((parts (sl s)).length : Int) != 3) = true := by rw [bne_iff_ne]; omega
  have HP : Hid (∀ W, Calls Tryd.prog 73 #[.string s] W fun e w' => ∃ ao cap, e = .returned (.slice ao (parts (sl s)).length cap) ∧ Row w' ao (parts (sl s)).length 1 ((parts (sl s)).map strV) ∧ Below W.heap.size W w') := hide (fun W => parts_any s W hs)
  generalize (parts (sl s)).length = n at *
  go_enter Tryd.func55, Tryd.ntmps55
  go_wp2_with fail
  refine (unhide HP _).mono ?_
  rintro e w1 ⟨ao, cap, rfl, hrow, hbel⟩
  clear hrow
  obtain ⟨hc, hf⟩ := bcell hbel
  have hz : w.heap.size + 1 ≤ w1.heap.size := by have := hbel.size; simp at this; omega
  have HB0 : Hid (Below w.heap.size w w1) := hide (((Below.refl _ _).alloc (Nat.le_refl _) _).trans (hbel.mono (by simp)))
  go_wp2
  refine bodyPost_ret (v := .tuple #[.agg #[.int .i64 0, .int .i64 0, .string ByteArray.empty], .bool false]) (by simp [results, Tryd.results55, go_sem, hc]; rfl) rfl ⟨rfl, ?_⟩
  exact (((unhide HB0).setCell (by simp) _).setCell (by simp) _).setCell (by simp) _
theorem rd_no {a b c : Str} (h : (number a 1 99).2 = false ∨ (number b 0 99).2 = false ∨ isName c (number a 1 99).1 = false) : ((number a 1 99).2 && (number b 0 99).2 && isName c (number a 1 99).1) = false := by
  rcases h with h | h | h <;> rw [h] <;> simp
set_option maxHeartbeats 2000000 in
theorem readNode_yes (s : ByteArray) (w : World) (hs : s.size ≤ 4000) (a b c : Str) (h3 : parts (sl s) = [a, b, c]) :
    Calls Tryd.prog 55 #[.string s] w fun e w' => e = .returned (.tuple #[.agg #[.int .i64 ((readNode (sl s)).getD nd0).id, .int .i64 ((readNode (sl s)).getD nd0).parent, .string (bs ((readNode (sl s)).getD nd0).name)], .bool (readNode (sl s)).isSome]) ∧ Below w.heap.size w w' := by
  have HP : Hid (∀ W, Calls Tryd.prog 73 #[.string s] W fun e w' => ∃ ao cap, e = .returned (.slice ao 3 cap) ∧ Row w' ao 3 1 [.string (bs a), .string (bs b), .string (bs c)] ∧ Below W.heap.size W w') := by
    apply hide; intro W; have := parts_any s W hs; rw [h3] at this; exact this
  have HR := hide (readNode_three h3)
  have hl : ∀ x ∈ [a, b, c], x.length ≤ 4000 := fun x hx => by have := part_len (sl s) x (by rw [h3]; exact hx); rw [sl_length] at this; omega
  have hla : (bs a).size ≤ 4000 := by rw [bs_size]; exact hl a (by simp)
  have hlb : (bs b).size ≤ 4000 := by rw [bs_size]; exact hl b (by simp)
  have hlc : (bs c).size ≤ 4000 := by rw [bs_size]; exact hl c (by simp)
  clear hl
  have HA := hide (fun W => number_any (bs a) 1 99 W hla (by omega) (by omega))
  have HB := hide (fun W => number_any (bs b) 0 99 W hlb (by omega) (by omega))
  rw [sl_bs] at HA HB
  have na := number_bd a 1 99 (by omega)
  have HC := hide (fun W => isName_any (bs c) (number a 1 99).1 W hlc na.1 na.2)
  rw [sl_bs] at HC
  have nb := number_bd b 0 99 (by omega)
  have HRD := hide (@rd_no a b c)
  generalize (number a 1 99).1 = x at *
  generalize (number a 1 99).2 = p at *
  generalize (number b 0 99).1 = y at *
  generalize (number b 0 99).2 = q at *
  generalize isName c x = r at *
  generalize readNode (sl s) = R at *
  clear h3
  cases p
  · have HF : Hid (R = none) := by apply hide; rw [unhide HR]; simp
    have hR := unhide HF
    subst hR
    go_enter Tryd.func55, Tryd.ntmps55
    go_wp2_with fail
    refine (unhide HP _).mono ?_
    rintro e w1 ⟨ao, cap, rfl, hrow, hbel⟩
    obtain ⟨g, hao, hg, hcel⟩ := hrow.2 (by omega)
    rw [hao]
    have c0 := hcel 0 _ rfl
    have c1 := hcel 1 _ rfl
    clear hcel hao hrow
    obtain ⟨hc, hf⟩ := bcell hbel
    have hz : w.heap.size + 1 ≤ w1.heap.size := by have := hbel.size; simp at this; omega
    have HB0 : Hid (Below w.heap.size w w1) := hide (((Below.refl _ _).alloc (Nat.le_refl _) _).trans (hbel.mono (by simp)))
    clear hbel
    go_wp2_with fail
    refine (unhide HA _).mono ?_
    rintro e w2 ⟨rfl, rfl⟩
    go_wp2_with fail
    refine (unhide HB _).mono ?_
    rintro e w3 ⟨rfl, rfl⟩
    go_wp2
    refine bodyPost_ret (v := .tuple #[.agg #[.int .i64 0, .int .i64 0, .string ByteArray.empty], .bool false]) (by simp [results, Tryd.results55, go_sem, hc]; rfl) rfl ⟨rfl, ?_⟩
    exact (((unhide HB0).setCell (by simp) _).setCell (by simp) _).setCell (by simp) _
  · cases q
    · have HF : Hid (R = none) := by apply hide; rw [unhide HR]; simp
      have hR := unhide HF
      subst hR
      go_enter Tryd.func55, Tryd.ntmps55
      go_wp2_with fail
      refine (unhide HP _).mono ?_
      rintro e w1 ⟨ao, cap, rfl, hrow, hbel⟩
      obtain ⟨g, hao, hg, hcel⟩ := hrow.2 (by omega)
      rw [hao]
      have c0 := hcel 0 _ rfl
      have c1 := hcel 1 _ rfl
      have c2 := hcel 2 _ rfl
      clear hcel hao hrow
      obtain ⟨hc, hf⟩ := bcell hbel
      have hz : w.heap.size + 1 ≤ w1.heap.size := by have := hbel.size; simp at this; omega
      have HB0 : Hid (Below w.heap.size w w1) := hide (((Below.refl _ _).alloc (Nat.le_refl _) _).trans (hbel.mono (by simp)))
      clear hbel
      go_wp2_with fail
      refine (unhide HA _).mono ?_
      rintro e w2 ⟨rfl, rfl⟩
      go_wp2_with fail
      refine (unhide HB _).mono ?_
      rintro e w3 ⟨rfl, rfl⟩
      go_wp2
      refine bodyPost_ret (v := .tuple #[.agg #[.int .i64 0, .int .i64 0, .string ByteArray.empty], .bool false]) (by simp [results, Tryd.results55, go_sem, hc]; rfl) rfl ⟨rfl, ?_⟩
      exact (((unhide HB0).setCell (by simp) _).setCell (by simp) _).setCell (by simp) _
    · cases r
      · have HF : Hid (R = none) := by apply hide; rw [unhide HR]; simp
        have hR := unhide HF
        subst hR
        go_enter Tryd.func55, Tryd.ntmps55
        go_wp2_with fail
        refine (unhide HP _).mono ?_
        rintro e w1 ⟨ao, cap, rfl, hrow, hbel⟩
        obtain ⟨g, hao, hg, hcel⟩ := hrow.2 (by omega)
        rw [hao]
        have c0 := hcel 0 _ rfl
        have c1 := hcel 1 _ rfl
        have c2 := hcel 2 _ rfl
        clear hcel hao hrow
        obtain ⟨hc, hf⟩ := bcell hbel
        have hz : w.heap.size + 1 ≤ w1.heap.size := by have := hbel.size; simp at this; omega
        have HB0 : Hid (Below w.heap.size w w1) := hide (((Below.refl _ _).alloc (Nat.le_refl _) _).trans (hbel.mono (by simp)))
        clear hbel
        go_wp2_with fail
        refine (unhide HA _).mono ?_
        rintro e w2 ⟨rfl, rfl⟩
        go_wp2_with fail
        refine (unhide HB _).mono ?_
        rintro e w3 ⟨rfl, rfl⟩
        go_wp2_with fail
        refine (unhide HC _).mono ?_
        rintro e w4 ⟨rfl, nd, rfl⟩
        go_wp2
        refine bodyPost_ret (v := .tuple #[.agg #[.int .i64 0, .int .i64 0, .string ByteArray.empty], .bool false]) (by simp [results, Tryd.results55, go_sem, hc]; rfl) rfl ⟨rfl, ?_⟩
        exact (((below_drewN (unhide HB0) _).setCell (by simp) _).setCell (by simp) _).setCell (by simp) _
      · have HF : Hid (R = some ⟨x, y, c⟩) := by apply hide; rw [unhide HR]; simp
        have hR := unhide HF
        subst hR
        go_enter Tryd.func55, Tryd.ntmps55
        go_wp2_with fail
        refine (unhide HP _).mono ?_
        rintro e w1 ⟨ao, cap, rfl, hrow, hbel⟩
        obtain ⟨g, hao, hg, hcel⟩ := hrow.2 (by omega)
        rw [hao]
        have c0 := hcel 0 _ rfl
        have c1 := hcel 1 _ rfl
        have c2 := hcel 2 _ rfl
        clear hcel hao hrow
        obtain ⟨hc, hf⟩ := bcell hbel
        have hz : w.heap.size + 1 ≤ w1.heap.size := by have := hbel.size; simp at this; omega
        have HB0 : Hid (Below w.heap.size w w1) := hide (((Below.refl _ _).alloc (Nat.le_refl _) _).trans (hbel.mono (by simp)))
        clear hbel
        go_wp2_with fail
        refine (unhide HA _).mono ?_
        rintro e w2 ⟨rfl, rfl⟩
        go_wp2_with fail
        refine (unhide HB _).mono ?_
        rintro e w3 ⟨rfl, rfl⟩
        go_wp2_with fail
        refine (unhide HC _).mono ?_
        rintro e w4 ⟨rfl, nd, rfl⟩
        go_wp2
        refine bodyPost_ret (v := .tuple #[.agg #[.int .i64 x, .int .i64 y, .string (bs c)], .bool true]) (by simp [results, Tryd.results55, go_sem, hc]) rfl ⟨rfl, ?_⟩
        exact (((below_drewN (unhide HB0) _).setCell (by simp) _).setCell (by simp) _).setCell (by simp) _
theorem readNode_any (s : ByteArray) (w : World) (hs : s.size ≤ 4000) :
    Calls Tryd.prog 55 #[.string s] w fun e w' => e = .returned (.tuple #[.agg #[.int .i64 ((readNode (sl s)).getD nd0).id, .int .i64 ((readNode (sl s)).getD nd0).parent, .string (bs ((readNode (sl s)).getD nd0).name)], .bool (readNode (sl s)).isSome]) ∧ Below w.heap.size w w' := by
  by_cases h3 : (parts (sl s)).length = 3
  · obtain ⟨a, b, c, e⟩ := len3 h3
    exact readNode_yes s w hs a b c e
  · rw [readNode_other h3]
    exact readNode_no s w hs h3
end Go.Proofs.YtdcjimlhaklhfaaDoor

namespace Go.Proofs.YtdcjimlhaklhfaaDoor
open Go.RowKit
def ndC (n : Nd) : List Value := [.int .i64 n.id, .int .i64 n.parent, .string (bs n.name)]
def ndCells (l : List Nd) : List Value := l.flatMap ndC
theorem ndCells_length (l : List Nd) : (ndCells l).length = l.length * 3 := by
  induction l with
  | nil => rfl
  | cons n l ih => simp only [ndCells, List.flatMap_cons, List.length_append] at ih ⊢; simp [ndC] at ih ⊢; omega
theorem ndCells_snoc (l : List Nd) (n : Nd) : ndCells (l ++ [n]) = ndCells l ++ ndC n := by simp [ndCells]
theorem ndCells_get (l : List Nd) (k : Nat) (h : k < l.length) :
    (ndCells l)[k * 3]? = some (.int .i64 (l[k]).id) ∧ (ndCells l)[k * 3 + 1]? = some (.int .i64 (l[k]).parent) ∧ (ndCells l)[k * 3 + 2]? = some (.string (bs (l[k]).name)) := by
  induction l generalizing k with
  | nil => simp at h
  | cons n l ih =>
    cases k with
    | zero => simp [ndCells, ndC]
    | succ k =>
      have := ih k (by simpa using h)
      have e : ndCells (n :: l) = ndC n ++ ndCells l := rfl
      rw [e, show (k + 1) * 3 = 3 + k * 3 by omega]
      have hl : (ndC n).length = 3 := rfl
      refine ⟨?_, ?_, ?_⟩
      · rw [List.getElem?_append_right (by rw [hl]; omega), hl]; simpa using this.1
      · rw [List.getElem?_append_right (by rw [hl]; omega), hl, show 3 + k * 3 + 1 - 3 = k * 3 + 1 by omega]; simpa using this.2.1
      · rw [List.getElem?_append_right (by rw [hl]; omega), hl, show 3 + k * 3 + 2 - 3 = k * 3 + 2 by omega]; simpa using this.2.2
theorem Tryd.infoNode : (Tryd.prog.info? 56).map (fun i => (i.zero, i.size, i.bytes)) = some (some (.agg #[.int .i64 0, .int .i64 0, .string ByteArray.empty]), 3, 32) := by kernel_rfl
theorem news_three {w : World} (a b c : Value) (t : TypeId) : ∀ j x, [a, b, c][j]? = some x → (w.alloc (.cells #[a, b, c] t)).cell? ((⟨w.heap.size, 0, none⟩ : Addr).add j) = some x := by
  intro j x hx
  exact World.news_of_block (cs := #[a, b, c]) (heap_alloc_new w _) j x hx
theorem news_three' {w : World} (o : Obj) (a b c : Value) (t : TypeId) : ∀ j x, [a, b, c][j]? = some x → ((w.alloc o).alloc (.cells #[a, b, c] t)).cell? ((⟨w.heap.size + 1, 0, none⟩ : Addr).add j) = some x := by
  have := @news_three (w.alloc o) a b c t
  simpa using this
/-- Where readNodes stands behind k records. -/
def RdInv (rs : List Str) (k : Nat) (ns : List Nd) : Prop := ns.length = k ∧ readNodes rs = ns ++ readNodes (rs.drop k)
theorem rdInv_yes {rs : List Str} {k : Nat} {ns : List Nd} (h : RdInv rs k ns) (hk : k < rs.length) {n : Nd} (hn : recNode rs[k] = some n) : RdInv rs (k + 1) (ns ++ [n]) := by
  refine ⟨by simp [h.1], ?_⟩
  rw [h.2, List.drop_eq_getElem_cons hk, readNodes, hn]; simp
theorem rdInv_no {rs : List Str} {k : Nat} {ns : List Nd} (h : RdInv rs k ns) (hk : k < rs.length) (hn : recNode rs[k] = none) : readNodes rs = ns := by
  rw [h.2, List.drop_eq_getElem_cons hk, readNodes, hn]; simp
theorem rdInv_end {rs : List Str} {k : Nat} {ns : List Nd} (h : RdInv rs k ns) (hk : ¬ k < rs.length) : readNodes rs = ns := by
  rw [h.2, List.drop_eq_nil_of_le (by omega)]; simp [readNodes]
theorem str_cell {w wr : World} {ao : Option Addr} {rs : List Str} (hrow : Row w ao rs.length 1 (rs.map strV)) (hb : Below w.heap.size w wr) {k : Nat} (hk : k < rs.length) :
    ∃ g, ao = some ⟨g, 0, none⟩ ∧ g < w.heap.size ∧ wr.cell? ⟨g, k, none⟩ = some (.string (bs rs[k])) := by
  obtain ⟨g, h1, h2, h3⟩ := hrow.2 (by omega)
  refine ⟨g, h1, h2, ?_⟩
  rw [hb.cell (p := ⟨g, k, none⟩) h2]
  exact h3 k _ (by simp [hk, strV])
theorem own_below {wr w2 : World} {base : Nat} {e : TypeId} {size : Nat} {v : Value} {n : Nat} {xs : List Value} (h : wr.ownsRow base e size v n xs) (hb : Below wr.heap.size wr w2) : w2.ownsRow base e size v n xs := by
  obtain ⟨h1, h2⟩ := h
  refine ⟨h1, ?_⟩
  rcases h2 with h2 | ⟨g, cap, cur, hv, hg, hh, r⟩
  · exact Or.inl h2
  · exact Or.inr ⟨g, cap, cur, hv, hg, by rw [hb.block g (lt_of_block hh)]; exact hh, r⟩
set_option maxHeartbeats 2000000 in
theorem readNodes_any (rs : List Str) (ao : Option Addr) (cap : Nat) (w : World) (hrow : Row w ao rs.length 1 (rs.map strV)) (hl : ∀ r ∈ rs, r.length ≤ 4000) (hn : rs.length ≤ 4000) :
    Calls Tryd.prog 38 #[.slice ao rs.length cap] w fun e w' => ∃ ao' cap', e = .returned (.slice ao' (readNodes rs).length cap') ∧ Row w' ao' (readNodes rs).length 3 (ndCells (readNodes rs)) ∧ Below w.heap.size w w' := by
  obtain ⟨i0, hi, hz0, hz1, hz2⟩ := info_parts Tryd.infoNode
  have HROW := hide hrow; clear hrow
  have HL := hide hl; clear hl
  go_enter Tryd.func38, Tryd.ntmps38
  go_wp2
  go_loopw [3, 12] (fun v i wr => ∃ k : Nat, ∃ ns : List Nd, k ≤ rs.length ∧ i = .int .i64 k ∧ wr.ownsRow w.heap.size 56 3 v k (ndCells ns) ∧ Below w.heap.size w wr ∧ Hid (RdInv rs k ns)) (fun _ i _ => rs.length - (intOf i).toNat)
  case atStart => exact ⟨0, [], Nat.zero_le _, rfl, World.ownsRow_nil _ _ _ _, Below.refl _ _, hide ⟨rfl, rfl⟩⟩
  case round =>
    obtain ⟨k, ns, hk, rfl, hown, hbel, HI⟩ := hrel
    by_cases hlt : k < rs.length
    · obtain ⟨g, hao, hg, hcell⟩ := str_cell (unhide HROW) hbel hlt
      rw [hao]
      have hrl : (rs[k]).length ≤ 4000 := unhide HL _ (List.getElem_mem hlt)
      have HBO := hide (fun W => body_any (bs rs[k]) W (by rw [bs_size]; exact hrl))
      rw [sl_bs] at HBO
      have HRD := hide (fun W => readNode_any (bs (bodyS rs[k])) W (by rw [bs_size]; have := bodyS_len rs[k]; omega))
      rw [sl_bs] at HRD
      have HREC : Hid (recNode rs[k] = if bodyB rs[k] then readNode (bodyS rs[k]) else none) := hide rfl
      have hsz := hbel.size
      clear hao
      generalize hr : rs[k] = r at *
      have HR := hide hr; clear hr
      generalize bodyB r = bb at *
      generalize bodyS r = bsr at *
      generalize readNode bsr = R at *
      rcases (show bb = false ∨ (bb = true ∧ R = none) ∨ ∃ n, bb = true ∧ R = some n from by cases bb <;> cases R <;> simp) with hq | ⟨hq, hq'⟩ | ⟨nd, hq, hq'⟩
      · subst hq
        go_wp2_with fail
        refine (unhide HBO _).mono ?_
        rintro e w1 ⟨rfl, rfl⟩
        go_wp2_with fail
        refine (unhide HRD _).mono ?_
        rintro e w2 ⟨rfl, hb2⟩
        have HB3 := hide (hbel.trans (hb2.mono hbel.size))
        have HOWN := hide (own_below hown hb2)
        have hz3 := hb2.size
        have HN := hide (rdInv_no (unhide HI) hlt (by rw [unhide HR, unhide HREC]; rfl))
        have HI1 := hide (unhide HI).1
        go_wp2
        go_ret
        have hE := (Below.refl w2.heap.size w2).alloc (Nat.le_refl _) (.cells #[.int .i64 (R.getD nd0).id, .int .i64 (R.getD nd0).parent, .string (bs (R.getD nd0).name)] 56)
        obtain ⟨ao', cap', rfl, hr⟩ := row_of_owns (own_below (unhide HOWN) hE)
        rw [unhide HN]
        rw [← unhide HI1] at hr
        exact ⟨ao', cap', by rw [unhide HI1]; rfl, hr, (unhide HB3).trans (hE.mono (by have := hbel.size; omega))⟩
      · subst hq hq'
        go_wp2_with fail
        refine (unhide HBO _).mono ?_
        rintro e w1 ⟨rfl, rfl⟩
        go_wp2_with fail
        refine (unhide HRD _).mono ?_
        rintro e w2 ⟨rfl, hb2⟩
        have HB3 := hide (hbel.trans (hb2.mono hbel.size))
        have HOWN := hide (own_below hown hb2)
        have hz3 := hb2.size
        have HN := hide (rdInv_no (unhide HI) hlt (by rw [unhide HR, unhide HREC]; rfl))
        have HI1 := hide (unhide HI).1
        go_wp2
        go_ret
        have hE := (Below.refl w2.heap.size w2).alloc (Nat.le_refl _) (.cells #[.int .i64 nd0.id, .int .i64 nd0.parent, .string (bs nd0.name)] 56)
        obtain ⟨ao', cap', rfl, hr⟩ := row_of_owns (own_below (unhide HOWN) hE)
        rw [unhide HN]
        rw [← unhide HI1] at hr
        exact ⟨ao', cap', by rw [unhide HI1]; rfl, hr, (unhide HB3).trans (hE.mono (by have := hbel.size; omega))⟩
      · subst hq hq'
        go_wp2_with fail
        refine (unhide HBO _).mono ?_
        rintro e w1 ⟨rfl, rfl⟩
        go_wp2_with fail
        refine (unhide HRD _).mono ?_
        rintro e w2 ⟨rfl, hb2⟩
        have HB3 := hide (hbel.trans (hb2.mono hbel.size))
        have HOWN := hide (own_below hown hb2)
        have hz3 := hb2.size
        go_wp2_with (first
          | (at_builtin; (refine wpList_append_own _ rfl _ _ 77 rfl w.heap.size 56 i0 (.agg #[.int .i64 0, .int .i64 0, .string ByteArray.empty]) 3 32 Tryd.underlying77 hi hz0 hz1 hz2 rfl (by decide) _ _ _ rfl (own_below (unhide HOWN) (((Below.refl _ _).alloc (Nat.le_refl _) _).alloc (by simp) _)) ⟨w2.heap.size + 1, 0, none⟩ 1 1 [.int .i64 nd.id, .int .i64 nd.parent, .string (bs nd.name)] rfl rfl (news_three' _ _ _ _ _) (by simp [Value.oneCell']) (by unfold maxLen; omega) (by omega) (by have := hbel.size; simp; omega) ?_))
          | go_in)
        intro v' w3 hown' hgrow _
        have HN := hide (rdInv_yes (unhide HI) hlt (n := nd) (by rw [unhide HR, unhide HREC]; rfl))
        have hb4 : Below w.heap.size w w3 := ((((unhide HB3).alloc (by have := hbel.size; omega) _).alloc (by have := hbel.size; simp; omega) _)).grown hgrow (by have := hbel.size; simp; omega) (own_ge hown)
        have hown2 : w3.ownsRow w.heap.size 56 3 v' (k + 1) (ndCells (ns ++ [nd])) := by rw [ndCells_snoc]; exact hown'
        clear hgrow hown hbel hown' hb2
        go_wp2
        go_roundw
        case rel => exact ⟨k + 1, _, by omega, by go_num, hown2, hb4, HN⟩
        case measure => simp [intOf]; omega
    · have HN := hide (rdInv_end (unhide HI) hlt)
      have HI1 := hide (unhide HI).1
      go_wp2
      go_ret
      obtain ⟨ao', cap', rfl, hr⟩ := row_of_owns hown
      rw [unhide HN]
      rw [← unhide HI1] at hr
      exact ⟨ao', cap', by rw [unhide HI1]; rfl, hr, hbel⟩
end Go.Proofs.YtdcjimlhaklhfaaDoor

namespace Go.Proofs.YtdcjimlhaklhfaaDoor
open Go.RowKit
/-! The tree in memory. -/
def treeCells (t : Tr) : List Value := (List.range 100).map (fun i => .bool (t i).isSome) ++ ndCells ((List.range 100).map fun i => (t i).getD nd0)
theorem treeCells_length (t : Tr) : (treeCells t).length = 400 := by simp [treeCells, ndCells_length]
theorem treeCells_here (t : Tr) (i : Nat) (h : i < 100) : (treeCells t)[i]? = some (.bool (t i).isSome) := by
  unfold treeCells; rw [List.getElem?_append_left (by simpa using h)]; simp [h]
theorem treeCells_node (t : Tr) (i : Nat) (h : i < 100) : (treeCells t)[100 + i * 3]? = some (.int .i64 ((t i).getD nd0).id) ∧ (treeCells t)[100 + i * 3 + 1]? = some (.int .i64 ((t i).getD nd0).parent) ∧ (treeCells t)[100 + i * 3 + 2]? = some (.string (bs ((t i).getD nd0).name)) := by
  have := ndCells_get ((List.range 100).map fun i => (t i).getD nd0) i (by simpa using h)
  simp only [List.getElem_map, List.getElem_range] at this
  unfold treeCells
  refine ⟨?_, ?_, ?_⟩
  · rw [List.getElem?_append_right (by rw [List.length_map, List.length_range]; omega)]; simpa [Nat.add_sub_cancel_left] using this.1
  · rw [List.getElem?_append_right (by rw [List.length_map, List.length_range]; omega)]; simpa [Nat.add_assoc, Nat.add_sub_cancel_left] using this.2.1
  · rw [List.getElem?_append_right (by rw [List.length_map, List.length_range]; omega)]; simpa [Nat.add_assoc, Nat.add_sub_cancel_left] using this.2.2
/-- What lies behind the tree in its block, and the block's type. -/
structure Ext where
  rest : List Value
  ty : TypeId
def ext0 : Ext := ⟨[], 59⟩
def TreeAt (x : Ext) (w : World) (b : Nat) (t : Tr) : Prop := w.heap[b]? = some (.cells (treeCells t ++ x.rest).toArray x.ty (0, 0))
theorem TreeAt.cell {x : Ext} {w : World} {b : Nat} {t : Tr} (h : TreeAt x w b t) (j : Nat) (hj : j < 400 := by omega) : w.cell? ⟨b, j, none⟩ = (treeCells t)[j]? := by
  rw [cell_of_row w b j _ _ (0, 0) h]; simp only [List.getElem?_toArray]; rw [List.getElem?_append_left (by rw [treeCells_length]; exact hj)]
theorem TreeAt.here {x : Ext} {w : World} {b : Nat} {t : Tr} (h : TreeAt x w b t) (i : Nat) (hi : i < 100) : w.cell? ⟨b, i, none⟩ = some (.bool (t i).isSome) := by rw [h.cell i, treeCells_here t i hi]
theorem TreeAt.lt {x : Ext} {w : World} {b : Nat} {t : Tr} (h : TreeAt x w b t) : b < w.heap.size := lt_of_block h
theorem TreeAt.below {x : Ext} {w w' : World} {b : Nat} {t : Tr} (h : TreeAt x w b t) (hb : Below w.heap.size w w') : TreeAt x w' b t := by
  unfold TreeAt; rw [hb.block b h.lt]; exact h
theorem TreeAt.drewN {x : Ext} {w : World} {b : Nat} {t : Tr} (h : TreeAt x w b t) (n : Nat) : TreeAt x (w.drewN n) b t := h
set_option maxHeartbeats 400000 in
theorem has_nat {x : Ext} (t : Tr) (b m : Nat) (w : World) (ht : TrOk t) (hm : m ≤ 99) (hT : TreeAt x w b t) :
    Calls Tryd.prog 77 #[.pointer (some ⟨b, 0, none⟩), .int .i64 m] w fun e w' => e = .returned (.bool (t m).isSome) ∧ w' = w := by
  have hcell := hT.here m (by omega)
  have HT0 := hide ht.1
  clear hT ht
  by_cases h1 : 1 ≤ m
  · go_enter Tryd.func77, Tryd.ntmps77
    go_wp2
    go_ret
    exact ⟨rfl, rfl⟩
  · have hm0 : m = 0 := by omega
    subst hm0
    go_enter Tryd.func77, Tryd.ntmps77
    go_wp2
    go_ret
    exact ⟨by rw [unhide HT0]; rfl, rfl⟩
theorem has_any {x : Ext} (t : Tr) (b : Nat) (id : Int) (w : World) (ht : TrOk t) (h0 : 0 ≤ id) (h1 : id ≤ 99) (hT : TreeAt x w b t) :
    Calls Tryd.prog 77 #[.pointer (some ⟨b, 0, none⟩), .int .i64 id] w fun e w' => e = .returned (.bool (hasT t id)) ∧ w' = w := by
  obtain ⟨m, rfl⟩ := Int.eq_ofNat_of_zero_le h0
  exact has_nat t b m w ht (by omega) hT
set_option maxHeartbeats 400000 in
theorem isParent_any {x : Ext} (t : Tr) (b : Nat) (id : Int) (w : World) (ht : TrOk t) (h0 : 0 ≤ id) (h1 : id ≤ 99) (hT : TreeAt x w b t) :
    Calls Tryd.prog 75 #[.pointer (some ⟨b, 0, none⟩), .int .i64 id] w fun e w' => e = .returned (.bool (isParentT t id)) ∧ w' = w := by
  have HH := hide (has_any t b id w ht h0 h1 hT)
  have HF := hide (isFolder_any id w h0 (by omega))
  have HP : Hid (isParentT t id = (id == 0 || (id % 2 == 0 && hasT t id))) := hide rfl
  clear ht hT
  generalize hasT t id = r at *
  by_cases hz : id = 0
  · subst hz
    go_enter Tryd.func75, Tryd.ntmps75
    go_wp2
    go_ret
    exact ⟨ret_bool (by rw [unhide HP]; rfl), rfl⟩
  · have hz' : (id == 0) = false := by simpa using hz
    by_cases he : id % 2 = 0
    · have he' : (id % 2 == 0) = true := by simpa using he
      have HE := hide he; clear he
      have HZ := hide hz'
      rw [he'] at HF
      go_enter Tryd.func75, Tryd.ntmps75
      go_wp2_with (first | (go_at_call 91; refine (unhide HF).mono ?_; rintro e w' ⟨rfl, rfl⟩) | (go_at_call 77; refine (unhide HH).mono ?_; rintro e w' ⟨rfl, rfl⟩))
      go_ret
      exact ⟨ret_bool (by rw [unhide HP, unhide HZ, show (id % 2 == 0) = true by simpa using unhide HE]; rfl), rfl⟩
    · have he' : (id % 2 == 0) = false := by simpa using he
      have HE := hide he; clear he
      have HZ := hide hz'
      rw [he'] at HF
      go_enter Tryd.func75, Tryd.ntmps75
      go_wp2_with (first | (go_at_call 91; refine (unhide HF).mono ?_; rintro e w' ⟨rfl, rfl⟩) | (go_at_call 77; refine (unhide HH).mono ?_; rintro e w' ⟨rfl, rfl⟩))
      go_ret
      exact ⟨ret_bool (by rw [unhide HP, unhide HZ, show (id % 2 == 0) = false by simpa using unhide HE]; rfl), rfl⟩
theorem meetsF_hit (t : Tr) (f : Nat) (id : Int) : meetsF t (f + 1) id id = true := by simp [meetsF]
theorem meetsF_none {t : Tr} {f : Nat} {id goal : Int} (h : ¬ id = goal) (hn : t id.toNat = none) : meetsF t (f + 1) id goal = false := by simp [meetsF, h, hn]
theorem meetsF_some {t : Tr} {f : Nat} {id goal : Int} {n : Nd} (h : ¬ id = goal) (hn : t id.toNat = some n) : meetsF t (f + 1) id goal = meetsF t f n.parent goal := by simp [meetsF, h, hn]
set_option maxHeartbeats 1000000 in
theorem meets_any {x : Ext} (t : Tr) (b : Nat) (id goal : Int) (w : World) (ht : TrOk t) (h0 : 0 ≤ id) (h1 : id ≤ 99) (hT : TreeAt x w b t) :
    Calls Tryd.prog 76 #[.pointer (some ⟨b, 0, none⟩), .int .i64 id, .int .i64 goal] w fun e w' => e = .returned (.bool (meetsT t id goal)) ∧ w' = w := by
  have HO := hide ht
  have HT := hide hT
  clear ht hT
  have HM : Hid (meetsT t id goal = meetsF t 100 id goal) := hide rfl
  generalize meetsT t id goal = M at *
  go_enter Tryd.func76, Tryd.ntmps76
  go_wp2
  go_loop [7, 8] (fun d i => ∃ k : Nat, ∃ m : Int, k ≤ 100 ∧ i = .int .i64 k ∧ d = .int .i64 m ∧ 0 ≤ m ∧ m ≤ 99 ∧ Hid (M = meetsF t (100 - k) m goal)) (fun _ i => 101 - (intOf i).toNat)
  case atStart => exact ⟨0, id, by omega, rfl, rfl, h0, h1, HM⟩
  case round =>
    obtain ⟨k, m, hk, rfl, rfl, hm0, hm1, HI⟩ := hrel
    by_cases hlt : k ≤ 99
    · have hf : 100 - k = (99 - k) + 1 := by omega
      have HI2 : Hid (M = meetsF t ((99 - k) + 1) m goal) := by apply hide; rw [← hf]; exact unhide HI
      clear hf HI HM
      by_cases hg : m = goal
      · subst hg
        have hM := unhide HI2
        rw [meetsF_hit] at hM
        have HMt := hide hM; clear hM
        go_wp2
        go_ret
        exact ⟨ret_bool (unhide HMt).symm, rfl⟩
      · have hg' : (m == goal) = false := by simpa using hg
        obtain ⟨mn, rfl⟩ := Int.eq_ofNat_of_zero_le hm0
        have HH := hide (has_nat t b mn w (unhide HO) (by omega) (unhide HT))
        cases hn : t mn with
        | none =>
          have HMf := hide ((unhide HI2).trans (meetsF_none hg (by simpa using hn)))
          rw [hn] at HH
          clear hn
          go_wp2_with (go_at_call 77; refine (unhide HH).mono ?_; rintro e w' ⟨rfl, rfl⟩)
          go_ret
          exact ⟨ret_bool (unhide HMf).symm, rfl⟩
        | some n =>
          have HMf := hide ((unhide HI2).trans (meetsF_some hg (by simpa using hn)))
          have hb := (unhide HO).2 mn n hn
          have hcell := (unhide HT).cell (100 + mn * 3 + 1)
          rw [(treeCells_node t mn (by omega)).2.1, hn] at hcell
          rw [hn] at HH
          have hp0 : 0 ≤ n.parent := hb.2.2.2.1
          have hp1 : n.parent ≤ 99 := hb.2.2.2.2.1
          clear hn hb
          go_wp2_with (go_at_call 77; refine (unhide HH).mono ?_; rintro e w' ⟨rfl, rfl⟩)
          go_round
          case rel => exact ⟨k + 1, n.parent, by omega, by go_num, rfl, hp0, hp1, by apply hide; rw [show 100 - (k + 1) = 99 - k by omega]; exact unhide HMf⟩
          case measure => simp [intOf]; omega
    · have HMf : Hid (M = false) := by apply hide; rw [unhide HI, show 100 - k = 0 by omega]; rfl
      go_wp2
      go_ret
      exact ⟨ret_bool (unhide HMf).symm, rfl⟩
/-- put -/
theorem treeCells_put (t : Tr) (n : Nd) (m : Nat) (hm : n.id = m) (h : m < 100) :
    ((((treeCells t).set m (.bool true)).set (100 + m * 3) (.int .i64 n.id)).set (100 + m * 3 + 1) (.int .i64 n.parent)).set (100 + m * 3 + 2) (.string (bs n.name)) = treeCells (trPut t n) := by
  apply List.ext_getElem?
  intro j
  simp only [List.getElem?_set, List.length_set, treeCells_length]
  by_cases hj : j < 100
  · rw [treeCells_here _ j hj, treeCells_here _ j hj]
    rw [if_neg (by omega), if_neg (by omega), if_neg (by omega)]
    unfold trPut
    by_cases e : m = j
    · subst e; rw [if_pos rfl, if_pos (by omega), if_pos (by omega)]; rfl
    · rw [if_neg e, if_neg (by omega)]
  · by_cases hj4 : j < 400
    · obtain ⟨i, r, hi, hr, rfl⟩ : ∃ i r, i < 100 ∧ r < 3 ∧ j = 100 + i * 3 + r := ⟨(j - 100) / 3, (j - 100) % 3, by omega, by omega, by omega⟩
      have ht := treeCells_node t i hi
      have hp := treeCells_node (trPut t n) i hi
      by_cases e : m = i
      · subst e
        have e1 : trPut t n m = some n := by unfold trPut; rw [if_pos hm.symm]
        rw [e1] at hp
        match r, hr with
        | 0, _ => rw [if_neg (by omega), if_neg (by omega), if_pos (by omega), if_pos (by omega)]; simpa using hp.1.symm
        | 1, _ => rw [if_neg (by omega), if_pos (by omega), if_pos (by omega)]; simpa using hp.2.1.symm
        | 2, _ => rw [if_pos (by omega), if_pos (by omega)]; simpa using hp.2.2.symm
      · have e1 : trPut t n i = t i := by unfold trPut; rw [if_neg (by omega)]
        rw [e1] at hp
        rw [if_neg (by omega), if_neg (by omega), if_neg (by omega), if_neg (by omega)]
        match r, hr with
        | 0, _ => exact ht.1.trans hp.1.symm
        | 1, _ => exact ht.2.1.trans hp.2.1.symm
        | 2, _ => exact ht.2.2.trans hp.2.2.symm
    · rw [if_neg (by omega), if_neg (by omega), if_neg (by omega), if_neg (by omega), List.getElem?_eq_none (by rw [treeCells_length]; omega), List.getElem?_eq_none (by rw [treeCells_length]; omega)]
end Go.Proofs.YtdcjimlhaklhfaaDoor
