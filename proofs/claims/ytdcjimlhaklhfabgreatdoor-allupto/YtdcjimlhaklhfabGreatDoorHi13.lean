import Derived.Test.YtdcjimlhaklhfabGreatDoorHi3
import Derived.Test.YtdcjimlhaklhfabGreatDoorHi11
import Derived.Test.YtdcjimlhaklhfabGreatDoorHi9
import Derived.Test.YtdcjimlhaklhfabGreatDoorHi7
import Derived.Test.YtdcjimlhaklhfabGreatDoorHi5
import Derived.BigQuiet
import Derived.Test.YtdcjimlhaklhfabGreatDoorHi12
namespace Go.Proofs.YtdcjimlhaklhfabGreatDoor
open Go.RowKit
/-! Ops that arrive one by one. -/
theorem dec_no : ∀ (f n : Nat), n ≤ f → ∀ x ∈ dec n, x ≠ 59 ∧ x ≠ 32 := by
  intro f
  induction f with
  | zero => intro n h x hx; have : n = 0 := by omega
            subst this; rw [dec_small (by omega)] at hx; simp at hx; subst hx; decide
  | succ f ih =>
    intro n h x hx
    have hd : ∀ k : Nat, k < 10 → (UInt8.ofNat (48 + k % 10) ≠ 59 ∧ UInt8.ofNat (48 + k % 10) ≠ 32) := by decide
    by_cases hn : n < 10
    · rw [dec_small hn] at hx; simp only [List.mem_singleton] at hx; subst hx; exact hd n hn
    · rw [dec_big hn] at hx
      rcases List.mem_append.1 hx with hx | hx
      · exact ih (n / 10) (by omega) x hx
      · simp only [List.mem_singleton] at hx; subst hx
        have := hd (n % 10) (by omega)
        rwa [Nat.mod_mod] at this
theorem ndW_no {n : Nd} (h : NdW n) : ∀ x ∈ n.name, x ≠ 59 ∧ x ≠ 32 := by
  obtain ⟨h1, h2, _, _, hp⟩ := h
  unfold placeB at hp
  split at hp
  · rw [beq_iff_eq] at hp; rw [hp]; intro x hx; simp at hx; subst hx; decide
  · rw [Bool.and_eq_true] at hp
    exact name_no hp.2 (by omega) h2
def loBody (x : Lo) : Str := dec x.count.toNat ++ [32] ++ dec x.site.toNat ++ [32] ++ dec x.node.id.toNat ++ [32] ++ dec x.node.parent.toNat ++ [32] ++ x.node.name
theorem loText_body (x : Lo) : loText x = loBody x ++ [59] := by simp [loText, loBody]
theorem loBody_no {x : Lo} (h : LoOk x) : ∀ c ∈ loBody x, c ≠ 59 := by
  intro c hc
  unfold loBody at hc
  simp only [List.mem_append, List.mem_singleton] at hc
  have d := fun n => dec_no n n (Nat.le_refl _)
  rcases hc with (((((((hc | hc) | hc) | hc) | hc) | hc) | hc) | hc) | hc
  · exact (d _ c hc).1
  · subst hc; decide
  · exact (d _ c hc).1
  · subst hc; decide
  · exact (d _ c hc).1
  · subst hc; decide
  · exact (d _ c hc).1
  · subst hc; decide
  · exact (ndW_no h.2.2.2.2 c hc).1
theorem cut_log : ∀ (L : List Lo), (∀ x ∈ L, LoOk x) → cut (logText L) = L.map loText := by
  intro L
  induction L with
  | nil => intro _; rfl
  | cons x L ih =>
    intro h
    unfold logText
    rw [List.flatMap_cons, loText_body, cut_cons (loBody_no (h x (by simp)))]
    rw [List.map_cons, loText_body]
    congr 1
    exact ih (fun y hy => h y (by simp [hy]))
/-- A list in its order is told by its members. -/
theorem ahead_irrefl (x : Lo) : ahead x x = false := by
  cases h : ahead x x with
  | false => rfl
  | true => rw [ahead_iff] at h; omega
theorem sorted_eq : ∀ (a b : List Lo), Sorted a → Sorted b → (∀ x, x ∈ a ↔ x ∈ b) → a = b := by
  intro a
  induction a with
  | nil =>
    intro b _ _ h
    cases b with
    | nil => rfl
    | cons y b => exact absurd ((h y).2 (by simp)) (by simp)
  | cons x a ih =>
    intro b ha hb h
    cases b with
    | nil => exact absurd ((h x).1 (by simp)) (by simp)
    | cons y b =>
      have ha' := List.pairwise_cons.1 ha
      have hb' := List.pairwise_cons.1 hb
      have hxy : x = y := by
        rcases List.mem_cons.1 ((h x).1 (by simp)) with e | hx
        · exact e
        · rcases List.mem_cons.1 ((h y).2 (by simp)) with e | hy
          · exact e.symm
          · have := ahead_trans (hb'.1 x hx) (ha'.1 y hy)
            rw [ahead_irrefl] at this; cases this
      subst hxy
      congr 1
      refine ih b ha'.2 hb'.2 (fun z => ?_)
      have hz := h z
      simp only [List.mem_cons] at hz
      constructor
      · intro hza
        rcases hz.1 (.inr hza) with e | hzb
        · subst e; have := ha'.1 z hza; rw [ahead_irrefl] at this; cases this
        · exact hzb
      · intro hzb
        rcases hz.2 (.inr hzb) with e | hza
        · subst e; have := hb'.1 z hzb; rw [ahead_irrefl] at this; cases this
        · exact hza
theorem next_mem (L : List Lo) : ∀ (list : List Lo) (x : Lo), x ∈ list.foldl nextS L → x ∈ L ∨ x ∈ list := by
  refine list_snoc_ind (by simp) ?_
  intro list y ih x hx
  rw [List.foldl_append, List.foldl_cons, List.foldl_nil] at hx
  generalize list.foldl nextS L = N at *
  unfold nextS at hx
  split at hx
  · rcases ih x hx with h | h
    · exact .inl h
    · exact .inr (by simp [h])
  · rcases ins_mem.1 hx with h | h
    · exact .inr (by simp [h])
    · rcases ih x h with h | h
      · exact .inl h
      · exact .inr (by simp [h])
/-- No two with one stamp. -/
def Distinct (l : List Lo) : Prop := l.Pairwise (fun a b => sameStamp a b = false)
theorem hasStamp_next (L : List Lo) (y : Lo) (list : List Lo) : hasStamp (list.foldl nextS L) y = (hasStamp L y || hasStamp list y) := by
  rw [next_fresh, hasStamp_joinAll]
  rw [Bool.eq_iff_iff]
  refine list_snoc_ind (P := fun list => (hasStamp L y || hasStamp (fresh L list) y) = true ↔ (hasStamp L y || hasStamp list y) = true) (by simp [fresh]) ?_ list
  intro list x ih
  rw [fresh_snoc]
  have e : hasStamp (list ++ [x]) y = (hasStamp list y || sameStamp x y) := by simp [hasStamp]
  rw [e]
  unfold freshS
  split
  · rename_i hc
    rw [ih]
    constructor
    · intro h; rw [Bool.or_eq_true] at h ⊢; rcases h with h | h
      · exact .inl h
      · exact .inr (by rw [h]; simp)
    · intro h
      rw [Bool.or_eq_true, Bool.or_eq_true] at h
      rcases h with h | h | h
      · rw [h]; simp
      · rw [h]; simp
      · rw [← ih]
        rw [Bool.or_eq_true] at hc
        have tr : ∀ l : List Lo, hasStamp l x = true → hasStamp l y = true := by
          intro l hl
          unfold hasStamp at hl ⊢
          rw [List.any_eq_true] at hl ⊢
          obtain ⟨z, hz, hs⟩ := hl
          refine ⟨z, hz, ?_⟩
          unfold sameStamp at *
          simp only [Bool.and_eq_true, beq_iff_eq] at *
          omega
        rcases hc with hc | hc
        · rw [tr _ hc]; simp
        · rw [tr _ hc]; simp
  · have e2 : hasStamp (fresh L list ++ [x]) y = (hasStamp (fresh L list) y || sameStamp x y) := by simp [hasStamp]
    rw [e2]
    rw [← Bool.or_assoc, ← Bool.or_assoc, Bool.or_eq_true, Bool.or_eq_true (a := hasStamp L y || hasStamp list y), ih]
theorem distinct_next {list : List Lo} (h : Distinct list) : (list.foldl nextS []).length = list.length ∧ Sorted (list.foldl nextS []) ∧ ∀ x, x ∈ list.foldl nextS [] ↔ x ∈ list := by
  revert h
  refine list_snoc_ind (P := fun list => Distinct list → (list.foldl nextS []).length = list.length ∧ Sorted (list.foldl nextS []) ∧ ∀ x, x ∈ list.foldl nextS [] ↔ x ∈ list) (fun _ => ⟨rfl, List.Pairwise.nil, by simp⟩) ?_ list
  intro list x ih h
  have hp := List.pairwise_append.1 h
  obtain ⟨h1, h2, h3⟩ := ih hp.1
  have hno : hasStamp (list.foldl nextS []) x = false := by
    rw [hasStamp_next]
    cases hq : hasStamp list x with
    | false => simp [hasStamp]
    | true =>
      unfold hasStamp at hq
      rw [List.any_eq_true] at hq
      obtain ⟨y, hy, hs⟩ := hq
      rw [hp.2.2 y hy x (by simp)] at hs; cases hs
  rw [List.foldl_append, List.foldl_cons, List.foldl_nil]
  have e : ∀ N : List Lo, hasStamp N x = false → nextS N x = ins x N := fun N hN => by unfold nextS; rw [hN]; simp
  rw [e _ hno]
  refine ⟨by rw [ins_len, h1]; simp, ins_sorted h2 hno, fun y => ?_⟩
  rw [ins_mem, h3]
  simp only [List.mem_append, List.mem_singleton]
  exact Or.comm
/-- Whatever the order, if no two have one stamp: the same log. -/
theorem orders_meet {a b : List Lo} (ha : Distinct a) (hb : Distinct b) (h : ∀ x, x ∈ a ↔ x ∈ b) : a.foldl nextS [] = b.foldl nextS [] := by
  obtain ⟨_, a2, a3⟩ := distinct_next ha
  obtain ⟨_, b2, b3⟩ := distinct_next hb
  exact sorted_eq _ _ a2 b2 (fun x => by rw [a3, b3, h])
/-! A record by itself. -/
theorem cutTo_form (l : Str) : (∀ r ∈ (cutTo l).1, ∃ a : Str, (∀ x ∈ a, x ≠ 59) ∧ r = a ++ [59]) ∧ ∀ x ∈ (cutTo l).2, x ≠ 59 := by
  refine snoc_ind (P := fun l => (∀ r ∈ (cutTo l).1, ∃ a : Str, (∀ x ∈ a, x ≠ 59) ∧ r = a ++ [59]) ∧ ∀ x ∈ (cutTo l).2, x ≠ 59) (by simp [cutTo]) ?_ l
  rintro l c ⟨h1, h2⟩
  rw [cutTo_snoc]; unfold cutStep
  split
  · rename_i e
    refine ⟨fun r hr => ?_, by simp⟩
    rcases List.mem_append.1 hr with hr | hr
    · exact h1 r hr
    · simp only [List.mem_singleton] at hr; exact ⟨_, h2, by rw [hr, e]⟩
  · rename_i e
    refine ⟨h1, fun x hx => ?_⟩
    rcases List.mem_append.1 hx with hx | hx
    · exact h2 x hx
    · simp only [List.mem_singleton] at hx; rw [hx]; exact e
theorem cut_record {l r : Str} (hr : r ∈ cut l) (hb : bodyB r = true) : cut r = [r] := by
  have hf := cutTo_form l
  have key : ∃ a : Str, (∀ x ∈ a, x ≠ 59) ∧ r = a ++ [59] := by
    unfold cut at hr
    split at hr
    · exact hf.1 r hr
    · rcases List.mem_append.1 hr with hr | hr
      · exact hf.1 r hr
      · simp only [List.mem_singleton] at hr
        subst hr
        unfold bodyB at hb
        rw [beq_iff_eq] at hb
        exact absurd rfl (hf.2 59 (List.mem_of_getLast? hb))
  obtain ⟨a, ha, rfl⟩ := key
  have := cut_cons ha []
  rwa [List.append_nil] at this
theorem readOps_at : ∀ (rs : List Str) (list : List Lo), readOps rs = some list → ∀ k (h : k < rs.length) (h' : k < list.length), readOp rs[k] = some list[k] := by
  intro rs
  induction rs with
  | nil => intro list _ k h; simp at h
  | cons r rs ih =>
    intro list h k hk hk'
    rw [readOps] at h
    cases hr : readOp r with
    | none => rw [hr] at h; cases h
    | some x =>
      rw [hr] at h
      cases hl : readOps rs with
      | none => rw [hl] at h; cases h
      | some l' =>
        rw [hl] at h; cases h
        cases k with
        | zero => simpa using hr
        | succ k => simpa using ih l' hl k (by simpa using hk) (by simpa using hk')
theorem readOp_body {r : Str} {x : Lo} (h : readOp r = some x) : bodyB r = true := by
  unfold readOp at h
  cases hb : bodyB r with
  | true => rfl
  | false => rw [hb] at h; cases h
theorem deliver_one {l r : Str} {x : Lo} {Y : List Lo} (hr : r ∈ cut l) (hx : readOp r = some x) (hlen : r.length ≤ 4000) (hfit : (nextS Y x).length ≤ 150) : deliverT Y r = (nextS Y x, (if hasStamp Y x then 0 else 1), 0) := by
  have hc := cut_record hr (readOp_body hx)
  unfold deliverT
  rw [if_neg (by omega), hc]
  have e : readOps [r] = some [x] := by simp [readOps, hx]
  rw [e]
  have f : fresh Y [x] = if hasStamp Y x then [] else [x] := by
    unfold fresh freshS; simp [hasStamp]
  simp only
  unfold nextS at hfit ⊢
  cases hq : hasStamp Y x with
  | true =>
    rw [hq] at hfit f
    simp only [if_true] at hfit f
    rw [f, if_neg (by simp; omega)]; simp [joinAll]
  | false =>
    rw [hq] at hfit f
    simp only [Bool.false_eq_true, if_false] at hfit f
    rw [ins_len] at hfit
    rw [f, if_neg (by simp; omega)]; simp [joinAll]
theorem next_mono (Y : List Lo) (x : Lo) : Y.length ≤ (nextS Y x).length ∧ (nextS Y x).length = Y.length + (if hasStamp Y x then 0 else 1) := by
  unfold nextS
  cases hasStamp Y x <;> simp [ins_len]
theorem fold_mono (L : List Lo) : ∀ (list : List Lo), L.length ≤ (list.foldl nextS L).length := by
  intro list
  induction list generalizing L with
  | nil => exact Nat.le_refl _
  | cons x list ih => rw [List.foldl_cons]; have := ih (nextS L x); have := (next_mono L x).1; omega
/-! The orders. -/
def turnAt (n from' : Nat) (up : Bool) (i : Nat) : Nat := if up then (from' + i) % n else (from' + n - i) % n
def turned (list : List Lo) (from' : Nat) (up : Bool) : List Lo := (List.range list.length).map fun i => list.getD (turnAt list.length from' up i) lo0
theorem turnAt_lt {n from' : Nat} {up : Bool} {i : Nat} (h : 0 < n) : turnAt n from' up i < n := by
  unfold turnAt; split <;> exact Nat.mod_lt _ h
theorem turnAt_inj {n from' : Nat} {up : Bool} {i j : Nat} (hf : from' < n) (hi : i < n) (hj : j < n) (h : turnAt n from' up i = turnAt n from' up j) : i = j := by
  unfold turnAt at h
  cases up with
  | true =>
    simp only [if_true] at h
    by_cases h1 : from' + i < n
    · by_cases h2 : from' + j < n
      · rw [Nat.mod_eq_of_lt h1, Nat.mod_eq_of_lt h2] at h; omega
      · rw [Nat.mod_eq_of_lt h1, Nat.mod_eq_sub_mod (by omega), Nat.mod_eq_of_lt (by omega)] at h; omega
    · by_cases h2 : from' + j < n
      · rw [Nat.mod_eq_of_lt h2, Nat.mod_eq_sub_mod (by omega), Nat.mod_eq_of_lt (by omega)] at h; omega
      · rw [Nat.mod_eq_sub_mod (by omega), Nat.mod_eq_of_lt (by omega), Nat.mod_eq_sub_mod (a := from' + j) (by omega), Nat.mod_eq_of_lt (by omega)] at h; omega
  | false =>
    simp only [Bool.false_eq_true, if_false] at h
    by_cases h1 : from' + n - i < n
    · by_cases h2 : from' + n - j < n
      · rw [Nat.mod_eq_of_lt h1, Nat.mod_eq_of_lt h2] at h; omega
      · rw [Nat.mod_eq_of_lt h1, Nat.mod_eq_sub_mod (by omega), Nat.mod_eq_of_lt (by omega)] at h; omega
    · by_cases h2 : from' + n - j < n
      · rw [Nat.mod_eq_of_lt h2, Nat.mod_eq_sub_mod (by omega), Nat.mod_eq_of_lt (by omega)] at h; omega
      · rw [Nat.mod_eq_sub_mod (by omega), Nat.mod_eq_of_lt (by omega), Nat.mod_eq_sub_mod (a := from' + n - j) (by omega), Nat.mod_eq_of_lt (by omega)] at h; omega
theorem turnAt_surj {n from' : Nat} (up : Bool) {k : Nat} (hf : from' < n) (hk : k < n) : ∃ i, i < n ∧ turnAt n from' up i = k := by
  unfold turnAt
  cases up with
  | true =>
    simp only [if_true]
    by_cases h : from' ≤ k
    · exact ⟨k - from', by omega, by rw [Nat.mod_eq_of_lt (by omega)]; omega⟩
    · exact ⟨k + n - from', by omega, by rw [Nat.mod_eq_sub_mod (by omega), Nat.mod_eq_of_lt (by omega)]; omega⟩
  | false =>
    simp only [Bool.false_eq_true, if_false]
    by_cases h : k ≤ from'
    · exact ⟨from' - k, by omega, by rw [Nat.mod_eq_sub_mod (by omega), Nat.mod_eq_of_lt (by omega)]; omega⟩
    · exact ⟨from' + n - k, by omega, by rw [Nat.mod_eq_of_lt (by omega)]; omega⟩
theorem turned_length (list : List Lo) (from' : Nat) (up : Bool) : (turned list from' up).length = list.length := by simp [turned]
theorem turned_get {list : List Lo} {from' : Nat} {up : Bool} {i : Nat} (h : i < list.length) : (turned list from' up)[i]'(by rw [turned_length]; exact h) = list[turnAt list.length from' up i]'(turnAt_lt (by omega)) := by
  have ht : turnAt list.length from' up i < list.length := turnAt_lt (by omega)
  simp [turned, ht]
theorem turned_id (list : List Lo) : turned list 0 true = list := by
  apply List.ext_getElem (turned_length _ _ _)
  intro i h1 h2
  rw [turned_get h2]
  congr 1
  unfold turnAt; simp only [if_true, Nat.zero_add]; exact Nat.mod_eq_of_lt h2
theorem turned_mem {list : List Lo} {from' : Nat} (up : Bool) (hf : from' < list.length) (x : Lo) : x ∈ turned list from' up ↔ x ∈ list := by
  constructor
  · intro hx
    obtain ⟨i, hi, rfl⟩ := List.mem_iff_getElem.1 hx
    rw [turned_length] at hi
    rw [turned_get hi]; exact List.getElem_mem _
  · intro hx
    obtain ⟨k, hk, rfl⟩ := List.mem_iff_getElem.1 hx
    obtain ⟨i, hi, e⟩ := turnAt_surj up hf hk
    refine List.mem_iff_getElem.2 ⟨i, by rw [turned_length]; exact hi, ?_⟩
    rw [turned_get hi]
    congr 1
theorem sameStamp_comm (x y : Lo) : sameStamp x y = sameStamp y x := by unfold sameStamp; rw [Bool.eq_iff_iff]; simp only [Bool.and_eq_true, beq_iff_eq]; omega
theorem distinct_at {list : List Lo} (h : Distinct list) {i j : Nat} (hi : i < list.length) (hj : j < list.length) (hne : i ≠ j) : sameStamp list[i] list[j] = false := by
  rcases Nat.lt_or_gt_of_ne hne with h1 | h1
  · exact (List.pairwise_iff_getElem.1 h) i j hi hj h1
  · rw [sameStamp_comm]; exact (List.pairwise_iff_getElem.1 h) j i hj hi h1
theorem turned_distinct {list : List Lo} {from' : Nat} (up : Bool) (hf : from' < list.length) (h : Distinct list) : Distinct (turned list from' up) := by
  unfold Distinct
  rw [List.pairwise_iff_getElem]
  intro i j hi hj hij
  rw [turned_length] at hi hj
  rw [turned_get hi, turned_get hj]
  exact distinct_at h _ _ (fun e => by have := turnAt_inj hf hi hj e; omega)
/-- Where one by one leads. -/
theorem turned_end {list : List Lo} {from' : Nat} {up : Bool} (h : (from' = 0 ∧ up = true) ∨ (from' < list.length ∧ Distinct list)) : (turned list from' up).foldl nextS [] = list.foldl nextS [] := by
  rcases h with ⟨rfl, rfl⟩ | ⟨hf, hd⟩
  · rw [turned_id]
  · exact orders_meet (turned_distinct up hf hd) hd (turned_mem up hf)
/-- As many new as ops: no two have one stamp. -/
theorem fresh_all {list : List Lo} (h : (fresh [] list).length = list.length) : Distinct list := by
  have key : ∀ l : List Lo, (fresh [] l).length ≤ l.length ∧ ((fresh [] l).length = l.length → fresh [] l = l) := by
    refine list_snoc_ind ⟨by simp [fresh], fun _ => rfl⟩ ?_
    intro l x ih
    rw [fresh_snoc]
    unfold freshS
    split
    · refine ⟨by simp; have := ih.1; omega, fun e => ?_⟩
      have := ih.1; simp at e; omega
    · refine ⟨by simp; exact ih.1, fun e => ?_⟩
      simp at e; rw [ih.2 e]
  have e := (key list).2 h
  have := (fresh_new [] list).2
  rw [e] at this; exact this
/-- What has been delivered is not new. -/
theorem fresh_none {L list : List Lo} (h : ∀ x ∈ list, hasStamp L x = true) : fresh L list = [] := by
  revert h
  refine list_snoc_ind (P := fun list => (∀ x ∈ list, hasStamp L x = true) → fresh L list = []) (fun _ => rfl) ?_ list
  intro list x ih h
  rw [fresh_snoc, ih (fun y hy => h y (by simp [hy]))]
  unfold freshS; rw [h x (by simp)]; simp
theorem stamp_self (x : Lo) : sameStamp x x = true := by simp [sameStamp]
theorem fold_has (L list : List Lo) : ∀ x ∈ list, hasStamp (list.foldl nextS L) x = true := by
  intro x hx
  rw [hasStamp_next]
  have : hasStamp list x = true := by unfold hasStamp; rw [List.any_eq_true]; exact ⟨x, hx, stamp_self x⟩
  rw [this]; simp
end Go.Proofs.YtdcjimlhaklhfabGreatDoor

namespace Go.Proofs.YtdcjimlhaklhfabGreatDoor
open Go.RowKit
/-! Ingest: what the program does. -/
def speakIs (id : Int) (x : Lo) : Bool := x.node.id == id || x.node.parent == id
def speaks (L : List Lo) (id : Int) : Bool := L.any (speakIs id)
def usedIs (L : List Lo) (v g : Tr) (i : Nat) : Bool := hasT g i && (!hasT v i && speaks L i)
def usedT (L : List Lo) (v g : Tr) : Bool := decide (scan (usedIs L v g) 1 100 < 100)
def renOne (t v : Tr) (i : Nat) : Option Nd := if hasT v i && !ndEq (getT v i) (getT t i) then some (getT v i) else none
def renamesTo (t v : Tr) (k : Nat) : List Nd := (List.range' 1 k).filterMap (renOne t v)
def renamesT (t v : Tr) : List Nd := renamesTo t v 99
def behind (s : St) : Nd := if s.kind = 45 then ⟨s.node.id, 100, [45]⟩ else s.node
def wayT (t g : Tr) : List Nd := renamesT t (viewT t) ++ (makeT (viewT t) g).map behind
def lastC (L : List Lo) : Int := match L.getLast? with
  | none => 0
  | some x => x.count
def stampAt (last site : Int) (i : Nat) (n : Nd) : Lo := ⟨last + 1 + (i : Int), site, n⟩
def stamped (way : List Nd) (last site : Int) : List Lo := way.mapIdx (stampAt last site)
def reachT (L : List Lo) (site : Int) (g : Tr) : List Lo × Int :=
  if usedT L (viewT (places L)) g then ([], 14) else
  if 150 < L.length + (wayT (places L) g).length then ([], 13) else
  if 9999 < lastC L + ((wayT (places L) g).length : Int) then ([], 15) else
  (stamped (wayT (places L) g) (lastC L) site, 0)
def ingestT (L : List Lo) (site : Int) (s : Str) : List Lo × Int :=
  if (checkT s).1 ≠ 0 then ([], (checkT s).1) else reachT L site (gather (readNodes (cut s)))
theorem renamesTo_succ (t v : Tr) (k : Nat) : renamesTo t v (k + 1) = renamesTo t v k ++ (match renOne t v (k + 1) with | none => [] | some n => [n]) := by
  unfold renamesTo
  rw [List.range'_concat, List.filterMap_append]
  congr 1
  rw [show 1 + 1 * k = k + 1 by omega]
  cases h : renOne t v (k + 1) <;> simp [h]
theorem renamesTo_len (t v : Tr) (k : Nat) : (renamesTo t v k).length ≤ k := by
  have := List.length_filterMap_le (renOne t v) (List.range' 1 k)
  simpa [renamesTo] using this
theorem ndW_of_valid {t : Tr} (hv : Valid t) {i : Nat} {n : Nd} (h : t i = some n) : NdW n := by
  have hb := hv.ok.2 i n h
  refine ⟨by omega, by omega, hb.2.2.2.1, by omega, ?_⟩
  unfold placeB
  rw [if_neg (by omega)]
  have hp := hv.parent i n h
  rw [Bool.and_eq_true, beq_iff_eq]
  refine ⟨?_, hb.2.2.2.2.2⟩
  rcases isParent_iff.1 hp with h0 | ⟨h0, _⟩
  · omega
  · exact h0
theorem renames_mem {t v : Tr} {n : Nd} {k : Nat} (h : n ∈ renamesTo t v k) : ∃ i : Nat, 1 ≤ i ∧ i ≤ k ∧ v i = some n ∧ ndEq n (getT t i) = false := by
  obtain ⟨i, hi, hr⟩ := List.mem_filterMap.1 h
  rw [List.mem_range'_1] at hi
  unfold renOne at hr
  split at hr
  · rename_i hc
    rw [Bool.and_eq_true] at hc
    obtain ⟨m, hm⟩ := hasT_iff.1 hc.1
    rw [Int.toNat_natCast] at hm
    have e : getT v i = m := by unfold getT; rw [Int.toNat_natCast, hm]; rfl
    rw [e] at hr hc
    cases hr
    exact ⟨i, by omega, by omega, hm, by simpa using hc.2⟩
  · cases hr
theorem park_ndW {id : Int} (h1 : 1 ≤ id) (h2 : id ≤ 99) : NdW (parkN id) := by
  refine ⟨h1, h2, Int.le_refl 0, by show (0 : Int) ≤ 100; omega, ?_⟩
  unfold placeB
  rw [if_neg (by show ¬ (0 : Int) = 100; omega), Bool.and_eq_true]
  exact ⟨rfl, park_name id⟩
theorem trash_ndW {id : Int} (h1 : 1 ≤ id) (h2 : id ≤ 99) : NdW ⟨id, 100, [45]⟩ :=
  ⟨h1, h2, by show (0 : Int) ≤ 100; omega, by show (100 : Int) ≤ 100; omega, rfl⟩
theorem behind_del {n : Nd} : behind ⟨45, n⟩ = ⟨n.id, 100, [45]⟩ := rfl
theorem behind_new {n : Nd} : behind ⟨43, n⟩ = n := rfl
theorem behind_move {n : Nd} : behind ⟨61, n⟩ = n := rfl
theorem home_behind {a g : Tr} (hg : Valid g) {id : Int} (h1 : 1 ≤ id) (h2 : id ≤ 99) {s : St} (h : homeS a g id = some s) : NdW (behind s) := by
  rcases home_cases h with ⟨rfl, _⟩ | ⟨n, rfl, hn, _⟩ | ⟨n, _, rfl, hn, _⟩
  · exact trash_ndW h1 h2
  · exact ndW_of_valid hg hn
  · exact ndW_of_valid hg hn
theorem seg_behind {g a b : Tr} {ss : List St} (h : Seg g a ss b) (hg : Valid g) : ∀ s ∈ ss, NdW (behind s) := by
  induction h with
  | nil a => simp
  | home h1 h2 hs he _ ih =>
    intro s hm
    rcases List.mem_cons.1 hm with rfl | hm
    · exact home_behind hg h1 h2 hs
    · exact ih s hm
  | park h1 h2 hno hs hp he _ ih =>
    intro s hm
    rcases List.mem_cons.1 hm with rfl | hm
    · exact park_ndW h1 h2
    · exact ih s hm
theorem way_ok {t g : Tr} (ht : TrW t) (hg : Valid g) : ∀ n ∈ wayT t g, NdW n := by
  intro n hn
  have hv := view_valid ht
  rcases List.mem_append.1 hn with hn | hn
  · obtain ⟨i, _, _, h, _⟩ := renames_mem hn
    exact ndW_of_valid hv h
  · obtain ⟨s, hs, rfl⟩ := List.mem_map.1 hn
    exact seg_behind (makeT_seg hv hg) hg s hs
theorem way_len {t g : Tr} (ht : TrW t) (hg : Valid g) : (wayT t g).length ≤ 297 := by
  unfold wayT
  rw [List.length_append, List.length_map]
  have := renamesTo_len t (viewT t) 99
  have := make_len (view_valid ht) hg
  unfold renamesT; omega
/-! The ops that are made stand behind all others. -/
theorem stamped_len (way : List Nd) (last site : Int) : (stamped way last site).length = way.length := by simp [stamped]
theorem stamped_get {way : List Nd} {last site : Int} {i : Nat} (h : i < way.length) : (stamped way last site)[i]'(by rw [stamped_len]; exact h) = stampAt last site i way[i] := by
  simp [stamped]
theorem stamped_nil (last site : Int) : stamped [] last site = [] := rfl
theorem stamped_snoc (way : List Nd) (n : Nd) (last site : Int) : stamped (way ++ [n]) last site = stamped way last site ++ [stampAt last site way.length n] := by
  unfold stamped; rw [List.mapIdx_append]; simp
theorem stamped_take (way : List Nd) (last site : Int) (k : Nat) (hk : k < way.length) : stamped (way.take (k + 1)) last site = stamped (way.take k) last site ++ [stampAt last site k way[k]] := by
  rw [List.take_succ_eq_append_getElem hk, stamped_snoc, List.length_take, Nat.min_eq_left (by omega)]
theorem stamped_mem {way : List Nd} {last site : Int} {x : Lo} (h : x ∈ stamped way last site) : ∃ i, ∃ hi : i < way.length, x = stampAt last site i way[i] := by
  obtain ⟨i, hi, rfl⟩ := List.mem_iff_getElem.1 h
  rw [stamped_len] at hi
  exact ⟨i, hi, stamped_get hi⟩
theorem stamped_ok {way : List Nd} {last site : Int} (hw : ∀ n ∈ way, NdW n) (h0 : 0 ≤ last) (h9 : last + (way.length : Int) ≤ 9999) (s1 : 1 ≤ site) (s2 : site ≤ 9) : ∀ x ∈ stamped way last site, LoOk x := by
  intro x hx
  obtain ⟨i, hi, rfl⟩ := stamped_mem hx
  refine ⟨?_, ?_, s1, s2, hw _ (List.getElem_mem hi)⟩ <;> (unfold stampAt; simp only []; omega)
theorem lastC_nil : lastC [] = 0 := rfl
theorem lastC_at {L : List Lo} (h : 0 < L.length) : lastC L = (L[L.length - 1]'(by omega)).count := by
  unfold lastC
  rw [List.getLast?_eq_getElem?, List.getElem?_eq_getElem (by omega)]
theorem lastC_snoc (L : List Lo) (x : Lo) : lastC (L ++ [x]) = x.count := by simp [lastC]
theorem lastC_max {L : List Lo} (hs : Sorted L) : ∀ y ∈ L, y.count ≤ lastC L := by
  intro y hy
  obtain ⟨i, hi, rfl⟩ := List.mem_iff_getElem.1 hy
  rw [lastC_at (by omega)]
  by_cases h : i = L.length - 1
  · subst h; exact Int.le_refl _
  · have := (List.pairwise_iff_getElem.1 hs) i (L.length - 1) hi (by omega) (by omega)
    rw [ahead_iff] at this; omega
theorem lastC_bd {L : List Lo} (h : LogOk L) : 0 ≤ lastC L ∧ lastC L ≤ 9999 := by
  by_cases h0 : L.length = 0
  · rw [List.length_eq_zero_iff.1 h0, lastC_nil]; omega
  · rw [lastC_at (by omega)]
    have := h.2.1 _ (List.getElem_mem (show L.length - 1 < L.length by omega))
    have h1 := this.1
    have h2 := this.2.1
    omega
theorem ins_end {x : Lo} {L : List Lo} (h : ∀ y ∈ L, y.count < x.count) : ins x L = L ++ [x] := by
  have := ins_split (x := x) (a := L) (b := []) (fun y hy => by
    have := h y hy
    cases hq : ahead x y with
    | false => rfl
    | true => rw [ahead_iff] at hq; omega) (fun y hy => by cases hy)
  rwa [List.append_nil] at this
theorem stamped_max {L : List Lo} (hs : Sorted L) (way : List Nd) (site : Int) {k : Nat} (hk : k ≤ way.length) : ∀ y ∈ L ++ stamped (way.take k) (lastC L) site, y.count < lastC L + 1 + (k : Int) := by
  intro y hy
  rcases List.mem_append.1 hy with hy | hy
  · have := lastC_max hs y hy; omega
  · obtain ⟨i, hi, rfl⟩ := stamped_mem hy
    rw [List.length_take, Nat.min_eq_left hk] at hi
    unfold stampAt; simp only []; omega
theorem ins_stamped {L : List Lo} (hs : Sorted L) (way : List Nd) (site : Int) {k : Nat} (hk : k < way.length) : ins (stampAt (lastC L) site k way[k]) (L ++ stamped (way.take k) (lastC L) site) = L ++ stamped (way.take (k + 1)) (lastC L) site := by
  rw [ins_end (stamped_max hs way site (by omega)), stamped_take way _ _ k hk, List.append_assoc]
theorem stamped_new {L : List Lo} (hs : Sorted L) (way : List Nd) (site : Int) {k : Nat} (hk : k < way.length) : hasStamp (L ++ stamped (way.take k) (lastC L) site) (stampAt (lastC L) site k way[k]) = false := by
  unfold hasStamp
  rw [List.any_eq_false]
  intro y hy
  have := stamped_max hs way site (Nat.le_of_lt hk) y hy
  unfold sameStamp stampAt
  simp only [Bool.and_eq_true, beq_iff_eq]; omega
theorem stamped_sorted {L : List Lo} (hs : Sorted L) (way : List Nd) (site : Int) : ∀ k, k ≤ way.length → Sorted (L ++ stamped (way.take k) (lastC L) site) := by
  intro k
  induction k with
  | zero => intro _; simpa [stamped] using hs
  | succ k ih =>
    intro hk
    rw [← ins_stamped hs way site (by omega)]
    exact ins_sorted (ih (by omega)) (stamped_new hs way site (by omega))
theorem joinAll_stamped {L : List Lo} (hs : Sorted L) (way : List Nd) (site : Int) : ∀ k, k ≤ way.length → joinAll L (stamped (way.take k) (lastC L) site) = L ++ stamped (way.take k) (lastC L) site := by
  intro k
  induction k with
  | zero => intro _; simp [stamped, joinAll]
  | succ k ih =>
    intro hk
    rw [stamped_take way _ _ k (by omega), joinAll_snoc, ih (by omega), ins_stamped hs way site (by omega), stamped_take way _ _ k (by omega)]
theorem reach_made {L : List Lo} {site : Int} {g : Tr} (h : (reachT L site g).2 = 0) : usedT L (viewT (places L)) g = false ∧ L.length + (wayT (places L) g).length ≤ 150 ∧ lastC L + ((wayT (places L) g).length : Int) ≤ 9999 ∧ (reachT L site g).1 = stamped (wayT (places L) g) (lastC L) site := by
  unfold reachT at h ⊢
  cases hu : usedT L (viewT (places L)) g with
  | true => rw [hu] at h; simp at h
  | false =>
    rw [hu] at h
    simp only [Bool.false_eq_true, if_false] at h ⊢
    split at h
    · cases h
    · split at h
      · cases h
      · refine ⟨trivial, by omega, by omega, ?_⟩
        rw [if_neg (by omega), if_neg (by omega)]
theorem reach_none {L : List Lo} {site : Int} {g : Tr} (h : (reachT L site g).2 ≠ 0) : (reachT L site g).1 = [] := by
  unfold reachT at h ⊢
  split
  · rfl
  · split
    · rfl
    · split
      · rfl
      · rename_i h1 h2 h3; rw [if_neg h1, if_neg h2, if_neg h3] at h; exact absurd rfl h
theorem reach_ok {L : List Lo} (hl : LogOk L) {site : Int} (s1 : 1 ≤ site) (s2 : site ≤ 9) {g : Tr} (hg : Valid g) : LogOk (L ++ (reachT L site g).1) ∧ ∀ x ∈ (reachT L site g).1, LoOk x := by
  by_cases h : (reachT L site g).2 = 0
  · obtain ⟨_, h2, h3, h4⟩ := reach_made h
    have hok : ∀ x ∈ (reachT L site g).1, LoOk x := by
      rw [h4]
      exact stamped_ok (way_ok (places_ok hl.2.1) hg) (lastC_bd hl).1 h3 s1 s2
    refine ⟨⟨?_, ?_, ?_⟩, hok⟩
    · rw [h4]
      have := stamped_sorted hl.1 (wayT (places L) g) site _ (Nat.le_refl _)
      rwa [List.take_length] at this
    · intro x hx
      rcases List.mem_append.1 hx with hx | hx
      · exact hl.2.1 x hx
      · exact hok x hx
    · rw [h4, List.length_append, stamped_len]; omega
  · rw [reach_none h, List.append_nil]; exact ⟨hl, by simp⟩
theorem ingest_ok {L : List Lo} (hl : LogOk L) {site : Int} (s1 : 1 ≤ site) (s2 : site ≤ 9) (s : Str) : LogOk (L ++ (ingestT L site s).1) ∧ ∀ x ∈ (ingestT L site s).1, LoOk x := by
  unfold ingestT
  split
  · simp only [List.append_nil]; exact ⟨hl, by simp⟩
  · rename_i h
    exact reach_ok hl s1 s2 (valid_of_check (by simpa using h))
theorem ingest_none {L : List Lo} {site : Int} {s : Str} (h : (ingestT L site s).2 ≠ 0) : (ingestT L site s).1 = [] := by
  unfold ingestT at h ⊢
  split
  · rfl
  · rename_i h1; rw [if_neg h1] at h; exact reach_none h
end Go.Proofs.YtdcjimlhaklhfabGreatDoor

namespace Go.Proofs.YtdcjimlhaklhfabGreatDoor
open Go.RowKit
/-! Ingest: the document's way. -/
def newB (nb nv : List Nd) (id : Int) : Bool := (lookR nb id).isSome && (lookR nv id).isNone
def usedAt (nb nv : List Nd) (x : Lo) : Bool := newB nb nv x.node.id || newB nb nv x.node.parent
def usedR (L : List Lo) (nb nv : List Nd) : Bool := L.any (usedAt nb nv)
theorem newB_iff {nb nv : List Nd} {g v : Tr} (rg : Rep nb g) (rv : Rep nv v) (hg : TrOk g) (hv : TrOk v) {id : Int} : newB nb nv id = true ↔ hasT g id = true ∧ hasT v id = false := by
  unfold newB hasT
  rw [rep_look rg hg, rep_look rv hv, Bool.and_eq_true]
  cases v id.toNat <;> simp
theorem used_same {L : List Lo} (hl : ∀ x ∈ L, LoOk x) {nb nv : List Nd} {g v : Tr} (rg : Rep nb g) (rv : Rep nv v) (hg : TrOk g) (hv : TrOk v) : usedR L nb nv = usedT L v g := by
  rw [Bool.eq_iff_iff]
  unfold usedR usedT
  rw [List.any_eq_true, decide_eq_true_eq]
  have hin : ∀ id : Int, 0 ≤ id → hasT g id = true → 1 ≤ id.toNat ∧ id.toNat < 100 := by
    intro id h0 h
    obtain ⟨n, hn⟩ := hasT_iff.1 h
    have := hg.2 _ n hn; omega
  constructor
  · rintro ⟨x, hx, hu⟩
    have hw := hl x hx
    obtain ⟨id, h0, hid, hn⟩ : ∃ id : Int, 0 ≤ id ∧ speakIs id x = true ∧ newB nb nv id = true := by
      unfold usedAt at hu
      rcases Bool.or_eq_true .. ▸ hu with h | h
      · exact ⟨x.node.id, by have := hw.2.2.2.2.1; omega, by simp [speakIs], h⟩
      · exact ⟨x.node.parent, hw.2.2.2.2.2.2.1, by simp [speakIs], h⟩
    obtain ⟨h1, h2⟩ := (newB_iff rg rv hg hv).1 hn
    obtain ⟨b1, b2⟩ := hin id h0 h1
    rcases scan_cases (usedIs L v g) 1 100 with ⟨hh, _⟩ | ⟨_, hno⟩
    · exact hh
    · have := hno id.toNat b1 b2
      unfold usedIs at this
      rw [Int.toNat_of_nonneg h0, h1, h2] at this
      have hs : speaks L id = true := by unfold speaks; rw [List.any_eq_true]; exact ⟨x, hx, hid⟩
      rw [hs] at this; cases this
  · intro h
    rcases scan_cases (usedIs L v g) 1 100 with ⟨_, h1, hp, _⟩ | ⟨hh, _⟩
    · generalize scan (usedIs L v g) 1 100 = i at *
      unfold usedIs at hp
      simp only [Bool.and_eq_true, Bool.not_eq_true'] at hp
      obtain ⟨a, b, c⟩ := hp
      unfold speaks at c
      rw [List.any_eq_true] at c
      obtain ⟨x, hx, hs⟩ := c
      refine ⟨x, hx, ?_⟩
      have hn := (newB_iff rg rv hg hv).2 ⟨a, b⟩
      unfold speakIs at hs
      unfold usedAt
      rw [Bool.or_eq_true] at hs ⊢
      rcases hs with hs | hs
      · rw [beq_iff_eq] at hs; rw [hs]; exact .inl hn
      · rw [beq_iff_eq] at hs; rw [hs]; exact .inr hn
    · omega
def renOneR (np nv : List Nd) (i : Nat) : Option Nd := match lookR nv (i : Int) with
  | none => none
  | some n => if ((lookR np (i : Int)).getD nd0).name == n.name then none else some n
def renamesRTo (np nv : List Nd) (k : Nat) : List Nd := (List.range' 1 k).filterMap (renOneR np nv)
def renamesR (np nv : List Nd) : List Nd := renamesRTo np nv 99
theorem renamesRTo_succ (t v : List Nd) (k : Nat) : renamesRTo t v (k + 1) = renamesRTo t v k ++ (match renOneR t v (k + 1) with | none => [] | some n => [n]) := by
  unfold renamesRTo
  rw [List.range'_concat, List.filterMap_append]
  congr 1
  rw [show 1 + 1 * k = k + 1 by omega]
  cases h : renOneR t v (k + 1) <;> simp [h]
theorem renamesRTo_len (t v : List Nd) (k : Nat) : (renamesRTo t v k).length ≤ k := by
  have := List.length_filterMap_le (renOneR t v) (List.range' 1 k)
  simpa [renamesRTo] using this
theorem renOne_same {np nv : List Nd} {t : Tr} (rp : RepW np t) (rv : Rep nv (viewT t)) (ht : TrW t) (i : Nat) : renOneR np nv i = renOne t (viewT t) i := by
  unfold renOneR renOne hasT getT
  rw [rep_look rv (view_valid ht).ok, repW_look rp ht, Int.toNat_natCast]
  cases hv : viewT t i with
  | none => simp
  | some n =>
    obtain ⟨h1, h2, h3, h4⟩ := view_some hv
    obtain ⟨m, hm⟩ := meets_there h1 h3
    obtain ⟨e1, e2⟩ := shown_id ht hm
    have hb := ht.2 i m hm
    rw [hm]
    simp only [Option.getD_some, Option.isSome_some, Bool.true_and]
    have e : ndEq n m = (m.name == n.name) := by
      unfold ndEq
      rw [h4, e1, e2, hb.1]
      simp only [BEq.rfl, Bool.true_and]
      rw [Bool.eq_iff_iff, beq_iff_eq, beq_iff_eq]; exact eq_comm
    rw [e]
    by_cases hq : (m.name == n.name) = true
    · rw [if_pos hq, if_neg (by rw [hq]; simp)]
    · rw [if_neg hq, if_pos (by simpa using hq)]
theorem renames_same {np nv : List Nd} {t : Tr} (rp : RepW np t) (rv : Rep nv (viewT t)) (ht : TrW t) : renamesR np nv = renamesT t (viewT t) := by
  unfold renamesR renamesT renamesRTo renamesTo
  rw [funext (renOne_same rp rv ht)]
/-- What the document makes of a tree. -/
def madeR (L : List Lo) (site : Int) (s : Str) (ss : List St) : List Lo × Int :=
  if (checkT s).1 ≠ 0 then ([], (checkT s).1) else
  if usedR L (readNodes (cut s)) (viewR L) then ([], 14) else
  let way := renamesR (placesR L) (viewR L) ++ ss.map behind
  if 150 < L.length + way.length then ([], 13) else
  if 9999 < lastC L + (way.length : Int) then ([], 15) else
  (stamped way (lastC L) site, 0)
theorem made_same {L : List Lo} (hl : ∀ x ∈ L, LoOk x) (site : Int) (s : Str) : madeR L site s (makeT (viewT (places L)) (gather (readNodes (cut s)))) = ingestT L site s := by
  unfold madeR ingestT reachT
  split
  · rfl
  · rename_i h
    have hc : (checkT s).1 = 0 := by simpa using h
    have hg := valid_of_check hc
    rw [used_same hl (rep_read hc) (viewR_rep hl) hg.ok (view_valid (places_ok hl)).ok]
    rw [renames_same (repW_places hl) (viewR_rep hl) (places_ok hl)]
    rfl
end Go.Proofs.YtdcjimlhaklhfabGreatDoor

namespace Go.Proofs.YtdcjimlhaklhfabGreatDoor
open Go.RowKit
theorem find_yes (ns : List Nd) (id : Int) : decide (0 ≤ findR ns id) = (lookR ns id).isSome := findR_bd' ns id
theorem find_no (ns : List Nd) (id : Int) : decide (findR ns id < 0) = (lookR ns id).isNone := by
  have h := findR_bd' ns id
  cases hq : lookR ns id with
  | none =>
    rw [hq] at h
    simp only [Option.isSome_none, decide_eq_false_iff_not] at h
    simp only [Option.isNone_none, decide_eq_true_eq]; omega
  | some n =>
    rw [hq] at h
    simp only [Option.isSome_some, decide_eq_true_eq] at h
    simp only [Option.isNone_some, decide_eq_false_iff_not]; omega
theorem used_none {L : List Lo} {nb nv : List Nd} {k : Nat} (h : ∀ j (hj : j < L.length), j < k → usedAt nb nv L[j] = false) (hk : ¬ k < L.length) : usedR L nb nv = false := by
  unfold usedR; rw [List.any_eq_false]
  intro y hy
  obtain ⟨j, hj, rfl⟩ := List.mem_iff_getElem.1 hy
  rw [h j hj (by omega)]; simp
set_option maxHeartbeats 4000000 in
set_option maxRecDepth 100000 in
theorem rused_any (L : List Lo) (nb : List Nd) (ao bo : Option Addr) (ca cb : Nat) (w : World) (hrow : Row w ao L.length 5 (loCells L)) (hx : ∀ x ∈ L, LoOk x) (hl : L.length ≤ 150) (hnb : Row w bo nb.length 3 (ndCells nb)) (hbl : nb.length ≤ 4000) :
    Calls Tryz.prog 118 #[.slice ao L.length ca, .slice bo nb.length cb] w fun e w' => e = .returned (.bool (usedR L nb (viewR L))) ∧ Below w.heap.size w w' := by
  have HV := hide (rview_any L ao ca w hrow hx (by omega))
  have hvl := rep_len (viewR_rep hx)
  have HROW := hide hrow
  have HNB := hide hnb
  clear hrow hnb hx
  generalize viewR L = nv at *
  go_enter Tryz.func118, Tryz.ntmps118
  go_wp2_with fail
  refine (unhide HV).mono ?_
  rintro e w1 ⟨vo, vc, rfl, hv1, hb1⟩
  have HB1 := hide hb1
  have HNV := hide hv1
  clear hv1 hb1
  go_wp2
  go_loopw [6] (fun i wr => ∃ k : Nat, k ≤ L.length ∧ i = .int .i64 k ∧ Hid (Below w1.heap.size w1 wr) ∧ Hid (∀ j (hj : j < L.length), j < k → usedAt nb nv L[j] = false)) (fun i _ => L.length - (intOf i).toNat)
  case atStart => exact ⟨0, Nat.zero_le _, rfl, hide (Below.refl _ _), hide (fun j hj h => by omega)⟩
  case round =>
    obtain ⟨k, hk, rfl, HB, HN⟩ := hrel
    by_cases hlt : k < L.length
    · obtain ⟨g, hao, hg, c0, c1, c2, c3, c4⟩ := lo_cells ((unhide HROW).below (unhide HB1)) (unhide HB) (Nat.le_refl _) hlt
      rw [hao]
      clear hao c0 c1
      have hsr := (unhide HB).size
      have HNX : Hid (usedAt nb nv L[k] = false → ∀ j (hj : j < L.length), j < k + 1 → usedAt nb nv L[j] = false) := by
        apply hide; intro hh j hj hjk
        by_cases e : j = k
        · subst e; exact hh
        · exact unhide HN j hj (by omega)
      have HYS : Hid (usedAt nb nv L[k] = true → usedR L nb nv = true) := by
        apply hide; intro hh; unfold usedR; rw [List.any_eq_true]; exact ⟨L[k], List.getElem_mem hlt, hh⟩
      have HU : Hid (usedAt nb nv L[k] = ((decide (0 ≤ findR nb (L[k]).node.id) && decide (findR nv (L[k]).node.id < 0)) || (decide (0 ≤ findR nb (L[k]).node.parent) && decide (findR nv (L[k]).node.parent < 0)))) := by
        apply hide; unfold usedAt newB; rw [find_yes, find_yes, find_no, find_no]
      have hB2 := (Below.refl wr.heap.size wr).alloc (Nat.le_refl _) (.cells #[.int .i64 (L[k]).node.id, .int .i64 (L[k]).node.parent, .string (bs (L[k]).node.name)] 144)
      have hB3 := (unhide HB).trans (hB2.mono hsr)
      have HRB := hide (((unhide HNB).below (unhide HB1)).below hB3)
      have HRV := hide ((unhide HNV).below hB3)
      have HB3 := hide hB3
      clear hB2 hB3
      generalize L[k] = x at *
      have HF1 := hide (find_any nb x.node.id bo cb _ (unhide HRB) (by omega))
      have HF2 := hide (find_any nv x.node.id vo vc _ (unhide HRV) (by omega))
      have HF3 := hide (find_any nb x.node.parent bo cb _ (unhide HRB) (by omega))
      have HF4 := hide (find_any nv x.node.parent vo vc _ (unhide HRV) (by omega))
      generalize findR nb x.node.id = a at *
      generalize findR nv x.node.id = b at *
      generalize findR nb x.node.parent = c at *
      generalize findR nv x.node.parent = d at *
      go_wp2_with fail
      refine (unhide HF1).mono ?_
      rintro e w2 ⟨rfl, rfl⟩
      go_wp2_with fail
      refine (unhide HF2).mono ?_
      rintro e w2 ⟨rfl, rfl⟩
      go_wp2_with fail
      refine (unhide HF3).mono ?_
      rintro e w2 ⟨rfl, rfl⟩
      go_wp2_with fail
      refine (unhide HF4).mono ?_
      rintro e w2 ⟨rfl, rfl⟩
      have HBF := hide ((unhide HB1).trans ((unhide HB3).mono (unhide HB1).size))
      clear c2 c3 c4
      rcases (show (decide (0 ≤ a) = true ∧ decide (b < 0) = true) ∨ (decide (0 ≤ a) = false) ∨ (decide (0 ≤ a) = true ∧ decide (b < 0) = false) from by cases decide (0 ≤ a) <;> cases decide (b < 0) <;> simp) with ⟨qa, qb⟩ | qa | ⟨qa, qb⟩
      · have HF := hide (unhide HYS (by rw [unhide HU, qa, qb]; rfl))
        clear HU HNX HYS HN
        go_wp2
        go_ret
        exact ⟨ret_bool (unhide HF).symm, unhide HBF⟩
      · have HU2 : Hid (usedAt nb nv x = (decide (0 ≤ c) && decide (d < 0))) := by apply hide; rw [unhide HU, qa]; rfl
        clear HU
        rcases (show (decide (0 ≤ c) = true ∧ decide (d < 0) = true) ∨ (decide (0 ≤ c) = false) ∨ (decide (0 ≤ c) = true ∧ decide (d < 0) = false) from by cases decide (0 ≤ c) <;> cases decide (d < 0) <;> simp) with ⟨qc, qd⟩ | qc | ⟨qc, qd⟩
        · have HF := hide (unhide HYS (by rw [unhide HU2, qc, qd]; rfl))
          clear HU2 HNX HYS HN
          go_wp2
          go_ret
          exact ⟨ret_bool (unhide HF).symm, unhide HBF⟩
        · have HF := hide (unhide HNX (by rw [unhide HU2, qc]; rfl))
          clear HU2 HNX HYS HN
          go_wp2
          go_roundw
          case rel => exact ⟨k + 1, by omega, by go_num, HB3, HF⟩
          case measure => simp [intOf]; omega
        · have HF := hide (unhide HNX (by rw [unhide HU2, qc, qd]; rfl))
          clear HU2 HNX HYS HN
          go_wp2
          go_roundw
          case rel => exact ⟨k + 1, by omega, by go_num, HB3, HF⟩
          case measure => simp [intOf]; omega
      · have HU2 : Hid (usedAt nb nv x = (decide (0 ≤ c) && decide (d < 0))) := by apply hide; rw [unhide HU, qa, qb]; rfl
        clear HU
        rcases (show (decide (0 ≤ c) = true ∧ decide (d < 0) = true) ∨ (decide (0 ≤ c) = false) ∨ (decide (0 ≤ c) = true ∧ decide (d < 0) = false) from by cases decide (0 ≤ c) <;> cases decide (d < 0) <;> simp) with ⟨qc, qd⟩ | qc | ⟨qc, qd⟩
        · have HF := hide (unhide HYS (by rw [unhide HU2, qc, qd]; rfl))
          clear HU2 HNX HYS HN
          go_wp2
          go_ret
          exact ⟨ret_bool (unhide HF).symm, unhide HBF⟩
        · have HF := hide (unhide HNX (by rw [unhide HU2, qc]; rfl))
          clear HU2 HNX HYS HN
          go_wp2
          go_roundw
          case rel => exact ⟨k + 1, by omega, by go_num, HB3, HF⟩
          case measure => simp [intOf]; omega
        · have HF := hide (unhide HNX (by rw [unhide HU2, qc, qd]; rfl))
          clear HU2 HNX HYS HN
          go_wp2
          go_roundw
          case rel => exact ⟨k + 1, by omega, by go_num, HB3, HF⟩
          case measure => simp [intOf]; omega
    · have HF := hide (used_none (unhide HN) hlt)
      have HBF := hide ((unhide HB1).trans ((unhide HB).mono (unhide HB1).size))
      go_wp2
      go_ret
      exact ⟨ret_bool (unhide HF).symm, unhide HBF⟩
end Go.Proofs.YtdcjimlhaklhfabGreatDoor

namespace Go.Proofs.YtdcjimlhaklhfabGreatDoor
open Go.RowKit
theorem rren_no1 {np nv : List Nd} {k : Nat} (h : lookR nv ((k + 1 : Nat) : Int) = none) : renamesRTo np nv (k + 1) = renamesRTo np nv k := by
  rw [renamesRTo_succ]
  have : renOneR np nv (k + 1) = none := by unfold renOneR; rw [h]
  rw [this]; simp
theorem rren_no2 {np nv : List Nd} {k : Nat} {n m : Nd} (h : lookR nv ((k + 1 : Nat) : Int) = some n) (g : lookR np ((k + 1 : Nat) : Int) = some m) (e : (m.name == n.name) = true) : renamesRTo np nv (k + 1) = renamesRTo np nv k := by
  rw [renamesRTo_succ]
  have : renOneR np nv (k + 1) = none := by unfold renOneR; rw [h, g]; simp only [Option.getD_some]; rw [if_pos e]
  rw [this]; simp
theorem rren_yes {np nv : List Nd} {k : Nat} {n m : Nd} (h : lookR nv ((k + 1 : Nat) : Int) = some n) (g : lookR np ((k + 1 : Nat) : Int) = some m) (e : (m.name == n.name) = false) : renamesRTo np nv (k + 1) = renamesRTo np nv k ++ [n] := by
  rw [renamesRTo_succ]
  have : renOneR np nv (k + 1) = some n := by unfold renOneR; rw [h, g]; simp only [Option.getD_some]; rw [if_neg (by rw [e]; simp)]
  rw [this]
theorem view_placed {L : List Lo} (hx : ∀ x ∈ L, LoOk x) {i : Nat} {n : Nd} (h : lookR (viewR L) (i : Int) = some n) : ∃ m, lookR (placesR L) (i : Int) = some m := by
  rw [rep_look (viewR_rep hx) (view_valid (places_ok hx)).ok, Int.toNat_natCast] at h
  obtain ⟨h1, _, h3, _⟩ := view_some h
  obtain ⟨m, hm⟩ := meets_there h1 h3
  exact ⟨m, by rw [repW_look (repW_places hx) (places_ok hx), Int.toNat_natCast]; exact hm⟩
theorem names_same (m n : Nd) : ((bs m.name).toList == (bs n.name).toList) = (m.name == n.name) := names_eq m.name n.name
set_option maxHeartbeats 4000000 in
set_option maxRecDepth 100000 in
theorem rrenames_any (L : List Lo) (ao : Option Addr) (ca : Nat) (w : World) (hrow : Row w ao L.length 5 (loCells L)) (hx : ∀ x ∈ L, LoOk x) (hl : L.length ≤ 150) :
    Calls Tryz.prog 119 #[.slice ao L.length ca] w fun e w' => ∃ u, e = .returned u ∧ w'.ownsRow w.heap.size 144 3 u (renamesR (placesR L) (viewR L)).length (ndCells (renamesR (placesR L) (viewR L))) ∧ Below w.heap.size w w' := by
  obtain ⟨i0, hi, hz0, hz1, hz2⟩ := info_parts Tryz.infoRNode
  have HP := hide (rplaces_any L ao ca w hrow (by omega))
  have HV := hide (fun W (h : Row W ao L.length 5 (loCells L)) => rview_any L ao ca W h hx (by omega))
  have hvl := rep_len (viewR_rep hx)
  have hpl := repW_len (repW_places hx)
  have HVP := hide (fun i n => @view_placed L hx i n)
  have HROW := hide hrow
  clear hrow hx
  generalize viewR L = nv at *
  generalize placesR L = np at *
  go_enter Tryz.func119, Tryz.ntmps119
  go_wp2_with fail
  refine (unhide HP).mono ?_
  rintro e w1 ⟨po, pc, rfl, hp1, hb1⟩
  have HNP := hide hp1
  have HB1 := hide hb1
  have HROW1 := hide ((unhide HROW).below hb1)
  clear hp1 hb1
  go_wp2_with fail
  refine (unhide HV _ (by exact unhide HROW1)).mono ?_
  rintro e w2 ⟨vo, vc, rfl, hv2, hb2⟩
  have HNV := hide hv2
  have HNP2 := hide ((unhide HNP).below hb2)
  have HB2 := hide ((unhide HB1).trans (hb2.mono (unhide HB1).size))
  have hs2 := (unhide HB2).size
  clear hv2 hb2
  go_wp2
  go_loopw [5, 6] (fun u i wr => ∃ k : Nat, k ≤ 99 ∧ i = .int .i64 ((k : Int) + 1) ∧ Hid (Below w2.heap.size w2 wr) ∧ Hid (wr.ownsRow w2.heap.size 144 3 u (renamesRTo np nv k).length (ndCells (renamesRTo np nv k)))) (fun _ i _ => 101 - (intOf i).toNat)
  case atStart => exact ⟨0, by omega, rfl, hide (Below.refl _ _), hide (World.ownsRow_nil _ _ _ _)⟩
  case round =>
    obtain ⟨k, hk, rfl, HB, HO⟩ := hrel
    by_cases hlt : k < 99
    · have hk1 : (k : Int) + 1 ≤ 99 := by omega
      have HRV := hide ((unhide HNV).below (unhide HB))
      have HRP := hide ((unhide HNP2).below (unhide HB))
      have HF1 := hide (find_any nv ((k + 1 : Nat) : Int) vo vc wr (unhide HRV) (by omega))
      have HF2 := hide (find_any np ((k + 1 : Nat) : Int) po pc wr (unhide HRP) (by omega))
      rw [show ((k + 1 : Nat) : Int) = (k : Int) + 1 by omega] at HF1 HF2
      have hlen := renamesRTo_len np nv k
      have hsr := (unhide HB).size
      by_cases hfv : findN nv ((k + 1 : Nat) : Int) < nv.length
      · obtain ⟨hlv, hfe⟩ := lookR_some hfv
        obtain ⟨m, hm⟩ := unhide HVP _ _ hlv
        have hfp : findN np ((k + 1 : Nat) : Int) < np.length := by
          rcases Nat.lt_or_ge (findN np ((k + 1 : Nat) : Int)) np.length with h | h
          · exact h
          · rw [(lookR_none (by omega)).1] at hm; cases hm
        obtain ⟨hlp, hfe2⟩ := lookR_some hfp
        rw [hm] at hlp
        have hm2 : m = np[findN np ((k + 1 : Nat) : Int)] := by cases hlp; rfl
        obtain ⟨g1, hvo, hg1, a0, a1, a2⟩ := nd_cells (unhide HRV) (Below.refl _ _) hfv
        obtain ⟨g2, hpo, hg2, b0, b1, b2⟩ := nd_cells (unhide HRP) (Below.refl _ _) hfp
        have HNO := hide (@rren_no2 np nv k _ _ hlv hm)
        have HYE := hide (@rren_yes np nv k _ _ hlv hm)
        rw [show ((k + 1 : Nat) : Int) = (k : Int) + 1 by omega] at hfe hfe2
        rw [hfe] at HF1
        rw [hfe2] at HF2
        have hne := names_same m nv[findN nv ((k + 1 : Nat) : Int)]
        rw [← hm2] at b0 b1 b2
        generalize nv[findN nv ((k + 1 : Nat) : Int)] = n at *
        rw [show ((k + 1 : Nat) : Int) = (k : Int) + 1 by omega] at *
        have hfv0 : (0 : Int) ≤ (findN nv ((k : Int) + 1) : Int) := by omega
        have hfp0 : (0 : Int) ≤ (findN np ((k : Int) + 1) : Int) := by omega
        have hfv1 : (findN nv ((k : Int) + 1) : Int) < (nv.length : Int) := by omega
        have hfp1 : (findN np ((k : Int) + 1) : Int) < (np.length : Int) := by omega
        clear hlv hfe hfe2 hlp hm2 hm hfv hfp
        generalize findN nv ((k : Int) + 1) = fv at *
        generalize findN np ((k : Int) + 1) = fp at *
        have hd0 : decide ((0 : Int) ≤ (fv : Int)) = true := by simp
        have HVO := hide hvo
        have HPO := hide hpo
        rw [hvo] at HF1
        rw [hpo] at HF2
        rw [hvo, hpo]
        clear hvo hpo b0 b1
        cases hq : (m.name == n.name) with
        | true =>
          have HE := hide (unhide HNO hq)
          rw [hq] at hne
          clear hq
          go_wp2_with fail
          refine (unhide HF1).mono ?_
          rintro e w3 ⟨rfl, rfl⟩
          go_wp2_with fail
          refine (unhide HF2).mono ?_
          rintro e w3 ⟨rfl, rfl⟩
          go_wp2
          go_quiet (fail)
          go_wp2
          go_roundw
          case rel => exact ⟨k + 1, by omega, by go_num, hide (below_drewN (unhide HB) _), by rw [unhide HE]; exact hide (own_below (unhide HO) (below_drewN (Below.refl _ _) _))⟩
          case measure => simp [intOf]; omega
        | false =>
          have HE := hide (unhide HYE hq)
          rw [hq] at hne
          clear hq
          go_wp2_with fail
          refine (unhide HF1).mono ?_
          rintro e w3 ⟨rfl, rfl⟩
          go_wp2_with fail
          refine (unhide HF2).mono ?_
          rintro e w3 ⟨rfl, rfl⟩
          go_wp2
          go_quiet (fail)
          have A0 : Hid ((w3.drewN nq).cell? ⟨g1, fv * 3, none⟩ = some (.int .i64 n.id)) := hide a0
          have A1 : Hid ((w3.drewN nq).cell? ⟨g1, fv * 3 + 1, none⟩ = some (.int .i64 n.parent)) := hide a1
          have A2 : Hid ((w3.drewN nq).cell? ⟨g1, fv * 3 + 2, none⟩ = some (.string (bs n.name))) := hide a2
          have HBd : Hid (Below w2.heap.size w2 (w3.drewN nq)) := hide (below_drewN (unhide HB) nq)
          have HOd := hide (own_below (unhide HO) (below_drewN (Below.refl w3.heap.size w3) nq))
          have hsd : w2.heap.size ≤ (w3.drewN nq).heap.size := hsr
          clear a0 a1 a2 b2
          generalize w3.drewN nq = wd at *
          have a0 := unhide A0
          have a1 := unhide A1
          have a2 := unhide A2
          go_wp2_with (first
            | (at_builtin; (refine wpList_append_own _ rfl _ _ 102 rfl w2.heap.size 144 i0 (.agg #[.int .i64 0, .int .i64 0, .string ByteArray.empty]) 3 32 Tryz.underlying102 hi hz0 hz1 hz2 rfl (by decide) _ _ _ rfl (own_below (unhide HOd) ((Below.refl _ _).alloc (Nat.le_refl _) _)) ⟨wd.heap.size, 0, none⟩ 1 1 [.int .i64 n.id, .int .i64 n.parent, .string (bs n.name)] rfl rfl (news_three _ _ _ _) (by simp [Value.oneCell']) (by unfold maxLen; omega) (by omega) (by simp; omega) ?_))
            | go_in)
          intro v' w8 hown' hgrow _
          have HB8 : Hid (Below w2.heap.size w2 w8) := hide (((unhide HBd).alloc hsd _).grown hgrow (by simp; omega) (own_ge (unhide HOd)))
          have HO8 : Hid (w8.ownsRow w2.heap.size 144 3 v' (renamesRTo np nv (k + 1)).length (ndCells (renamesRTo np nv (k + 1)))) := by
            apply hide; rw [unhide HE, ndCells_snoc, List.length_append]; exact hown'
          clear hgrow hown' a0 a1 a2
          go_wp2
          go_roundw
          case rel => exact ⟨k + 1, by omega, by go_num, HB8, HO8⟩
          case measure => simp [intOf]; omega
      · have HE := hide (@rren_no1 np nv k (lookR_none hfv).1)
        have hfe := (lookR_none hfv).2
        rw [show ((k + 1 : Nat) : Int) = (k : Int) + 1 by omega] at hfe
        rw [hfe] at HF1
        clear hfe hfv
        go_wp2_with fail
        refine (unhide HF1).mono ?_
        rintro e w3 ⟨rfl, rfl⟩
        go_wp2
        go_roundw
        case rel => exact ⟨k + 1, by omega, by go_num, HB, by rw [unhide HE]; exact HO⟩
        case measure => simp [intOf]; omega
    · have hk9 : k = 99 := by omega
      subst hk9
      go_wp2
      go_ret
      exact ⟨_, rfl, own_low (unhide HO) hs2, (unhide HB2).trans ((unhide HB).mono hs2)⟩
end Go.Proofs.YtdcjimlhaklhfabGreatDoor

namespace Go.Proofs.YtdcjimlhaklhfabGreatDoor
open Go.RowKit
set_option maxHeartbeats 2000000 in
theorem rsteps_own (s : ByteArray) (w : World) (hs : s.size ≤ 4000) :
    Calls Tryz.prog 87 #[.string s] w fun e w' => (((readSteps (cut (sl s))).length < (cut (sl s)).length ∧ e = .returned (.tuple #[.slice none 0 0, .int .i64 (readSteps (cut (sl s))).length])) ∨ (¬ (readSteps (cut (sl s))).length < (cut (sl s)).length ∧ ∃ ao cap, e = .returned (.tuple #[.slice ao (readSteps (cut (sl s))).length cap, .int .i64 (-1)]) ∧ w'.ownsRow w.heap.size 157 4 (.slice ao (readSteps (cut (sl s))).length cap) (readSteps (cut (sl s))).length (stCells (readSteps (cut (sl s)))))) ∧ Below w.heap.size w w' := by
  obtain ⟨i0, hi, hz0, hz1, hz2⟩ := info_parts Tryz.infoRStep
  have HC := hide (fun W => rcut_any s W hs)
  have hrl : (cut (sl s)).length ≤ 4000 := by have := cut_length_le (sl s); rw [sl_length] at this; omega
  have HRM : Hid (∀ r ∈ cut (sl s), r.length ≤ 4000) := hide (fun r hr => by have := cut_mem_len (sl s) r hr; rw [sl_length] at this; omega)
  generalize cut (sl s) = rs at *
  go_enter Tryz.func87, Tryz.ntmps87
  go_wp2_with fail
  refine (unhide HC _).mono ?_
  rintro e w1 ⟨ao, cap, rfl, hrow, hb1⟩
  have HROW := hide hrow
  have HB1 := hide hb1
  clear hrow hb1
  go_wp2
  go_loopw [4, 6] (fun v i wr => ∃ k : Nat, ∃ ss : List St, k ≤ rs.length ∧ i = .int .i64 k ∧ wr.ownsRow w1.heap.size 157 4 v k (stCells ss) ∧ Below w1.heap.size w1 wr ∧ Hid (RsInv rs k ss)) (fun _ i _ => rs.length - (intOf i).toNat)
  case atStart => exact ⟨0, [], Nat.zero_le _, rfl, World.ownsRow_nil _ _ _ _, Below.refl _ _, hide ⟨rfl, rfl⟩⟩
  case round =>
    obtain ⟨k, ss, hk, rfl, hown, hbel, HI⟩ := hrel
    by_cases hlt : k < rs.length
    · obtain ⟨g, hao, hg, hcell⟩ := str_cell (unhide HROW) hbel hlt
      rw [hao]
      have hrl2 : (rs[k]).length ≤ 4000 := unhide HRM _ (List.getElem_mem hlt)
      have HP := hide (fun W => rstep_any (bs rs[k]) W (by rw [bs_size]; exact hrl2))
      rw [sl_bs] at HP
      have hsz := hbel.size
      clear hao
      generalize hr : rs[k] = r at *
      have HR := hide hr; clear hr
      go_wp2_with fail
      refine (unhide HP _).mono ?_
      rintro e w3 ⟨⟨x0, x1, x2, x3, rfl, hx⟩, hb3⟩
      have HOWN := hide (own_below hown hb3)
      have HB3 := hide (hbel.trans (hb3.mono hsz))
      have hz3 : wr.heap.size ≤ w3.heap.size := hb3.size
      have HX := hide hx
      clear hx hb3 HP
      cases hR : readStep r with
      | none =>
        have HS := hide (rs_short (unhide HI) hlt (by rw [unhide HR]; exact hR))
        clear hR
        go_wp2
        go_ret2
        refine ⟨.inl ⟨(unhide HS).2, by rw [(unhide HS).1]; rfl⟩, ?_⟩
        exact (unhide HB1).trans (((unhide HB3).alloc (by omega) _).mono (unhide HB1).size)
      | some st =>
        have HN := hide (rsInv_yes (unhide HI) hlt (n := st) (by rw [unhide HR]; exact hR))
        obtain ⟨rfl, rfl, rfl, rfl⟩ := unhide HX st hR
        clear HX hR
        go_wp2_with (first
          | (at_builtin; (refine wpList_append_own _ rfl _ _ 151 rfl w1.heap.size 157 i0 (.agg #[.int .u8 0, .int .i64 0, .int .i64 0, .string ByteArray.empty]) 4 40 Tryz.underlying151 hi hz0 hz1 hz2 rfl (by decide) _ _ _ rfl (own_below (unhide HOWN) (((Below.refl _ _).alloc (Nat.le_refl _) _).alloc (by simp) _)) ⟨w3.heap.size + 1, 0, none⟩ 1 1 [.int .u8 st.kind.toNat, .int .i64 st.node.id, .int .i64 st.node.parent, .string (bs st.node.name)] rfl rfl (news_four' _ _ _ _ _ _) (by simp [Value.oneCell']) (by unfold maxLen; omega) (by omega) (by have := hbel.size; simp; omega) ?_))
          | go_in)
        intro v' w4 hown' hgrow _
        have hb4 : Below w1.heap.size w1 w4 := ((((unhide HB3).alloc (by omega) _).alloc (by simp; omega) _)).grown hgrow (by simp; omega) (own_ge hown)
        have hown2 : w4.ownsRow w1.heap.size 157 4 v' (k + 1) (stCells (ss ++ [st])) := by rw [stCells_snoc]; exact hown'
        clear hgrow hown hbel hown'
        go_wp2
        go_roundw
        case rel => exact ⟨k + 1, _, by omega, by go_num, hown2, hb4, HN⟩
        case measure => simp [intOf]; omega
    · have HF := hide (rs_full (unhide HI) hlt hk)
      go_wp2
      go_ret2
      obtain ⟨f1, f2, f3⟩ := unhide HF
      obtain ⟨ao', cap', rfl, hr⟩ := row_of_owns hown
      rw [f2]
      rw [← f3] at hown
      refine ⟨.inr ⟨by rw [← f2]; exact f1, ao', cap', by rw [f3]; rfl, own_low hown (unhide HB1).size⟩, (unhide HB1).trans (hbel.mono (unhide HB1).size)⟩
end Go.Proofs.YtdcjimlhaklhfabGreatDoor

namespace Go.Proofs.YtdcjimlhaklhfabGreatDoor
open Go.RowKit
theorem speaks_none {L : List Lo} {id : Int} {k : Nat} (h : ∀ j (hj : j < L.length), j < k → speakIs id L[j] = false) (hk : ¬ k < L.length) : speaks L id = false := by
  unfold speaks; rw [List.any_eq_false]
  intro y hy
  obtain ⟨j, hj, rfl⟩ := List.mem_iff_getElem.1 hy
  rw [h j hj (by omega)]; simp
set_option maxHeartbeats 2000000 in
theorem speaks_any (L : List Lo) (id : Int) (b o : Nat) (ao : Option Addr) (cap : Nat) (w : World) (hlog : w.cell? ⟨b, o, none⟩ = some (.slice ao L.length cap)) (hrow : Row w ao L.length 5 (loCells L)) (hl : L.length ≤ 4000) :
    Calls Tryz.prog 107 #[.pointer (some ⟨b, o, none⟩), .int .i64 id] w fun e w' => e = .returned (.bool (speaks L id)) ∧ Below w.heap.size w w' := by
  have HROW := hide hrow; clear hrow
  go_enter Tryz.func107, Tryz.ntmps107
  go_wp2
  go_loopw [12] (fun i wr => ∃ k : Nat, k ≤ L.length ∧ i = .int .i64 k ∧ Below w.heap.size w wr ∧ Hid (∀ j (hj : j < L.length), j < k → speakIs id L[j] = false)) (fun i _ => L.length - (intOf i).toNat)
  case atStart => exact ⟨0, Nat.zero_le _, rfl, Below.refl _ _, hide (fun j hj h => by omega)⟩
  case round =>
    obtain ⟨k, hk, rfl, hbel, HN⟩ := hrel
    clear hlog
    by_cases hlt : k < L.length
    · obtain ⟨g, hao, hg, c0, c1, c2, c3, c4⟩ := lo_cells (unhide HROW) hbel (Nat.le_refl _) hlt
      rw [hao]
      clear hao
      have hsz := hbel.size
      have HS : Hid (speakIs id L[k] = ((L[k]).node.id == id || (L[k]).node.parent == id)) := hide rfl
      have HB := hide (hbel.alloc hsz (.cells #[.int .i64 (L[k]).count, .int .i64 (L[k]).site, .int .i64 (L[k]).node.id, .int .i64 (L[k]).node.parent, .string (bs (L[k]).node.name)] 113))
      have HNX : Hid (speakIs id L[k] = false → ∀ j (hj : j < L.length), j < k + 1 → speakIs id L[j] = false) := by
        apply hide; intro hh j hj hjk
        by_cases e : j = k
        · subst e; exact hh
        · exact unhide HN j hj (by omega)
      have HYS : Hid (speakIs id L[k] = true → speaks L id = true) := by
        apply hide; intro hh; unfold speaks; rw [List.any_eq_true]; exact ⟨L[k], List.getElem_mem hlt, hh⟩
      generalize L[k] = y at *
      cases h0 : (y.node.id == id)
      · cases h1 : (y.node.parent == id)
        · have HF := hide (unhide HNX (by rw [unhide HS, h0, h1]; rfl))
          go_wp2
          go_roundw
          case rel => exact ⟨k + 1, by omega, by go_num, unhide HB, HF⟩
          case measure => simp [intOf]; omega
        · have HF := hide (unhide HYS (by rw [unhide HS, h0, h1]; rfl))
          go_wp2
          go_ret
          exact ⟨ret_bool (unhide HF).symm, unhide HB⟩
      · have HF := hide (unhide HYS (by rw [unhide HS, h0]; rfl))
        go_wp2
        go_ret
        exact ⟨ret_bool (unhide HF).symm, unhide HB⟩
    · have HF := hide (speaks_none (unhide HN) hlt)
      go_wp2
      go_ret
      exact ⟨ret_bool (unhide HF).symm, hbel⟩
/-- Has, of a right tree. -/
theorem hasT_nat (t : Tr) (m : Nat) : hasT t (m : Int) = (t m).isSome := by unfold hasT; rw [Int.toNat_natCast]
set_option maxHeartbeats 2000000 in
theorem isUsed_any (L : List Lo) (v g : Tr) (b o vb gb : Nat) (ao : Option Addr) (cap : Nat) (w : World) (hlog : w.cell? ⟨b, o, none⟩ = some (.slice ao L.length cap)) (hb : b < w.heap.size) (hrow : Row w ao L.length 5 (loCells L)) (hl : L.length ≤ 4000) (hv : TrW v) (hg : TrW g) (hV : TreeAt ext0 w vb v) (hG : TreeAt ext0 w gb g) :
    Calls Tryz.prog 71 #[.pointer (some ⟨b, o, none⟩), .pointer (some ⟨vb, 0, none⟩), .pointer (some ⟨gb, 0, none⟩)] w fun e w' => e = .returned (.bool (usedT L v g)) ∧ Below w.heap.size w w' := by
  have HLOG := hide hlog
  have HROW := hide hrow
  have HV := hide hV
  have HG := hide hG
  have HTV := hide hv
  have HTG := hide hg
  clear hlog hrow hV hG hv hg
  go_enter Tryz.func71, Tryz.ntmps71
  go_wp2
  go_loopw [7] (fun i wr => ∃ k : Nat, k ≤ 99 ∧ i = .int .i64 ((k : Int) + 1) ∧ Hid (Below w.heap.size w wr) ∧ Hid (∀ j, 1 ≤ j → j < k + 1 → usedIs L v g j = false)) (fun i _ => 101 - (intOf i).toNat)
  case atStart => exact ⟨0, by omega, rfl, hide (Below.refl _ _), hide (fun j h1 h2 => by omega)⟩
  case round =>
    obtain ⟨k, hk, rfl, HB, HN⟩ := hrel
    by_cases hlt : k < 99
    · have hk1 : (k : Int) + 1 ≤ 99 := by omega
      have HG1 := hide (has_w g gb (k + 1) wr (unhide HTG) (by omega) ((unhide HG).below (unhide HB)))
      have HV1 := hide (has_w v vb (k + 1) wr (unhide HTV) (by omega) ((unhide HV).below (unhide HB)))
      have HSP := hide (speaks_any L ((k : Int) + 1) b o ao cap wr (by rw [(unhide HB).cell (p := ⟨b, o, none⟩) hb]; exact unhide HLOG) ((unhide HROW).below (unhide HB)) hl)
      have HU : Hid (usedIs L v g (k + 1) = ((g (k + 1)).isSome && (!(v (k + 1)).isSome && speaks L ((k : Int) + 1)))) := by
        apply hide; unfold usedIs; rw [hasT_nat, hasT_nat]; rfl
      have HNX : Hid (usedIs L v g (k + 1) = false → ∀ j, 1 ≤ j → j < k + 1 + 1 → usedIs L v g j = false) := by
        apply hide; intro hh j h1 h2
        by_cases e : j = k + 1
        · subst e; exact hh
        · exact unhide HN j h1 (by omega)
      have HYS : Hid (usedIs L v g (k + 1) = true → usedT L v g = true) := by
        apply hide; intro hh
        unfold usedT; rw [decide_eq_true_eq, scan_hit (k := k + 1) (by omega) (by omega) hh (fun j h1 h2 => unhide HN j h1 h2)]; omega
      rw [show ((k + 1 : Nat) : Int) = (k : Int) + 1 by omega] at HG1 HV1
      generalize (g (k + 1)).isSome = qg at *
      generalize (v (k + 1)).isSome = qv at *
      generalize speaks L ((k : Int) + 1) = qs at *
      generalize usedIs L v g (k + 1) = qu at *
      go_wp2_with fail
      refine (unhide HG1).mono ?_
      rintro e w1 ⟨rfl, rfl⟩
      go_wp2_with fail
      refine (unhide HV1).mono ?_
      rintro e w1 ⟨rfl, rfl⟩
      rcases (show qg = false ∨ (qg = true ∧ qv = true) ∨ (qg = true ∧ qv = false) from by cases qg <;> cases qv <;> simp) with h | ⟨h, h'⟩ | ⟨h, h'⟩
      · have HF := hide (unhide HNX (by rw [unhide HU, h]; rfl))
        subst h
        go_wp2
        go_roundw
        case rel => exact ⟨k + 1, by omega, by go_num, HB, HF⟩
        case measure => simp [intOf]; omega
      · have HF := hide (unhide HNX (by rw [unhide HU, h, h']; rfl))
        subst h h'
        go_wp2
        go_roundw
        case rel => exact ⟨k + 1, by omega, by go_num, HB, HF⟩
        case measure => simp [intOf]; omega
      · have HU2 : Hid (qu = qs) := by apply hide; rw [unhide HU, h, h']; rfl
        subst h h'
        go_wp2_with fail
        refine (unhide HSP).mono ?_
        rintro e w2 ⟨rfl, hb2⟩
        have HB2 := hide ((unhide HB).trans (hb2.mono (unhide HB).size))
        clear hb2
        cases qs with
        | false =>
          have HF := hide (unhide HNX (unhide HU2))
          go_wp2
          go_roundw
          case rel => exact ⟨k + 1, by omega, by go_num, HB2, HF⟩
          case measure => simp [intOf]; omega
        | true =>
          have HF := hide (unhide HYS (unhide HU2))
          go_wp2
          go_ret
          exact ⟨ret_bool (unhide HF).symm, unhide HB2⟩
    · have HF : Hid (usedT L v g = false) := by
        apply hide; unfold usedT; rw [decide_eq_false_iff_not, scan_none (fun j h1 h2 => unhide HN j h1 (by omega))]; omega
      go_wp2
      go_ret
      exact ⟨ret_bool (unhide HF).symm, unhide HB⟩
set_option maxHeartbeats 2000000 in
theorem lastCount_any (L : List Lo) (b o : Nat) (ao : Option Addr) (cap : Nat) (w : World) (hlog : w.cell? ⟨b, o, none⟩ = some (.slice ao L.length cap)) (hrow : Row w ao L.length 5 (loCells L)) (hl : L.length ≤ 4000) :
    Calls Tryz.prog 73 #[.pointer (some ⟨b, o, none⟩)] w fun e w' => e = .returned (.int .i64 (lastC L)) ∧ Below w.heap.size w w' := by
  by_cases h0 : L.length = 0
  · have hn : L = [] := List.length_eq_zero_iff.1 h0
    subst hn
    rw [lastC_nil]
    simp only [List.length_nil] at hlog
    clear hrow h0
    go_enter Tryz.func73, Tryz.ntmps73
    go_wp2
    go_ret
    exact ⟨rfl, Below.refl _ _⟩
  · obtain ⟨g, hao, hg, c0, c1, c2, c3, c4⟩ := lo_cells hrow (Below.refl w.heap.size w) (Nat.le_refl _) (show L.length - 1 < L.length by omega)
    have HE := hide (lastC_at (L := L) (by omega))
    have hd : ((L.length : Int) == 0) = false := by rw [beq_eq_false_iff_ne]; omega
    generalize L[L.length - 1] = x at *
    generalize lastC L = c at *
    obtain ⟨m, hm⟩ : ∃ m, L.length = m + 1 := ⟨L.length - 1, by omega⟩
    rw [hm] at hlog hd c0
    rw [hao] at hlog
    rw [show m + 1 - 1 = m by omega] at c0
    have hm2 : m ≤ 4000 := by omega
    clear hrow hao h0 hm c1 c2 c3 c4 hl
    have e1 : ((m + 1 : Nat) : Int) - 1 = (m : Int) := by omega
    go_enter Tryz.func73, Tryz.ntmps73
    go_wp2
    go_quiet (fail)
    go_wp2
    go_ret
    exact ⟨ret_int (by rw [unhide HE]), below_drewN (Below.refl _ _) _⟩
end Go.Proofs.YtdcjimlhaklhfabGreatDoor

namespace Go.Proofs.YtdcjimlhaklhfabGreatDoor
open Go.RowKit
set_option maxHeartbeats 400000 in
theorem get_wx (t : Tr) (b m : Nat) (w : World) (ht : TrW t) (hm : m ≤ 99) (hT : TreeAt ext0 w b t) :
    Calls Tryz.prog 98 #[.pointer (some ⟨b, 0, none⟩), .int .i64 m] w fun e w' => e = .returned (.agg #[.int .i64 ((t m).getD nd0).id, .int .i64 ((t m).getD nd0).parent, .string (bs ((t m).getD nd0).name)]) ∧ Below w.heap.size w w' := by
  have hb1 := (Below.refl w.heap.size w).alloc (Nat.le_refl _) (.cells #[.int .i64 0, .int .i64 0, .string ByteArray.empty] 75)
  have HH := hide (has_w t b m _ ht (by omega) (hT.below hb1))
  have c1 := hT.id m (by omega)
  have c2 := hT.parent m (by omega)
  have c3 := hT.name m (by omega)
  have hlt := hT.lt
  have hne : ¬ b = w.heap.size := by omega
  have hm0 : (0 : Int) ≤ m := by omega
  have HB := hide hb1
  clear hT ht hb1
  cases hq : t m with
  | none =>
    rw [hq] at HH c1 c2 c3
    clear hq
    go_enter Tryz.func98, Tryz.ntmps98
    go_wp2_with fail
    refine (unhide HH).mono ?_
    rintro e w1 ⟨rfl, rfl⟩
    go_wp2
    refine bodyPost_ret (v := .agg #[.int .i64 0, .int .i64 0, .string ByteArray.empty]) (by simp [results, Tryz.results98, go_sem]; rfl) rfl ⟨rfl, ?_⟩
    exact unhide HB
  | some n =>
    rw [hq] at HH c1 c2 c3
    clear hq
    go_enter Tryz.func98, Tryz.ntmps98
    go_wp2_with fail
    refine (unhide HH).mono ?_
    rintro e w1 ⟨rfl, rfl⟩
    go_wp2
    refine bodyPost_ret (v := .agg #[.int .i64 n.id, .int .i64 n.parent, .string (bs n.name)]) (by simp [results, Tryz.results98, go_sem]) rfl ⟨rfl, ?_⟩
    exact (Below.refl w.heap.size w).alloc (Nat.le_refl _) _
/-- A node's cells in a block of its own. -/
def NdAt (w : World) (g : Nat) (x : Nd) : Prop := g < w.heap.size ∧ w.cell? ⟨g, 0, none⟩ = some (.int .i64 x.id) ∧ w.cell? ⟨g, 1, none⟩ = some (.int .i64 x.parent) ∧ w.cell? ⟨g, 2, none⟩ = some (.string (bs x.name))
theorem NdAt.below {w w' : World} {g B : Nat} {x : Nd} (h : NdAt w g x) (hb : Below B w w') (hB : g < B) : NdAt w' g x := by
  obtain ⟨h0, h1, h2, h3⟩ := h
  have hs := hb.size
  refine ⟨by omega, ?_, ?_, ?_⟩
  · rw [hb.cell (p := ⟨g, 0, none⟩) hB]; exact h1
  · rw [hb.cell (p := ⟨g, 1, none⟩) hB]; exact h2
  · rw [hb.cell (p := ⟨g, 2, none⟩) hB]; exact h3
theorem ndAt_new (w : World) (x : Nd) (t : TypeId) : NdAt (w.alloc (.cells #[.int .i64 x.id, .int .i64 x.parent, .string (bs x.name)] t)) w.heap.size x :=
  ⟨by simp, news_three _ _ _ _ 0 _ rfl, news_three _ _ _ _ 1 _ rfl, news_three _ _ _ _ 2 _ rfl⟩
theorem treeAt_kept {x : Ext} {w w' : World} {b : Nat} {t : Tr} {S : Nat → Prop} (h : TreeAt x w b t) (hk : Keeps S w w') (hS : ¬ S b) : TreeAt x w' b t := by
  unfold TreeAt; rw [hk.block b h.lt hS]; exact h
theorem ren_no {t v : Tr} {k : Nat} (h : (v (k + 1)).isSome = false ∨ ndEq ((v (k + 1)).getD nd0) ((t (k + 1)).getD nd0) = true) : renamesTo t v (k + 1) = renamesTo t v k := by
  rw [renamesTo_succ]
  have : renOne t v (k + 1) = none := by
    unfold renOne getT
    rw [hasT_nat, Int.toNat_natCast]
    rcases h with h | h
    · rw [h]; rfl
    · rw [h]; simp
  rw [this]; simp
theorem ren_yes {t v : Tr} {k : Nat} (h : (v (k + 1)).isSome = true) (g : ndEq ((v (k + 1)).getD nd0) ((t (k + 1)).getD nd0) = false) : renamesTo t v (k + 1) = renamesTo t v k ++ [(v (k + 1)).getD nd0] := by
  rw [renamesTo_succ]
  have : renOne t v (k + 1) = some ((v (k + 1)).getD nd0) := by
    unfold renOne getT
    rw [hasT_nat, Int.toNat_natCast, h, g]; rfl
  rw [this]
set_option maxHeartbeats 4000000 in
set_option maxRecDepth 100000 in
theorem renamed_any (L : List Lo) (v : Tr) (b o vb : Nat) (ao : Option Addr) (cap : Nat) (w : World) (hlog : w.cell? ⟨b, o, none⟩ = some (.slice ao L.length cap)) (hb : b < w.heap.size) (hrow : Row w ao L.length 5 (loCells L)) (hx : ∀ x ∈ L, LoOk x) (hl : L.length ≤ 4000) (hv : TrW v) (hV : TreeAt ext0 w vb v) :
    Calls Tryz.prog 108 #[.pointer (some ⟨b, o, none⟩), .pointer (some ⟨vb, 0, none⟩)] w fun e w' => ∃ u, e = .returned u ∧ w'.ownsRow w.heap.size 75 3 u (renamesT (places L) v).length (ndCells (renamesT (places L) v)) ∧ Below w.heap.size w w' := by
  obtain ⟨i0, hi, hz0, hz1, hz2⟩ := info_parts Tryz.infoNode
  have HPL := hide (places_any L b o ao cap w hlog hb hrow hx hl)
  have HTW := hide (places_ok hx)
  have HTV := hide hv
  have HV := hide hV
  clear hlog hrow hx hv hV
  generalize places L = T at *
  go_enter Tryz.func108, Tryz.ntmps108
  go_wp2_with fail
  refine (unhide HPL).mono ?_
  rintro e w1 ⟨rfl, hb1⟩
  have HV1 := hide ((unhide HV).below hb1)
  have hs1 := hb1.size
  have HN1 := hide (treeAt_new w1)
  have hbx := below_setCells ((Below.refl w1.heap.size w1).alloc (Nat.le_refl _) (.cells Tryz.zeroCells78 78)) (g := w1.heap.size) (Nat.le_refl _) (by simp) 0 (treeCells T)
  have HB2 : Hid (Below w.heap.size w ((w1.alloc (.cells Tryz.zeroCells78 78)).setCells w1.heap.size 0 (treeCells T))) := hide (hb1.trans (hbx.mono hs1))
  have HV2 := hide ((unhide HV1).below hbx)
  have HP2 := hide (treeAt_stored (unhide HN1) T)
  have hs2 : w1.heap.size < ((w1.alloc (.cells Tryz.zeroCells78 78)).setCells w1.heap.size 0 (treeCells T)).heap.size := by rw [(size_setCells _ _ _ _).1]; simp
  have hvb : vb < w1.heap.size := (unhide HV1).lt
  clear hbx hb1
  go_upto_region 2 with (refine wpList_store_mid (by rfl) 78 (.tmp 5) (.tmp 11) (by rfl) w1.heap.size 0 (treeCells T).toArray (by rfl) (by rfl) (by exact treeAt_there (unhide HN1) T) (treeSize' T) (treeOne T) ?_)
  generalize Value.agg (treeCells T).toArray = vT
  generalize (w1.alloc (.cells Tryz.zeroCells78 78)).setCells w1.heap.size 0 (treeCells T) = w2 at *
  go_wp2
  go_loopw [6, 7] (fun u i wr => ∃ k : Nat, k ≤ 99 ∧ i = .int .i64 ((k : Int) + 1) ∧ Hid (Below w.heap.size w wr) ∧ Hid (TreeAt ext0 wr w1.heap.size T) ∧ Hid (TreeAt ext0 wr vb v) ∧ Hid (wr.ownsRow w2.heap.size 75 3 u (renamesTo T v k).length (ndCells (renamesTo T v k))) ∧ w2.heap.size ≤ wr.heap.size) (fun _ i _ => 101 - (intOf i).toNat)
  case atStart => exact ⟨0, by omega, rfl, HB2, HP2, HV2, hide (World.ownsRow_nil _ _ _ _), Nat.le_refl _⟩
  case round =>
    obtain ⟨k, hk, rfl, HB, HP, HVr, HO, hw2⟩ := hrel
    by_cases hlt : k < 99
    · have hk1 : (k : Int) + 1 ≤ 99 := by omega
      have HGV := hide (get_wx v vb (k + 1) wr (unhide HTV) (by omega) (unhide HVr))
      have HGP := hide (fun W (h : TreeAt ext0 W w1.heap.size T) => get_wx T w1.heap.size (k + 1) W (unhide HTW) (by omega) h)
      have HHV := hide (fun W (h : TreeAt ext0 W vb v) => has_w v vb (k + 1) W (unhide HTV) (by omega) h)
      have HNO := hide (@ren_no T v k)
      have HYE := hide (@ren_yes T v k)
      have hne := tnode_eq_run ((v (k + 1)).getD nd0) ((T (k + 1)).getD nd0)
      have hgd := Tryz.tnodeGuard
      have hlen := renamesTo_len T v k
      rw [show ((k + 1 : Nat) : Int) = (k : Int) + 1 by omega] at HGV HGP HHV
      generalize (v (k + 1)).getD nd0 = n at *
      generalize (T (k + 1)).getD nd0 = m at *
      generalize (v (k + 1)).isSome = qv at *
      generalize hqe : ndEq n m = qe at *
      have hsr := (unhide HB).size
      go_wp2_with fail
      refine (unhide HGV).mono ?_
      rintro e w3 ⟨rfl, hb3⟩
      have hb4 := hb3.trans (((Below.refl w3.heap.size w3).alloc (Nat.le_refl _) (.cells #[.int .i64 n.id, .int .i64 n.parent, .string (bs n.name)] 75)).mono hb3.size)
      have HNA := hide (ndAt_new w3 n 75)
      have HP4 := hide ((unhide HP).below hb4)
      have HV4 := hide ((unhide HVr).below hb4)
      have HO4 := hide (own_below (unhide HO) hb4)
      have HB4 := hide ((unhide HB).trans (hb4.mono hsr))
      have hs3 : w.heap.size ≤ w3.heap.size ∧ w2.heap.size ≤ w3.heap.size := by have := hb3.size; omega
      clear hb3 hb4
      go_wp2_with fail
      refine (unhide HGP _ (by exact unhide HP4)).mono ?_
      rintro e w5 ⟨rfl, hb5⟩
      have hs5 : w3.heap.size < w5.heap.size := by have := hb5.size; simp at this; omega
      have hA5 := (unhide HNA).below hb5 (by simp)
      have hb6 := hb5.trans (((Below.refl w5.heap.size w5).alloc (Nat.le_refl _) (.cells #[.int .i64 m.id, .int .i64 m.parent, .string (bs m.name)] 75)).mono hb5.size)
      have HP6 := hide ((unhide HP4).below hb6)
      have HV6 := hide ((unhide HV4).below hb6)
      have HO6 := hide (own_below (unhide HO4) hb6)
      have HB6 := hide ((unhide HB4).trans (hb6.mono (by simp; omega)))
      obtain ⟨_, a0, a1, a2⟩ := hA5
      have hn35 : ¬ w3.heap.size = w5.heap.size := by omega
      clear hb5 hb6
      go_wp2_with fail
      refine (unhide HHV _ (by exact unhide HV6)).mono ?_
      rintro e w7 ⟨rfl, rfl⟩
      rcases (show qv = false ∨ (qv = true ∧ qe = true) ∨ (qv = true ∧ qe = false) from by cases qv <;> cases qe <;> simp) with h | ⟨h, h'⟩ | ⟨h, h'⟩
      · have HE := hide (unhide HNO (.inl h))
        subst h
        go_wp2
        go_roundw
        case rel => exact ⟨k + 1, by omega, by go_num, HB6, HP6, HV6, by rw [unhide HE]; exact HO6, by simp; omega⟩
        case measure => simp [intOf]; omega
      · have HE := hide (unhide HNO (.inr h'))
        subst h h'
        go_wp2
        go_roundw
        case rel => exact ⟨k + 1, by omega, by go_num, HB6, HP6, HV6, by rw [unhide HE]; exact HO6, by simp; omega⟩
        case measure => simp [intOf]; omega
      · have HE := hide (unhide HYE h h')
        subst h h'
        have hs6 := (unhide HB6).size
        simp only [World.size_alloc] at hs6
        have HX := hide (Below.refl (w5.heap.size + 1) (w5.alloc (.cells #[.int .i64 m.id, .int .i64 m.parent, .string (bs m.name)] 75)))
        go_wp2_with (first
          | (at_builtin; (refine wpList_append_own _ rfl _ _ 126 rfl w2.heap.size 75 i0 (.agg #[.int .i64 0, .int .i64 0, .string ByteArray.empty]) 3 32 Tryz.underlying126 hi hz0 hz1 hz2 rfl (by decide) _ _ _ rfl (own_below (unhide HO6) ((Below.refl _ _).alloc (Nat.le_refl _) _)) ⟨w5.heap.size + 1, 0, none⟩ 1 1 [.int .i64 n.id, .int .i64 n.parent, .string (bs n.name)] rfl rfl (news_three' _ _ _ _ _) (by simp [Value.oneCell']) (by unfold maxLen; omega) (by omega) (by simp; omega) ?_))
          | go_in)
        intro v' w8 hown' hgrow _
        have hge := own_ge (unhide HO6)
        have hb8 := ((unhide HB6).alloc (by simp; omega) (.cells #[.int .i64 n.id, .int .i64 n.parent, .string (bs n.name)] 75)).grown hgrow (by simp; omega) (fun q hq => by have := hge q hq; omega)
        have HB8 := hide hb8
        have hk8 := Keeps.of_grown hgrow
        have hb7 := (Below.refl _ (w5.alloc (.cells #[.int .i64 m.id, .int .i64 m.parent, .string (bs m.name)] 75))).alloc (Nat.le_refl _) (.cells #[.int .i64 n.id, .int .i64 n.parent, .string (bs n.name)] 75)
        have HP8 := hide (treeAt_kept ((unhide HP6).below hb7) hk8 (fun e => by have := hge _ e; omega))
        have HV8 := hide (treeAt_kept ((unhide HV6).below hb7) hk8 (fun e => by have := hge _ e; omega))
        have HO8 : Hid (w8.ownsRow w2.heap.size 75 3 v' (renamesTo T v (k + 1)).length (ndCells (renamesTo T v (k + 1)))) := by
          apply hide; rw [unhide HE, ndCells_snoc, List.length_append]; exact hown'
        have hs8 := hk8.size
        simp only [World.size_alloc] at hs8
        clear hgrow hown' hb8 hk8 hb7 a0 a1 a2
        go_wp2
        go_roundw
        case rel => exact ⟨k + 1, by omega, by go_num, HB8, HP8, HV8, HO8, by omega⟩
        case measure => simp [intOf]; omega
    · have hk9 : k = 99 := by omega
      subst hk9
      go_wp2
      go_ret
      exact ⟨_, rfl, own_low (unhide HO) (by omega), unhide HB⟩
end Go.Proofs.YtdcjimlhaklhfabGreatDoor
