import Derived.Test.YtkjancfakplogaaGreatDoorRPure6
import Derived.Test.YtkjancfakplogaaGreatDoorRPure1
namespace Go.Proofs.YtkjancfakplogaaGreatDoor
open Go.RowKit
/-- An op. -/
structure Lo where
  count : Int
  site : Int
  node : Nd
def lo0 : Lo := ⟨0, 0, nd0⟩
def placeB (n : Nd) : Bool := if n.parent = 100 then n.name == [45] else (n.parent % 2 == 0 && isName n.name n.id)
def opOf5 (a b c d e : Str) : Option Lo :=
  if (number a 1 9999).2 && (number b 1 9).2 && (number c 1 99).2 && (number d 0 100).2 && placeB ⟨(number c 1 99).1, (number d 0 100).1, e⟩ then some ⟨(number a 1 9999).1, (number b 1 9).1, ⟨(number c 1 99).1, (number d 0 100).1, e⟩⟩ else none
def opOf : List Str → Option Lo
  | [a, b, c, d, e] => opOf5 a b c d e
  | _ => none
def readOp (r : Str) : Option Lo := if bodyB r then opOf (parts (bodyS r)) else none
def readOps : List Str → Option (List Lo)
  | [] => some []
  | r :: l => match readOp r with
    | none => none
    | some x => (readOps l).map (x :: ·)
theorem opOf_other {l : List Str} (h : l.length ≠ 5) : opOf l = none := by
  unfold opOf
  split
  · simp at h
  · rfl
theorem len5 {l : List Str} (h : l.length = 5) : ∃ a b c d e, l = [a, b, c, d, e] := by
  match l, h with
  | [a, b, c, d, e], _ => exact ⟨a, b, c, d, e, rfl⟩
/-- What an op's node may be. -/
def NdW (n : Nd) : Prop := 1 ≤ n.id ∧ n.id ≤ 99 ∧ 0 ≤ n.parent ∧ n.parent ≤ 100 ∧ placeB n = true
def LoOk (x : Lo) : Prop := 1 ≤ x.count ∧ x.count ≤ 9999 ∧ 1 ≤ x.site ∧ x.site ≤ 9 ∧ NdW x.node
theorem ndW_name {n : Nd} (h : NdW n) : n.name.length ≤ 11 := by
  obtain ⟨_, _, _, _, h⟩ := h
  unfold placeB at h
  split at h
  · rw [beq_iff_eq] at h; rw [h]; simp
  · rw [Bool.and_eq_true] at h; exact name_len h.2
theorem readOp_ok {r : Str} {x : Lo} (h : readOp r = some x) : LoOk x := by
  unfold readOp at h
  split at h
  · unfold opOf at h
    split at h
    · unfold opOf5 at h
      split at h
      · rename_i a b c d e _ hc
        simp only [Bool.and_eq_true] at hc
        obtain ⟨⟨⟨⟨h1, h2⟩, h3⟩, h4⟩, h5⟩ := hc
        cases h
        have := number_lo a 1 9999 h1
        have := number_bd a 1 9999 (by omega)
        have := number_lo b 1 9 h2
        have := number_bd b 1 9 (by omega)
        have := number_lo c 1 99 h3
        have := number_bd c 1 99 (by omega)
        have := number_bd d 0 100 (by omega)
        refine ⟨?_, ?_, ?_, ?_, ?_, ?_, ?_, ?_, h5⟩ <;> (simp only []; omega)
      · cases h
    · cases h
  · cases h
theorem readOps_ok : ∀ (rs : List Str) (l : List Lo), readOps rs = some l → ∀ x ∈ l, LoOk x := by
  intro rs
  induction rs with
  | nil => intro l h; simp [readOps] at h; subst h; simp
  | cons r rs ih =>
    intro l h
    rw [readOps] at h
    cases hr : readOp r with
    | none => rw [hr] at h; cases h
    | some x =>
      rw [hr] at h
      cases hl : readOps rs with
      | none => rw [hl] at h; cases h
      | some l' =>
        rw [hl] at h; cases h
        intro y hy
        rcases List.mem_cons.1 hy with rfl | hy
        · exact readOp_ok hr
        · exact ih l' hl y hy
theorem readOps_len : ∀ (rs : List Str) (l : List Lo), readOps rs = some l → l.length = rs.length := by
  intro rs
  induction rs with
  | nil => intro l h; simp [readOps] at h; subst h; rfl
  | cons r rs ih =>
    intro l h
    rw [readOps] at h
    cases hr : readOp r with
    | none => rw [hr] at h; cases h
    | some x =>
      rw [hr] at h
      cases hl : readOps rs with
      | none => rw [hl] at h; cases h
      | some l' => rw [hl] at h; cases h; simp [ih l' hl]
/-- Where the reading stands behind k records. -/
def LoInv (rs : List Str) (k : Nat) (acc : List Lo) : Prop := acc.length = k ∧ readOps rs = (readOps (rs.drop k)).map (acc ++ ·) ∧ ∀ x ∈ acc, LoOk x
theorem loInv_0 (rs : List Str) : LoInv rs 0 [] := ⟨rfl, by simp, by simp⟩
theorem loInv_yes {rs : List Str} {k : Nat} {acc : List Lo} (h : LoInv rs k acc) (hk : k < rs.length) {x : Lo} (hx : readOp rs[k] = some x) : LoInv rs (k + 1) (acc ++ [x]) := by
  refine ⟨by simp [h.1], ?_, ?_⟩
  · rw [h.2.1, List.drop_eq_getElem_cons hk, readOps, hx]
    cases readOps (rs.drop (k + 1)) <;> simp
  · intro y hy
    rcases List.mem_append.1 hy with hy | hy
    · exact h.2.2 y hy
    · simp at hy; subst hy; exact readOp_ok hx
theorem loInv_no {rs : List Str} {k : Nat} {acc : List Lo} (h : LoInv rs k acc) (hk : k < rs.length) (hx : readOp rs[k] = none) : readOps rs = none := by
  rw [h.2.1, List.drop_eq_getElem_cons hk, readOps, hx]; rfl
theorem loInv_end {rs : List Str} {k : Nat} {acc : List Lo} (h : LoInv rs k acc) (hk : ¬ k < rs.length) : readOps rs = some acc := by
  rw [h.2.1, List.drop_eq_nil_of_le (by omega)]; simp [readOps]
/-! Stamps and their order. -/
def sameStamp (y x : Lo) : Bool := y.count == x.count && y.site == x.site
def hasStamp (l : List Lo) (x : Lo) : Bool := l.any (fun y => sameStamp y x)
def ahead (x y : Lo) : Bool := if x.count ≠ y.count then decide (x.count < y.count) else decide (x.site < y.site)
def ins (x : Lo) (l : List Lo) : List Lo := l.takeWhile (fun y => !ahead x y) ++ x :: l.dropWhile (fun y => !ahead x y)
def Sorted (l : List Lo) : Prop := l.Pairwise (fun a b => ahead a b = true)
theorem ahead_iff {x y : Lo} : ahead x y = true ↔ x.count < y.count ∨ (x.count = y.count ∧ x.site < y.site) := by
  unfold ahead; split
  · rw [decide_eq_true_eq]; omega
  · rw [decide_eq_true_eq]; omega
theorem ahead_trans {x y z : Lo} (h : ahead x y = true) (g : ahead y z = true) : ahead x z = true := by
  rw [ahead_iff] at *; omega
theorem ahead_or {x y : Lo} (h : sameStamp y x = false) (g : ahead x y = false) : ahead y x = true := by
  have g' : ¬ (ahead x y = true) := by rw [g]; simp
  rw [ahead_iff] at g' ⊢
  have h' : ¬ (y.count = x.count ∧ y.site = x.site) := by
    intro hh; unfold sameStamp at h; rw [hh.1, hh.2] at h; simp at h
  omega
theorem ins_split {x : Lo} {a b : List Lo} (ha : ∀ y ∈ a, ahead x y = false) (hb : ∀ y, b.head? = some y → ahead x y = true) : ins x (a ++ b) = a ++ x :: b := by
  unfold ins
  have h1 : ∀ (a b : List Lo), (∀ y ∈ a, ahead x y = false) → (∀ y, b.head? = some y → ahead x y = true) → (a ++ b).takeWhile (fun y => !ahead x y) = a ∧ (a ++ b).dropWhile (fun y => !ahead x y) = b := by
    intro a
    induction a with
    | nil =>
      intro b _ hb
      cases b with
      | nil => simp
      | cons y b => simp [hb y rfl]
    | cons z a ih =>
      intro b ha hb
      have := ih b (fun y hy => ha y (by simp [hy])) hb
      simp [ha z (by simp), this.1, this.2]
  rw [(h1 a b ha hb).1, (h1 a b ha hb).2]
theorem ins_mem {x y : Lo} {l : List Lo} : y ∈ ins x l ↔ y = x ∨ y ∈ l := by
  unfold ins
  rw [List.mem_append, List.mem_cons]
  have : y ∈ l ↔ y ∈ l.takeWhile (fun y => !ahead x y) ∨ y ∈ l.dropWhile (fun y => !ahead x y) := by
    rw [← List.mem_append, List.takeWhile_append_dropWhile]
  rw [this]
  constructor
  · rintro (h | h | h)
    · exact .inr (.inl h)
    · exact .inl h
    · exact .inr (.inr h)
  · rintro (h | h | h)
    · exact .inr (.inl h)
    · exact .inl h
    · exact .inr (.inr h)
theorem ins_len (x : Lo) (l : List Lo) : (ins x l).length = l.length + 1 := by
  unfold ins
  have := congrArg List.length (List.takeWhile_append_dropWhile (p := fun y => !ahead x y) (l := l))
  rw [List.length_append] at this
  rw [List.length_append, List.length_cons]; omega
/-- Where an op stands in a list that is in its order. -/
theorem sorted_cut {x : Lo} {l : List Lo} (hs : Sorted l) {i : Nat} (hi : i ≤ l.length) (hb : ∀ j (h : j < l.length), i ≤ j → ahead x l[j] = true) (ha : i = 0 ∨ ∃ h : i - 1 < l.length, ahead x l[i - 1] = false) : ins x l = l.take i ++ x :: l.drop i := by
  conv => lhs; rw [← List.take_append_drop i l]
  refine ins_split ?_ ?_
  · intro y hy
    rcases ha with h0 | ⟨h1, h2⟩
    · subst h0; simp at hy
    · obtain ⟨j, hj, rfl⟩ := List.mem_iff_getElem.1 hy
      rw [List.length_take] at hj
      rw [List.getElem_take]
      by_cases hji : j = i - 1
      · subst hji; exact h2
      · cases hq : ahead x l[j] with
        | false => rfl
        | true =>
          have := (List.pairwise_iff_getElem.1 hs) j (i - 1) (by omega) h1 (by omega)
          rw [ahead_trans hq this] at h2; cases h2
  · intro y hy
    rw [List.head?_drop] at hy
    rcases Nat.lt_or_ge i l.length with h | h
    · rw [List.getElem?_eq_getElem h] at hy; cases hy; exact hb i h (Nat.le_refl _)
    · rw [List.getElem?_eq_none h] at hy; cases hy
theorem hasStamp_ins (x y : Lo) (l : List Lo) : hasStamp (ins x l) y = (hasStamp l y || sameStamp x y) := by
  rw [Bool.eq_iff_iff]
  unfold hasStamp
  rw [List.any_eq_true, Bool.or_eq_true, List.any_eq_true]
  constructor
  · rintro ⟨z, hz, h⟩
    rcases ins_mem.1 hz with rfl | hz
    · exact .inr h
    · exact .inl ⟨z, hz, h⟩
  · rintro (⟨z, hz, h⟩ | h)
    · exact ⟨z, ins_mem.2 (.inr hz), h⟩
    · exact ⟨x, ins_mem.2 (.inl rfl), h⟩
theorem ins_sorted {x : Lo} {l : List Lo} (hs : Sorted l) (hn : hasStamp l x = false) : Sorted (ins x l) := by
  have hno : ∀ y ∈ l, sameStamp y x = false := by
    intro y hy
    cases h : sameStamp y x with
    | false => rfl
    | true => unfold hasStamp at hn; rw [List.any_eq_false] at hn; exact absurd h (hn y hy)
  unfold Sorted ins
  have hcat : l.takeWhile (fun y => !ahead x y) ++ l.dropWhile (fun y => !ahead x y) = l := List.takeWhile_append_dropWhile
  have hs' := hs
  unfold Sorted at hs'
  rw [← hcat, List.pairwise_append] at hs'
  obtain ⟨h1, h2, h3⟩ := hs'
  have hta : ∀ y ∈ l.takeWhile (fun y => !ahead x y), ahead y x = true := by
    intro y hy
    have hq : (!ahead x y) = true := by
      have := List.all_takeWhile (p := fun y => !ahead x y) (l := l)
      rw [List.all_eq_true] at this
      exact this y hy
    have : y ∈ l := (List.takeWhile_sublist _).subset hy
    exact ahead_or (hno y this) (by simpa using hq)
  have hda : ∀ y ∈ l.dropWhile (fun y => !ahead x y), ahead x y = true := by
    intro y hy
    cases hd : l.dropWhile (fun y => !ahead x y) with
    | nil => rw [hd] at hy; simp at hy
    | cons z r =>
      have hz : ahead x z = true := by
        have := List.head?_dropWhile_not (fun y => !ahead x y) l
        rw [hd] at this; simpa using this
      rw [hd] at hy h2
      rcases List.mem_cons.1 hy with rfl | hy
      · exact hz
      · exact ahead_trans hz ((List.pairwise_cons.1 h2).1 y hy)
  rw [List.pairwise_append, List.pairwise_cons]
  refine ⟨h1, ⟨hda, h2⟩, ?_⟩
  intro a ha b hb
  rcases List.mem_cons.1 hb with rfl | hb
  · exact hta a ha
  · exact h3 a ha b hb
/-! What Deliver answers. -/
def freshS (L acc : List Lo) (x : Lo) : List Lo := if hasStamp L x || hasStamp acc x then acc else acc ++ [x]
def fresh (L list : List Lo) : List Lo := list.foldl (freshS L) []
def joinAll (L fr : List Lo) : List Lo := fr.foldl (fun l x => ins x l) L
def nextS (next : List Lo) (x : Lo) : List Lo := if hasStamp next x then next else ins x next
def deliverT (L : List Lo) (s : Str) : List Lo × Nat × Int :=
  if 4000 < s.length then (L, 0, 1) else
  match readOps (cut s) with
  | none => (L, 0, 12)
  | some list => if 150 < L.length + (fresh L list).length then (L, 0, 13) else (joinAll L (fresh L list), (fresh L list).length, 0)
theorem joinAll_len (L : List Lo) : ∀ (fr : List Lo), (joinAll L fr).length = L.length + fr.length := by
  intro fr
  unfold joinAll
  induction fr generalizing L with
  | nil => rfl
  | cons x fr ih => rw [List.foldl_cons, ih, ins_len]; simp; omega
theorem joinAll_snoc (L fr : List Lo) (x : Lo) : joinAll L (fr ++ [x]) = ins x (joinAll L fr) := by simp [joinAll]
theorem list_snoc_ind {α : Type} {P : List α → Prop} (h0 : P []) (hs : ∀ l c, P l → P (l ++ [c])) : ∀ l, P l := by
  intro l
  rw [← List.reverse_reverse l]
  induction l.reverse with
  | nil => exact h0
  | cons c r ih => rw [List.reverse_cons]; exact hs _ _ ih
theorem hasStamp_joinAll (L : List Lo) (y : Lo) (fr : List Lo) : hasStamp (joinAll L fr) y = (hasStamp L y || hasStamp fr y) := by
  refine list_snoc_ind (P := fun fr => hasStamp (joinAll L fr) y = (hasStamp L y || hasStamp fr y)) (by simp [joinAll, hasStamp]) ?_ fr
  intro fr x ih
  rw [joinAll_snoc, hasStamp_ins, ih]
  simp [hasStamp, Bool.or_assoc]
theorem fresh_snoc (L list : List Lo) (x : Lo) : fresh L (list ++ [x]) = freshS L (fresh L list) x := by simp [fresh]
/-- The document's way, op by op, leads to the same. -/
theorem next_fresh (L list : List Lo) : list.foldl nextS L = joinAll L (fresh L list) := by
  refine list_snoc_ind (P := fun list => list.foldl nextS L = joinAll L (fresh L list)) rfl ?_ list
  intro list x ih
  rw [List.foldl_append, List.foldl_cons, List.foldl_nil, ih, fresh_snoc]
  unfold nextS freshS
  rw [hasStamp_joinAll]
  split
  · rfl
  · rw [joinAll_snoc]
theorem fresh_len (L list : List Lo) : (fresh L list).length ≤ list.length := by
  refine list_snoc_ind (P := fun list => (fresh L list).length ≤ list.length) (by simp [fresh]) ?_ list
  intro list x ih
  rw [fresh_snoc]; unfold freshS
  split <;> simp <;> omega
theorem fresh_mem (L list : List Lo) : ∀ x ∈ fresh L list, x ∈ list := by
  refine list_snoc_ind (P := fun list => ∀ x ∈ fresh L list, x ∈ list) (by simp [fresh]) ?_ list
  intro list x ih y
  rw [fresh_snoc]; unfold freshS
  split
  · intro hy; simp [ih y hy]
  · intro hy
    rcases List.mem_append.1 hy with hy | hy
    · simp [ih y hy]
    · simp at hy; simp [hy]
/-- A log. -/
def LogOk (L : List Lo) : Prop := Sorted L ∧ (∀ x ∈ L, LoOk x) ∧ L.length ≤ 150
/-- The new ops: no two with one stamp, none with one of the log's. -/
def NewTo (L fr : List Lo) : Prop := (∀ x ∈ fr, hasStamp L x = false) ∧ fr.Pairwise (fun a b => sameStamp a b = false)
theorem fresh_new (L list : List Lo) : NewTo L (fresh L list) := by
  refine list_snoc_ind (P := fun list => NewTo L (fresh L list)) ⟨by simp [fresh], by simp [fresh]⟩ ?_ list
  intro list x ih
  rw [fresh_snoc]; unfold freshS
  split
  · exact ih
  · rename_i h
    rw [Bool.or_eq_true, not_or] at h
    refine ⟨?_, ?_⟩
    · intro y hy
      rcases List.mem_append.1 hy with hy | hy
      · exact ih.1 y hy
      · simp at hy; subst hy; simpa using h.1
    · rw [List.pairwise_append]
      refine ⟨ih.2, by simp, ?_⟩
      intro a ha b hb
      simp at hb; subst hb
      cases hq : sameStamp a b with
      | false => rfl
      | true => exact absurd (show hasStamp (fresh L list) b = true by unfold hasStamp; rw [List.any_eq_true]; exact ⟨a, ha, hq⟩) h.2
theorem joinAll_sorted {L : List Lo} (hs : Sorted L) : ∀ (fr : List Lo), NewTo L fr → Sorted (joinAll L fr) := by
  refine list_snoc_ind (fun _ => hs) ?_
  intro fr x ih h
  rw [joinAll_snoc]
  have h2 := List.pairwise_append.1 h.2
  refine ins_sorted (ih ⟨fun y hy => h.1 y (by simp [hy]), h2.1⟩) ?_
  rw [hasStamp_joinAll, h.1 x (by simp), Bool.false_or]
  unfold hasStamp; rw [List.any_eq_false]
  intro y hy
  rw [h2.2.2 y hy x (by simp)]; simp
theorem joinAll_mem {L : List Lo} {y : Lo} : ∀ (fr : List Lo), y ∈ joinAll L fr ↔ y ∈ L ∨ y ∈ fr := by
  refine list_snoc_ind (by simp [joinAll]) ?_
  intro fr x ih
  rw [joinAll_snoc, ins_mem, ih]
  simp only [List.mem_append, List.mem_singleton]
  constructor
  · rintro (h | h | h)
    · exact .inr (.inr h)
    · exact .inl h
    · exact .inr (.inl h)
  · rintro (h | h | h)
    · exact .inr (.inl h)
    · exact .inr (.inr h)
    · exact .inl h
theorem logOk_nil : LogOk [] := ⟨List.Pairwise.nil, by simp, by simp⟩
theorem deliver_ok {L : List Lo} (h : LogOk L) (s : Str) : LogOk (deliverT L s).1 := by
  unfold deliverT
  split
  · exact h
  · split
    · exact h
    · rename_i list hl
      split
      · exact h
      · refine ⟨joinAll_sorted h.1 _ (fresh_new L list), ?_, ?_⟩
        · intro x hx
          rcases (joinAll_mem _).1 hx with hx | hx
          · exact h.2.1 x hx
          · exact readOps_ok _ _ hl x (fresh_mem L list x hx)
        · simp only []; rw [joinAll_len]; omega
/-! Texts. -/
def loText (x : Lo) : Str := dec x.count.toNat ++ [32] ++ dec x.site.toNat ++ [32] ++ dec x.node.id.toNat ++ [32] ++ dec x.node.parent.toNat ++ [32] ++ x.node.name ++ [59]
def logText (L : List Lo) : Str := L.flatMap loText
theorem loText_len {x : Lo} (h : LoOk x) : (loText x).length ≤ 32 := by
  have h1 := dec_len x.count.toNat (by have := h.2.1; omega)
  have h2 := dec_len x.site.toNat (by have := h.2.2.2.1; omega)
  have h3 := dec_len x.node.id.toNat (by have := h.2.2.2.2.2.1; omega)
  have h4 := dec_len x.node.parent.toNat (by have := h.2.2.2.2.2.2.2.1; omega)
  have h5 := ndW_name h.2.2.2.2
  simp only [loText, List.length_append, List.length_cons, List.length_nil]; omega
theorem logText_len : ∀ (L : List Lo), (∀ x ∈ L, LoOk x) → (logText L).length ≤ 32 * L.length := by
  intro L
  induction L with
  | nil => intro _; simp [logText]
  | cons x L ih =>
    intro h
    have h1 := ih (fun y hy => h y (by simp [hy]))
    have h2 := loText_len (h x (by simp))
    unfold logText at h1 ⊢
    rw [List.flatMap_cons, List.length_append, List.length_cons]; omega
theorem logText_snoc (L : List Lo) (x : Lo) : logText (L ++ [x]) = logText L ++ loText x := by simp [logText]
end Go.Proofs.YtkjancfakplogaaGreatDoor
