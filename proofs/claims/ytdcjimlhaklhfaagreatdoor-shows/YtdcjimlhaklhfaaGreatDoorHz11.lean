import Derived.Test.YtdcjimlhaklhfaaGreatDoorHz7
import Derived.Test.YtdcjimlhaklhfaaGreatDoorHz1
import Derived.Test.YtdcjimlhaklhfaaGreatDoorHz3
import Derived.Test.YtdcjimlhaklhfaaGreatDoorHz5
import Derived.Deep.RegionWith
import Derived.Deep.RegionHeld3
namespace Go.Proofs.YtdcjimlhaklhfaaGreatDoor
open Go.RowKit
/-- An op. -/
structure Lo where
  count : Int
  site : Int
  node : Nd
def lo0 : Lo := ⟨0, 0, nd0⟩
def placeB (n : Nd) : Bool := if n.parent = 100 then n.name == [45] else (n.parent % 2 == 0 && isName n.name n.id)
def opOf5 (a b c d e : Str) : Option Lo :=
  if (number a 1 9999).2 && (number b 1 9).2 && (number c 1 99).2 && (number d 0 100).2 && placeB ⟨(number c 1 99).1, (number d 0 100).1, e⟩ then some ⟨(number a 1 9999).1, (number b 1 9).1, ⟨(number c 1 99).1, (number d 0 100).1, e⟩⟩ else none
def opOf : List Str → Option Lo
  | [a, b, c, d, e] => opOf5 a b c d e
  | _ => none
def readOp (r : Str) : Option Lo := if bodyB r then opOf (parts (bodyS r)) else none
def readOps : List Str → Option (List Lo)
  | [] => some []
  | r :: l => match readOp r with
    | none => none
    | some x => (readOps l).map (x :: ·)
theorem opOf_other {l : List Str} (h : l.length ≠ 5) : opOf l = none := by
  unfold opOf
  split
  · simp at h
  · rfl
theorem len5 {l : List Str} (h : l.length = 5) : ∃ a b c d e, l = [a, b, c, d, e] := by
  match l, h with
  | [a, b, c, d, e], _ => exact ⟨a, b, c, d, e, rfl⟩
/-- What an op's node may be. -/
def NdW (n : Nd) : Prop := 1 ≤ n.id ∧ n.id ≤ 99 ∧ 0 ≤ n.parent ∧ n.parent ≤ 100 ∧ placeB n = true
def LoOk (x : Lo) : Prop := 1 ≤ x.count ∧ x.count ≤ 9999 ∧ 1 ≤ x.site ∧ x.site ≤ 9 ∧ NdW x.node
theorem ndW_name {n : Nd} (h : NdW n) : n.name.length ≤ 11 := by
  obtain ⟨_, _, _, _, h⟩ := h
  unfold placeB at h
  split at h
  · rw [beq_iff_eq] at h; rw [h]; simp
  · rw [Bool.and_eq_true] at h; exact name_len h.2
theorem readOp_ok {r : Str} {x : Lo} (h : readOp r = some x) : LoOk x := by
  unfold readOp at h
  split at h
  · unfold opOf at h
    split at h
    · unfold opOf5 at h
      split at h
      · rename_i a b c d e _ hc
        simp only [Bool.and_eq_true] at hc
        obtain ⟨⟨⟨⟨h1, h2⟩, h3⟩, h4⟩, h5⟩ := hc
        cases h
        have := number_lo a 1 9999 h1
        have := number_bd a 1 9999 (by omega)
        have := number_lo b 1 9 h2
        have := number_bd b 1 9 (by omega)
        have := number_lo c 1 99 h3
        have := number_bd c 1 99 (by omega)
        have := number_bd d 0 100 (by omega)
        refine ⟨?_, ?_, ?_, ?_, ?_, ?_, ?_, ?_, h5⟩ <;> (simp only []; omega)
      · cases h
    · cases h
  · cases h
theorem readOps_ok : ∀ (rs : List Str) (l : List Lo), readOps rs = some l → ∀ x ∈ l, LoOk x := by
  intro rs
  induction rs with
  | nil => intro l h; simp [readOps] at h; subst h; simp
  | cons r rs ih =>
    intro l h
    rw [readOps] at h
    cases hr : readOp r with
    | none => rw [hr] at h; cases h
    | some x =>
      rw [hr] at h
      cases hl : readOps rs with
      | none => rw [hl] at h; cases h
      | some l' =>
        rw [hl] at h; cases h
        intro y hy
        rcases List.mem_cons.1 hy with rfl | hy
        · exact readOp_ok hr
        · exact ih l' hl y hy
theorem readOps_len : ∀ (rs : List Str) (l : List Lo), readOps rs = some l → l.length = rs.length := by
  intro rs
  induction rs with
  | nil => intro l h; simp [readOps] at h; subst h; rfl
  | cons r rs ih =>
    intro l h
    rw [readOps] at h
    cases hr : readOp r with
    | none => rw [hr] at h; cases h
    | some x =>
      rw [hr] at h
      cases hl : readOps rs with
      | none => rw [hl] at h; cases h
      | some l' => rw [hl] at h; cases h; simp [ih l' hl]
/-- Where the reading stands behind k records. -/
def LoInv (rs : List Str) (k : Nat) (acc : List Lo) : Prop := acc.length = k ∧ readOps rs = (readOps (rs.drop k)).map (acc ++ ·) ∧ ∀ x ∈ acc, LoOk x
theorem loInv_0 (rs : List Str) : LoInv rs 0 [] := ⟨rfl, by simp, by simp⟩
theorem loInv_yes {rs : List Str} {k : Nat} {acc : List Lo} (h : LoInv rs k acc) (hk : k < rs.length) {x : Lo} (hx : readOp rs[k] = some x) : LoInv rs (k + 1) (acc ++ [x]) := by
  refine ⟨by simp [h.1], ?_, ?_⟩
  · rw [h.2.1, List.drop_eq_getElem_cons hk, readOps, hx]
    cases readOps (rs.drop (k + 1)) <;> simp
  · intro y hy
    rcases List.mem_append.1 hy with hy | hy
    · exact h.2.2 y hy
    · simp at hy; subst hy; exact readOp_ok hx
theorem loInv_no {rs : List Str} {k : Nat} {acc : List Lo} (h : LoInv rs k acc) (hk : k < rs.length) (hx : readOp rs[k] = none) : readOps rs = none := by
  rw [h.2.1, List.drop_eq_getElem_cons hk, readOps, hx]; rfl
theorem loInv_end {rs : List Str} {k : Nat} {acc : List Lo} (h : LoInv rs k acc) (hk : ¬ k < rs.length) : readOps rs = some acc := by
  rw [h.2.1, List.drop_eq_nil_of_le (by omega)]; simp [readOps]
/-! Stamps and their order. -/
def sameStamp (y x : Lo) : Bool := y.count == x.count && y.site == x.site
def hasStamp (l : List Lo) (x : Lo) : Bool := l.any (fun y => sameStamp y x)
def ahead (x y : Lo) : Bool := if x.count ≠ y.count then decide (x.count < y.count) else decide (x.site < y.site)
def ins (x : Lo) (l : List Lo) : List Lo := l.takeWhile (fun y => !ahead x y) ++ x :: l.dropWhile (fun y => !ahead x y)
def Sorted (l : List Lo) : Prop := l.Pairwise (fun a b => ahead a b = true)
theorem ahead_iff {x y : Lo} : ahead x y = true ↔ x.count < y.count ∨ (x.count = y.count ∧ x.site < y.site) := by
  unfold ahead; split
  · rw [decide_eq_true_eq]; omega
  · rw [decide_eq_true_eq]; omega
theorem ahead_trans {x y z : Lo} (h : ahead x y = true) (g : ahead y z = true) : ahead x z = true := by
  rw [ahead_iff] at *; omega
theorem ahead_or {x y : Lo} (h : sameStamp y x = false) (g : ahead x y = false) : ahead y x = true := by
  have g' : ¬ (ahead x y = true) := by rw [g]; simp
  rw [ahead_iff] at g' ⊢
  have h' : ¬ (y.count = x.count ∧ y.site = x.site) := by
    intro hh; unfold sameStamp at h; rw [hh.1, hh.2] at h; simp at h
  omega
theorem ins_split {x : Lo} {a b : List Lo} (ha : ∀ y ∈ a, ahead x y = false) (hb : ∀ y, b.head? = some y → ahead x y = true) : ins x (a ++ b) = a ++ x :: b := by
  unfold ins
  have h1 : ∀ (a b : List Lo), (∀ y ∈ a, ahead x y = false) → (∀ y, b.head? = some y → ahead x y = true) → (a ++ b).takeWhile (fun y => !ahead x y) = a ∧ (a ++ b).dropWhile (fun y => !ahead x y) = b := by
    intro a
    induction a with
    | nil =>
      intro b _ hb
      cases b with
      | nil => simp
      | cons y b => simp [hb y rfl]
    | cons z a ih =>
      intro b ha hb
      have := ih b (fun y hy => ha y (by simp [hy])) hb
      simp [ha z (by simp), this.1, this.2]
  rw [(h1 a b ha hb).1, (h1 a b ha hb).2]
theorem ins_mem {x y : Lo} {l : List Lo} : y ∈ ins x l ↔ y = x ∨ y ∈ l := by
  unfold ins
  rw [List.mem_append, List.mem_cons]
  have : y ∈ l ↔ y ∈ l.takeWhile (fun y => !ahead x y) ∨ y ∈ l.dropWhile (fun y => !ahead x y) := by
    rw [← List.mem_append, List.takeWhile_append_dropWhile]
  rw [this]
  constructor
  · rintro (h | h | h)
    · exact .inr (.inl h)
    · exact .inl h
    · exact .inr (.inr h)
  · rintro (h | h | h)
    · exact .inr (.inl h)
    · exact .inl h
    · exact .inr (.inr h)
theorem ins_len (x : Lo) (l : List Lo) : (ins x l).length = l.length + 1 := by
  unfold ins
  have := congrArg List.length (List.takeWhile_append_dropWhile (p := fun y => !ahead x y) (l := l))
  rw [List.length_append] at this
  rw [List.length_append, List.length_cons]; omega
/-- Where an op stands in a list that is in its order. -/
theorem sorted_cut {x : Lo} {l : List Lo} (hs : Sorted l) {i : Nat} (hi : i ≤ l.length) (hb : ∀ j (h : j < l.length), i ≤ j → ahead x l[j] = true) (ha : i = 0 ∨ ∃ h : i - 1 < l.length, ahead x l[i - 1] = false) : ins x l = l.take i ++ x :: l.drop i := by
  conv => lhs; rw [← List.take_append_drop i l]
  refine ins_split ?_ ?_
  · intro y hy
    rcases ha with h0 | ⟨h1, h2⟩
    · subst h0; simp at hy
    · obtain ⟨j, hj, rfl⟩ := List.mem_iff_getElem.1 hy
      rw [List.length_take] at hj
      rw [List.getElem_take]
      by_cases hji : j = i - 1
      · subst hji; exact h2
      · cases hq : ahead x l[j] with
        | false => rfl
        | true =>
          have := (List.pairwise_iff_getElem.1 hs) j (i - 1) (by omega) h1 (by omega)
          rw [ahead_trans hq this] at h2; cases h2
  · intro y hy
    rw [List.head?_drop] at hy
    rcases Nat.lt_or_ge i l.length with h | h
    · rw [List.getElem?_eq_getElem h] at hy; cases hy; exact hb i h (Nat.le_refl _)
    · rw [List.getElem?_eq_none h] at hy; cases hy
theorem hasStamp_ins (x y : Lo) (l : List Lo) : hasStamp (ins x l) y = (hasStamp l y || sameStamp x y) := by
  rw [Bool.eq_iff_iff]
  unfold hasStamp
  rw [List.any_eq_true, Bool.or_eq_true, List.any_eq_true]
  constructor
  · rintro ⟨z, hz, h⟩
    rcases ins_mem.1 hz with rfl | hz
    · exact .inr h
    · exact .inl ⟨z, hz, h⟩
  · rintro (⟨z, hz, h⟩ | h)
    · exact ⟨z, ins_mem.2 (.inr hz), h⟩
    · exact ⟨x, ins_mem.2 (.inl rfl), h⟩
theorem ins_sorted {x : Lo} {l : List Lo} (hs : Sorted l) (hn : hasStamp l x = false) : Sorted (ins x l) := by
  have hno : ∀ y ∈ l, sameStamp y x = false := by
    intro y hy
    cases h : sameStamp y x with
    | false => rfl
    | true => unfold hasStamp at hn; rw [List.any_eq_false] at hn; exact absurd h (hn y hy)
  unfold Sorted ins
  have hcat : l.takeWhile (fun y => !ahead x y) ++ l.dropWhile (fun y => !ahead x y) = l := List.takeWhile_append_dropWhile
  have hs' := hs
  unfold Sorted at hs'
  rw [← hcat, List.pairwise_append] at hs'
  obtain ⟨h1, h2, h3⟩ := hs'
  have hta : ∀ y ∈ l.takeWhile (fun y => !ahead x y), ahead y x = true := by
    intro y hy
    have hq : (!ahead x y) = true := by
      have := List.all_takeWhile (p := fun y => !ahead x y) (l := l)
      rw [List.all_eq_true] at this
      exact this y hy
    have : y ∈ l := (List.takeWhile_sublist _).subset hy
    exact ahead_or (hno y this) (by simpa using hq)
  have hda : ∀ y ∈ l.dropWhile (fun y => !ahead x y), ahead x y = true := by
    intro y hy
    cases hd : l.dropWhile (fun y => !ahead x y) with
    | nil => rw [hd] at hy; simp at hy
    | cons z r =>
      have hz : ahead x z = true := by
        have := List.head?_dropWhile_not (fun y => !ahead x y) l
        rw [hd] at this; simpa using this
      rw [hd] at hy h2
      rcases List.mem_cons.1 hy with rfl | hy
      · exact hz
      · exact ahead_trans hz ((List.pairwise_cons.1 h2).1 y hy)
  rw [List.pairwise_append, List.pairwise_cons]
  refine ⟨h1, ⟨hda, h2⟩, ?_⟩
  intro a ha b hb
  rcases List.mem_cons.1 hb with rfl | hb
  · exact hta a ha
  · exact h3 a ha b hb
/-! What Deliver answers. -/
def freshS (L acc : List Lo) (x : Lo) : List Lo := if hasStamp L x || hasStamp acc x then acc else acc ++ [x]
def fresh (L list : List Lo) : List Lo := list.foldl (freshS L) []
def joinAll (L fr : List Lo) : List Lo := fr.foldl (fun l x => ins x l) L
def nextS (next : List Lo) (x : Lo) : List Lo := if hasStamp next x then next else ins x next
def deliverT (L : List Lo) (s : Str) : List Lo × Nat × Int :=
  if 4000 < s.length then (L, 0, 1) else
  match readOps (cut s) with
  | none => (L, 0, 12)
  | some list => if 150 < L.length + (fresh L list).length then (L, 0, 13) else (joinAll L (fresh L list), (fresh L list).length, 0)
theorem joinAll_len (L : List Lo) : ∀ (fr : List Lo), (joinAll L fr).length = L.length + fr.length := by
  intro fr
  unfold joinAll
  induction fr generalizing L with
  | nil => rfl
  | cons x fr ih => rw [List.foldl_cons, ih, ins_len]; simp; omega
theorem joinAll_snoc (L fr : List Lo) (x : Lo) : joinAll L (fr ++ [x]) = ins x (joinAll L fr) := by simp [joinAll]
theorem list_snoc_ind {α : Type} {P : List α → Prop} (h0 : P []) (hs : ∀ l c, P l → P (l ++ [c])) : ∀ l, P l := by
  intro l
  rw [← List.reverse_reverse l]
  induction l.reverse with
  | nil => exact h0
  | cons c r ih => rw [List.reverse_cons]; exact hs _ _ ih
theorem hasStamp_joinAll (L : List Lo) (y : Lo) (fr : List Lo) : hasStamp (joinAll L fr) y = (hasStamp L y || hasStamp fr y) := by
  refine list_snoc_ind (P := fun fr => hasStamp (joinAll L fr) y = (hasStamp L y || hasStamp fr y)) (by simp [joinAll, hasStamp]) ?_ fr
  intro fr x ih
  rw [joinAll_snoc, hasStamp_ins, ih]
  simp [hasStamp, Bool.or_assoc]
theorem fresh_snoc (L list : List Lo) (x : Lo) : fresh L (list ++ [x]) = freshS L (fresh L list) x := by simp [fresh]
/-- The document's way, op by op, leads to the same. -/
theorem next_fresh (L list : List Lo) : list.foldl nextS L = joinAll L (fresh L list) := by
  refine list_snoc_ind (P := fun list => list.foldl nextS L = joinAll L (fresh L list)) rfl ?_ list
  intro list x ih
  rw [List.foldl_append, List.foldl_cons, List.foldl_nil, ih, fresh_snoc]
  unfold nextS freshS
  rw [hasStamp_joinAll]
  split
  · rfl
  · rw [joinAll_snoc]
theorem fresh_len (L list : List Lo) : (fresh L list).length ≤ list.length := by
  refine list_snoc_ind (P := fun list => (fresh L list).length ≤ list.length) (by simp [fresh]) ?_ list
  intro list x ih
  rw [fresh_snoc]; unfold freshS
  split <;> simp <;> omega
theorem fresh_mem (L list : List Lo) : ∀ x ∈ fresh L list, x ∈ list := by
  refine list_snoc_ind (P := fun list => ∀ x ∈ fresh L list, x ∈ list) (by simp [fresh]) ?_ list
  intro list x ih y
  rw [fresh_snoc]; unfold freshS
  split
  · intro hy; simp [ih y hy]
  · intro hy
    rcases List.mem_append.1 hy with hy | hy
    · simp [ih y hy]
    · simp at hy; simp [hy]
/-- A log. -/
def LogOk (L : List Lo) : Prop := Sorted L ∧ (∀ x ∈ L, LoOk x) ∧ L.length ≤ 150
/-- The new ops: no two with one stamp, none with one of the log's. -/
def NewTo (L fr : List Lo) : Prop := (∀ x ∈ fr, hasStamp L x = false) ∧ fr.Pairwise (fun a b => sameStamp a b = false)
theorem fresh_new (L list : List Lo) : NewTo L (fresh L list) := by
  refine list_snoc_ind (P := fun list => NewTo L (fresh L list)) ⟨by simp [fresh], by simp [fresh]⟩ ?_ list
  intro list x ih
  rw [fresh_snoc]; unfold freshS
  split
  · exact ih
  · rename_i h
    rw [Bool.or_eq_true, not_or] at h
    refine ⟨?_, ?_⟩
    · intro y hy
      rcases List.mem_append.1 hy with hy | hy
      · exact ih.1 y hy
      · simp at hy; subst hy; simpa using h.1
    · rw [List.pairwise_append]
      refine ⟨ih.2, by simp, ?_⟩
      intro a ha b hb
      simp at hb; subst hb
      cases hq : sameStamp a b with
      | false => rfl
      | true => exact absurd (show hasStamp (fresh L list) b = true by unfold hasStamp; rw [List.any_eq_true]; exact ⟨a, ha, hq⟩) h.2
theorem joinAll_sorted {L : List Lo} (hs : Sorted L) : ∀ (fr : List Lo), NewTo L fr → Sorted (joinAll L fr) := by
  refine list_snoc_ind (fun _ => hs) ?_
  intro fr x ih h
  rw [joinAll_snoc]
  have h2 := List.pairwise_append.1 h.2
  refine ins_sorted (ih ⟨fun y hy => h.1 y (by simp [hy]), h2.1⟩) ?_
  rw [hasStamp_joinAll, h.1 x (by simp), Bool.false_or]
  unfold hasStamp; rw [List.any_eq_false]
  intro y hy
  rw [h2.2.2 y hy x (by simp)]; simp
theorem joinAll_mem {L : List Lo} {y : Lo} : ∀ (fr : List Lo), y ∈ joinAll L fr ↔ y ∈ L ∨ y ∈ fr := by
  refine list_snoc_ind (by simp [joinAll]) ?_
  intro fr x ih
  rw [joinAll_snoc, ins_mem, ih]
  simp only [List.mem_append, List.mem_singleton]
  constructor
  · rintro (h | h | h)
    · exact .inr (.inr h)
    · exact .inl h
    · exact .inr (.inl h)
  · rintro (h | h | h)
    · exact .inr (.inl h)
    · exact .inr (.inr h)
    · exact .inl h
theorem logOk_nil : LogOk [] := ⟨List.Pairwise.nil, by simp, by simp⟩
theorem deliver_ok {L : List Lo} (h : LogOk L) (s : Str) : LogOk (deliverT L s).1 := by
  unfold deliverT
  split
  · exact h
  · split
    · exact h
    · rename_i list hl
      split
      · exact h
      · refine ⟨joinAll_sorted h.1 _ (fresh_new L list), ?_, ?_⟩
        · intro x hx
          rcases (joinAll_mem _).1 hx with hx | hx
          · exact h.2.1 x hx
          · exact readOps_ok _ _ hl x (fresh_mem L list x hx)
        · simp only []; rw [joinAll_len]; omega
/-! Texts. -/
def loText (x : Lo) : Str := dec x.count.toNat ++ [32] ++ dec x.site.toNat ++ [32] ++ dec x.node.id.toNat ++ [32] ++ dec x.node.parent.toNat ++ [32] ++ x.node.name ++ [59]
def logText (L : List Lo) : Str := L.flatMap loText
theorem loText_len {x : Lo} (h : LoOk x) : (loText x).length ≤ 32 := by
  have h1 := dec_len x.count.toNat (by have := h.2.1; omega)
  have h2 := dec_len x.site.toNat (by have := h.2.2.2.1; omega)
  have h3 := dec_len x.node.id.toNat (by have := h.2.2.2.2.2.1; omega)
  have h4 := dec_len x.node.parent.toNat (by have := h.2.2.2.2.2.2.2.1; omega)
  have h5 := ndW_name h.2.2.2.2
  simp only [loText, List.length_append, List.length_cons, List.length_nil]; omega
theorem logText_len : ∀ (L : List Lo), (∀ x ∈ L, LoOk x) → (logText L).length ≤ 32 * L.length := by
  intro L
  induction L with
  | nil => intro _; simp [logText]
  | cons x L ih =>
    intro h
    have h1 := ih (fun y hy => h y (by simp [hy]))
    have h2 := loText_len (h x (by simp))
    unfold logText at h1 ⊢
    rw [List.flatMap_cons, List.length_append, List.length_cons]; omega
theorem logText_snoc (L : List Lo) (x : Lo) : logText (L ++ [x]) = logText L ++ loText x := by simp [logText]
end Go.Proofs.YtdcjimlhaklhfaaGreatDoor

namespace Go.Proofs.YtdcjimlhaklhfaaGreatDoor
open Go.RowKit
/-! The places by a log. They are no tree: a way up may end anywhere. -/
def TrW (t : Tr) : Prop := t 0 = none ∧ ∀ i n, t i = some n → n.id = i ∧ 1 ≤ i ∧ i ≤ 99 ∧ NdW n
def placeS (t : Tr) (x : Lo) : Tr := if meetsT t x.node.parent x.node.id then t else trPut t x.node
def places (L : List Lo) : Tr := L.foldl placeS tr0
theorem trW_0 : TrW tr0 := ⟨rfl, fun i n h => by cases h⟩
theorem trW_put {t : Tr} (h : TrW t) {n : Nd} (hn : NdW n) : TrW (trPut t n) := by
  have h1 := hn.1
  have h2 := hn.2.1
  refine ⟨?_, fun i m hm => ?_⟩
  · unfold trPut; rw [if_neg (by omega)]; exact h.1
  · unfold trPut at hm
    split at hm
    · cases hm; rename_i e; exact ⟨e.symm, by omega, by omega, hn⟩
    · exact h.2 i m hm
theorem placeS_ok {t : Tr} (h : TrW t) {x : Lo} (hx : LoOk x) : TrW (placeS t x) := by
  unfold placeS; split
  · exact h
  · exact trW_put h hx.2.2.2.2
theorem places_aux : ∀ (L : List Lo) (t : Tr), TrW t → (∀ x ∈ L, LoOk x) → TrW (L.foldl placeS t) := by
  intro L
  induction L with
  | nil => intro t h _; exact h
  | cons x L ih => intro t h hx; exact ih _ (placeS_ok h (hx x (by simp))) (fun y hy => hx y (by simp [hy]))
theorem places_ok {L : List Lo} (h : ∀ x ∈ L, LoOk x) : TrW (places L) := places_aux L tr0 trW_0 h
theorem places_snoc (L : List Lo) (k : Nat) (h : k < L.length) : places (L.take (k + 1)) = placeS (places (L.take k)) L[k] := by
  unfold places; rw [List.take_succ_eq_append_getElem h, List.foldl_append]; rfl
/-! The view. -/
def shownNd (t : Tr) (i : Nat) : Nd :=
  let n := (t i).getD nd0
  if atT t n.parent n.name = i then n else ⟨n.id, n.parent, n.name ++ 126 :: digs i⟩
def viewT (t : Tr) : Tr := fun i => if decide (1 ≤ i) && decide (i ≤ 99) && meetsT t i 0 then some (shownNd t i) else none
/-- The view as far as the nodes below k. -/
def viewTo (t : Tr) (k : Nat) : Tr := fun i => if i ≤ k then viewT t i else none
theorem viewTo_0 (t : Tr) : viewTo t 0 = tr0 := by
  funext i; unfold viewTo tr0
  split
  · have : i = 0 := by omega
    subst this; rfl
  · rfl
theorem viewTo_99 (t : Tr) : viewTo t 99 = viewT t := by
  funext i; unfold viewTo
  split
  · rfl
  · unfold viewT; rw [decide_eq_false (p := i ≤ 99) (by omega)]; simp
theorem shown_id {t : Tr} (h : TrW t) {i : Nat} {n : Nd} (hn : t i = some n) : (shownNd t i).id = i ∧ (shownNd t i).parent = n.parent := by
  have hb := h.2 i n hn
  unfold shownNd; rw [hn]; simp only [Option.getD_some]
  split
  · exact ⟨hb.1, rfl⟩
  · exact ⟨hb.1, rfl⟩
theorem meets_there {t : Tr} {i : Nat} (h1 : 1 ≤ i) (h : meetsT t i 0 = true) : ∃ n, t i = some n := by
  unfold meetsT at h
  rw [show (100 : Nat) = 99 + 1 from rfl, meetsF, if_neg (by omega)] at h
  rw [Int.toNat_natCast] at h
  cases ht : t i with
  | none => rw [ht] at h; cases h
  | some n => exact ⟨n, rfl⟩
theorem viewTo_yes {t : Tr} (h : TrW t) {k : Nat} (hk : k < 99) (hm : meetsT t (k + 1 : Nat) 0 = true) : viewTo t (k + 1) = trPut (viewTo t k) (shownNd t (k + 1)) := by
  obtain ⟨n, hn⟩ := meets_there (by omega) hm
  have hid := (shown_id h hn).1
  funext i
  unfold viewTo trPut
  rw [hid]
  by_cases hi : i = k + 1
  · subst hi
    rw [if_pos (Nat.le_refl _), if_pos rfl]
    unfold viewT
    rw [hm, decide_eq_true (by omega), decide_eq_true (by omega)]; rfl
  · rw [if_neg (c := (i : Int) = ((k + 1 : Nat) : Int)) (by omega)]
    show (if i ≤ k + 1 then viewT t i else none) = (if i ≤ k then viewT t i else none)
    by_cases h2 : i ≤ k
    · rw [if_pos h2, if_pos (by omega)]
    · rw [if_neg h2, if_neg (by omega)]
theorem viewTo_no {t : Tr} {k : Nat} (hm : meetsT t (k + 1 : Nat) 0 = false) : viewTo t (k + 1) = viewTo t k := by
  funext i
  unfold viewTo
  by_cases hi : i = k + 1
  · subst hi
    rw [if_pos (Nat.le_refl _), if_neg (by omega)]
    unfold viewT
    rw [hm]; simp
  · by_cases h2 : i ≤ k
    · rw [if_pos h2, if_pos (by omega)]
    · rw [if_neg h2, if_neg (by omega)]
/-- The way up, in places of any kind. -/
def nodesW (t : Tr) : List Nd := (List.range' 1 99).filterMap t
theorem nodesW_mem {t : Tr} (ht : TrW t) {y : Int} {n : Nd} (h : t y.toNat = some n) : n ∈ nodesW t ∧ n.id = y := by
  have hb := ht.2 _ n h
  refine ⟨List.mem_filterMap.2 ⟨y.toNat, ?_, h⟩, by omega⟩
  rw [List.mem_range'_1]; omega
theorem nodesW_len (t : Tr) : (nodesW t).length ≤ 99 := by
  refine Nat.le_trans (List.length_filterMap_le _ _) ?_
  simp
theorem goes_meetsW {t : Tr} (ht : TrW t) {x goal : Int} : meetsT t x goal = true ↔ Goes t x goal := by
  constructor
  · intro h; exact ⟨100, h⟩
  · rintro ⟨f, h⟩
    have h1 := meets_up t goal h
    rw [meets_below] at h1
    unfold meetsT
    rw [show (100 : Nat) = 99 + 1 from rfl, meets_below]
    rw [Bool.or_eq_true] at h1 ⊢
    rcases h1 with h1 | h1
    · exact .inl h1
    · right
      have hs := below_stop (ns := nodesW t) (look := fun x : Int => t x.toNat) (fun y n hn => nodesW_mem ht hn) f x h1
      exact below_le (nodesW_len t) x hs
theorem goes_step {t : Tr} {x : Int} {n : Nd} (h : t x.toNat = some n) (h1 : 1 ≤ x) : Goes t x 0 ↔ Goes t n.parent 0 := by
  constructor
  · rintro ⟨f, hf⟩
    cases f with
    | zero => cases hf
    | succ f =>
      rw [meetsF, if_neg (by omega), h] at hf
      exact ⟨f, hf⟩
  · exact goes_up h
theorem plain_of_two {s : Str} {a b : Int} (ha : isName s a = true) (hb : isName s b = true) (h1 : 1 ≤ a) (h2 : a < b) (h3 : b ≤ 99) : plainLen s = s.length := by
  unfold isName at ha hb
  simp only [Bool.and_eq_true, decide_eq_true_eq, Bool.or_eq_true, beq_iff_eq] at ha hb
  rcases ha.2 with h | h
  · exact h
  · rcases hb.2 with g | g
    · exact g
    · rw [h] at g
      have e : digs a = digs b := (List.cons.inj g).2
      have n1 := digs_num1 a.toNat (by omega) (by omega)
      have n2 := digs_num1 b.toNat (by omega) (by omega)
      rw [Int.toNat_of_nonneg (by omega)] at n1 n2
      rw [e, n2] at n1
      have := congrArg Prod.fst n1
      simp only at this
      omega
theorem plain_tail {s : Str} {id : Int} (h : plainLen s = s.length) (h1 : 1 ≤ plainLen s) (h2 : plainLen s ≤ 8) : isName (s ++ 126 :: digs id) id = true := by
  have hall : s.all plainB = true := by
    rw [List.all_eq_true]
    intro x hx
    have ht : s.takeWhile plainB = s := by
      rw [← take_plain, h]; simp
    rw [← ht] at hx
    exact takeWhile_all s x hx
  have e : plainLen (s ++ 126 :: digs id) = s.length := by
    refine plainLen_stop _ _ (by simp) (by simp; simpa using hall) ?_
    intro c r hc
    simp at hc
    rw [← hc.1]; rfl
  unfold isName
  rw [e]
  simp [← h, h1, h2]
theorem at_le {t : Tr} {i : Nat} {n : Nd} (h1 : 1 ≤ i) (h2 : i ≤ 99) (hn : t i = some n) : ∃ j m, 1 ≤ j ∧ j ≤ i ∧ atT t n.parent n.name = (j : Int) ∧ t j = some m ∧ m.parent = n.parent ∧ m.name = n.name := by
  unfold atT
  rcases scan_cases (spotIs t n.parent n.name) 1 100 with ⟨a1, a2, a3, a4⟩ | ⟨_, a2⟩
  · rw [if_pos a1]
    generalize scan (spotIs t n.parent n.name) 1 100 = j at *
    have hle : j ≤ i := by
      rcases Nat.lt_or_ge i j with hh | hh
      · have := a4 i h1 hh
        unfold spotIs at this; rw [hn] at this; simp at this
      · exact hh
    unfold spotIs at a3
    cases hj : t j with
    | none => rw [hj] at a3; cases a3
    | some m =>
      rw [hj] at a3
      simp only [Bool.and_eq_true, beq_iff_eq] at a3
      exact ⟨j, m, a2, hle, rfl, hj, a3.1, a3.2⟩
  · have := a2 i h1 (by omega)
    unfold spotIs at this; rw [hn] at this; simp at this
theorem placeB_name {n : Nd} (h : placeB n = true) (hp : n.parent ≠ 100) : n.parent % 2 = 0 ∧ isName n.name n.id = true := by
  unfold placeB at h
  rw [if_neg hp, Bool.and_eq_true, beq_iff_eq] at h
  exact h
theorem view_some {t : Tr} {i : Nat} {m : Nd} (h : viewT t i = some m) : 1 ≤ i ∧ i ≤ 99 ∧ meetsT t i 0 = true ∧ m = shownNd t i := by
  unfold viewT at h
  split at h
  · rename_i hc
    simp only [Bool.and_eq_true, decide_eq_true_eq] at hc
    cases h; exact ⟨hc.1.1, hc.1.2, hc.2, rfl⟩
  · cases h
theorem goes_trash {t : Tr} (ht : TrW t) : ¬ Goes t 100 0 := by
  rintro ⟨f, hf⟩
  cases f with
  | zero => cases hf
  | succ f =>
    rw [meetsF, if_neg (by omega)] at hf
    cases h : t (100 : Int).toNat with
    | none => rw [h] at hf; cases hf
    | some n => have h2 := (ht.2 _ n h).2.2.1; simp at h2
/-- A name as the log has it, or with its node's number behind it. -/
theorem shown_name {t : Tr} (ht : TrW t) {i : Nat} {n : Nd} (h1 : 1 ≤ i) (h2 : i ≤ 99) (hn : t i = some n) (hp : n.parent ≠ 100) :
    isName (shownNd t i).name i = true ∧ ((shownNd t i).name = n.name ∧ (∀ j m, t j = some m → m.parent = n.parent → m.name = n.name → i ≤ j) ∨ (shownNd t i).name = n.name ++ 126 :: digs i ∧ plainLen n.name = n.name.length) := by
  have hb := ht.2 i n hn
  have hnm := (placeB_name hb.2.2.2.2.2.2.2 hp).2
  rw [hb.1] at hnm
  obtain ⟨j, m, j1, j2, hat, hj, jp, jn⟩ := at_le h1 h2 hn
  unfold shownNd; rw [hn]; simp only [Option.getD_some]
  split
  · rename_i e
    refine ⟨hnm, .inl ⟨rfl, fun q r hq qp qn => ?_⟩⟩
    have hq' := ht.2 q r hq
    obtain ⟨j', m', _, j2', hat', _⟩ := at_le hq'.2.1 hq'.2.2.1 hq
    rw [qp, qn, e] at hat'
    omega
  · rename_i e
    have hji : j < i := by
      rw [hat] at e
      omega
    have hbj := ht.2 j m hj
    have hnj := (placeB_name hbj.2.2.2.2.2.2.2 (by rw [jp]; exact hp)).2
    rw [hbj.1, jn] at hnj
    have hpl := plain_of_two hnj hnm (by omega) (by omega) (by omega)
    have hh := hnm
    unfold isName at hh
    simp only [Bool.and_eq_true, decide_eq_true_eq] at hh
    exact ⟨plain_tail hpl hh.1.1 hh.1.2, .inr ⟨rfl, hpl⟩⟩
theorem tail_no {s s' : Str} {i : Nat} (hpl : plainLen s = s.length) (e : s = s' ++ 126 :: digs i) : False := by
  have hx : (126 : UInt8) ∈ s := by rw [e]; simp
  have ht : s.takeWhile plainB = s := by rw [← take_plain, hpl]; simp
  rw [← ht] at hx
  have := takeWhile_all s _ hx
  cases this
theorem view_valid {t : Tr} (ht : TrW t) : Valid (viewT t) := by
  have key : ∀ i m, viewT t i = some m → ∃ n, t i = some n ∧ m = shownNd t i ∧ 1 ≤ i ∧ i ≤ 99 ∧ m.id = i ∧ m.parent = n.parent ∧ n.parent ≠ 100 ∧ Goes t n.parent 0 ∧ NdW n := by
    intro i m hm
    obtain ⟨h1, h2, h3, h4⟩ := view_some hm
    obtain ⟨n, hn⟩ := meets_there h1 h3
    obtain ⟨e1, e2⟩ := shown_id ht hn
    have hg := (goes_step (x := (i : Int)) (by rw [Int.toNat_natCast]; exact hn) (by omega)).1 ((goes_meetsW ht).1 h3)
    exact ⟨n, hn, h4, h1, h2, by rw [h4]; exact e1, by rw [h4]; exact e2, fun e => goes_trash ht (e ▸ hg), hg, (ht.2 i n hn).2.2.2⟩
  have hseen : ∀ p : Int, 1 ≤ p → Goes t p 0 → ∃ m, viewT t p.toNat = some m := by
    intro p h1 hg
    have hm := (goes_meetsW ht).2 hg
    obtain ⟨q, rfl⟩ := Int.eq_ofNat_of_zero_le (by omega : 0 ≤ p)
    obtain ⟨n, hn⟩ := meets_there (by omega) hm
    have hb := ht.2 q n hn
    refine ⟨shownNd t q, ?_⟩
    rw [Int.toNat_natCast]; unfold viewT
    rw [hm, decide_eq_true hb.2.1, decide_eq_true hb.2.2.1]; rfl
  have hok : TrOk (viewT t) := by
    refine ⟨by unfold viewT; simp, fun i m hm => ?_⟩
    obtain ⟨n, hn, e, h1, h2, hid, hpar, hne, _, hw⟩ := key i m hm
    have hw3 := hw.2.2.1
    have hw4 := hw.2.2.2.1
    refine ⟨hid, h1, h2, by omega, by omega, ?_⟩
    rw [hid, e]; exact (shown_name ht h1 h2 hn hne).1
  have hpar : ∀ i m, viewT t i = some m → isParentT (viewT t) m.parent = true := by
    intro i m hm
    obtain ⟨n, hn, e, h1, h2, hid, hp, hne, hg, hw⟩ := key i m hm
    rw [hp, isParent_iff]
    have hev := (placeB_name hw.2.2.2.2 hne).1
    by_cases h0 : n.parent = 0
    · exact .inl h0
    · exact .inr ⟨hev, hseen _ (by have := hw.2.2.1; omega) hg⟩
  refine ⟨hok, hpar, ?_, ?_⟩
  · have hup : ∀ (f : Nat) (x : Int), 0 ≤ x → meetsF t f x 0 = true → Goes (viewT t) x 0 := by
      intro f
      induction f with
      | zero => intro x _ h; cases h
      | succ f ih =>
        intro x hx0 h
        by_cases h0 : x = 0
        · subst h0; exact goes_here _ _
        · have hg : Goes t x 0 := ⟨f + 1, h⟩
          obtain ⟨m, hm⟩ := hseen x (by omega) hg
          obtain ⟨n, hn, e, h1, h2, hid, hp, _, _, hw⟩ := key _ m hm
          rw [meetsF, if_neg h0, hn] at h
          refine goes_up hm ?_
          rw [hp]; exact ih n.parent hw.2.2.1 h
    intro i m hm
    obtain ⟨n, hn, e, h1, h2, hid, hp, _, _, hw⟩ := key i m hm
    rw [hid]
    exact hup 100 i (by omega) (view_some hm).2.2.1
  · intro i j n m hi hj hp hnm
    obtain ⟨a, ha, ea, i1, i2, iid, ip, ine, _, iw⟩ := key i n hi
    obtain ⟨b, hb, eb, j1, j2, jid, jp, jne, _, jw⟩ := key j m hj
    have hab : a.parent = b.parent := by rw [← ip, ← jp]; exact hp
    have si := (shown_name ht i1 i2 ha ine).2
    have sj := (shown_name ht j1 j2 hb jne).2
    rw [← ea] at si
    rw [← eb] at sj
    rcases si with ⟨si, li⟩ | ⟨si, pi⟩
    · rcases sj with ⟨sj, lj⟩ | ⟨sj, pj⟩
      · have en : a.name = b.name := by rw [← si, ← sj]; exact hnm
        have := li j b hb hab.symm en.symm
        have := lj i a ha hab en
        omega
      · -- a.name = b.name ~ j : a name of i that is j's
        have en : a.name = b.name ++ 126 :: digs j := by rw [← si, ← sj]; exact hnm
        have hname := (placeB_name iw.2.2.2.2 ine).2
        rw [(ht.2 i a ha).1] at hname
        have hname2 : isName a.name j = true := by
          have := (shown_name ht j1 j2 hb jne).1
          rw [← eb, sj, ← en] at this; exact this
        rcases Nat.lt_trichotomy i j with hlt | heq | hgt
        · exact (tail_no (plain_of_two hname hname2 (by omega) (by omega) (by omega)) en).elim
        · exact heq
        · exact (tail_no (plain_of_two hname2 hname (by omega) (by omega) (by omega)) en).elim
    · rcases sj with ⟨sj, lj⟩ | ⟨sj, pj⟩
      · have en : b.name = a.name ++ 126 :: digs i := by rw [← si, ← sj]; exact hnm.symm
        have hname := (placeB_name jw.2.2.2.2 jne).2
        rw [(ht.2 j b hb).1] at hname
        have hname2 : isName b.name i = true := by
          have := (shown_name ht i1 i2 ha ine).1
          rw [← ea, si, ← en] at this; exact this
        rcases Nat.lt_trichotomy i j with hlt | heq | hgt
        · exact (tail_no (plain_of_two hname2 hname (by omega) (by omega) (by omega)) en).elim
        · exact heq
        · exact (tail_no (plain_of_two hname hname2 (by omega) (by omega) (by omega)) en).elim
      · have h1 : isName n.name i = true := by rw [ea]; exact (shown_name ht i1 i2 ha ine).1
        have h2 : isName n.name j = true := by rw [hnm, eb]; exact (shown_name ht j1 j2 hb jne).1
        rcases Nat.lt_trichotomy i j with hlt | heq | hgt
        · exact (tail_no (plain_of_two h1 h2 (by omega) (by omega) (by omega)) si).elim
        · exact heq
        · exact (tail_no (plain_of_two h2 h1 (by omega) (by omega) (by omega)) si).elim
end Go.Proofs.YtdcjimlhaklhfaaGreatDoor

namespace Go.Proofs.YtdcjimlhaklhfaaGreatDoor
open Go.RowKit
/-- A list of nodes that holds the places by a log. -/
structure RepW (ns : List Nd) (t : Tr) : Prop where
  uniq : Unique ns
  ids : (ns.map (·.id)).Nodup
  ok : ∀ n ∈ ns, NdW n
  look : ∀ i : Nat, lookR ns (i : Int) = t i
theorem repW_len {ns : List Nd} {t : Tr} (h : RepW ns t) : ns.length ≤ 99 := by
  have := pigeon (ns.map (·.id)) ((List.range' 1 99).map (fun i : Nat => (i : Int))) h.ids (fun x hx => by
    obtain ⟨n, hn, rfl⟩ := List.mem_map.1 hx
    have hb := h.ok n hn
    refine List.mem_map.2 ⟨n.id.toNat, ?_, ?_⟩
    · rw [List.mem_range'_1]; have := hb.1; have := hb.2.1; omega
    · have := hb.1; show ((n.id.toNat : Nat) : Int) = n.id; omega)
  simpa using this
theorem repW_look {ns : List Nd} {t : Tr} (h : RepW ns t) (ht : TrW t) (x : Int) : lookR ns x = t x.toNat := by
  by_cases hx : 0 ≤ x
  · have := h.look x.toNat
    rwa [Int.toNat_of_nonneg hx] at this
  · rw [show x.toNat = 0 by omega, ht.1]
    cases hl : lookR ns x with
    | none => rfl
    | some n =>
      obtain ⟨h1, h2⟩ := lookR_mem hl
      have := (h.ok n h1).1
      omega
theorem repW_mem {ns : List Nd} {t : Tr} (h : RepW ns t) (ht : TrW t) {n : Nd} : n ∈ ns ↔ ∃ i, t i = some n := by
  constructor
  · intro hn
    refine ⟨n.id.toNat, ?_⟩
    rw [← repW_look h ht]; exact lookR_of h.uniq hn
  · rintro ⟨i, hi⟩
    rw [← h.look i] at hi
    exact (lookR_mem hi).1
theorem meetsW_same {ns : List Nd} {t : Tr} (h : RepW ns t) (ht : TrW t) (p id : Int) : (p == id || belowR ns p id) = meetsT t p id := by
  have hfun : (fun x : Int => t x.toNat) = lookR ns := funext fun x => (repW_look h ht x).symm
  unfold meetsT belowR
  rw [meets_below, hfun, below_same (ns := ns) (look := lookR ns) (fun x n h => lookR_mem h) (repW_len h) (show ns.length ≤ ns.length + 1 by omega) p]
  congr 1
theorem repW_put {ns : List Nd} {t : Tr} (h : RepW ns t) (ht : TrW t) {x : Nd} (hx : NdW x) : RepW (layR ns x true) (trPut t x) := by
  have e : layR ns x true = ns.filter (otherB x) ++ [x] := by unfold layR; simp
  rw [e]
  have hids : ((ns.filter (otherB x) ++ [x]).map (·.id)).Nodup := by
    rw [List.map_append]
    refine nodup_snoc (filter_ids h.ids x) (fun hm => ?_)
    obtain ⟨n, hn, e⟩ := List.mem_map.1 hm
    exact (mem_filter'.1 hn).2 e
  have hu := ids_unique hids
  have hmem : ∀ n, n ∈ ns.filter (otherB x) ++ [x] ↔ (n ∈ ns ∧ n.id ≠ x.id) ∨ n = x := by
    intro n; rw [List.mem_append, mem_filter', List.mem_singleton]
  refine ⟨hu, hids, fun n hn => ?_, fun i => ?_⟩
  · rcases (hmem n).1 hn with ⟨h1, _⟩ | rfl
    · exact h.ok n h1
    · exact hx
  · unfold trPut
    by_cases hi : (i : Int) = x.id
    · rw [if_pos hi]
      exact look_eq hu (fun n hn => by cases hn; exact ⟨(hmem x).2 (.inr rfl), hi.symm⟩) (fun hn => by cases hn)
    · rw [if_neg hi]
      refine look_eq hu (fun n hn => ?_) (fun hn n hm => ?_)
      · have hb := ht.2 i n hn
        exact ⟨(hmem n).2 (.inl ⟨(repW_mem h ht).2 ⟨i, hn⟩, by rw [hb.1]; exact hi⟩), hb.1⟩
      · rw [← h.look i] at hn
        rcases (hmem n).1 hm with ⟨h1, _⟩ | rfl
        · exact lookR_no hn n h1
        · exact fun e => hi e.symm
def placeR (ns : List Nd) (x : Lo) : List Nd := if (x.node.parent != x.node.id) && !belowR ns x.node.parent x.node.id then layR ns x.node true else ns
def placesR (L : List Lo) : List Nd := L.foldl placeR []
theorem placesR_snoc (L : List Lo) (k : Nat) (h : k < L.length) : placesR (L.take (k + 1)) = placeR (placesR (L.take k)) L[k] := by
  unfold placesR; rw [List.take_succ_eq_append_getElem h, List.foldl_append]; rfl
theorem repW_nil : RepW [] tr0 := ⟨fun n m h => by simp at h, by simp, by simp, fun i => rfl⟩
theorem repW_place {ns : List Nd} {t : Tr} (h : RepW ns t) (ht : TrW t) {x : Lo} (hx : LoOk x) : RepW (placeR ns x) (placeS t x) := by
  unfold placeR placeS
  rw [← meetsW_same h ht]
  cases h1 : (x.node.parent == x.node.id)
  · cases h2 : belowR ns x.node.parent x.node.id
    · rw [if_pos (by rw [bne, h1]; rfl), if_neg (by simp)]; exact repW_put h ht hx.2.2.2.2
    · rw [if_neg (by rw [bne, h1]; simp), if_pos (by simp)]; exact h
  · rw [if_neg (by rw [bne, h1]; simp), if_pos (by simp)]; exact h
theorem repW_aux : ∀ (L : List Lo) (ns : List Nd) (t : Tr), RepW ns t → TrW t → (∀ x ∈ L, LoOk x) → RepW (L.foldl placeR ns) (L.foldl placeS t) := by
  intro L
  induction L with
  | nil => intro ns t h _ _; exact h
  | cons x L ih => intro ns t h ht hx; exact ih _ _ (repW_place h ht (hx x (by simp))) (placeS_ok ht (hx x (by simp))) (fun y hy => hx y (by simp [hy]))
theorem repW_places {L : List Lo} (h : ∀ x ∈ L, LoOk x) : RepW (placesR L) (places L) := repW_aux L [] tr0 repW_nil trW_0 h
def seenR (ns : List Nd) : List Nd := ns.filter (fun n => belowR ns n.id 0)
def clashB (x y : Nd) : Bool := y.parent == x.parent && (y.name == x.name && decide (y.id < x.id))
def shownR (l : List Nd) (x : Nd) : Str := if l.any (clashB x) then x.name ++ 126 :: digs x.id else x.name
def viewL (l : List Nd) : List Nd := l.map fun n => ⟨n.id, n.parent, shownR l n⟩
def viewR (L : List Lo) : List Nd := viewL (seenR (placesR L))
theorem seen_mem {ns : List Nd} {t : Tr} (h : RepW ns t) (ht : TrW t) {n : Nd} : n ∈ seenR ns ↔ ∃ i, t i = some n ∧ meetsT t i 0 = true := by
  unfold seenR
  rw [List.mem_filter, repW_mem h ht]
  constructor
  · rintro ⟨⟨i, hi⟩, hb⟩
    refine ⟨i, hi, ?_⟩
    rw [← meetsW_same h ht, ← (ht.2 i n hi).1, hb]; simp
  · rintro ⟨i, hi, hm⟩
    refine ⟨⟨i, hi⟩, ?_⟩
    rw [← meetsW_same h ht, ← (ht.2 i n hi).1] at hm
    have h1 := (ht.2 i n hi)
    rwa [show (n.id == 0) = false by rw [beq_eq_false_iff_ne]; omega, Bool.false_or] at hm
theorem clash_at {ns : List Nd} {t : Tr} (h : RepW ns t) (ht : TrW t) {i : Nat} {n : Nd} (hn : t i = some n) (hm : meetsT t i 0 = true) : (seenR ns).any (clashB n) = true ↔ ¬ atT t n.parent n.name = i := by
  have hb := ht.2 i n hn
  obtain ⟨j, m, j1, j2, hat, hj, jp, jn⟩ := at_le hb.2.1 hb.2.2.1 hn
  rw [hat, List.any_eq_true]
  constructor
  · rintro ⟨y, hy, hc⟩ e
    obtain ⟨q, hq, _⟩ := (seen_mem h ht).1 hy
    unfold clashB at hc
    simp only [Bool.and_eq_true, beq_iff_eq, decide_eq_true_eq] at hc
    have hqb := ht.2 q y hq
    obtain ⟨j', _, _, j2', hat', _⟩ := at_le hqb.2.1 hqb.2.2.1 hq
    rw [hc.1, hc.2.1, hat] at hat'
    have h3 := hc.2.2
    omega
  · intro e
    have hbj := ht.2 j m hj
    refine ⟨m, (seen_mem h ht).2 ⟨j, hj, ?_⟩, ?_⟩
    · have hg := (goes_step (x := (i : Int)) (by rw [Int.toNat_natCast]; exact hn) (by omega)).1 ((goes_meetsW ht).1 hm)
      refine (goes_meetsW ht).2 ?_
      refine goes_up (n := m) (by rw [Int.toNat_natCast]; exact hj) ?_
      rw [jp]; exact hg
    · unfold clashB
      simp only [Bool.and_eq_true, beq_iff_eq, decide_eq_true_eq]
      exact ⟨jp, jn, by omega⟩
theorem shown_same {ns : List Nd} {t : Tr} (h : RepW ns t) (ht : TrW t) {i : Nat} {n : Nd} (hn : t i = some n) (hm : meetsT t i 0 = true) : (⟨n.id, n.parent, shownR (seenR ns) n⟩ : Nd) = shownNd t i := by
  have hc := clash_at h ht hn hm
  have hb := ht.2 i n hn
  unfold shownNd shownR; rw [hn]; simp only [Option.getD_some]
  by_cases e : atT t n.parent n.name = i
  · rw [if_pos e, if_neg (fun hh => (hc.1 hh) e)]
  · rw [if_neg e, if_pos (hc.2 e), hb.1]
theorem rep_view {ns : List Nd} {t : Tr} (h : RepW ns t) (ht : TrW t) : Rep (viewL (seenR ns)) (viewT t) := by
  have hv := view_valid ht
  have hids : ((viewL (seenR ns)).map (·.id)).Nodup := by
    unfold viewL
    rw [List.map_map]
    exact List.Nodup.sublist (List.Sublist.map _ List.filter_sublist) h.ids
  have hu := ids_unique hids
  have hmem : ∀ m, m ∈ viewL (seenR ns) ↔ ∃ i, viewT t i = some m := by
    intro m
    unfold viewL
    rw [List.mem_map]
    constructor
    · rintro ⟨n, hn, rfl⟩
      obtain ⟨i, hi, hm⟩ := (seen_mem h ht).1 hn
      have hb := ht.2 i n hi
      refine ⟨i, ?_⟩
      rw [shown_same h ht hi hm]
      unfold viewT
      rw [hm, decide_eq_true hb.2.1, decide_eq_true hb.2.2.1]; rfl
    · rintro ⟨i, hi⟩
      obtain ⟨h1, h2, h3, h4⟩ := view_some hi
      obtain ⟨n, hn⟩ := meets_there h1 h3
      exact ⟨n, (seen_mem h ht).2 ⟨i, hn, h3⟩, by rw [shown_same h ht hn h3, h4]⟩
  refine ⟨hu, hids, fun m hm => ?_, fun i => ?_⟩
  · obtain ⟨i, hi⟩ := (hmem m).1 hm
    have hb := hv.ok.2 i m hi
    refine ⟨by omega, by omega, hb.2.2.2.1, hb.2.2.2.2.1, hb.2.2.2.2.2⟩
  · refine look_eq hu (fun n hn => ⟨(hmem n).2 ⟨i, hn⟩, (hv.ok.2 i n hn).1⟩) (fun hn n hm e => ?_)
    obtain ⟨j, hj⟩ := (hmem n).1 hm
    have := (hv.ok.2 j n hj).1
    rw [show j = i by omega, hn] at hj; cases hj
theorem viewR_rep {L : List Lo} (h : ∀ x ∈ L, LoOk x) : Rep (viewR L) (viewT (places L)) := rep_view (repW_places h) (places_ok h)
end Go.Proofs.YtdcjimlhaklhfaaGreatDoor

namespace Go.Proofs.YtdcjimlhaklhfaaGreatDoor
open Go.RowKit
def loC (x : Lo) : List Value := [.int .i64 x.count, .int .i64 x.site, .int .i64 x.node.id, .int .i64 x.node.parent, .string (bs x.node.name)]
def loCells (l : List Lo) : List Value := l.flatMap loC
def loAt (l : List Lo) (i : Nat) : Lo := l.getD i lo0
theorem loCells_length (l : List Lo) : (loCells l).length = l.length * 5 := by
  induction l with
  | nil => rfl
  | cons n l ih => simp only [loCells, List.flatMap_cons, List.length_append] at ih ⊢; simp [loC] at ih ⊢; omega
theorem loCells_snoc (l : List Lo) (n : Lo) : loCells (l ++ [n]) = loCells l ++ loC n := by simp [loCells]
theorem loCells_app (l m : List Lo) : loCells (l ++ m) = loCells l ++ loCells m := by simp [loCells]
theorem loCells_at (l : List Lo) (k j : Nat) (h : k < l.length) (hj : j < 5) : (loCells l)[k * 5 + j]? = (loC l[k])[j]? := by
  induction l generalizing k with
  | nil => simp at h
  | cons n l ih =>
    have e : loCells (n :: l) = loC n ++ loCells l := rfl
    have hl : (loC n).length = 5 := rfl
    cases k with
    | zero => rw [e, List.getElem?_append_left (by rw [hl]; omega)]; simp
    | succ k =>
      rw [e, show (k + 1) * 5 + j = 5 + (k * 5 + j) by omega, List.getElem?_append_right (by rw [hl]; omega), hl, show 5 + (k * 5 + j) - 5 = k * 5 + j by omega]
      rw [ih k (by simpa using h)]; rfl
theorem lo_cells {w wr : World} {ao : Option Addr} {l : List Lo} {B : Nat} (hrow : Row w ao l.length 5 (loCells l)) (hb : Below B w wr) (hB : w.heap.size ≤ B) {k : Nat} (hk : k < l.length) :
    ∃ g, ao = some ⟨g, 0, none⟩ ∧ g < w.heap.size ∧ wr.cell? ⟨g, k * 5, none⟩ = some (.int .i64 (l[k]).count) ∧ wr.cell? ⟨g, k * 5 + 1, none⟩ = some (.int .i64 (l[k]).site) ∧ wr.cell? ⟨g, k * 5 + 2, none⟩ = some (.int .i64 (l[k]).node.id) ∧ wr.cell? ⟨g, k * 5 + 3, none⟩ = some (.int .i64 (l[k]).node.parent) ∧ wr.cell? ⟨g, k * 5 + 4, none⟩ = some (.string (bs (l[k]).node.name)) := by
  obtain ⟨g, h1, h2, h3⟩ := hrow.2 (by omega)
  have key : ∀ j u, j < 5 → (loC l[k])[j]? = some u → wr.cell? ⟨g, k * 5 + j, none⟩ = some u := by
    intro j u hj hu
    rw [hb.cell (p := ⟨g, _, none⟩) (by show g < B; omega)]
    exact h3 _ _ (by rw [loCells_at l k j hk hj]; exact hu)
  exact ⟨g, h1, h2, key 0 _ (by omega) rfl, key 1 _ (by omega) rfl, key 2 _ (by omega) rfl, key 3 _ (by omega) rfl, key 4 _ (by omega) rfl⟩
set_option maxHeartbeats 1000000 in
theorem isAhead_any (a b c d : Int) (s : ByteArray) (a' b' c' d' : Int) (s' : ByteArray) (w : World) :
    Calls Tryz.prog 117 #[.agg #[.int .i64 a, .int .i64 b, .int .i64 c, .int .i64 d, .string s], .agg #[.int .i64 a', .int .i64 b', .int .i64 c', .int .i64 d', .string s']] w fun e w' => e = .returned (.bool (if a ≠ a' then decide (a < a') else decide (b < b'))) ∧ Below w.heap.size w w' := by
  by_cases h : a = a'
  · subst h
    go_enter Tryz.func117, Tryz.ntmps117
    go_wp2
    go_ret
    exact ⟨ret_bool (by simp), ((Below.refl _ _).alloc (Nat.le_refl _) _).alloc (by simp) _⟩
  · have hne : (a != a') = true := by simpa using h
    have H := hide h; clear h
    go_enter Tryz.func117, Tryz.ntmps117
    go_wp2
    go_ret
    exact ⟨ret_bool (by first | rfl | rw [if_pos (unhide H)]), ((Below.refl _ _).alloc (Nat.le_refl _) _).alloc (by simp) _⟩
theorem hasStamp_take {l : List Lo} {x : Lo} {k : Nat} (h : ∀ j (hj : j < l.length), j < k → sameStamp l[j] x = false) (hk : ¬ k < l.length) : hasStamp l x = false := by
  unfold hasStamp; rw [List.any_eq_false]
  intro y hy
  obtain ⟨j, hj, rfl⟩ := List.mem_iff_getElem.1 hy
  rw [h j hj (by omega)]; simp
set_option maxHeartbeats 2000000 in
theorem hasStamp_any (l : List Lo) (x : Lo) (ao : Option Addr) (cap : Nat) (w : World) (hrow : Row w ao l.length 5 (loCells l)) (hl : l.length ≤ 8000) :
    Calls Tryz.prog 116 #[.slice ao l.length cap, .agg #[.int .i64 x.count, .int .i64 x.site, .int .i64 x.node.id, .int .i64 x.node.parent, .string (bs x.node.name)]] w fun e w' => e = .returned (.bool (hasStamp l x)) ∧ Below w.heap.size w w' := by
  have HROW := hide hrow; clear hrow
  go_enter Tryz.func116, Tryz.ntmps116
  go_wp2
  go_loopw [9] (fun i wr => ∃ k : Nat, k ≤ l.length ∧ i = .int .i64 k ∧ Below w.heap.size w wr ∧ w.heap.size < wr.heap.size ∧ wr.cell? ⟨w.heap.size, 0, none⟩ = some (.int .i64 x.count) ∧ wr.cell? ⟨w.heap.size, 1, none⟩ = some (.int .i64 x.site) ∧ Hid (∀ j (hj : j < l.length), j < k → sameStamp l[j] x = false)) (fun i _ => l.length - (intOf i).toNat)
  case atStart =>
    refine ⟨0, Nat.zero_le _, rfl, (Below.refl _ _).alloc (Nat.le_refl _) _, by simp, ?_, ?_, hide (fun j hj h => by omega)⟩
    · simp [go_sem]
    · simp [go_sem]
  case round =>
    obtain ⟨k, hk, rfl, hbel, hsz, x0, x1, HN⟩ := hrel
    by_cases hlt : k < l.length
    · obtain ⟨g, hao, hg, c0, c1, c2, c3, c4⟩ := lo_cells (unhide HROW) hbel (Nat.le_refl _) hlt
      rw [hao]
      clear hao
      have HS : Hid (sameStamp l[k] x = ((l[k]).count == x.count && (l[k]).site == x.site)) := hide rfl
      have HB := hide (hbel.alloc (by omega) (.cells #[.int .i64 (l[k]).count, .int .i64 (l[k]).site, .int .i64 (l[k]).node.id, .int .i64 (l[k]).node.parent, .string (bs (l[k]).node.name)] 142))
      have HNX : Hid (sameStamp l[k] x = false → ∀ j (hj : j < l.length), j < k + 1 → sameStamp l[j] x = false) := by
        apply hide; intro hh j hj hjk
        by_cases e : j = k
        · subst e; exact hh
        · exact unhide HN j hj (by omega)
      have HYS : Hid (sameStamp l[k] x = true → hasStamp l x = true) := by
        apply hide; intro hh; unfold hasStamp; rw [List.any_eq_true]; exact ⟨l[k], List.getElem_mem hlt, hh⟩
      generalize l[k] = y at *
      cases h0 : (y.count == x.count)
      · have HF := hide (unhide HNX (by rw [unhide HS, h0]; rfl))
        go_wp2
        go_roundw
        case rel => exact ⟨k + 1, by omega, by go_num, unhide HB, by simp; omega, by simpa [go_sem, hsz] using x0, by simpa [go_sem, hsz] using x1, HF⟩
        case measure => simp [intOf]; omega
      · cases h1 : (y.site == x.site)
        · have HF := hide (unhide HNX (by rw [unhide HS, h0, h1]; rfl))
          go_wp2
          go_roundw
          case rel => exact ⟨k + 1, by omega, by go_num, unhide HB, by simp; omega, by simpa [go_sem, hsz] using x0, by simpa [go_sem, hsz] using x1, HF⟩
          case measure => simp [intOf]; omega
        · have HF := hide (unhide HYS (by rw [unhide HS, h0, h1]; rfl))
          go_wp2
          go_ret
          exact ⟨ret_bool (unhide HF).symm, unhide HB⟩
    · have HF := hide (hasStamp_take (unhide HN) hlt)
      go_wp2
      go_ret
      exact ⟨ret_bool (unhide HF).symm, hbel⟩
end Go.Proofs.YtdcjimlhaklhfaaGreatDoor

namespace Go.Proofs.YtdcjimlhaklhfaaGreatDoor
open Go.RowKit
theorem dash_eq (s : Str) : ((bs s).toList == (({ data := #[45] } : ByteArray)).toList) = (s == [45]) := by
  rw [tl_sl, tl_sl, sl_bs]; rfl
set_option maxHeartbeats 1000000 in
theorem isPlace_any (n : Nd) (w : World) (h0 : 0 ≤ n.id) (h1 : n.id ≤ 99) (h2 : 0 ≤ n.parent) (h3 : n.parent ≤ 100) (hs : n.name.length ≤ 4000) :
    Calls Tryz.prog 115 #[.agg #[.int .i64 n.id, .int .i64 n.parent, .string (bs n.name)]] w fun e w' => e = .returned (.bool (placeB n)) ∧ Below w.heap.size w w' := by
  have HP : Hid (placeB n = if n.parent = 100 then n.name == [45] else (n.parent % 2 == 0 && isName n.name n.id)) := hide rfl
  have HD := hide (dash_eq n.name)
  have HNM := hide (fun W => isName_any (bs n.name) n.id W (by rw [bs_size]; exact hs) h0 h1)
  rw [sl_bs] at HNM
  have HFO := hide (fun W => isFolder_any n.parent W h2 (by omega))
  generalize isName n.name n.id = r at *
  by_cases hp : n.parent = 100
  · have hpe : (n.parent == 100) = true := by simpa using hp
    have HPP := hide hp; clear hp
    have hd := unhide HD
    go_enter Tryz.func115, Tryz.ntmps115
    go_wp2
    go_ret
    exact ⟨ret_bool (by rw [unhide HP, if_pos (unhide HPP)]; try rw [tl_sl, sl_bs]), (Below.refl _ _).alloc (Nat.le_refl _) _⟩
  · have hpe : (n.parent == 100) = false := by simpa using hp
    have HPP := hide hp; clear hp
    cases he : (n.parent % 2 == 0)
    · have HPF : Hid (placeB n = false) := by apply hide; rw [unhide HP, if_neg (unhide HPP), he]; rfl
      rw [he] at HFO
      clear he
      go_enter Tryz.func115, Tryz.ntmps115
      go_wp2_with (go_at_call 133; refine (unhide HFO _).mono ?_; rintro e w' ⟨rfl, rfl⟩)
      go_ret
      exact ⟨ret_bool (unhide HPF).symm, (Below.refl _ _).alloc (Nat.le_refl _) _⟩
    · have HPF : Hid (placeB n = r) := by apply hide; rw [unhide HP, if_neg (unhide HPP), he]; rfl
      rw [he] at HFO
      clear he
      go_enter Tryz.func115, Tryz.ntmps115
      go_wp2_with (first | (go_at_call 133; refine (unhide HFO _).mono ?_; rintro e w' ⟨rfl, rfl⟩) | (go_at_call 124; refine (unhide HNM _).mono ?_; rintro e w' ⟨rfl, nd, rfl⟩))
      go_ret
      exact ⟨ret_bool (unhide HPF).symm, below_drewN ((Below.refl _ _).alloc (Nat.le_refl _) _) _⟩
/-- What readOp answers: where it is none the op does not matter. -/
def OpRes (r : Option Lo) (e : Ending) : Prop := ∃ (a b c d : Int) (z : ByteArray), e = .returned (.tuple #[.agg #[.int .i64 a, .int .i64 b, .int .i64 c, .int .i64 d, .string z], .bool r.isSome]) ∧ ∀ x, r = some x → a = x.count ∧ b = x.site ∧ c = x.node.id ∧ d = x.node.parent ∧ z = bs x.node.name
theorem opRes_none : OpRes none (.returned (.tuple #[.agg #[.int .i64 0, .int .i64 0, .int .i64 0, .int .i64 0, .string ByteArray.empty], .bool false])) := ⟨0, 0, 0, 0, ByteArray.empty, rfl, fun x h => by cases h⟩
theorem readOp_open {r : Str} (h : bodyB r = false) : readOp r = none := by unfold readOp; rw [h]; rfl
theorem readOp_short {r : Str} (h : (parts (bodyS r)).length ≠ 5) : readOp r = none := by unfold readOp; rw [opOf_other h]; split <;> rfl
theorem readOp_five {r a b c d e : Str} (h : bodyB r = true) (h5 : parts (bodyS r) = [a, b, c, d, e]) : readOp r = opOf5 a b c d e := by unfold readOp; rw [h, h5]; rfl
set_option maxHeartbeats 2000000 in
theorem readOp_no (s : ByteArray) (w : World) (hs : s.size ≤ 4000) (hn : bodyB (sl s) = false ∨ (bodyB (sl s) = true ∧ (parts (bodyS (sl s))).length ≠ 5)) :
    Calls Tryz.prog 81 #[.string s] w fun e w' => OpRes (readOp (sl s)) e ∧ Below w.heap.size w w' := by
  have HR : Hid (readOp (sl s) = none) := by
    apply hide; rcases hn with h | ⟨_, h⟩
    · exact readOp_open h
    · exact readOp_short h
  rw [unhide HR]
  clear HR
  have hlb : (bs (bodyS (sl s))).size ≤ 4000 := by rw [bs_size]; have := bodyS_len (sl s); rw [sl_length] at this; omega
  have HBO := hide (fun W => body_any s W hs)
  have HP := hide (fun W => parts_any (bs (bodyS (sl s))) W hlb)
  rw [sl_bs] at HP
  have hne : bodyB (sl s) = false ∨ (bodyB (sl s) = true ∧ (((parts (bodyS (sl s))).length : Int) != 5) = true) := by
    rcases hn with h | ⟨h, g⟩
    · exact .inl h
    · exact .inr ⟨h, by rw [bne_iff_ne]; omega⟩
  clear hn
  generalize bodyB (sl s) = bb at *
  generalize (parts (bodyS (sl s))).length = n at *
  generalize bodyS (sl s) = body at *
  rcases hne with rfl | ⟨rfl, hne⟩
  all_goals
    go_enter Tryz.func81, Tryz.ntmps81
    go_wp2_with fail
    refine (unhide HBO _).mono ?_
    rintro e w1 ⟨rfl, rfl⟩
    go_wp2_with fail
    refine (unhide HP _).mono ?_
    rintro e w1 ⟨ao, cap, rfl, hrow, hbel⟩
    clear hrow
    obtain ⟨hc, hf⟩ := bcell hbel
    have hz : w.heap.size + 1 ≤ w1.heap.size := by have := hbel.size; simp at this; omega
    have HB0 : Hid (Below w.heap.size w w1) := hide (((Below.refl _ _).alloc (Nat.le_refl _) _).trans (hbel.mono (by simp)))
    go_wp2
    refine bodyPost_ret (v := .tuple #[.agg #[.int .i64 0, .int .i64 0, .int .i64 0, .int .i64 0, .string ByteArray.empty], .bool false]) (by simp [results, Tryz.results81, go_sem, hc]; rfl) rfl ⟨opRes_none, ?_⟩
    exact (((((unhide HB0).setCell (by simp) _).setCell (by simp) _).setCell (by simp) _).setCell (by simp) _).setCell (by simp) _
end Go.Proofs.YtdcjimlhaklhfaaGreatDoor

namespace Go.Proofs.YtdcjimlhaklhfaaGreatDoor
open Go.RowKit
theorem opOf5_no {a b c d e : Str} (h : (number a 1 9999).2 = false ∨ (number b 1 9).2 = false ∨ (number c 1 99).2 = false ∨ (number d 0 100).2 = false) : opOf5 a b c d e = none := by
  unfold opOf5
  rw [if_neg]
  simp only [Bool.and_eq_true, not_and]
  intro h1 
  rcases h with h | h | h | h <;> simp [h] at h1
theorem opOf5_yes {a b c d e : Str} (h1 : (number a 1 9999).2 = true) (h2 : (number b 1 9).2 = true) (h3 : (number c 1 99).2 = true) (h4 : (number d 0 100).2 = true) : opOf5 a b c d e = if placeB ⟨(number c 1 99).1, (number d 0 100).1, e⟩ then some ⟨(number a 1 9999).1, (number b 1 9).1, ⟨(number c 1 99).1, (number d 0 100).1, e⟩⟩ else none := by
  unfold opOf5
  rw [h1, h2, h3, h4]; rfl
set_option maxHeartbeats 4000000 in
set_option maxRecDepth 100000 in
theorem readOp_yes (s : ByteArray) (w : World) (hs : s.size ≤ 4000) (a b c d f : Str) (hb : bodyB (sl s) = true) (h5 : parts (bodyS (sl s)) = [a, b, c, d, f]) :
    Calls Tryz.prog 81 #[.string s] w fun e w' => OpRes (readOp (sl s)) e ∧ Below w.heap.size w w' := by
  rw [readOp_five hb h5]
  have hlb : (bs (bodyS (sl s))).size ≤ 4000 := by rw [bs_size]; have := bodyS_len (sl s); rw [sl_length] at this; omega
  have HBO := hide (fun W => body_any s W hs)
  have HP : Hid (∀ W, Calls Tryz.prog 114 #[.string (bs (bodyS (sl s)))] W fun e w' => ∃ ao cap, e = .returned (.slice ao 5 cap) ∧ Row w' ao 5 1 [.string (bs a), .string (bs b), .string (bs c), .string (bs d), .string (bs f)] ∧ Below W.heap.size W w') := by
    apply hide; intro W; have := parts_any (bs (bodyS (sl s))) W hlb; rw [sl_bs, h5] at this; exact this
  have hl : ∀ x ∈ [a, b, c, d, f], x.length ≤ 4000 := fun x hx => by
    have := part_len (bodyS (sl s)) x (by rw [h5]; exact hx)
    rw [bs_size] at hlb; omega
  have hla : (bs a).size ≤ 4000 := by rw [bs_size]; exact hl a (by simp)
  have hlb' : (bs b).size ≤ 4000 := by rw [bs_size]; exact hl b (by simp)
  have hlc : (bs c).size ≤ 4000 := by rw [bs_size]; exact hl c (by simp)
  have hld : (bs d).size ≤ 4000 := by rw [bs_size]; exact hl d (by simp)
  have hlf : f.length ≤ 4000 := hl f (by simp)
  clear hl h5
  rw [hb] at HBO
  generalize bodyS (sl s) = body at *
  clear hb
  have HA := hide (fun W => number_any (bs a) 1 9999 W hla (by omega) (by omega))
  have HB := hide (fun W => number_any (bs b) 1 9 W hlb' (by omega) (by omega))
  have HC := hide (fun W => number_any (bs c) 1 99 W hlc (by omega) (by omega))
  have HD := hide (fun W => number_any (bs d) 0 100 W hld (by omega) (by omega))
  rw [sl_bs] at HA HB HC HD
  have nc := number_bd c 1 99 (by omega)
  have nd := number_bd d 0 100 (by omega)
  have HPL := hide (fun W => isPlace_any ⟨(number c 1 99).1, (number d 0 100).1, f⟩ W nc.1 nc.2 nd.1 nd.2 hlf)
  have HNO := hide (@opOf5_no a b c d f)
  have HYE := hide (@opOf5_yes a b c d f)
  generalize opOf5 a b c d f = R at *
  generalize (number a 1 9999).1 = x1 at *
  generalize (number a 1 9999).2 = p1 at *
  generalize (number b 1 9).1 = x2 at *
  generalize (number b 1 9).2 = p2 at *
  generalize (number c 1 99).1 = x3 at *
  generalize (number c 1 99).2 = p3 at *
  generalize (number d 0 100).1 = x4 at *
  generalize (number d 0 100).2 = p4 at *
  generalize placeB ⟨x3, x4, f⟩ = q at *
  clear hlb hla hlb' hlc hld nc nd
  rcases (show p1 = false ∨ (p1 = true ∧ p2 = false) ∨ (p1 = true ∧ p2 = true ∧ p3 = false) ∨ (p1 = true ∧ p2 = true ∧ p3 = true ∧ p4 = false) ∨ (p1 = true ∧ p2 = true ∧ p3 = true ∧ p4 = true) from by cases p1 <;> cases p2 <;> cases p3 <;> cases p4 <;> simp) with h1 | ⟨h1, h2⟩ | ⟨h1, h2, h3⟩ | ⟨h1, h2, h3, h4⟩ | ⟨h1, h2, h3, h4⟩
  case inr.inr.inr.inr =>
    subst h1 h2 h3 h4
    have HR : Hid (R = if q then some ⟨x1, x2, ⟨x3, x4, f⟩⟩ else none) := hide (unhide HYE rfl rfl rfl rfl)
    clear HYE HNO
    go_enter Tryz.func81, Tryz.ntmps81
    go_wp2_with fail
    refine (unhide HBO _).mono ?_
    rintro e w1 ⟨rfl, rfl⟩
    go_wp2_with fail
    refine (unhide HP _).mono ?_
    rintro e w1 ⟨ao, cap, rfl, hrow, hbel⟩
    obtain ⟨g, hao, hg, hcel⟩ := hrow.2 (by omega)
    rw [hao]
    have c0 := hcel 0 _ rfl
    have c1 := hcel 1 _ rfl
    have c2 := hcel 2 _ rfl
    have c3 := hcel 3 _ rfl
    have c4 := hcel 4 _ rfl
    clear hcel hao hrow
    obtain ⟨hc, hf⟩ := bcell hbel
    have hz : w.heap.size + 1 ≤ w1.heap.size := by have := hbel.size; simp at this; omega
    have HB0 : Hid (Below w.heap.size w w1) := hide (((Below.refl _ _).alloc (Nat.le_refl _) _).trans (hbel.mono (by simp)))
    clear hbel
    have R0 := hide (show w1.cell? ⟨w.heap.size, 0, none⟩ = some (.int .i64 0) by rw [hc _ _ (by simp)]; simp [go_sem])
    have R1 := hide (show w1.cell? ⟨w.heap.size, 1, none⟩ = some (.int .i64 0) by rw [hc _ _ (by simp)]; simp [go_sem])
    have R2 := hide (show w1.cell? ⟨w.heap.size, 2, none⟩ = some (.int .i64 0) by rw [hc _ _ (by simp)]; simp [go_sem])
    have R3 := hide (show w1.cell? ⟨w.heap.size, 3, none⟩ = some (.int .i64 0) by rw [hc _ _ (by simp)]; simp [go_sem])
    have R4 := hide (show w1.cell? ⟨w.heap.size, 4, none⟩ = some (.string ByteArray.empty) by rw [hc _ _ (by simp)]; simp [go_sem]; rfl)
    have RF := hide (show ∀ j, w1.frozen? ⟨w.heap.size, j, none⟩ = false from fun j => by rw [hf _ _ (by simp)]; simp [go_sem])
    go_wp2_with fail
    refine (unhide HA _).mono ?_
    rintro e w2 ⟨rfl, rfl⟩
    go_wp2_with fail
    refine (unhide HB _).mono ?_
    rintro e w3 ⟨rfl, rfl⟩
    go_wp2_with fail
    refine (unhide HC _).mono ?_
    rintro e w4 ⟨rfl, rfl⟩
    go_wp2_with fail
    refine (unhide HD _).mono ?_
    rintro e w5 ⟨rfl, rfl⟩
    go_wp2
    have N0 := hide (show ((w5.alloc (.cells #[.int .i64 x3, .int .i64 x4, .string (bs f)] 85)).drew).cell? ⟨w5.heap.size, 0, none⟩ = some (.int .i64 x3) from news_three _ _ _ _ 0 _ rfl)
    have N1 := hide (show ((w5.alloc (.cells #[.int .i64 x3, .int .i64 x4, .string (bs f)] 85)).drew).cell? ⟨w5.heap.size, 1, none⟩ = some (.int .i64 x4) from news_three _ _ _ _ 1 _ rfl)
    have N2 := hide (show ((w5.alloc (.cells #[.int .i64 x3, .int .i64 x4, .string (bs f)] 85)).drew).cell? ⟨w5.heap.size, 2, none⟩ = some (.string (bs f)) from news_three _ _ _ _ 2 _ rfl)
    go_region_with (go_at_call 115; refine (unhide HPL _).mono ?_; rintro e w6 ⟨rfl, hb6⟩; have hbb := ((Below.refl w5.heap.size w5).alloc (Nat.le_refl _) _).drew.trans (hb6.mono (by simp [heap_drew])); have r0 := (hbb.cell (p := ⟨w.heap.size, 0, none⟩) hz).trans (unhide R0); have r1 := (hbb.cell (p := ⟨w.heap.size, 1, none⟩) hz).trans (unhide R1); have r2 := (hbb.cell (p := ⟨w.heap.size, 2, none⟩) hz).trans (unhide R2); have r3 := (hbb.cell (p := ⟨w.heap.size, 3, none⟩) hz).trans (unhide R3); have r4 := (hbb.cell (p := ⟨w.heap.size, 4, none⟩) hz).trans (unhide R4); have rf := fun j => (hbb.frozen (p := ⟨w.heap.size, j, none⟩) hz).trans (unhide RF j); have hz6 := hbb.size; have n0 := (hb6.cell (p := ⟨w5.heap.size, 0, none⟩) (by simp [heap_drew])).trans (unhide N0); have n1 := (hb6.cell (p := ⟨w5.heap.size, 1, none⟩) (by simp [heap_drew])).trans (unhide N1); have n2 := (hb6.cell (p := ⟨w5.heap.size, 2, none⟩) (by simp [heap_drew])).trans (unhide N2); clear hb6)
    all_goals
      go_wp2
      refine bodyPost_ret (v := .tuple #[.agg #[.int .i64 x1, .int .i64 x2, .int .i64 x3, .int .i64 x4, .string (bs f)], .bool q]) (by simp [results, Tryz.results81, go_sem, r0, r1, r2, r3, r4]) rfl ⟨?_, ?_⟩
      · exact ⟨x1, x2, x3, x4, bs f, by rw [unhide HR]; cases q <;> rfl, fun x hx => by rw [unhide HR] at hx; cases q <;> cases hx; exact ⟨rfl, rfl, rfl, rfl, rfl⟩⟩
      · exact ((((((unhide HB0).trans (hbb.mono (by omega))).setCell (by simp) _).setCell (by simp) _).setCell (by simp) _).setCell (by simp) _).setCell (by simp) _
  all_goals
    have HR : Hid (R = none) := by
      apply hide; apply unhide HNO
      first | exact .inl h1 | exact .inr (.inl h2) | exact .inr (.inr (.inl h3)) | exact .inr (.inr (.inr h4))
    clear HYE HNO
    have hR := unhide HR
    subst hR
    clear HR
  case' inr.inr.inr.inl => subst h1 h2 h3 h4
  case' inr.inr.inl => subst h1 h2 h3
  case' inr.inl => subst h1 h2
  case' inl => subst h1
  all_goals
    go_enter Tryz.func81, Tryz.ntmps81
    go_wp2_with fail
    refine (unhide HBO _).mono ?_
    rintro e w1 ⟨rfl, rfl⟩
    go_wp2_with fail
    refine (unhide HP _).mono ?_
    rintro e w1 ⟨ao, cap, rfl, hrow, hbel⟩
    obtain ⟨g, hao, hg, hcel⟩ := hrow.2 (by omega)
    rw [hao]
    have c0 := hcel 0 _ rfl
    have c1 := hcel 1 _ rfl
    have c2 := hcel 2 _ rfl
    have c3 := hcel 3 _ rfl
    have c4 := hcel 4 _ rfl
    clear hcel hao hrow
    obtain ⟨hc, hf⟩ := bcell hbel
    have hz : w.heap.size + 1 ≤ w1.heap.size := by have := hbel.size; simp at this; omega
    have HB0 : Hid (Below w.heap.size w w1) := hide (((Below.refl _ _).alloc (Nat.le_refl _) _).trans (hbel.mono (by simp)))
    clear hbel
    go_wp2_with fail
    refine (unhide HA _).mono ?_
    rintro e w2 ⟨rfl, rfl⟩
    go_wp2_with fail
    refine (unhide HB _).mono ?_
    rintro e w3 ⟨rfl, rfl⟩
    go_wp2_with fail
    refine (unhide HC _).mono ?_
    rintro e w4 ⟨rfl, rfl⟩
    go_wp2_with fail
    refine (unhide HD _).mono ?_
    rintro e w5 ⟨rfl, rfl⟩
    go_wp2
    refine bodyPost_ret (v := .tuple #[.agg #[.int .i64 0, .int .i64 0, .int .i64 0, .int .i64 0, .string ByteArray.empty], .bool false]) (by simp [results, Tryz.results81, go_sem, hc]; rfl) rfl ⟨opRes_none, ?_⟩
    exact (((((unhide HB0).setCell (by simp) _).setCell (by simp) _).setCell (by simp) _).setCell (by simp) _).setCell (by simp) _
theorem readOp_any (s : ByteArray) (w : World) (hs : s.size ≤ 4000) :
    Calls Tryz.prog 81 #[.string s] w fun e w' => OpRes (readOp (sl s)) e ∧ Below w.heap.size w w' := by
  cases hb : bodyB (sl s) with
  | false => exact readOp_no s w hs (.inl hb)
  | true =>
    by_cases h5 : (parts (bodyS (sl s))).length = 5
    · obtain ⟨a, b, c, d, e, h⟩ := len5 h5
      exact readOp_yes s w hs a b c d e hb h
    · exact readOp_no s w hs (.inr ⟨hb, h5⟩)
end Go.Proofs.YtdcjimlhaklhfaaGreatDoor

namespace Go.Proofs.YtdcjimlhaklhfaaGreatDoor
open Go.RowKit
theorem Tryz.infoOp : (Tryz.prog.info? 142).map (fun i => (i.zero, i.size, i.bytes)) = some (some (.agg #[.int .i64 0, .int .i64 0, .int .i64 0, .int .i64 0, .string ByteArray.empty]), 5, 48) := by kernel_rfl
theorem news_five {w : World} (a b c d f : Value) (t : TypeId) : ∀ j x, [a, b, c, d, f][j]? = some x → (w.alloc (.cells #[a, b, c, d, f] t)).cell? ((⟨w.heap.size, 0, none⟩ : Addr).add j) = some x := by
  intro j x hx
  exact World.news_of_block (cs := #[a, b, c, d, f]) (heap_alloc_new w _) j x hx
theorem news_five' {w : World} (o : Obj) (a b c d f : Value) (t : TypeId) : ∀ j x, [a, b, c, d, f][j]? = some x → ((w.alloc o).alloc (.cells #[a, b, c, d, f] t)).cell? ((⟨w.heap.size + 1, 0, none⟩ : Addr).add j) = some x := by
  have := @news_five (w.alloc o) a b c d f t
  simpa using this
/-- What Read answers. -/
def ReadRes (r : Option (List Lo)) (e : Ending) (w' : World) : Prop := match r with
  | none => e = .returned (.tuple #[.slice none 0 0, .bool false])
  | some l => ∃ ao cap, e = .returned (.tuple #[.slice ao l.length cap, .bool true]) ∧ Row w' ao l.length 5 (loCells l)
set_option maxHeartbeats 2000000 in
theorem opsRead_any (s : ByteArray) (w : World) (hs : s.size ≤ 4000) :
    Calls Tryz.prog 50 #[.string s] w fun e w' => ReadRes (readOps (cut (sl s))) e w' ∧ Below w.heap.size w w' := by
  obtain ⟨i0, hi, hz0, hz1, hz2⟩ := info_parts Tryz.infoOp
  have HC := hide (cut_any s w hs)
  have hn : (cut (sl s)).length ≤ 4000 := by have := cut_length_le (sl s); rw [sl_length] at this; omega
  have HL : Hid (∀ r ∈ cut (sl s), r.length ≤ 4000) := hide (fun r hr => by have := cut_mem_len (sl s) r hr; rw [sl_length] at this; omega)
  generalize cut (sl s) = rs at *
  go_enter Tryz.func50, Tryz.ntmps50
  go_wp2_with fail
  refine (unhide HC).mono ?_
  rintro e w0 ⟨ao, cap, rfl, hrow, hbel0⟩
  have HROW := hide hrow; clear hrow
  have hs0 := hbel0.size
  have HB0 := hide hbel0; clear hbel0
  go_wp2
  go_loopw [4, 12] (fun v i wr => ∃ k : Nat, ∃ acc : List Lo, k ≤ rs.length ∧ i = .int .i64 k ∧ wr.ownsRow w0.heap.size 142 5 v k (loCells acc) ∧ Below w0.heap.size w0 wr ∧ Hid (LoInv rs k acc)) (fun _ i _ => rs.length - (intOf i).toNat)
  case atStart => exact ⟨0, [], Nat.zero_le _, rfl, World.ownsRow_nil _ _ _ _, Below.refl _ _, hide (loInv_0 rs)⟩
  case round =>
    obtain ⟨k, acc, hk, rfl, hown, hbel, HI⟩ := hrel
    by_cases hlt : k < rs.length
    · obtain ⟨g, hao, hg, hcell⟩ := str_cell (unhide HROW) hbel hlt
      rw [hao]
      have hrl : (rs[k]).length ≤ 4000 := unhide HL _ (List.getElem_mem hlt)
      have HRD := hide (fun W => readOp_any (bs rs[k]) W (by rw [bs_size]; exact hrl))
      rw [sl_bs] at HRD
      have hsz := hbel.size
      clear hao
      generalize hr : rs[k] = r at *
      have HR := hide hr; clear hr
      generalize hR : readOp r = R at *
      have HRR := hide hR; clear hR
      cases R with
      | none =>
        go_wp2_with fail
        refine (unhide HRD _).mono ?_
        rintro e w2 ⟨⟨a, b, c, d, z, rfl, _⟩, hb2⟩
        have HN := hide (loInv_no (unhide HI) hlt (by rw [unhide HR, unhide HRR]))
        have HB3 := hide (hbel.trans (hb2.mono hbel.size))
        have hz3 := hb2.size
        go_wp2
        go_ret2
        refine ⟨by rw [unhide HN]; rfl, ?_⟩
        exact (unhide HB0).trans (((unhide HB3).alloc (by omega) _).mono hs0)
      | some nd =>
        go_wp2_with fail
        refine (unhide HRD _).mono ?_
        rintro e w2 ⟨⟨a, b, c, d, z, rfl, hx⟩, hb2⟩
        obtain ⟨rfl, rfl, rfl, rfl, rfl⟩ := hx nd rfl
        have HB3 := hide (hbel.trans (hb2.mono hbel.size))
        have HOWN := hide (own_below hown hb2)
        have hz3 := hb2.size
        go_wp2_with (first
          | (at_builtin; (refine wpList_append_own _ rfl _ _ 100 rfl w0.heap.size 142 i0 (.agg #[.int .i64 0, .int .i64 0, .int .i64 0, .int .i64 0, .string ByteArray.empty]) 5 48 Tryz.underlying100 hi hz0 hz1 hz2 rfl (by decide) _ _ _ rfl (own_below (unhide HOWN) (((Below.refl _ _).alloc (Nat.le_refl _) _).alloc (by simp) _)) ⟨w2.heap.size + 1, 0, none⟩ 1 1 (loC nd) rfl rfl (news_five' _ _ _ _ _ _ _) (by simp [Value.oneCell', loC]) (by unfold maxLen; omega) (by omega) (by have := hbel.size; simp; omega) ?_))
          | go_in)
        intro v' w3 hown' hgrow _
        have HN := hide (loInv_yes (unhide HI) hlt (x := nd) (by rw [unhide HR, unhide HRR]))
        have hb4 : Below w0.heap.size w0 w3 := ((((unhide HB3).alloc (by have := hbel.size; omega) _).alloc (by have := hbel.size; simp; omega) _)).grown hgrow (by have := hbel.size; simp; omega) (own_ge hown)
        have hown2 : w3.ownsRow w0.heap.size 142 5 v' (k + 1) (loCells (acc ++ [nd])) := by rw [loCells_snoc]; exact hown'
        clear hgrow hown hbel hown' hb2
        go_wp2
        go_roundw
        case rel => exact ⟨k + 1, _, by omega, by go_num, hown2, hb4, HN⟩
        case measure => simp [intOf]; omega
    · have HN := hide (loInv_end (unhide HI) hlt)
      have HI1 := hide (unhide HI).1
      go_wp2
      obtain ⟨ao', cap', rfl, hr⟩ := row_of_owns hown
      go_ret2
      refine ⟨?_, (unhide HB0).trans (hbel.mono hs0)⟩
      rw [unhide HN]
      rw [← unhide HI1] at hr
      exact ⟨ao', cap', by rw [unhide HI1]; rfl, hr⟩
end Go.Proofs.YtdcjimlhaklhfaaGreatDoor

namespace Go.Proofs.YtdcjimlhaklhfaaGreatDoor
open Go.RowKit
/-- An op's cells in a block of its own. -/
def OpAt (w : World) (g : Nat) (x : Lo) : Prop := g < w.heap.size ∧ w.cell? ⟨g, 0, none⟩ = some (.int .i64 x.count) ∧ w.cell? ⟨g, 1, none⟩ = some (.int .i64 x.site) ∧ w.cell? ⟨g, 2, none⟩ = some (.int .i64 x.node.id) ∧ w.cell? ⟨g, 3, none⟩ = some (.int .i64 x.node.parent) ∧ w.cell? ⟨g, 4, none⟩ = some (.string (bs x.node.name))
theorem OpAt.below {w w' : World} {g B : Nat} {x : Lo} (h : OpAt w g x) (hb : Below B w w') (hB : g < B) : OpAt w' g x := by
  obtain ⟨h0, h1, h2, h3, h4, h5⟩ := h
  have hs := hb.size
  refine ⟨by omega, ?_, ?_, ?_, ?_, ?_⟩
  · rw [hb.cell (p := ⟨g, 0, none⟩) hB]; exact h1
  · rw [hb.cell (p := ⟨g, 1, none⟩) hB]; exact h2
  · rw [hb.cell (p := ⟨g, 2, none⟩) hB]; exact h3
  · rw [hb.cell (p := ⟨g, 3, none⟩) hB]; exact h4
  · rw [hb.cell (p := ⟨g, 4, none⟩) hB]; exact h5
theorem opAt_new (w : World) (x : Lo) (t : TypeId) : OpAt (w.alloc (.cells #[.int .i64 x.count, .int .i64 x.site, .int .i64 x.node.id, .int .i64 x.node.parent, .string (bs x.node.name)] t)) w.heap.size x := by
  refine ⟨by simp, news_five _ _ _ _ _ _ 0 _ rfl, news_five _ _ _ _ _ _ 1 _ rfl, news_five _ _ _ _ _ _ 2 _ rfl, news_five _ _ _ _ _ _ 3 _ rfl, news_five _ _ _ _ _ _ 4 _ rfl⟩
theorem Row.below' {w w' : World} {ao : Option Addr} {n size : Nat} {xs : List Value} {B : Nat} (h : Row w ao n size xs) (hb : Below B w w') (hB : w.heap.size ≤ B) : Row w' ao n size xs := h.below (hb.mono hB)
theorem fresh_take (L list : List Lo) (k : Nat) (h : k < list.length) : fresh L (list.take (k + 1)) = freshS L (fresh L (list.take k)) list[k] := by
  rw [List.take_succ_eq_append_getElem h, fresh_snoc]
theorem freshS_no {L acc : List Lo} {x : Lo} (h : hasStamp L x = true ∨ hasStamp acc x = true) : freshS L acc x = acc := by
  unfold freshS; rw [if_pos]; rw [Bool.or_eq_true]; exact h
theorem freshS_yes {L acc : List Lo} {x : Lo} (h : hasStamp L x = false) (g : hasStamp acc x = false) : freshS L acc x = acc ++ [x] := by
  unfold freshS; rw [if_neg]; rw [h, g]; simp
set_option maxHeartbeats 4000000 in
theorem fresh_any (L list : List Lo) (b o : Nat) (ao bo : Option Addr) (ca cb : Nat) (w : World) (hlog : w.cell? ⟨b, o, none⟩ = some (.slice ao L.length ca)) (hb : b < w.heap.size) (hL : Row w ao L.length 5 (loCells L)) (hl : Row w bo list.length 5 (loCells list)) (hL0 : L.length ≤ 4000) (hl0 : list.length ≤ 4000) :
    Calls Tryz.prog 82 #[.pointer (some ⟨b, o, none⟩), .slice bo list.length cb] w fun e w' => ∃ fo cf, e = .returned (.slice fo (fresh L list).length cf) ∧ w'.ownsRow w.heap.size 142 5 (.slice fo (fresh L list).length cf) (fresh L list).length (loCells (fresh L list)) ∧ Below w.heap.size w w' := by
  obtain ⟨i0, hi, hz0, hz1, hz2⟩ := info_parts Tryz.infoOp
  have HL := hide hL; clear hL
  have HLI := hide hl; clear hl
  have HLOG := hide hlog; clear hlog
  go_enter Tryz.func82, Tryz.ntmps82
  go_wp2
  go_loopw [5, 12] (fun v i wr => ∃ k : Nat, k ≤ list.length ∧ i = .int .i64 k ∧ wr.ownsRow w.heap.size 142 5 v (fresh L (list.take k)).length (loCells (fresh L (list.take k))) ∧ Below w.heap.size w wr) (fun _ i _ => list.length - (intOf i).toNat)
  case atStart => exact ⟨0, Nat.zero_le _, rfl, World.ownsRow_nil _ _ _ _, Below.refl _ _⟩
  case round =>
    obtain ⟨k, hk, rfl, hown, hbel⟩ := hrel
    have hfl := fresh_len L (list.take k)
    rw [List.length_take] at hfl
    by_cases hlt : k < list.length
    · obtain ⟨g, hao, hg, c0, c1, c2, c3, c4⟩ := lo_cells (unhide HLI) hbel (Nat.le_refl _) hlt
      rw [hao]
      clear hao
      have HST := hide (fresh_take L list k hlt)
      generalize list[k] = x at *
      have hclog : wr.cell? ⟨b, o, none⟩ = some (.slice ao L.length ca) := by rw [hbel.cell (p := ⟨b, o, none⟩) hb]; exact unhide HLOG
      have hsz := hbel.size
      have hbr : b < wr.heap.size := by omega
      generalize fresh L (list.take k) = acc at *
      obtain ⟨fo, cf, rfl, hrow⟩ := row_of_owns hown
      have HOP := hide (opAt_new wr x 142)
      have hB1 := hbel.alloc hsz (.cells #[.int .i64 x.count, .int .i64 x.site, .int .i64 x.node.id, .int .i64 x.node.parent, .string (bs x.node.name)] 142)
      have HH1 := hide (fun W (h : Row W ao L.length 5 (loCells L)) => hasStamp_any L x ao ca W h (by omega))
      have HH2 := hide (fun W (h : Row W fo acc.length 5 (loCells acc)) => hasStamp_any acc x fo cf W h (by omega))
      have HRL : Hid (Row (wr.alloc (.cells #[.int .i64 x.count, .int .i64 x.site, .int .i64 x.node.id, .int .i64 x.node.parent, .string (bs x.node.name)] 142)).drew ao L.length 5 (loCells L)) := hide ((unhide HL).below hB1.drew)
      have HNO := hide (@freshS_no L acc x)
      have HYE := hide (@freshS_yes L acc x)
      generalize hasStamp L x = p at *
      generalize hasStamp acc x = q at *
      have HB1 := hide hB1.drew; clear hB1
      have HOWN := hide (own_below hown ((Below.refl wr.heap.size wr).alloc (Nat.le_refl _) (.cells #[.int .i64 x.count, .int .i64 x.site, .int .i64 x.node.id, .int .i64 x.node.parent, .string (bs x.node.name)] 142)).drew)
      clear hown
      have HROW := hide (hrow.below ((Below.refl wr.heap.size wr).alloc (Nat.le_refl _) (.cells #[.int .i64 x.count, .int .i64 x.site, .int .i64 x.node.id, .int .i64 x.node.parent, .string (bs x.node.name)] 142)).drew)
      clear hrow
      go_wp2
      go_region_with (go_at_call 116; refine (unhide HH1 _ (by exact unhide HRL)).mono ?_; rintro e w2 ⟨rfl, hb2⟩; have hop2 := OpAt.below (w := (wr.alloc (.cells #[.int .i64 x.count, .int .i64 x.site, .int .i64 x.node.id, .int .i64 x.node.parent, .string (bs x.node.name)] 142)).drew) (unhide HOP) hb2 (by simp [heap_drew]); obtain ⟨hz2', d0, d1, d2, d3, d4⟩ := hop2; clear c0 c1 c2 c3 c4 hclog)
      all_goals
        have HW2 := hide ((unhide HB1).trans (hb2.mono (unhide HB1).size))
        have HOWN2 := hide (own_below (unhide HOWN) hb2)
        have HROW2 := hide ((unhide HROW).below hb2)
        have HOP2 : Hid (OpAt w2 wr.heap.size x) := hide ⟨hz2', d0, d1, d2, d3, d4⟩
        clear hb2
        go_wp2_with fail
        refine (unhide HH2 _ (by exact unhide HROW2)).mono ?_
        rintro e w3 ⟨rfl, hb3⟩
        have hop3 := (unhide HOP2).below hb3 hz2'
        obtain ⟨hz3, e0, e1, e2, e3, e4⟩ := hop3
        clear d0 d1 d2 d3 d4
        have HW3 := hide ((unhide HW2).trans (hb3.mono (unhide HW2).size))
        have HOWN3 := hide (own_below (unhide HOWN2) hb3)
        clear hb3
        have hsz3 := (unhide HW3).size
        rcases (show p = true ∨ (p = false ∧ q = true) ∨ (p = false ∧ q = false) from by cases p <;> cases q <;> simp) with hp | ⟨hp, hq⟩ | ⟨hp, hq⟩
        · have HA : Hid (fresh L (list.take (k + 1)) = acc) := hide ((unhide HST).trans (unhide HNO (.inl hp)))
          subst hp
          go_wp2
          go_roundw
          case rel => exact ⟨k + 1, by omega, by go_num, by rw [unhide HA]; exact unhide HOWN3, unhide HW3⟩
          case measure => simp [intOf]; omega
        · have HA : Hid (fresh L (list.take (k + 1)) = acc) := hide ((unhide HST).trans (unhide HNO (.inr hq)))
          subst hp hq
          go_wp2
          go_roundw
          case rel => exact ⟨k + 1, by omega, by go_num, by rw [unhide HA]; exact unhide HOWN3, unhide HW3⟩
          case measure => simp [intOf]; omega
        · have HA : Hid (fresh L (list.take (k + 1)) = acc ++ [x]) := hide ((unhide HST).trans (unhide HYE hp hq))
          subst hp hq
          go_wp2_with (first
            | (at_builtin; (refine wpList_append_own _ rfl _ _ 100 rfl w.heap.size 142 i0 (.agg #[.int .i64 0, .int .i64 0, .int .i64 0, .int .i64 0, .string ByteArray.empty]) 5 48 Tryz.underlying100 hi hz0 hz1 hz2 rfl (by decide) _ _ _ rfl (own_below (unhide HOWN3) ((Below.refl _ _).alloc (Nat.le_refl _) _)) ⟨w3.heap.size, 0, none⟩ 1 1 (loC x) rfl rfl (news_five _ _ _ _ _ _) (by simp [Value.oneCell', loC]) (by unfold maxLen; omega) (by omega) (by simp; omega) ?_))
            | go_in)
          intro v' w4 hown' hgrow _
          have hb4 : Below w.heap.size w w4 := ((unhide HW3).alloc hsz3 _).grown hgrow (by simp; omega) (own_ge (unhide HOWN3))
          have hown2 : w4.ownsRow w.heap.size 142 5 v' (fresh L (list.take (k + 1))).length (loCells (fresh L (list.take (k + 1)))) := by rw [unhide HA, loCells_snoc, List.length_append]; exact hown'
          clear hgrow hown'
          go_wp2
          go_roundw
          case rel => exact ⟨k + 1, by omega, by go_num, hown2, hb4⟩
          case measure => simp [intOf]; omega
    · have HE : Hid (fresh L list = fresh L (list.take k)) := by apply hide; rw [List.take_of_length_le (by omega)]
      generalize fresh L (list.take k) = acc at *
      obtain ⟨fo, cf, rfl, hr⟩ := row_of_owns hown
      go_wp2
      go_ret
      refine ⟨fo, cf, by rw [unhide HE]; rfl, ?_, hbel⟩
      rw [unhide HE]; exact hown
end Go.Proofs.YtdcjimlhaklhfaaGreatDoor
