import Derived.Test.YtkjancfakplogaaGreatDoorPure3
namespace Go.Proofs.YtkjancfakplogaaGreatDoor
open Go.RowKit
/-- A step: its kind's byte and a node. -/
structure St where
  kind : UInt8
  node : Nd
def stEq (a b : St) : Bool := a.kind == b.kind && ndEq a.node b.node
theorem stEq_iff {a b : St} : stEq a b = true ↔ a = b := by
  cases a; cases b; simp only [stEq, Bool.and_eq_true, beq_iff_eq, ndEq_iff, St.mk.injEq]
def stOf : Str → Option St
  | [] => none
  | k :: r => if k = 43 ∨ k = 61 then (readNode r).map (fun n => ⟨k, n⟩) else if k = 45 then (if (number r 1 99).2 then some ⟨k, ⟨(number r 1 99).1, 0, []⟩⟩ else none) else none
def readStep (l : Str) : Option St := if bodyB l then stOf (bodyS l) else none
def readSteps : List Str → List St
  | [] => []
  | r :: l => match readStep r with
    | none => []
    | some s => s :: readSteps l
theorem readSteps_length (l : List Str) : (readSteps l).length ≤ l.length := by
  induction l with
  | nil => simp [readSteps]
  | cons r l ih => unfold readSteps; split <;> simp; omega
def StOk (s : St) : Prop := (s.kind = 43 ∨ s.kind = 61) ∧ 1 ≤ s.node.id ∧ s.node.id ≤ 99 ∧ 0 ≤ s.node.parent ∧ s.node.parent ≤ 99 ∧ isName s.node.name s.node.id = true ∨ s.kind = 45 ∧ 1 ≤ s.node.id ∧ s.node.id ≤ 99
theorem readStep_ok {l : Str} {s : St} (h : readStep l = some s) : StOk s := by
  unfold readStep at h
  split at h
  · cases hb : bodyS l with
    | nil => rw [hb] at h; simp [stOf] at h
    | cons k r =>
      rw [hb] at h
      have h2 : (if k = 43 ∨ k = 61 then (readNode r).map (fun n => (⟨k, n⟩ : St)) else if k = 45 then (if (number r 1 99).2 then some (⟨k, ⟨(number r 1 99).1, 0, []⟩⟩ : St) else none) else none) = some s := h
      by_cases hk : k = 43 ∨ k = 61
      · rw [if_pos hk] at h2
        cases hr : readNode r with
        | none => rw [hr] at h2; simp at h2
        | some n =>
          rw [hr] at h2; simp at h2; subst h2
          have := readNode_bd hr
          exact .inl ⟨hk, this.1, this.2.1, this.2.2.1, this.2.2.2.1, this.2.2.2.2⟩
      · rw [if_neg hk] at h2
        by_cases hk2 : k = 45
        · rw [if_pos hk2] at h2
          by_cases hn : (number r 1 99).2 = true
          · rw [if_pos hn] at h2
            cases h2
            exact .inr ⟨hk2, number_lo r 1 99 hn, (number_bd r 1 99 (by omega)).2⟩
          · rw [if_neg hn] at h2; cases h2
        · rw [if_neg hk2] at h2; cases h2
  · cases h
theorem readSteps_ok (l : List Str) : ∀ s ∈ readSteps l, StOk s := by
  induction l with
  | nil => intro s h; simp [readSteps] at h
  | cons r l ih =>
    intro s h
    unfold readSteps at h
    split at h
    · simp at h
    · rename_i m hm
      rcases List.mem_cons.1 h with rfl | h
      · exact readStep_ok hm
      · exact ih s h
/-! The steps, done. -/
def spotIs (t : Tr) (parent : Int) (name : Str) (i : Nat) : Bool := match t i with
  | none => false
  | some n => n.parent == parent && n.name == name
def atT (t : Tr) (parent : Int) (name : Str) : Int := if scan (spotIs t parent name) 1 100 < 100 then (scan (spotIs t parent name) 1 100 : Int) else 0
def kidIs (t : Tr) (id : Int) (i : Nat) : Bool := match t i with
  | none => false
  | some n => n.parent == id
def kidsT (t : Tr) (id : Int) : Bool := decide (scan (kidIs t id) 1 100 < 100)
theorem scan_ge (p : Nat → Bool) (lo n : Nat) (h : scan p lo n < n) : lo ≤ scan p lo n := by
  unfold scan at h ⊢
  cases hf : (List.range' lo (n - lo)).find? p with
  | none => rw [hf] at h; simp at h
  | some k => have := List.mem_of_find?_eq_some hf; rw [List.mem_range'_1] at this; simp; omega
theorem scan_cases' (p : Nat → Bool) : (scan p 1 100 < 100 ∧ 1 ≤ scan p 1 100) ∨ ¬ scan p 1 100 < 100 := by
  by_cases h : scan p 1 100 < 100
  · exact .inl ⟨h, scan_ge p 1 100 h⟩
  · exact .inr h
/-- The first kid, or 0. -/
def kidT (t : Tr) (id : Int) : Int := if scan (kidIs t id) 1 100 < 100 then (scan (kidIs t id) 1 100 : Int) else 0
theorem kids_kid (t : Tr) (id : Int) : kidsT t id = (kidT t id != 0) := by
  unfold kidsT kidT
  rcases scan_cases' (kidIs t id) with h | h
  · rw [decide_eq_true h.1, if_pos h.1]; symm; rw [bne_iff_ne]; omega
  · rw [decide_eq_false (by omega), if_neg (by omega)]; rfl
def trRemove (t : Tr) (id : Int) : Tr := fun i => if (i : Int) = id then none else t i
def createE (t : Tr) (n : Nd) : Int := if hasT t n.id then 8 else if !isParentT t n.parent then 4 else if atT t n.parent n.name != 0 then 6 else 0
def moveE (t : Tr) (n : Nd) : Int := if !hasT t n.id then 9 else if !isParentT t n.parent then 4 else if meetsT t n.parent n.id then 5 else if atT t n.parent n.name != 0 && atT t n.parent n.name != n.id then 6 else 0
def deleteE (t : Tr) (id : Int) : Int := if !hasT t id then 9 else if kidsT t id then 10 else 0
def stepE (t : Tr) (s : St) : Int := if s.kind = 43 then createE t s.node else if s.kind = 61 then moveE t s.node else if s.kind = 45 then deleteE t s.node.id else 7
def stepT (t : Tr) (s : St) : Tr := if stepE t s = 0 then (if s.kind = 45 then trRemove t s.node.id else trPut t s.node) else t
def doAllE : List St → Tr → Nat → Int × Nat
  | [], _, _ => (0, 0)
  | s :: l, t, i => if stepE t s = 0 then doAllE l (stepT t s) (i + 1) else (stepE t s, i)
def doAllT : List St → Tr → Tr
  | [], t => t
  | s :: l, t => if stepE t s = 0 then doAllT l (stepT t s) else t
theorem trOk_remove {t : Tr} (h : TrOk t) (id : Int) : TrOk (trRemove t id) := by
  refine ⟨?_, fun i n hn => ?_⟩
  · unfold trRemove; split
    · rfl
    · exact h.1
  · unfold trRemove at hn; split at hn
    · cases hn
    · exact h.2 i n hn
theorem stepT_ok {t : Tr} (h : TrOk t) {s : St} (hs : StOk s) : TrOk (stepT t s) := by
  unfold stepT
  split
  · split
    · exact trOk_remove h _
    · rename_i hk
      rcases hs with ⟨_, h1⟩ | ⟨h1, _⟩
      · exact trOk_put h h1
      · exact absurd h1 hk
  · exact h
/-! Texts. -/
def nodeText (n : Nd) : Str := digs n.id ++ [32] ++ digs n.parent ++ [32] ++ n.name ++ [59]
def textAt (t : Tr) (i : Nat) : Str := match t i with
  | none => []
  | some n => nodeText n
def textTo (t : Tr) (k : Nat) : Str := (List.range' 1 k).flatMap (textAt t)
def textT (t : Tr) : Str := textTo t 99
theorem textTo_succ (t : Tr) (k : Nat) : textTo t (k + 1) = textTo t k ++ textAt t (k + 1) := by
  unfold textTo; rw [List.range'_concat]; simp [Nat.add_comm]
theorem name_len {l : Str} {id : Int} (h : isName l id = true) : l.length ≤ 11 := by
  unfold isName at h
  simp only [Bool.and_eq_true, decide_eq_true_eq, Bool.or_eq_true, beq_iff_eq] at h
  obtain ⟨⟨h1, h2⟩, h3 | h3⟩ := h
  · omega
  · have e := congrArg List.length h3
    rw [List.length_drop, List.length_cons] at e
    have := digs_len id
    have := plainLen_le l
    omega
theorem nodeText_len {n : Nd} (h : isName n.name n.id = true) : (nodeText n).length ≤ 18 := by
  have h1 := name_len h
  have h2 := digs_len n.id
  have h3 := digs_len n.parent
  simp only [nodeText, List.length_append, List.length_cons, List.length_nil]
  omega
theorem textTo_len {t : Tr} (h : TrOk t) (k : Nat) : (textTo t k).length ≤ 18 * k := by
  induction k with
  | zero => simp [textTo]
  | succ k ih =>
    rw [textTo_succ, List.length_append]
    have : (textAt t (k + 1)).length ≤ 18 := by
      unfold textAt
      cases ht : t (k + 1) with
      | none => simp
      | some n => exact nodeText_len (h.2 _ n ht).2.2.2.2.2
    omega
/-- What Apply answers: the text, the place, the error. -/
def applyT (l sc : Str) : Str × Nat × Int :=
  if 4000 < l.length ∨ 4000 < sc.length then ([], 0, 1) else
  if (checkT l).1 ≠ 0 then ([], (checkT l).2, (checkT l).1) else
  if (readSteps (cut sc)).length < (cut sc).length then ([], (readSteps (cut sc)).length, 7) else
  if (doAllE (readSteps (cut sc)) (gather (readNodes (cut l))) 0).1 ≠ 0 then ([], (doAllE (readSteps (cut sc)) (gather (readNodes (cut l))) 0).2, (doAllE (readSteps (cut sc)) (gather (readNodes (cut l))) 0).1) else
  (textT (doAllT (readSteps (cut sc)) (gather (readNodes (cut l)))), 0, 0)
end Go.Proofs.YtkjancfakplogaaGreatDoor
