import Derived.Test.YtkjancfakplogaaGreatDoorKPure2
namespace Go.Proofs.YtkjancfakplogaaGreatDoor
open Go.RowKit
/-! A way up of whatever length. -/
def Goes (t : Tr) (x goal : Int) : Prop := ∃ f, meetsF t f x goal = true
theorem meets_up (t : Tr) (goal : Int) {f : Nat} {x : Int} (h : meetsF t f x goal = true) : meetsF t (f + 1) x goal = true := by
  induction f generalizing x with
  | zero => simp [meetsF] at h
  | succ f ih =>
    rw [meetsF] at h ⊢
    by_cases e : x = goal
    · rw [if_pos e]
    · rw [if_neg e] at h ⊢
      cases ht : t x.toNat with
      | none => rw [ht] at h; simp at h
      | some n => rw [ht] at h; simp only at h ⊢; exact ih h
theorem goes_meets {t : Tr} (ht : TrOk t) {x goal : Int} : meetsT t x goal = true ↔ Goes t x goal := by
  constructor
  · intro h; exact ⟨100, h⟩
  · rintro ⟨f, h⟩
    have h1 := meets_up t goal h
    rw [meets_below] at h1
    unfold meetsT
    rw [show (100 : Nat) = 99 + 1 from rfl, meets_below]
    rw [Bool.or_eq_true] at h1 ⊢
    rcases h1 with h1 | h1
    · exact .inl h1
    · right
      have hs := below_stop (ns := nodesOf t) (look := fun x : Int => t x.toNat) (fun y n hn => by
        have := ht.2 _ n hn
        refine ⟨(nodesOf_mem ht).2 ⟨by rw [show n.id.toNat = y.toNat by omega]; exact hn, by omega⟩, by omega⟩) f x h1
      exact below_le (nodesOf_len t) x hs
theorem goes_here (t : Tr) (x : Int) : Goes t x x := ⟨1, by simp [meetsF]⟩
theorem goes_up {t : Tr} {x goal : Int} {n : Nd} (h : t x.toNat = some n) (hg : Goes t n.parent goal) : Goes t x goal := by
  obtain ⟨f, hf⟩ := hg
  refine ⟨f + 1, ?_⟩
  rw [meetsF, h]
  split
  · rfl
  · exact hf
/-- A tree as Check wants it. -/
structure Valid (t : Tr) : Prop where
  ok : TrOk t
  parent : ∀ i n, t i = some n → isParentT t n.parent = true
  goes : ∀ i n, t i = some n → Goes t n.id 0
  apart : ∀ i j n m, t i = some n → t j = some m → n.parent = m.parent → n.name = m.name → i = j
theorem valid_of_check {l : Str} (h : (checkT l).1 = 0) : Valid (gather (readNodes (cut l))) := by
  obtain ⟨_, _, _, ho, hm⟩ := check_parts h
  have hk := readNodes_bd (cut l)
  generalize readNodes (cut l) = ns at *
  have hok := gather_trOk hk
  have hmem : ∀ i n, gather ns i = some n → n ∈ ns := by
    intro i n hn
    have := hok.2 i n hn
    exact (gather_mem (ordered_unique ho) (fun n hn => (hk n hn).1)).1 ⟨by rw [show n.id.toNat = i by omega]; exact hn, by omega⟩
  unfold misplaced at hm
  split at hm
  · simp at hm
  · rename_i h1
    split at hm
    · simp at hm
    · rename_i h2
      split at hm
      · simp at hm
      · rename_i h3
        have n1 : ∀ j, j < ns.length → orphan (gather ns) ns j = false := by
          rcases scan_cases (orphan (gather ns) ns) 0 ns.length with ⟨e, _⟩ | ⟨_, e⟩
          · exact absurd e h1
          · exact fun j hj => e j (by omega) hj
        have n2 : ∀ j, j < ns.length → looped (gather ns) ns j = false := by
          rcases scan_cases (looped (gather ns) ns) 0 ns.length with ⟨e, _⟩ | ⟨_, e⟩
          · exact absurd e h2
          · exact fun j hj => e j (by omega) hj
        have n3 : ∀ j, j < ns.length → twice ns j = false := by
          rcases scan_cases (twice ns) 0 ns.length with ⟨e, _⟩ | ⟨_, e⟩
          · exact absurd e h3
          · exact fun j hj => e j (by omega) hj
        refine ⟨hok, ?_, ?_, ?_⟩
        · intro i n hn
          obtain ⟨j, hj, rfl⟩ := mem_ndAt (hmem i n hn)
          have := n1 j hj; unfold orphan at this; simpa using this
        · intro i n hn
          obtain ⟨j, hj, rfl⟩ := mem_ndAt (hmem i n hn)
          have := n2 j hj; unfold looped at this
          exact (goes_meets hok).1 (by simpa using this)
        · intro i j n m hn hm' hp hnm
          obtain ⟨a, ha, rfl⟩ := mem_ndAt (hmem i n hn)
          obtain ⟨b, hb, rfl⟩ := mem_ndAt (hmem j m hm')
          have hid1 := (hok.2 i _ hn).1
          have hid2 := (hok.2 j _ hm').1
          have hno : ∀ x y, x < y → y < ns.length → (ndAt ns x).parent = (ndAt ns y).parent → (ndAt ns x).name = (ndAt ns y).name → False := by
            intro x y hxy hy h4 h5
            have := n3 y hy
            unfold twice at this
            have := of_decide_eq_false this
            exact this ⟨x, hxy, by unfold samePlace; rw [h4, h5]; simp⟩
          rcases Nat.lt_trichotomy a b with h6 | rfl | h6
          · exact (hno a b h6 hb hp hnm).elim
          · omega
          · exact (hno b a h6 ha hp.symm hnm.symm).elim
/-- A tree that is right, written and read, passes. -/
theorem check_text {t : Tr} (hv : Valid t) : checkT (textT t) = (0, 0) ∧ gather (readNodes (cut (textT t))) = t := by
  obtain ⟨e1, e2⟩ := readNodes_text hv.ok
  have ho := nodesOf_ordered hv.ok
  have hk := nodesOf_ok hv.ok
  have hg := gather_nodesOf hv.ok
  have hlen : (textT t).length ≤ 4000 := by have := textTo_len hv.ok 99; unfold textT; omega
  refine ⟨?_, by rw [e1, hg]⟩
  unfold checkT
  rw [if_neg (by omega)]
  simp only []
  rw [e1, e2, if_neg (by omega), hg]
  have h3 : ¬ scan (unordered (nodesOf t)) 1 (nodesOf t).length < (nodesOf t).length := by
    rw [scan_none]
    · omega
    · intro j h1 h2
      unfold unordered
      have := ho (j - 1) j (by omega) h2
      exact decide_eq_false (by omega)
  rw [if_neg h3]
  have hat : ∀ j, j < (nodesOf t).length → t (ndAt (nodesOf t) j).id.toNat = some (ndAt (nodesOf t) j) := fun j hj => ((nodesOf_mem hv.ok).1 (ndAt_mem hj)).1
  unfold misplaced
  rw [scan_none (p := orphan t (nodesOf t)) (fun j _ hj => by unfold orphan; rw [hv.parent _ _ (hat j hj)]; rfl), if_neg (by omega)]
  rw [scan_none (p := looped t (nodesOf t)) (fun j _ hj => by unfold looped; rw [(goes_meets hv.ok).2 (hv.goes _ _ (hat j hj))]; rfl), if_neg (by omega)]
  rw [scan_none (p := twice (nodesOf t)) (fun j _ hj => by
    unfold twice
    apply decide_eq_false
    rintro ⟨x, hx, hs⟩
    unfold samePlace at hs
    simp only [Bool.and_eq_true, beq_iff_eq] at hs
    have h4 := hv.apart _ _ _ _ (hat x (by omega)) (hat j hj) hs.1 hs.2
    have h5 := ho x j hx hj
    have h6 := (hk _ (ndAt_mem (ns := nodesOf t) (i := x) (by omega))).1
    omega), if_neg (by omega)]
/-! The steps keep trees right. -/
theorem hasT_iff {t : Tr} {id : Int} : hasT t id = true ↔ ∃ n, t id.toNat = some n := by unfold hasT; exact Option.isSome_iff_exists
theorem isParent_iff {t : Tr} {p : Int} : isParentT t p = true ↔ p = 0 ∨ (p % 2 = 0 ∧ ∃ n, t p.toNat = some n) := by
  unfold isParentT; rw [Bool.or_eq_true, Bool.and_eq_true, beq_iff_eq, beq_iff_eq, hasT_iff]
theorem atT_none {t : Tr} {p : Int} {s : Str} (h : atT t p s = 0) : ∀ i n, 1 ≤ i → i ≤ 99 → t i = some n → n.parent = p → n.name = s → False := by
  intro i n h1 h2 hn hp hs
  rcases scan_cases (spotIs t p s) 1 100 with ⟨e1, e2, _, _⟩ | ⟨_, e⟩
  · unfold atT at h; rw [if_pos e1] at h; omega
  · have := e i h1 (by omega)
    unfold spotIs at this; rw [hn] at this; simp [hp, hs] at this
theorem atT_some {t : Tr} {p : Int} {s : Str} (hv : Valid t) (h : atT t p s ≠ 0) : ∀ i n, t i = some n → n.parent = p → n.name = s → (i : Int) = atT t p s := by
  intro i n hn hp hs
  rcases scan_cases (spotIs t p s) 1 100 with ⟨e1, e2, e3, _⟩ | ⟨e, _⟩
  · unfold atT; rw [if_pos e1]
    generalize scan (spotIs t p s) 1 100 = k at *
    unfold spotIs at e3
    cases hk : t k with
    | none => rw [hk] at e3; simp at e3
    | some m =>
      rw [hk] at e3; simp at e3
      have := hv.apart i k n m hn hk (by rw [hp, e3.1]) (by rw [hs, e3.2])
      omega
  · unfold atT at h; rw [if_neg (by omega)] at h; exact absurd rfl h
theorem put_at {t : Tr} {n : Nd} {i : Nat} : trPut t n i = if (i : Int) = n.id then some n else t i := rfl
theorem valid_put {t : Tr} (hv : Valid t) {n : Nd} (hn : NdOk n) (hp : isParentT t n.parent = true) (hlo : hasT t n.id = true → ¬ Goes t n.parent n.id) (hat : ∀ i m, t i = some m → m.parent = n.parent → m.name = n.name → (i : Int) = n.id) : Valid (trPut t n) := by
  have hok := trOk_put hv.ok hn
  have hself : trPut t n n.id.toNat = some n := by rw [put_at, if_pos (by have := hn.1; omega)]
  have hoth : ∀ i : Nat, (i : Int) ≠ n.id → trPut t n i = t i := fun i hi => by rw [put_at, if_neg hi]
  have hhas : ∀ (p : Int) m, t p.toNat = some m → ∃ m', trPut t n p.toNat = some m' := by
    intro p m hm
    by_cases e : (p.toNat : Int) = n.id
    · exact ⟨n, by rw [put_at, if_pos e]⟩
    · exact ⟨m, by rw [hoth _ e]; exact hm⟩
  have hpar : ∀ p, isParentT t p = true → isParentT (trPut t n) p = true := by
    intro p h
    rw [isParent_iff] at h ⊢
    rcases h with h | ⟨h1, m, h2⟩
    · exact .inl h
    · exact .inr ⟨h1, hhas p m h2⟩
  -- the way from the new parent does not meet the node itself
  have havoid : ¬ Goes t n.parent n.id := by
    cases hh : hasT t n.id
    · rintro ⟨f, hf⟩
      have hne : t n.id.toNat = none := by
        cases hq : t n.id.toNat with
        | none => rfl
        | some m => exact absurd (hasT_iff.2 ⟨m, hq⟩) (by rw [hh]; simp)
      -- all met are parents; the node is none
      have key : ∀ f x, isParentT t x = true → meetsF t f x n.id = true → False := by
        intro f
        induction f with
        | zero => intro x _ h; simp [meetsF] at h
        | succ f ih =>
          intro x hx h
          rw [meetsF] at h
          by_cases e : x = n.id
          · rw [isParent_iff] at hx
            rcases hx with hx | ⟨_, m, hm⟩
            · have := hn.1; omega
            · rw [e, hne] at hm; cases hm
          · rw [if_neg e] at h
            cases hx2 : t x.toNat with
            | none => rw [hx2] at h; simp at h
            | some m => rw [hx2] at h; exact ih m.parent (hv.parent _ m hx2) h
      exact key f n.parent hp hf
    · exact hlo hh
  have hgp : Goes (trPut t n) n.parent 0 := by
    have h0 : Goes t n.parent 0 := by
      rw [isParent_iff] at hp
      rcases hp with hp | ⟨_, m, hm⟩
      · rw [hp]; exact goes_here t 0
      · have := hv.goes _ m hm
        have hid := (hv.ok.2 _ m hm)
        rwa [show m.id = n.parent by have := hn.2.2.1; omega] at this
    obtain ⟨f, hf⟩ := h0
    have key : ∀ f x, ¬ Goes t x n.id → meetsF t f x 0 = true → Goes (trPut t n) x 0 := by
      intro f
      induction f with
      | zero => intro x _ h; simp [meetsF] at h
      | succ f ih =>
        intro x hx h
        rw [meetsF] at h
        by_cases e : x = 0
        · rw [e]; exact goes_here _ 0
        · rw [if_neg e] at h
          cases hx2 : t x.toNat with
          | none => rw [hx2] at h; simp at h
          | some m =>
            rw [hx2] at h
            have hxn : (x.toNat : Int) ≠ n.id := by
              intro e2
              have hid := hv.ok.2 _ m hx2
              apply hx
              rw [show x = n.id by omega]; exact goes_here t _
            exact goes_up (by rw [hoth _ hxn]; exact hx2) (ih m.parent (fun hg => hx (goes_up hx2 hg)) h)
    exact key f n.parent havoid hf
  have hgn : Goes (trPut t n) n.id 0 := goes_up hself hgp
  have hall : ∀ f x, meetsF t f x 0 = true → Goes (trPut t n) x 0 := by
    intro f
    induction f with
    | zero => intro x h; simp [meetsF] at h
    | succ f ih =>
      intro x h
      rw [meetsF] at h
      by_cases e : x = 0
      · rw [e]; exact goes_here _ 0
      · rw [if_neg e] at h
        cases hx2 : t x.toNat with
        | none => rw [hx2] at h; simp at h
        | some m =>
          rw [hx2] at h
          by_cases e2 : (x.toNat : Int) = n.id
          · have hid := hv.ok.2 _ m hx2
            rw [show x = n.id by omega]; exact hgn
          · exact goes_up (by rw [hoth _ e2]; exact hx2) (ih m.parent h)
  refine ⟨hok, ?_, ?_, ?_⟩
  · intro i m hm
    by_cases e : (i : Int) = n.id
    · rw [put_at, if_pos e] at hm; cases hm; exact hpar _ hp
    · rw [hoth _ e] at hm; exact hpar _ (hv.parent i m hm)
  · intro i m hm
    by_cases e : (i : Int) = n.id
    · rw [put_at, if_pos e] at hm; cases hm; exact hgn
    · rw [hoth _ e] at hm
      obtain ⟨f, hf⟩ := hv.goes i m hm
      exact hall f _ hf
  · intro i j a b ha hb h1 h2
    by_cases e1 : (i : Int) = n.id
    · by_cases e2 : (j : Int) = n.id
      · omega
      · rw [put_at, if_pos e1] at ha; cases ha
        rw [hoth _ e2] at hb
        have := hat j b hb h1.symm h2.symm; omega
    · rw [hoth _ e1] at ha
      by_cases e2 : (j : Int) = n.id
      · rw [put_at, if_pos e2] at hb; cases hb
        have := hat i a ha h1 h2; omega
      · rw [hoth _ e2] at hb
        exact hv.apart i j a b ha hb h1 h2
theorem valid_remove {t : Tr} (hv : Valid t) {id : Int} (hk : kidsT t id = false) : Valid (trRemove t id) := by
  have hoth : ∀ i : Nat, (i : Int) ≠ id → trRemove t id i = t i := fun i hi => by unfold trRemove; rw [if_neg hi]
  have hgone : ∀ i n, trRemove t id i = some n → t i = some n ∧ (i : Int) ≠ id := by
    intro i n h
    unfold trRemove at h
    split at h
    · cases h
    · exact ⟨h, by assumption⟩
  have hno : ∀ i n, t i = some n → n.parent ≠ id := by
    intro i n hn e
    have hi := hv.ok.2 i n hn
    rcases scan_cases (kidIs t id) 1 100 with ⟨e1, _⟩ | ⟨_, e2⟩
    · unfold kidsT at hk; exact absurd e1 (of_decide_eq_false hk)
    · have := e2 i hi.2.1 (by omega)
      unfold kidIs at this; rw [hn] at this; simp [e] at this
  have hall : ∀ f x, x ≠ id → meetsF t f x 0 = true → Goes (trRemove t id) x 0 := by
    intro f
    induction f with
    | zero => intro x _ h; simp [meetsF] at h
    | succ f ih =>
      intro x hx h
      rw [meetsF] at h
      by_cases e : x = 0
      · rw [e]; exact goes_here _ 0
      · rw [if_neg e] at h
        cases hx2 : t x.toNat with
        | none => rw [hx2] at h; simp at h
        | some m =>
          rw [hx2] at h
          have hid := hv.ok.2 _ m hx2
          exact goes_up (by rw [hoth _ (by omega)]; exact hx2) (ih m.parent (hno _ m hx2) h)
  refine ⟨trOk_remove hv.ok id, ?_, ?_, ?_⟩
  · intro i n hn
    obtain ⟨h1, h2⟩ := hgone i n hn
    have hp := hv.parent i n h1
    rw [isParent_iff] at hp ⊢
    rcases hp with hp | ⟨hp, m, hm⟩
    · exact .inl hp
    · refine .inr ⟨hp, m, ?_⟩
      have := hno i n h1
      have hid := hv.ok.2 _ m hm
      rw [hoth _ (by omega)]; exact hm
  · intro i n hn
    obtain ⟨h1, h2⟩ := hgone i n hn
    obtain ⟨f, hf⟩ := hv.goes i n h1
    have hid := hv.ok.2 i n h1
    exact hall f n.id (by omega) hf
  · intro i j a b ha hb h1 h2
    exact hv.apart i j a b (hgone i a ha).1 (hgone j b hb).1 h1 h2
theorem valid_step {t : Tr} (hv : Valid t) {s : St} (hs : StOk s) : Valid (stepT t s) := by
  unfold stepT
  by_cases hE : stepE t s = 0
  · rw [if_pos hE]
    rcases hs with ⟨hk, hn⟩ | ⟨hk, hn⟩
    · have h45 : ¬ s.kind = 45 := by rcases hk with h | h <;> rw [h] <;> decide
      rw [if_neg h45]
      have hN : NdOk s.node := hn
      rcases hk with h | h
      · have e : createE t s.node = 0 := by unfold stepE at hE; rwa [if_pos h] at hE
        unfold createE at e
        cases h1 : hasT t s.node.id
        · rw [h1] at e
          cases h2 : isParentT t s.node.parent
          · rw [h2] at e; simp at e
          · rw [h2] at e
            cases h3 : (atT t s.node.parent s.node.name != 0)
            · have h3' : atT t s.node.parent s.node.name = 0 := by simpa using h3
              refine valid_put hv hN h2 (fun hh => by rw [h1] at hh; cases hh) (fun i m hm hp hnm => ?_)
              have hi := hv.ok.2 i m hm
              exact (atT_none h3' i m hi.2.1 hi.2.2.1 hm hp hnm).elim
            · rw [h3] at e; simp at e
        · rw [h1] at e; simp at e
      · have e : moveE t s.node = 0 := by unfold stepE at hE; rwa [if_neg (by rw [h]; decide), if_pos h] at hE
        unfold moveE at e
        cases h1 : hasT t s.node.id
        · rw [h1] at e; simp at e
        · rw [h1] at e
          cases h2 : isParentT t s.node.parent
          · rw [h2] at e; simp at e
          · rw [h2] at e
            cases h3 : meetsT t s.node.parent s.node.id
            · rw [h3] at e
              refine valid_put hv hN h2 (fun _ hg => by rw [(goes_meets hv.ok).2 hg] at h3; cases h3) (fun i m hm hp hnm => ?_)
              have hi := hv.ok.2 i m hm
              cases h4 : (atT t s.node.parent s.node.name != 0)
              · exact (atT_none (by simpa using h4) i m hi.2.1 hi.2.2.1 hm hp hnm).elim
              · have h4' : atT t s.node.parent s.node.name ≠ 0 := by simpa using h4
                have := atT_some hv h4' i m hm hp hnm
                cases h5 : (atT t s.node.parent s.node.name != s.node.id)
                · have : atT t s.node.parent s.node.name = s.node.id := by simpa using h5
                  omega
                · rw [h4, h5] at e; simp at e
            · rw [h3] at e; simp at e
    · rw [if_pos hk]
      have e : deleteE t s.node.id = 0 := by unfold stepE at hE; rwa [if_neg (by rw [hk]; decide), if_neg (by rw [hk]; decide), if_pos hk] at hE
      unfold deleteE at e
      cases h1 : hasT t s.node.id
      · rw [h1] at e; simp at e
      · rw [h1] at e
        cases h2 : kidsT t s.node.id
        · exact valid_remove hv h2
        · rw [h2] at e; simp at e
  · rw [if_neg hE]; exact hv
theorem valid_all : ∀ (ss : List St) (t : Tr), Valid t → (∀ s ∈ ss, StOk s) → Valid (doAllT ss t) := by
  intro ss
  induction ss with
  | nil => intro t h _; exact h
  | cons s ss ih =>
    intro t h hs
    unfold doAllT
    split
    · exact ih _ (valid_step h (hs s (by simp))) (fun x hx => hs x (by simp [hx]))
    · exact h
end Go.Proofs.YtkjancfakplogaaGreatDoor
