import Derived.Test.YtkjancfakplogaaGreatDoorLPure1
namespace Go.Proofs.YtkjancfakplogaaGreatDoor
open Go.RowKit
/-! The places by a log. They are no tree: a way up may end anywhere. -/
def TrW (t : Tr) : Prop := t 0 = none ∧ ∀ i n, t i = some n → n.id = i ∧ 1 ≤ i ∧ i ≤ 99 ∧ NdW n
def placeS (t : Tr) (x : Lo) : Tr := if meetsT t x.node.parent x.node.id then t else trPut t x.node
def places (L : List Lo) : Tr := L.foldl placeS tr0
theorem trW_0 : TrW tr0 := ⟨rfl, fun i n h => by cases h⟩
theorem trW_put {t : Tr} (h : TrW t) {n : Nd} (hn : NdW n) : TrW (trPut t n) := by
  have h1 := hn.1
  have h2 := hn.2.1
  refine ⟨?_, fun i m hm => ?_⟩
  · unfold trPut; rw [if_neg (by omega)]; exact h.1
  · unfold trPut at hm
    split at hm
    · cases hm; rename_i e; exact ⟨e.symm, by omega, by omega, hn⟩
    · exact h.2 i m hm
theorem placeS_ok {t : Tr} (h : TrW t) {x : Lo} (hx : LoOk x) : TrW (placeS t x) := by
  unfold placeS; split
  · exact h
  · exact trW_put h hx.2.2.2.2
theorem places_aux : ∀ (L : List Lo) (t : Tr), TrW t → (∀ x ∈ L, LoOk x) → TrW (L.foldl placeS t) := by
  intro L
  induction L with
  | nil => intro t h _; exact h
  | cons x L ih => intro t h hx; exact ih _ (placeS_ok h (hx x (by simp))) (fun y hy => hx y (by simp [hy]))
theorem places_ok {L : List Lo} (h : ∀ x ∈ L, LoOk x) : TrW (places L) := places_aux L tr0 trW_0 h
theorem places_snoc (L : List Lo) (k : Nat) (h : k < L.length) : places (L.take (k + 1)) = placeS (places (L.take k)) L[k] := by
  unfold places; rw [List.take_succ_eq_append_getElem h, List.foldl_append]; rfl
/-! The view. -/
def shownNd (t : Tr) (i : Nat) : Nd :=
  let n := (t i).getD nd0
  if atT t n.parent n.name = i then n else ⟨n.id, n.parent, n.name ++ 126 :: digs i⟩
def viewT (t : Tr) : Tr := fun i => if decide (1 ≤ i) && decide (i ≤ 99) && meetsT t i 0 then some (shownNd t i) else none
/-- The view as far as the nodes below k. -/
def viewTo (t : Tr) (k : Nat) : Tr := fun i => if i ≤ k then viewT t i else none
theorem viewTo_0 (t : Tr) : viewTo t 0 = tr0 := by
  funext i; unfold viewTo tr0
  split
  · have : i = 0 := by omega
    subst this; rfl
  · rfl
theorem viewTo_99 (t : Tr) : viewTo t 99 = viewT t := by
  funext i; unfold viewTo
  split
  · rfl
  · unfold viewT; rw [decide_eq_false (p := i ≤ 99) (by omega)]; simp
theorem shown_id {t : Tr} (h : TrW t) {i : Nat} {n : Nd} (hn : t i = some n) : (shownNd t i).id = i ∧ (shownNd t i).parent = n.parent := by
  have hb := h.2 i n hn
  unfold shownNd; rw [hn]; simp only [Option.getD_some]
  split
  · exact ⟨hb.1, rfl⟩
  · exact ⟨hb.1, rfl⟩
theorem meets_there {t : Tr} {i : Nat} (h1 : 1 ≤ i) (h : meetsT t i 0 = true) : ∃ n, t i = some n := by
  unfold meetsT at h
  rw [show (100 : Nat) = 99 + 1 from rfl, meetsF, if_neg (by omega)] at h
  rw [Int.toNat_natCast] at h
  cases ht : t i with
  | none => rw [ht] at h; cases h
  | some n => exact ⟨n, rfl⟩
theorem viewTo_yes {t : Tr} (h : TrW t) {k : Nat} (hk : k < 99) (hm : meetsT t (k + 1 : Nat) 0 = true) : viewTo t (k + 1) = trPut (viewTo t k) (shownNd t (k + 1)) := by
  obtain ⟨n, hn⟩ := meets_there (by omega) hm
  have hid := (shown_id h hn).1
  funext i
  unfold viewTo trPut
  rw [hid]
  by_cases hi : i = k + 1
  · subst hi
    rw [if_pos (Nat.le_refl _), if_pos rfl]
    unfold viewT
    rw [hm, decide_eq_true (by omega), decide_eq_true (by omega)]; rfl
  · rw [if_neg (c := (i : Int) = ((k + 1 : Nat) : Int)) (by omega)]
    show (if i ≤ k + 1 then viewT t i else none) = (if i ≤ k then viewT t i else none)
    by_cases h2 : i ≤ k
    · rw [if_pos h2, if_pos (by omega)]
    · rw [if_neg h2, if_neg (by omega)]
theorem viewTo_no {t : Tr} {k : Nat} (hm : meetsT t (k + 1 : Nat) 0 = false) : viewTo t (k + 1) = viewTo t k := by
  funext i
  unfold viewTo
  by_cases hi : i = k + 1
  · subst hi
    rw [if_pos (Nat.le_refl _), if_neg (by omega)]
    unfold viewT
    rw [hm]; simp
  · by_cases h2 : i ≤ k
    · rw [if_pos h2, if_pos (by omega)]
    · rw [if_neg h2, if_neg (by omega)]
/-- The way up, in places of any kind. -/
def nodesW (t : Tr) : List Nd := (List.range' 1 99).filterMap t
theorem nodesW_mem {t : Tr} (ht : TrW t) {y : Int} {n : Nd} (h : t y.toNat = some n) : n ∈ nodesW t ∧ n.id = y := by
  have hb := ht.2 _ n h
  refine ⟨List.mem_filterMap.2 ⟨y.toNat, ?_, h⟩, by omega⟩
  rw [List.mem_range'_1]; omega
theorem nodesW_len (t : Tr) : (nodesW t).length ≤ 99 := by
  refine Nat.le_trans (List.length_filterMap_le _ _) ?_
  simp
theorem goes_meetsW {t : Tr} (ht : TrW t) {x goal : Int} : meetsT t x goal = true ↔ Goes t x goal := by
  constructor
  · intro h; exact ⟨100, h⟩
  · rintro ⟨f, h⟩
    have h1 := meets_up t goal h
    rw [meets_below] at h1
    unfold meetsT
    rw [show (100 : Nat) = 99 + 1 from rfl, meets_below]
    rw [Bool.or_eq_true] at h1 ⊢
    rcases h1 with h1 | h1
    · exact .inl h1
    · right
      have hs := below_stop (ns := nodesW t) (look := fun x : Int => t x.toNat) (fun y n hn => nodesW_mem ht hn) f x h1
      exact below_le (nodesW_len t) x hs
theorem goes_step {t : Tr} {x : Int} {n : Nd} (h : t x.toNat = some n) (h1 : 1 ≤ x) : Goes t x 0 ↔ Goes t n.parent 0 := by
  constructor
  · rintro ⟨f, hf⟩
    cases f with
    | zero => cases hf
    | succ f =>
      rw [meetsF, if_neg (by omega), h] at hf
      exact ⟨f, hf⟩
  · exact goes_up h
theorem plain_of_two {s : Str} {a b : Int} (ha : isName s a = true) (hb : isName s b = true) (h1 : 1 ≤ a) (h2 : a < b) (h3 : b ≤ 99) : plainLen s = s.length := by
  unfold isName at ha hb
  simp only [Bool.and_eq_true, decide_eq_true_eq, Bool.or_eq_true, beq_iff_eq] at ha hb
  rcases ha.2 with h | h
  · exact h
  · rcases hb.2 with g | g
    · exact g
    · rw [h] at g
      have e : digs a = digs b := (List.cons.inj g).2
      have n1 := digs_num1 a.toNat (by omega) (by omega)
      have n2 := digs_num1 b.toNat (by omega) (by omega)
      rw [Int.toNat_of_nonneg (by omega)] at n1 n2
      rw [e, n2] at n1
      have := congrArg Prod.fst n1
      simp only at this
      omega
theorem plain_tail {s : Str} {id : Int} (h : plainLen s = s.length) (h1 : 1 ≤ plainLen s) (h2 : plainLen s ≤ 8) : isName (s ++ 126 :: digs id) id = true := by
  have hall : s.all plainB = true := by
    rw [List.all_eq_true]
    intro x hx
    have ht : s.takeWhile plainB = s := by
      rw [← take_plain, h]; simp
    rw [← ht] at hx
    exact takeWhile_all s x hx
  have e : plainLen (s ++ 126 :: digs id) = s.length := by
    refine plainLen_stop _ _ (by simp) (by simp; simpa using hall) ?_
    intro c r hc
    simp at hc
    rw [← hc.1]; rfl
  unfold isName
  rw [e]
  simp [← h, h1, h2]
theorem at_le {t : Tr} {i : Nat} {n : Nd} (h1 : 1 ≤ i) (h2 : i ≤ 99) (hn : t i = some n) : ∃ j m, 1 ≤ j ∧ j ≤ i ∧ atT t n.parent n.name = (j : Int) ∧ t j = some m ∧ m.parent = n.parent ∧ m.name = n.name := by
  unfold atT
  rcases scan_cases (spotIs t n.parent n.name) 1 100 with ⟨a1, a2, a3, a4⟩ | ⟨_, a2⟩
  · rw [if_pos a1]
    generalize scan (spotIs t n.parent n.name) 1 100 = j at *
    have hle : j ≤ i := by
      rcases Nat.lt_or_ge i j with hh | hh
      · have := a4 i h1 hh
        unfold spotIs at this; rw [hn] at this; simp at this
      · exact hh
    unfold spotIs at a3
    cases hj : t j with
    | none => rw [hj] at a3; cases a3
    | some m =>
      rw [hj] at a3
      simp only [Bool.and_eq_true, beq_iff_eq] at a3
      exact ⟨j, m, a2, hle, rfl, hj, a3.1, a3.2⟩
  · have := a2 i h1 (by omega)
    unfold spotIs at this; rw [hn] at this; simp at this
theorem placeB_name {n : Nd} (h : placeB n = true) (hp : n.parent ≠ 100) : n.parent % 2 = 0 ∧ isName n.name n.id = true := by
  unfold placeB at h
  rw [if_neg hp, Bool.and_eq_true, beq_iff_eq] at h
  exact h
theorem view_some {t : Tr} {i : Nat} {m : Nd} (h : viewT t i = some m) : 1 ≤ i ∧ i ≤ 99 ∧ meetsT t i 0 = true ∧ m = shownNd t i := by
  unfold viewT at h
  split at h
  · rename_i hc
    simp only [Bool.and_eq_true, decide_eq_true_eq] at hc
    cases h; exact ⟨hc.1.1, hc.1.2, hc.2, rfl⟩
  · cases h
theorem goes_trash {t : Tr} (ht : TrW t) : ¬ Goes t 100 0 := by
  rintro ⟨f, hf⟩
  cases f with
  | zero => cases hf
  | succ f =>
    rw [meetsF, if_neg (by omega)] at hf
    cases h : t (100 : Int).toNat with
    | none => rw [h] at hf; cases hf
    | some n => have h2 := (ht.2 _ n h).2.2.1; simp at h2
/-- A name as the log has it, or with its node's number behind it. -/
theorem shown_name {t : Tr} (ht : TrW t) {i : Nat} {n : Nd} (h1 : 1 ≤ i) (h2 : i ≤ 99) (hn : t i = some n) (hp : n.parent ≠ 100) :
    isName (shownNd t i).name i = true ∧ ((shownNd t i).name = n.name ∧ (∀ j m, t j = some m → m.parent = n.parent → m.name = n.name → i ≤ j) ∨ (shownNd t i).name = n.name ++ 126 :: digs i ∧ plainLen n.name = n.name.length) := by
  have hb := ht.2 i n hn
  have hnm := (placeB_name hb.2.2.2.2.2.2.2 hp).2
  rw [hb.1] at hnm
  obtain ⟨j, m, j1, j2, hat, hj, jp, jn⟩ := at_le h1 h2 hn
  unfold shownNd; rw [hn]; simp only [Option.getD_some]
  split
  · rename_i e
    refine ⟨hnm, .inl ⟨rfl, fun q r hq qp qn => ?_⟩⟩
    have hq' := ht.2 q r hq
    obtain ⟨j', m', _, j2', hat', _⟩ := at_le hq'.2.1 hq'.2.2.1 hq
    rw [qp, qn, e] at hat'
    omega
  · rename_i e
    have hji : j < i := by
      rw [hat] at e
      omega
    have hbj := ht.2 j m hj
    have hnj := (placeB_name hbj.2.2.2.2.2.2.2 (by rw [jp]; exact hp)).2
    rw [hbj.1, jn] at hnj
    have hpl := plain_of_two hnj hnm (by omega) (by omega) (by omega)
    have hh := hnm
    unfold isName at hh
    simp only [Bool.and_eq_true, decide_eq_true_eq] at hh
    exact ⟨plain_tail hpl hh.1.1 hh.1.2, .inr ⟨rfl, hpl⟩⟩
theorem tail_no {s s' : Str} {i : Nat} (hpl : plainLen s = s.length) (e : s = s' ++ 126 :: digs i) : False := by
  have hx : (126 : UInt8) ∈ s := by rw [e]; simp
  have ht : s.takeWhile plainB = s := by rw [← take_plain, hpl]; simp
  rw [← ht] at hx
  have := takeWhile_all s _ hx
  cases this
theorem view_valid {t : Tr} (ht : TrW t) : Valid (viewT t) := by
  have key : ∀ i m, viewT t i = some m → ∃ n, t i = some n ∧ m = shownNd t i ∧ 1 ≤ i ∧ i ≤ 99 ∧ m.id = i ∧ m.parent = n.parent ∧ n.parent ≠ 100 ∧ Goes t n.parent 0 ∧ NdW n := by
    intro i m hm
    obtain ⟨h1, h2, h3, h4⟩ := view_some hm
    obtain ⟨n, hn⟩ := meets_there h1 h3
    obtain ⟨e1, e2⟩ := shown_id ht hn
    have hg := (goes_step (x := (i : Int)) (by rw [Int.toNat_natCast]; exact hn) (by omega)).1 ((goes_meetsW ht).1 h3)
    exact ⟨n, hn, h4, h1, h2, by rw [h4]; exact e1, by rw [h4]; exact e2, fun e => goes_trash ht (e ▸ hg), hg, (ht.2 i n hn).2.2.2⟩
  have hseen : ∀ p : Int, 1 ≤ p → Goes t p 0 → ∃ m, viewT t p.toNat = some m := by
    intro p h1 hg
    have hm := (goes_meetsW ht).2 hg
    obtain ⟨q, rfl⟩ := Int.eq_ofNat_of_zero_le (by omega : 0 ≤ p)
    obtain ⟨n, hn⟩ := meets_there (by omega) hm
    have hb := ht.2 q n hn
    refine ⟨shownNd t q, ?_⟩
    rw [Int.toNat_natCast]; unfold viewT
    rw [hm, decide_eq_true hb.2.1, decide_eq_true hb.2.2.1]; rfl
  have hok : TrOk (viewT t) := by
    refine ⟨by unfold viewT; simp, fun i m hm => ?_⟩
    obtain ⟨n, hn, e, h1, h2, hid, hpar, hne, _, hw⟩ := key i m hm
    have hw3 := hw.2.2.1
    have hw4 := hw.2.2.2.1
    refine ⟨hid, h1, h2, by omega, by omega, ?_⟩
    rw [hid, e]; exact (shown_name ht h1 h2 hn hne).1
  have hpar : ∀ i m, viewT t i = some m → isParentT (viewT t) m.parent = true := by
    intro i m hm
    obtain ⟨n, hn, e, h1, h2, hid, hp, hne, hg, hw⟩ := key i m hm
    rw [hp, isParent_iff]
    have hev := (placeB_name hw.2.2.2.2 hne).1
    by_cases h0 : n.parent = 0
    · exact .inl h0
    · exact .inr ⟨hev, hseen _ (by have := hw.2.2.1; omega) hg⟩
  refine ⟨hok, hpar, ?_, ?_⟩
  · have hup : ∀ (f : Nat) (x : Int), 0 ≤ x → meetsF t f x 0 = true → Goes (viewT t) x 0 := by
      intro f
      induction f with
      | zero => intro x _ h; cases h
      | succ f ih =>
        intro x hx0 h
        by_cases h0 : x = 0
        · subst h0; exact goes_here _ _
        · have hg : Goes t x 0 := ⟨f + 1, h⟩
          obtain ⟨m, hm⟩ := hseen x (by omega) hg
          obtain ⟨n, hn, e, h1, h2, hid, hp, _, _, hw⟩ := key _ m hm
          rw [meetsF, if_neg h0, hn] at h
          refine goes_up hm ?_
          rw [hp]; exact ih n.parent hw.2.2.1 h
    intro i m hm
    obtain ⟨n, hn, e, h1, h2, hid, hp, _, _, hw⟩ := key i m hm
    rw [hid]
    exact hup 100 i (by omega) (view_some hm).2.2.1
  · intro i j n m hi hj hp hnm
    obtain ⟨a, ha, ea, i1, i2, iid, ip, ine, _, iw⟩ := key i n hi
    obtain ⟨b, hb, eb, j1, j2, jid, jp, jne, _, jw⟩ := key j m hj
    have hab : a.parent = b.parent := by rw [← ip, ← jp]; exact hp
    have si := (shown_name ht i1 i2 ha ine).2
    have sj := (shown_name ht j1 j2 hb jne).2
    rw [← ea] at si
    rw [← eb] at sj
    rcases si with ⟨si, li⟩ | ⟨si, pi⟩
    · rcases sj with ⟨sj, lj⟩ | ⟨sj, pj⟩
      · have en : a.name = b.name := by rw [← si, ← sj]; exact hnm
        have := li j b hb hab.symm en.symm
        have := lj i a ha hab en
        omega
      · -- a.name = b.name ~ j : a name of i that is j's
        have en : a.name = b.name ++ 126 :: digs j := by rw [← si, ← sj]; exact hnm
        have hname := (placeB_name iw.2.2.2.2 ine).2
        rw [(ht.2 i a ha).1] at hname
        have hname2 : isName a.name j = true := by
          have := (shown_name ht j1 j2 hb jne).1
          rw [← eb, sj, ← en] at this; exact this
        rcases Nat.lt_trichotomy i j with hlt | heq | hgt
        · exact (tail_no (plain_of_two hname hname2 (by omega) (by omega) (by omega)) en).elim
        · exact heq
        · exact (tail_no (plain_of_two hname2 hname (by omega) (by omega) (by omega)) en).elim
    · rcases sj with ⟨sj, lj⟩ | ⟨sj, pj⟩
      · have en : b.name = a.name ++ 126 :: digs i := by rw [← si, ← sj]; exact hnm.symm
        have hname := (placeB_name jw.2.2.2.2 jne).2
        rw [(ht.2 j b hb).1] at hname
        have hname2 : isName b.name i = true := by
          have := (shown_name ht i1 i2 ha ine).1
          rw [← ea, si, ← en] at this; exact this
        rcases Nat.lt_trichotomy i j with hlt | heq | hgt
        · exact (tail_no (plain_of_two hname2 hname (by omega) (by omega) (by omega)) en).elim
        · exact heq
        · exact (tail_no (plain_of_two hname hname2 (by omega) (by omega) (by omega)) en).elim
      · have h1 : isName n.name i = true := by rw [ea]; exact (shown_name ht i1 i2 ha ine).1
        have h2 : isName n.name j = true := by rw [hnm, eb]; exact (shown_name ht j1 j2 hb jne).1
        rcases Nat.lt_trichotomy i j with hlt | heq | hgt
        · exact (tail_no (plain_of_two h1 h2 (by omega) (by omega) (by omega)) si).elim
        · exact heq
        · exact (tail_no (plain_of_two h2 h1 (by omega) (by omega) (by omega)) si).elim
end Go.Proofs.YtkjancfakplogaaGreatDoor
