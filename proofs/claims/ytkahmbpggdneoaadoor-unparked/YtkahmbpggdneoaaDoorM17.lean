import Derived.Test.YtkahmbpggdneoaaDoorM8
import Derived.Test.YtkahmbpggdneoaaDoorM14
import Derived.Test.YtkahmbpggdneoaaDoorM9
namespace Go.Proofs.YtkahmbpggdneoaaDoor
open Go.RowKit
/-! The steps home that are still to come, as a list. -/
structure LeftInv (left : List St) (a g : Tr) : Prop where
  ids : (left.map (·.node.id)).Nodup
  mem : ∀ s, s ∈ left ↔ (1 ≤ s.node.id ∧ s.node.id ≤ 99 ∧ homeS a g s.node.id = some s)
theorem left_ok {left : List St} {a g : Tr} (h : LeftInv left a g) (hg : TrOk g) : ∀ s ∈ left, StOk s := by
  intro s hs
  obtain ⟨h1, h2, h3⟩ := (h.mem s).1 hs
  exact (home_ok hg h1 h2 h3).1
theorem left_len {left : List St} {a g : Tr} (h : LeftInv left a g) : left.length ≤ 99 := by
  have := pigeon (left.map (·.node.id)) ((List.range' 1 99).map (fun i : Nat => (i : Int))) h.ids (fun x hx => by
    obtain ⟨s, hs, rfl⟩ := List.mem_map.1 hx
    obtain ⟨h1, h2, _⟩ := (h.mem s).1 hs
    refine List.mem_map.2 ⟨s.node.id.toNat, ?_, ?_⟩
    · rw [List.mem_range'_1]; omega
    · show ((s.node.id.toNat : Nat) : Int) = s.node.id; omega)
  simpa using this
theorem flat_ids {f : Nd → List St} (hf : ∀ n, ∀ s ∈ f n, s.node.id = n.id) (hl : ∀ n, (f n).length ≤ 1) : ∀ (l : List Nd), (l.map (·.id)).Nodup → ((l.flatMap f).map (·.node.id)).Nodup ∧ ∀ s ∈ l.flatMap f, ∃ n ∈ l, s ∈ f n := by
  intro l
  induction l with
  | nil => intro _; simp
  | cons n l ih =>
    intro h
    rw [List.map_cons, List.nodup_cons] at h
    obtain ⟨h1, h2⟩ := ih h.2
    refine ⟨?_, fun s hs => ?_⟩
    · rw [List.flatMap_cons, List.map_append, List.nodup_append]
      refine ⟨?_, h1, fun x hx y hy e => ?_⟩
      · have := hl n
        match hq : f n with
        | [] => simp
        | [s] => simp
        | s :: t :: r => rw [hq] at this; simp at this
      · obtain ⟨s, hs, rfl⟩ := List.mem_map.1 hx
        obtain ⟨t, ht, rfl⟩ := List.mem_map.1 hy
        obtain ⟨m, hm, htm⟩ := h2 t ht
        rw [hf n s hs, hf m t htm] at e
        exact h.1 (List.mem_map.2 ⟨m, hm, e.symm⟩)
    · rw [List.flatMap_cons] at hs
      rcases List.mem_append.1 hs with hs | hs
      · exact ⟨n, by simp, hs⟩
      · obtain ⟨m, hm, hsm⟩ := h2 s hs; exact ⟨m, by simp [hm], hsm⟩
theorem homeB_id (a : List Nd) (n : Nd) : ∀ s ∈ homeB a n, s.node.id = n.id := by
  intro s hs
  unfold homeB at hs
  split at hs
  · simp at hs; rw [hs]
  · split at hs
    · simp at hs
    · simp at hs; rw [hs]
theorem homeA_id (b : List Nd) (n : Nd) : ∀ s ∈ homeA b n, s.node.id = n.id := by
  intro s hs
  unfold homeA at hs
  split at hs
  · simp at hs; rw [hs]
  · simp at hs
theorem left_start {na nb : List Nd} {a g : Tr} (ra : Rep na a) (rg : Rep nb g) (ha : TrOk a) (hg : TrOk g) : LeftInv (homesR na nb) a g := by
  obtain ⟨b1, b2⟩ := flat_ids (homeB_id na) (homeB_len na) nb rg.ids
  obtain ⟨a1, a2⟩ := flat_ids (homeA_id nb) (homeA_len nb) na ra.ids
  have hmB : ∀ n, n ∈ nb → ∀ s, s ∈ homeB na n ↔ (s.kind ≠ 45 ∧ homeS a g n.id = some s) := by
    intro n hn s
    obtain ⟨i, hi⟩ := (rep_mem rg hg).1 hn
    have hid := hg.2 i n hi
    have hgn : g n.id.toNat = some n := by rw [show n.id.toNat = i by omega]; exact hi
    unfold homeB
    rw [rep_look ra ha]
    cases hq : a n.id.toNat with
    | none =>
      rw [home_new hq hgn]
      simp only [List.mem_singleton, Option.some.injEq]
      constructor
      · rintro rfl; exact ⟨by show (43 : UInt8) ≠ 45; decide, rfl⟩
      · rintro ⟨_, rfl⟩; rfl
    | some m =>
      simp only
      cases he : ndEq m n
      · rw [home_move hq hgn (fun e => by rw [ndEq_iff.2 e] at he; cases he), if_neg (by simp)]
        simp only [List.mem_singleton, Option.some.injEq]
        constructor
        · rintro rfl; exact ⟨by show (61 : UInt8) ≠ 45; decide, rfl⟩
        · rintro ⟨_, rfl⟩; rfl
      · rw [if_pos rfl, home_none.2 (by rw [hq, hgn, ndEq_iff.1 he])]
        simp
  have hmA : ∀ n, n ∈ na → ∀ s, s ∈ homeA nb n ↔ (s.kind = 45 ∧ homeS a g n.id = some s) := by
    intro n hn s
    obtain ⟨i, hi⟩ := (rep_mem ra ha).1 hn
    have hid := ha.2 i n hi
    have han : a n.id.toNat = some n := by rw [show n.id.toNat = i by omega]; exact hi
    unfold homeA
    rw [rep_look rg hg]
    cases hq : g n.id.toNat with
    | none =>
      rw [home_del han hq]
      simp only [List.mem_singleton, Option.some.injEq]
      constructor
      · rintro rfl; exact ⟨rfl, rfl⟩
      · rintro ⟨_, rfl⟩; rfl
    | some m =>
      simp only [List.not_mem_nil, false_iff]
      rintro ⟨hk, hs⟩
      rcases home_cases hs with ⟨_, h0, _⟩ | ⟨k, rfl, _⟩ | ⟨k, _, rfl, _⟩
      · rw [hq] at h0; cases h0
      · exact absurd hk (by show ¬ ((43 : UInt8) = 45); decide)
      · exact absurd hk (by show ¬ ((61 : UInt8) = 45); decide)
  refine ⟨?_, fun s => ?_⟩
  · unfold homesR
    rw [List.map_append, List.nodup_append]
    refine ⟨b1, a1, fun x hx y hy e => ?_⟩
    obtain ⟨s, hs, rfl⟩ := List.mem_map.1 hx
    obtain ⟨t, ht, rfl⟩ := List.mem_map.1 hy
    obtain ⟨n, hn, hsn⟩ := b2 s hs
    obtain ⟨m, hm, htm⟩ := a2 t ht
    have e1 := homeB_id na n s hsn
    have e2 := homeA_id nb m t htm
    obtain ⟨k1, k2⟩ := (hmB n hn s).1 hsn
    obtain ⟨k3, k4⟩ := (hmA m hm t).1 htm
    rw [show m.id = n.id by rw [← e1, ← e2, e], k2] at k4
    cases k4
    exact k1 k3
  · unfold homesR
    rw [List.mem_append]
    constructor
    · rintro (hs | hs)
      · obtain ⟨n, hn, hsn⟩ := b2 s hs
        have e1 := homeB_id na n s hsn
        have hb := rg.ok n hn
        rw [e1]
        exact ⟨hb.1, hb.2.1, ((hmB n hn s).1 hsn).2⟩
      · obtain ⟨n, hn, hsn⟩ := a2 s hs
        have e1 := homeA_id nb n s hsn
        have hb := ra.ok n hn
        rw [e1]
        exact ⟨hb.1, hb.2.1, ((hmA n hn s).1 hsn).2⟩
    · rintro ⟨h1, h2, h3⟩
      rcases home_cases h3 with ⟨e, hgn, m, hm⟩ | ⟨n, e, hgn, han⟩ | ⟨n, m, e, hgn, hm, _⟩
      · right
        have hmem : m ∈ na := (rep_mem ra ha).2 ⟨_, hm⟩
        have hid := (trOk_id ha (by omega) hm).1
        refine List.mem_flatMap.2 ⟨m, hmem, (hmA m hmem s).2 ⟨by rw [e], by rw [hid]; exact h3⟩⟩
      · left
        have hmem : n ∈ nb := (rep_mem rg hg).2 ⟨_, hgn⟩
        have hid := (trOk_id hg (by omega) hgn).1
        refine List.mem_flatMap.2 ⟨n, hmem, (hmB n hmem s).2 ⟨by rw [e]; show (43 : UInt8) ≠ 45; decide, by rw [hid]; exact h3⟩⟩
      · left
        have hmem : n ∈ nb := (rep_mem rg hg).2 ⟨_, hgn⟩
        have hid := (trOk_id hg (by omega) hgn).1
        refine List.mem_flatMap.2 ⟨n, hmem, (hmB n hmem s).2 ⟨by rw [e]; show (61 : UInt8) ≠ 45; decide, by rw [hid]; exact h3⟩⟩
theorem left_erase {left : List St} {a g : Tr} (h : LeftInv left a g) (hg : TrOk g) {k : Nat} (hk : k < left.length) (he : stepE a left[k] = 0) : LeftInv (left.eraseIdx k) (stepT a left[k]) g := by
  have hm : left[k] ∈ left := List.getElem_mem hk
  obtain ⟨h1, h2, h3⟩ := (h.mem _).1 hm
  have hd := home_done hg h1 h3 he
  have hids : ∀ i (hi : i < left.length), i ≠ k → (left[i]).node.id ≠ (left[k]).node.id := by
    intro i hi hne e
    have := (List.nodup_iff_pairwise_ne.1 h.ids)
    rw [List.pairwise_map] at this
    rcases Nat.lt_or_gt_of_ne hne with hlt | hlt
    · exact List.pairwise_iff_getElem.1 this i k hi hk hlt e
    · exact List.pairwise_iff_getElem.1 this k i hk hi hlt e.symm
  refine ⟨List.Nodup.sublist (List.Sublist.map _ (List.eraseIdx_sublist _ _)) h.ids, fun s => ?_⟩
  rw [List.mem_eraseIdx_iff_getElem]
  constructor
  · rintro ⟨i, hi, hne, rfl⟩
    obtain ⟨j1, j2, j3⟩ := (h.mem _).1 (List.getElem_mem hi)
    refine ⟨j1, j2, ?_⟩
    rw [← j3]
    refine home_congr ?_
    rw [hd, if_neg (by have := hids i hi hne; omega)]
  · rintro ⟨j1, j2, j3⟩
    have hne : s.node.id ≠ (left[k]).node.id := by
      intro e
      rw [e] at j3
      have : homeS (stepT a left[k]) g (left[k]).node.id = none := home_none.2 (by rw [hd, if_pos (by omega)])
      rw [this] at j3; cases j3
    have hs : s ∈ left := (h.mem s).2 ⟨j1, j2, by rw [← j3]; refine home_congr ?_; rw [hd, if_neg (by omega)]⟩
    obtain ⟨i, hi, e⟩ := List.mem_iff_getElem.1 hs
    refine ⟨i, hi, fun e2 => ?_, e⟩
    subst e2; rw [e] at hne; exact hne rfl
theorem left_park {left : List St} {a g : Tr} (h : LeftInv left a g) {id : Int} (h1 : 1 ≤ id) {n : Nd} (hs : homeS a g id = some ⟨61, n⟩) (he : stepE a (parkS id) = 0) (hnp : parkS id ∉ left) (h2 : id ≤ 99) (hg : TrOk g) : LeftInv left (stepT a (parkS id)) g := by
  have hd := park_done he
  have hn : g id.toNat = some n := by
    rcases home_cases hs with ⟨e, _⟩ | ⟨_, e, _⟩ | ⟨k, m, e, hk, _⟩
    · cases e
    · cases e
    · cases e; exact hk
  have hid := (trOk_id hg (by omega) hn).1
  have hne : parkN id ≠ n := by
    intro e
    apply hnp
    refine (h.mem _).2 ⟨h1, h2, ?_⟩
    show homeS a g id = some ⟨61, parkN id⟩
    rw [e]; exact hs
  have hsame : ∀ j, 1 ≤ j → homeS (stepT a (parkS id)) g j = homeS a g j := by
    intro j hj
    by_cases e : j = id
    · subst e
      rw [hs]
      exact home_move (m := parkN j) (by rw [hd, if_pos (by omega)]) hn hne
    · refine home_congr ?_
      rw [hd, if_neg (by omega)]
  refine ⟨h.ids, fun s => ?_⟩
  rw [h.mem s]
  constructor
  · rintro ⟨j1, j2, j3⟩; exact ⟨j1, j2, by rw [hsame _ j1]; exact j3⟩
  · rintro ⟨j1, j2, j3⟩; exact ⟨j1, j2, by rw [← hsame _ j1]; exact j3⟩
theorem left_end {left : List St} {g : Tr} (h : LeftInv left g g) : left = [] := by
  cases left with
  | nil => rfl
  | cons s l =>
    obtain ⟨_, _, h3⟩ := (h.mem s).1 (by simp)
    rw [home_none.2 rfl] at h3; cases h3
/-- A park is never a step home where nothing can be done. -/
theorem park_not_left {left : List St} {a g : Tr} (h : LeftInv left a g) (hst : Stuck a g) {id : Int} (he : stepE a (parkS id) = 0) : parkS id ∉ left := by
  intro hm
  obtain ⟨h1, h2, h3⟩ := (h.mem _).1 hm
  exact hst _ _ h1 h2 h3 he
end Go.Proofs.YtkahmbpggdneoaaDoor

namespace Go.Proofs.YtkahmbpggdneoaaDoor
open Go.RowKit
/-! Which step home waits for which. -/
def kidOfR (a : List Nd) (id p : Int) : Bool := match lookR a id with
  | none => false
  | some m => m.parent == p
def waitsR (a b : List Nd) (s o : St) : Bool :=
  if s.kind = 45 then o.kind != 43 && kidOfR a o.node.id s.node.id
  else if o.kind != 43 && takenR a s.node.parent s.node.name == o.node.id && takenR a s.node.parent s.node.name != s.node.id then true
  else if o.kind = 45 then false
  else if s.kind = 43 then o.kind == 43 && o.node.id == s.node.parent
  else belowR b s.node.id o.node.id
def FreeAt (a b : List Nd) (left : List St) (s : St) : Prop := ∀ o ∈ left, waitsR a b s o = false
inductive Elim (a b : List Nd) : List St → Prop
  | nil : Elim a b []
  | step {left : List St} {k : Nat} (hk : k < left.length) (hf : FreeAt a b left left[k]) (h : Elim a b (left.eraseIdx k)) : Elim a b left
theorem elim_pick {a b : List Nd} {L : List St} (h : Elim a b L) : ∀ (S : St → Prop), (∀ s, S s → s ∈ L) → (∃ s, S s) → ∃ s, S s ∧ ∀ o, S o → waitsR a b s o = false := by
  induction h with
  | nil => rintro S hs ⟨s, h⟩; have := hs s h; simp at this
  | @step left k hk hf _ ih =>
    intro S hs hne
    by_cases hin : S left[k]
    · exact ⟨_, hin, fun o ho => hf o (hs o ho)⟩
    · refine ih S (fun s h => ?_) hne
      obtain ⟨i, hi, e⟩ := List.mem_iff_getElem.1 (hs s h)
      rw [List.mem_eraseIdx_iff_getElem]
      refine ⟨i, hi, fun e2 => ?_, e⟩
      subst e2; rw [e] at hin; exact hin h
theorem taker_waits {na nb : List Nd} {a g t : Tr} (ra : Rep na a) (hva : Valid a) (hvt : Valid t) (hvg : Valid g) (hmid : ∀ i, t i = a i ∨ t i = g i) {s : St} (hk : s.kind ≠ 45) (hn : g s.node.id.toNat = some s.node) (h1 : 1 ≤ s.node.id) (h0 : atT t s.node.parent s.node.name ≠ 0) (hne : atT t s.node.parent s.node.name ≠ s.node.id) :
    ∃ o, 1 ≤ o.node.id ∧ o.node.id ≤ 99 ∧ homeS t g o.node.id = some o ∧ waitsR na nb s o = true := by
  obtain ⟨y1, y2, my, hmy, hp, hnm⟩ := atT_hit h0
  obtain ⟨o, ho, hk43, _⟩ := taker_away hvt hvg h1 hn h0 hne
  generalize hy : atT t s.node.parent s.node.name = y at *
  have hoi := (home_ok hvg.ok y1 y2 ho).2
  refine ⟨o, by rw [hoi]; exact y1, by rw [hoi]; exact y2, by rw [hoi]; exact ho, ?_⟩
  have hta : a y.toNat = some my := by
    rcases hmid y.toNat with e | e
    · rw [← e]; exact hmy
    · rw [home_none.2 e] at ho; cases ho
  have hat : atT a s.node.parent s.node.name = y := by
    by_cases hz : atT a s.node.parent s.node.name = 0
    · exact (atT_none hz y.toNat my (by omega) (by omega) hta hp hnm).elim
    · have := atT_some hva hz y.toNat my hta hp hnm
      rw [← this]; omega
  unfold waitsR
  rw [if_neg hk, taken_same ra hva, hat, hoi, if_pos]
  simp [hk43, hne]
theorem free_does {na nb : List Nd} {a g t : Tr} (ra : Rep na a) (rg : Rep nb g) (hva : Valid a) (hvt : Valid t) (hvg : Valid g) (hmid : ∀ i, t i = a i ∨ t i = g i) {s : St} (h1 : 1 ≤ s.node.id) (h2 : s.node.id ≤ 99) (hs : homeS t g s.node.id = some s)
    (hfree : ∀ o : St, 1 ≤ o.node.id → o.node.id ≤ 99 → homeS t g o.node.id = some o → waitsR na nb s o = false) : stepE t s = 0 := by
  rcases home_cases hs with ⟨e, hgn, m, hm⟩ | ⟨n, e, hgn, han⟩ | ⟨n, m, e, hgn, hm, hmn⟩
  · -- a deletion
    have hk : s.kind = 45 := by rw [e]
    have hkid : kidT t s.node.id = 0 := by
      apply Classical.byContradiction
      intro hne
      obtain ⟨k1, k2, mk, hmk, hpk⟩ := kidT_hit hne
      generalize kidT t s.node.id = k at *
      have haway : ∃ o, homeS t g k = some o ∧ o.kind ≠ 43 := by
        cases hgk : g k.toNat with
        | none => exact ⟨_, home_del hmk hgk, by show (45 : UInt8) ≠ 43; decide⟩
        | some nk =>
          refine ⟨_, home_move hmk hgk (fun e => ?_), by show (61 : UInt8) ≠ 43; decide⟩
          subst e
          have := hvg.parent _ mk hgk
          rw [hpk] at this
          rcases isParent_iff.1 this with h0 | ⟨_, x, hx⟩
          · omega
          · rw [hgn] at hx; cases hx
      obtain ⟨o, ho, ho43⟩ := haway
      have hoi := (home_ok hvg.ok k1 k2 ho).2
      have hta : a k.toNat = some mk := by
        rcases hmid k.toNat with e | e
        · rw [← e]; exact hmk
        · rw [home_none.2 e] at ho; cases ho
      have := hfree o (by rw [hoi]; exact k1) (by rw [hoi]; exact k2) (by rw [hoi]; exact ho)
      unfold waitsR kidOfR at this
      rw [if_pos hk, hoi, rep_look ra hva.ok, hta] at this
      simp [ho43, hpk] at this
    unfold stepE deleteE
    rw [if_neg (by rw [hk]; decide), if_neg (by rw [hk]; decide), if_pos hk, kids_kid, hkid, hasT_iff.2 ⟨m, hm⟩]; rfl
  · -- a creation
    have hk : s.kind = 43 := by rw [e]
    have hsn : s.node = n := by rw [e]
    have hgs : g s.node.id.toNat = some s.node := by rw [hgn, hsn]
    have hpar : isParentT t s.node.parent = true := by
      cases hp : isParentT t s.node.parent
      · exfalso
        obtain ⟨p1, p2, k, hk2, hh⟩ := parent_away hvg h1 hgs hp
        have hki := (trOk_id hvg.ok (by omega) hk2).1
        have := hfree ⟨43, k⟩ (by show 1 ≤ k.id; omega) (by show k.id ≤ 99; omega) (by show homeS t g k.id = _; rw [hki]; exact hh)
        unfold waitsR at this
        rw [if_neg (by rw [hk]; decide)] at this
        simp [hk, hki] at this
      · rfl
    have hat : atT t s.node.parent s.node.name = 0 := by
      apply Classical.byContradiction
      intro hne
      obtain ⟨_, _, my, hmy, _⟩ := atT_hit hne
      obtain ⟨o, o1, o2, o3, o4⟩ := taker_waits (nb := nb) ra hva hvt hvg hmid (by rw [hk]; decide) hgs h1 hne (fun e2 => by rw [e2, han] at hmy; cases hmy)
      rw [hfree o o1 o2 o3] at o4; cases o4
    unfold stepE createE
    rw [if_pos hk, hpar, hat]
    have : hasT t s.node.id = false := by unfold hasT; rw [han]; rfl
    rw [this]; rfl
  · -- a move
    have hk : s.kind = 61 := by rw [e]
    have hsn : s.node = n := by rw [e]
    have hgs : g s.node.id.toNat = some s.node := by rw [hgn, hsn]
    have hidb := trOk_id hvg.ok (by omega) hgs
    -- all above it in the second tree are home
    have habove : ∀ p : Int, 0 ≤ p → Goes g s.node.parent p → ∀ k, g p.toNat = some k → t p.toNat = some k := by
      intro p hp0 hgo k hgk
      have hpb := trOk_id hvg.ok hp0 hgk
      cases hq : homeS t g p with
      | none => rw [home_none.1 hq]; exact hgk
      | some o =>
        exfalso
        have hoi := (home_ok hvg.ok hpb.2.1 hpb.2.2.1 hq).2
        have hw := hfree o (by rw [hoi]; exact hpb.2.1) (by rw [hoi]; exact hpb.2.2.1) (by rw [hoi]; exact hq)
        have ho45 : ¬ o.kind = 45 := by
          rcases home_cases hq with ⟨_, h0, _⟩ | ⟨_, rfl, _⟩ | ⟨_, _, rfl, _⟩
          · rw [hgk] at h0; cases h0
          · show ¬ ((43 : UInt8) = 45); decide
          · show ¬ ((61 : UInt8) = 45); decide
        have hne : s.node.id ≠ p := fun e2 => no_loop hvg h1 hgs (by rw [e2]; exact hgo)
        have hbel : belowR nb s.node.id p = true := by
          have h3 := meets_same rg hvg.ok s.node.id p
          rw [(goes_meets hvg.ok).2 (goes_up hgs hgo)] at h3
          simpa [hne] using h3
        unfold waitsR at hw
        rw [if_neg (by rw [hk]; decide)] at hw
        split at hw
        · cases hw
        · rw [if_neg (by rw [hk]; decide), hoi, hbel] at hw; cases hw
    have hpar : isParentT t s.node.parent = true := by
      rcases isParent_iff.1 (hvg.parent _ _ hgs) with h0 | ⟨he, k, hk2⟩
      · exact isParent_iff.2 (.inl h0)
      · exact isParent_iff.2 (.inr ⟨he, k, habove _ hidb.2.2.2.2.2.1 (goes_here g _) k hk2⟩)
    have hme : meetsT t s.node.parent s.node.id = false := by
      have key : ∀ f p, 0 ≤ p → Goes g s.node.parent p → isParentT g p = true → meetsF t f p s.node.id = true → Goes g p s.node.id := by
        intro f
        induction f with
        | zero => intro p _ _ _ h; cases h
        | succ f ih =>
          intro p hp0 hgo hpp h
          by_cases e2 : p = s.node.id
          · rw [e2]; exact goes_here g _
          · rcases isParent_iff.1 hpp with h0 | ⟨_, k, hk2⟩
            · rw [h0, meetsF, if_neg (by omega)] at h
              simp only [Int.toNat_zero] at h
              rw [hvt.ok.1] at h; cases h
            · have htk := habove p hp0 hgo k hk2
              rw [meets_succ e2 htk] at h
              have hkb := trOk_id hvg.ok hp0 hk2
              have hgo2 : Goes g s.node.parent k.parent := by
                obtain ⟨f0, hf0⟩ := hgo
                have tr : ∀ f x, meetsF g f x p = true → Goes g x k.parent := by
                  intro f
                  induction f with
                  | zero => intro x h; cases h
                  | succ f ih2 =>
                    intro x hx
                    by_cases e3 : x = p
                    · rw [e3]; exact goes_up hk2 (goes_here g _)
                    · cases hxx : g x.toNat with
                      | none => rw [meetsF, if_neg e3, hxx] at hx; cases hx
                      | some y => rw [meets_succ e3 hxx] at hx; exact goes_up hxx (ih2 _ hx)
                exact tr f0 _ hf0
              exact goes_up hk2 (ih k.parent hkb.2.2.2.2.2.1 hgo2 (hvg.parent _ k hk2) h)
      cases hq : meetsT t s.node.parent s.node.id
      · rfl
      · exact absurd (key 100 _ hidb.2.2.2.2.2.1 (goes_here g _) (hvg.parent _ _ hgs) hq) (no_loop hvg h1 hgs)
    have hat : (atT t s.node.parent s.node.name != 0 && atT t s.node.parent s.node.name != s.node.id) = false := by
      cases hq : (atT t s.node.parent s.node.name != 0 && atT t s.node.parent s.node.name != s.node.id)
      · rfl
      · exfalso
        rw [Bool.and_eq_true, bne_iff_ne, bne_iff_ne] at hq
        obtain ⟨o, o1, o2, o3, o4⟩ := taker_waits (nb := nb) ra hva hvt hvg hmid (by rw [hk]; decide) hgs h1 hq.1 hq.2
        rw [hfree o o1 o2 o3] at o4; cases o4
    unfold stepE moveE
    rw [if_neg (by rw [hk]; decide), if_pos hk, hpar, hme, hat, hasT_iff.2 ⟨m, hm⟩]; rfl
theorem seg_nopark {na nb : List Nd} {a g : Tr} (ra : Rep na a) (rg : Rep nb g) (hva : Valid a) (hvg : Valid g) (hel : Elim na nb (homesR na nb)) {t b : Tr} {ss : List St} (h : Seg g t ss b) :
    Valid t → (∀ i, t i = a i ∨ t i = g i) → b = g → ∀ left, LeftInv left t g → ss.length = left.length := by
  induction h with
  | nil t =>
    intro _ _ hb left hl
    subst hb
    rw [left_end hl]
  | @home t b i s ss h1 h2 hs he _ ih =>
    intro hvt hmid hb left hl
    have hoi := (home_ok hvg.ok h1 h2 hs).2
    have hm : s ∈ left := (hl.mem s).2 ⟨by rw [hoi]; exact h1, by rw [hoi]; exact h2, by rw [hoi]; exact hs⟩
    obtain ⟨k, hk, e⟩ := List.mem_iff_getElem.1 hm
    have hd := home_done hvg.ok h1 hs he
    have := ih (valid_step hvt (home_ok hvg.ok h1 h2 hs).1) (fun j => by
      rw [hd]
      by_cases e2 : (j : Int) = i
      · rw [if_pos e2]; exact .inr rfl
      · rw [if_neg e2]; exact hmid j) hb (left.eraseIdx k) (by have := left_erase hl hvg.ok hk (by rw [e]; exact he); rwa [e] at this)
    rw [List.length_eraseIdx_of_lt hk] at this
    rw [List.length_cons]; omega
  | @park t b i n ss h1 h2 hno hs hp he _ ih =>
    intro hvt hmid hb left hl
    exfalso
    have hstart := left_start ra rg hva.ok hvg.ok
    obtain ⟨s, ⟨s1, s2, s3⟩, hfree⟩ := elim_pick hel (fun s => 1 ≤ s.node.id ∧ s.node.id ≤ 99 ∧ homeS t g s.node.id = some s) (fun s ⟨s1, s2, s3⟩ => by
      refine (hstart.mem s).2 ⟨s1, s2, ?_⟩
      rcases hmid s.node.id.toNat with e | e
      · rw [← s3]; exact (home_congr e).symm
      · rw [home_none.2 e] at s3; cases s3) ⟨⟨61, n⟩, by
        have hoi := (home_ok hvg.ok h1 h2 hs).2
        exact ⟨by rw [hoi]; exact h1, by rw [hoi]; exact h2, by rw [hoi]; exact hs⟩⟩
    exact hno s.node.id s s1 s2 s3 (free_does ra rg hva hvt hvg hmid s1 s2 s3 (fun o o1 o2 o3 => hfree o ⟨o1, o2, o3⟩))
theorem make_nopark {na nb : List Nd} {a g : Tr} (ra : Rep na a) (rg : Rep nb g) (hva : Valid a) (hvg : Valid g) (hel : Elim na nb (homesR na nb)) : (makeT a g).length = (homesR na nb).length :=
  seg_nopark ra rg hva hvg hel (makeT_seg hva hvg) hva (fun _ => .inl rfl) rfl _ (left_start ra rg hva.ok hvg.ok)
end Go.Proofs.YtkahmbpggdneoaaDoor
