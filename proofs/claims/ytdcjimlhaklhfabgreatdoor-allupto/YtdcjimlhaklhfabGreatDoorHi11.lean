import Derived.Test.YtdcjimlhaklhfabGreatDoorHi10
import Derived.BigQuiet
import Derived.Deep.RegionLaw
import Derived.Deep.RegionWith
namespace Go.Proofs.YtdcjimlhaklhfabGreatDoor
open Go.RowKit
/-! How deep a node lies. -/
def deep (t : Tr) (x : Int) : Nat := scan (fun f => meetsF t f x 0) 0 200
theorem meets_zero (t : Tr) (x goal : Int) : meetsF t 0 x goal = false := rfl
theorem meets_succ {t : Tr} {f : Nat} {x goal : Int} {n : Nd} (hne : x ≠ goal) (hn : t x.toNat = some n) : meetsF t (f + 1) x goal = meetsF t f n.parent goal := by
  rw [meetsF, if_neg hne, hn]
theorem deep_le {t : Tr} (ht : TrOk t) {x : Int} (h : Goes t x 0) : deep t x ≤ 100 := by
  have h1 := (goes_meets ht).2 h
  unfold deep
  rcases scan_cases (fun f => meetsF t f x 0) 0 200 with ⟨_, _, _, h2⟩ | ⟨_, h2⟩
  · apply Classical.byContradiction
    intro hn
    have := h2 100 (by omega) (by omega)
    unfold meetsT at h1; rw [h1] at this; cases this
  · have := h2 100 (by omega) (by omega)
    unfold meetsT at h1; rw [h1] at this; cases this
theorem deep_hit {t : Tr} {x : Int} (h : deep t x < 200) : meetsF t (deep t x) x 0 = true ∧ ∀ j, j < deep t x → meetsF t j x 0 = false := by
  unfold deep at h ⊢
  rcases scan_cases (fun f => meetsF t f x 0) 0 200 with ⟨_, _, h1, h2⟩ | ⟨h1, _⟩
  · exact ⟨h1, fun j hj => h2 j (by omega) hj⟩
  · omega
theorem parent_goes {t : Tr} (hv : Valid t) {p : Int} (hp0 : 0 ≤ p) (h : isParentT t p = true) : Goes t p 0 := by
  rcases isParent_iff.1 h with rfl | ⟨_, n, hn⟩
  · exact goes_here t 0
  · have := hv.goes _ n hn
    rwa [(trOk_id hv.ok hp0 hn).1] at this
theorem deep_succ {t : Tr} (hv : Valid t) {x : Int} (hx : 1 ≤ x) {n : Nd} (hn : t x.toNat = some n) : deep t x = deep t n.parent + 1 := by
  have hp0 : 0 ≤ n.parent := (trOk_id hv.ok (by omega) hn).2.2.2.2.2.1
  have hg := parent_goes hv hp0 (hv.parent _ n hn)
  have hd := deep_le hv.ok hg
  obtain ⟨h1, h2⟩ := deep_hit (t := t) (x := n.parent) (by omega)
  show scan (fun f => meetsF t f x 0) 0 200 = _
  refine scan_hit (by omega) (by omega) ?_ ?_
  · rw [meets_succ (by omega) hn]; exact h1
  · intro j _ hj
    cases j with
    | zero => rfl
    | succ j => rw [meets_succ (by omega) hn]; exact h2 j (by omega)
theorem deep_up {t : Tr} (hv : Valid t) {goal : Int} : ∀ (f : Nat) (x : Int), 0 ≤ x → meetsF t f x goal = true → deep t goal ≤ deep t x := by
  intro f
  induction f with
  | zero => intro x _ h; cases h
  | succ f ih =>
    intro x hx h
    by_cases e : x = goal
    · rw [e]; omega
    · cases hn : t x.toNat with
      | none => rw [meetsF, if_neg e, hn] at h; cases h
      | some n =>
        rw [meets_succ e hn] at h
        have hb := trOk_id hv.ok hx hn
        have := ih n.parent hb.2.2.2.2.2.1 h
        have := deep_succ hv hb.2.1 hn
        omega
theorem no_loop {t : Tr} (hv : Valid t) {id : Int} (h1 : 1 ≤ id) {n : Nd} (hn : t id.toNat = some n) : ¬ Goes t n.parent id := by
  rintro ⟨f, hf⟩
  have h2 := deep_up hv f n.parent (trOk_id hv.ok (by omega) hn).2.2.2.2.2.1 hf
  have h3 := deep_succ hv h1 hn
  omega
/-! What is in the way. -/
def Stuck (a g : Tr) : Prop := ∀ (j : Int) (s : St), 1 ≤ j → j ≤ 99 → homeS a g j = some s → stepE a s ≠ 0
theorem fromAway_good {a g : Tr} (hv : Valid a) (_hg : Valid g) {id : Int} (h1 : 1 ≤ id) : ∀ (f : Nat) (p : Int), 0 ≤ p → meetsF a (f + 1) p id = true → ¬ Goes g p id →
    1 ≤ fromAwayF a g f p ∧ fromAwayF a g f p ≤ 99 ∧ (homeS a g (fromAwayF a g f p)).isSome = true ∧ ∃ m, a (fromAwayF a g f p).toNat = some m ∧ m.parent ≠ 0 := by
  intro f
  induction f with
  | zero =>
    intro p _ hm hno
    rw [meetsF] at hm
    by_cases e : p = id
    · rw [e] at hno; exact absurd (goes_here g id) hno
    · rw [if_neg e] at hm
      cases hp : a p.toNat with
      | none => rw [hp] at hm; cases hm
      | some n => rw [hp] at hm; cases hm
  | succ f ih =>
    intro p hp0 hm hno
    by_cases e : p = id
    · rw [e] at hno; exact absurd (goes_here g id) hno
    · cases hp : a p.toNat with
      | none => rw [meetsF, if_neg e, hp] at hm; cases hm
      | some n =>
        rw [meets_succ e hp] at hm
        have hb := trOk_id hv.ok hp0 hp
        unfold fromAwayF
        cases hq : (homeS a g p).isSome
        · rw [if_neg (by simp)]
          have e2 : a p.toNat = g p.toNat := home_none.1 (by simpa using hq)
          have e3 : (getT a p).parent = n.parent := by unfold getT; rw [hp]; rfl
          rw [e3]
          exact ih n.parent hb.2.2.2.2.2.1 hm (fun hh => hno (goes_up (by rw [← e2]; exact hp) hh))
        · rw [if_pos rfl]
          refine ⟨hb.2.1, hb.2.2.1, hq, n, hp, fun h0 => ?_⟩
          rw [h0, meetsF, if_neg (by omega)] at hm
          have := hv.ok.1
          simp only [Int.toNat_zero] at hm
          rw [this] at hm; cases hm
theorem atT_hit {t : Tr} {p : Int} {s : Str} (h : atT t p s ≠ 0) : 1 ≤ atT t p s ∧ atT t p s ≤ 99 ∧ ∃ m, t (atT t p s).toNat = some m ∧ m.parent = p ∧ m.name = s := by
  rcases scan_cases (spotIs t p s) 1 100 with ⟨e1, e2, e3, _⟩ | ⟨e, _⟩
  · unfold atT; rw [if_pos e1]
    generalize scan (spotIs t p s) 1 100 = k at *
    unfold spotIs at e3
    cases hk : t k with
    | none => rw [hk] at e3; simp at e3
    | some m =>
      rw [hk] at e3; simp at e3
      exact ⟨by omega, by omega, m, by simpa using hk, e3.1, e3.2⟩
  · unfold atT at h; rw [if_neg (by omega)] at h; exact absurd rfl h
theorem kidT_hit {t : Tr} {id : Int} (h : kidT t id ≠ 0) : 1 ≤ kidT t id ∧ kidT t id ≤ 99 ∧ ∃ m, t (kidT t id).toNat = some m ∧ m.parent = id := by
  rcases scan_cases (kidIs t id) 1 100 with ⟨e1, e2, e3, _⟩ | ⟨e, _⟩
  · unfold kidT; rw [if_pos e1]
    generalize scan (kidIs t id) 1 100 = k at *
    unfold kidIs at e3
    cases hk : t k with
    | none => rw [hk] at e3; simp at e3
    | some m =>
      rw [hk] at e3; simp at e3
      exact ⟨by omega, by omega, m, by simpa using hk, e3⟩
  · unfold kidT at h; rw [if_neg (by omega)] at h; exact absurd rfl h
/-- What stands in another's place is not home, and not parked. -/
theorem taker_away {a g : Tr} (_hv : Valid a) (hg : Valid g) {id : Int} (h1 : 1 ≤ id) {n : Nd} (hn : g id.toNat = some n) (h0 : atT a n.parent n.name ≠ 0) (hne : atT a n.parent n.name ≠ id) :
    ∃ t, homeS a g (atT a n.parent n.name) = some t ∧ t.kind ≠ 43 ∧ (t.kind = 61 → a (atT a n.parent n.name).toNat ≠ some (parkN (atT a n.parent n.name))) := by
  obtain ⟨y1, y2, m, hm, hp, hs⟩ := atT_hit h0
  generalize atT a n.parent n.name = y at *
  have hid := trOk_id hg.ok (by omega) hn
  cases hgy : g y.toNat with
  | none => exact ⟨_, home_del hm hgy, by show ((45 : UInt8) ≠ 43); decide, fun h => absurd h (by show ¬ ((45 : UInt8) = 61); decide)⟩
  | some k =>
    refine ⟨_, home_move hm hgy (fun e => ?_), by show ((61 : UInt8) ≠ 43); decide, fun _ e => ?_⟩
    · subst e
      have := hg.apart _ _ _ _ hgy hn hp hs
      omega
    · rw [hm] at e
      cases e
      have h3 : isName n.name n.id = true := hid.2.2.2.2.2.2.2
      rw [← hs, hid.1] at h3
      have := park_own (x := y) (y := id) (by omega) y2 (by omega) hid.2.2.1 h3
      exact hne this
theorem parent_away {a g : Tr} (hg : Valid g) {id : Int} (h1 : 1 ≤ id) {n : Nd} (hn : g id.toNat = some n) (hp : isParentT a n.parent = false) :
    1 ≤ n.parent ∧ n.parent ≤ 99 ∧ ∃ k, g n.parent.toNat = some k ∧ homeS a g n.parent = some ⟨43, k⟩ := by
  have hid := trOk_id hg.ok (by omega) hn
  have hb := hid.2.2.2
  have h2 := hg.parent _ n hn
  rcases isParent_iff.1 h2 with h0 | ⟨he, k, hk⟩
  · rw [h0] at hp; simp [isParentT] at hp
  · have hk' := trOk_id hg.ok hb.2.2.1 hk
    refine ⟨hk'.2.1, hk'.2.2.1, k, hk, home_new ?_ hk⟩
    cases ha : a n.parent.toNat with
    | none => rfl
    | some m =>
      have : isParentT a n.parent = true := isParent_iff.2 (.inr ⟨he, m, ha⟩)
      rw [this] at hp; cases hp
/-- Where a step home is not a move and the next is none either, that one is of a lesser rank. -/
def rank (a g : Tr) (x : Int) : Nat := if (g x.toNat).isSome then 1000 + deep g x else 500 - deep a x
theorem blocker_good {a g : Tr} (hv : Valid a) (hg : Valid g) (hst : Stuck a g) {id : Int} (h1 : 1 ≤ id) (h2 : id ≤ 99) {s : St} (hs : homeS a g id = some s) :
    1 ≤ blocker a g id ∧ blocker a g id ≤ 99 ∧ ∃ t, homeS a g (blocker a g id) = some t ∧ (t.kind = 61 → a (blocker a g id).toNat ≠ some (parkN (blocker a g id))) ∧ (s.kind ≠ 61 → t.kind ≠ 61 → rank a g (blocker a g id) < rank a g id) := by
  have hE := hst id s h1 h2 hs
  rcases home_cases hs with ⟨rfl, hgn, m, hm⟩ | ⟨n, rfl, hgn, ha⟩ | ⟨n, m, rfl, hgn, hm, hmn⟩
  · -- a deletion waits for a kid
    have eb : blocker a g id = kidT a id := by unfold blocker; rw [hs]; rfl
    have hk : kidT a id ≠ 0 := by
      intro h0
      apply hE
      show stepE a ⟨45, ⟨id, 0, []⟩⟩ = 0
      unfold stepE deleteE
      rw [if_neg (show ¬ ((45 : UInt8) = 43) by decide), if_neg (show ¬ ((45 : UInt8) = 61) by decide), if_pos rfl, kids_kid, h0]
      rw [hasT_iff.2 ⟨m, hm⟩]; rfl
    rw [eb]
    obtain ⟨k1, k2, mk, hmk, hpk⟩ := kidT_hit hk
    generalize kidT a id = k at *
    refine ⟨k1, k2, ?_⟩
    cases hgk : g k.toNat with
    | none =>
      refine ⟨_, home_del hmk hgk, fun h => absurd h (by show ¬ ((45 : UInt8) = 61); decide), fun _ _ => ?_⟩
      unfold rank; rw [hgk, hgn, if_neg (by simp), if_neg (by simp)]
      have e1 := deep_succ hv k1 hmk
      rw [hpk] at e1
      have e2 := deep_le hv.ok (hv.goes _ mk hmk)
      rw [(trOk_id hv.ok (by omega) hmk).1] at e2
      omega
    | some nk =>
      refine ⟨_, home_move hmk hgk (fun e => ?_), fun _ e => ?_, fun _ h => absurd rfl h⟩
      · subst e
        have := hg.parent _ mk hgk
        rw [hpk] at this
        rcases isParent_iff.1 this with h0 | ⟨_, x, hx⟩
        · omega
        · rw [hgn] at hx; cases hx
      · rw [hmk] at e; cases e; simp [parkN] at hpk; omega
  · -- a creation
    have hid := trOk_id hg.ok (by omega) hgn
    have eb : blocker a g id = inWay a g n := by
      unfold blocker; rw [hs]; show (if (43 : UInt8) = 45 then _ else _) = _; rw [if_neg (by decide)]
    rw [eb]
    have hno : hasT a id = false := by unfold hasT; rw [ha]; rfl
    cases hp : isParentT a n.parent
    · have ei : inWay a g n = n.parent := by unfold inWay; rw [hp]; rfl
      rw [ei]
      obtain ⟨p1, p2, k, hk, hh⟩ := parent_away hg h1 hgn hp
      refine ⟨p1, p2, _, hh, fun h => absurd h (by show ¬ ((43 : UInt8) = 61); decide), fun _ _ => ?_⟩
      unfold rank; rw [hk, hgn, if_pos (by simp), if_pos (by simp)]
      have := deep_succ hg h1 hgn
      omega
    · have hme : meetsT a n.parent n.id = false := by
        rw [hid.1]
        cases hq : meetsT a n.parent id
        · rfl
        · exfalso
          have key : ∀ f p, isParentT a p = true → meetsF a f p id = true → False := by
            intro f
            induction f with
            | zero => intro p _ h; cases h
            | succ f ih =>
              intro p hpp h
              by_cases e : p = id
              · rcases isParent_iff.1 hpp with h0 | ⟨_, x, hx⟩
                · omega
                · rw [e, ha] at hx; cases hx
              · cases hx : a p.toNat with
                | none => rw [meetsF, if_neg e, hx] at h; cases h
                | some x => rw [meets_succ e hx] at h; exact ih _ (hv.parent _ x hx) h
          exact key 100 _ hp hq
      have ei : inWay a g n = atT a n.parent n.name := by unfold inWay; rw [hp, hme]; rfl
      have h0 : atT a n.parent n.name ≠ 0 := by
        intro h0
        apply hE
        show stepE a ⟨43, n⟩ = 0
        unfold stepE createE
        rw [if_pos rfl, hid.1, hno, hp, h0]; rfl
      rw [ei]
      obtain ⟨y1, y2, my, hmy, _⟩ := atT_hit h0
      obtain ⟨t, ht, hk, hpk⟩ := taker_away hv hg h1 hgn h0 (fun e => by rw [e, ha] at hmy; cases hmy)
      refine ⟨y1, y2, t, ht, hpk, fun _ hk2 => ?_⟩
      -- it is deleted
      rcases home_cases ht with ⟨rfl, hgy, _⟩ | ⟨k, rfl, _⟩ | ⟨k, _, rfl, _⟩
      · unfold rank; rw [hgy, hgn, if_neg (by simp), if_pos (by simp)]; omega
      · exact absurd rfl hk
      · exact absurd rfl hk2
  · -- a move
    have hid := trOk_id hg.ok (by omega) hgn
    have eb : blocker a g id = inWay a g n := by
      unfold blocker; rw [hs]; show (if (61 : UInt8) = 45 then _ else _) = _; rw [if_neg (by decide)]
    rw [eb]
    cases hp : isParentT a n.parent
    · have ei : inWay a g n = n.parent := by unfold inWay; rw [hp]; rfl
      rw [ei]
      obtain ⟨p1, p2, k, hk, hh⟩ := parent_away hg h1 hgn hp
      exact ⟨p1, p2, _, hh, fun h => absurd h (by show ¬ ((43 : UInt8) = 61); decide), fun h => absurd rfl h⟩
    · cases hme : meetsT a n.parent n.id
      · have ei : inWay a g n = atT a n.parent n.name := by unfold inWay; rw [hp, hme]; rfl
        have hE2 : atT a n.parent n.name ≠ 0 ∧ atT a n.parent n.name ≠ id := by
          apply Classical.byContradiction
          intro hcon
          apply hE
          show stepE a ⟨61, n⟩ = 0
          unfold stepE moveE
          rw [if_neg (show ¬ ((61 : UInt8) = 43) by decide), if_pos rfl, hp, hme, hid.1, hasT_iff.2 ⟨m, hm⟩]
          have : (atT a n.parent n.name != 0 && atT a n.parent n.name != id) = false := by
            cases hq : (atT a n.parent n.name != 0 && atT a n.parent n.name != id)
            · rfl
            · rw [Bool.and_eq_true, bne_iff_ne, bne_iff_ne] at hq; exact absurd hq hcon
          rw [this]; rfl
        rw [ei]
        obtain ⟨y1, y2, _⟩ := atT_hit hE2.1
        obtain ⟨t, ht, _, hpk⟩ := taker_away hv hg h1 hgn hE2.1 hE2.2
        exact ⟨y1, y2, t, ht, hpk, fun h => absurd rfl h⟩
      · have ei : inWay a g n = fromAwayF a g 99 n.parent := by unfold inWay; rw [hp, hme]; rfl
        rw [ei]
        rw [hid.1] at hme
        obtain ⟨y1, y2, y3, my, hmy, hpy⟩ := fromAway_good hv hg h1 99 n.parent hid.2.2.2.2.2.1 hme (no_loop hg h1 hgn)
        obtain ⟨t, ht⟩ := Option.isSome_iff_exists.1 y3
        refine ⟨y1, y2, t, ht, fun _ e => ?_, fun h => absurd rfl h⟩
        rw [hmy] at e; cases e; exact hpy rfl
/-! The knot. -/
theorem iter_succ (f : Int → Int) : ∀ (k : Nat) (x : Int), iter f (k + 1) x = f (iter f k x) := by
  intro k
  induction k with
  | zero => intro x; rfl
  | succ k ih => intro x; rw [iter, ih]; rfl
def AwayAt (a g : Tr) (x : Int) : Prop := 1 ≤ x ∧ x ≤ 99 ∧ (homeS a g x).isSome = true
theorem iter_away {a g : Tr} (hv : Valid a) (hg : Valid g) (hst : Stuck a g) {x : Int} (h : AwayAt a g x) : ∀ k, AwayAt a g (iter (blocker a g) k x) := by
  intro k
  induction k with
  | zero => exact h
  | succ k ih =>
    rw [iter_succ]
    obtain ⟨s, hs⟩ := Option.isSome_iff_exists.1 ih.2.2
    obtain ⟨b1, b2, t, ht, _⟩ := blocker_good hv hg hst ih.1 ih.2.1 hs
    exact ⟨b1, b2, by rw [ht]; rfl⟩
theorem seek_hit {a g : Tr} : ∀ (f : Nat) (x : Int), (∃ k, k < f ∧ isMove a g (iter (blocker a g) k x) = true) → ∃ k, k < f ∧ seekF a g f x = iter (blocker a g) k x ∧ isMove a g (iter (blocker a g) k x) = true := by
  intro f
  induction f with
  | zero => rintro x ⟨k, hk, _⟩; omega
  | succ f ih =>
    rintro x ⟨k, hk, hm⟩
    rw [seekF]
    cases hx : isMove a g x
    · rw [if_neg (by simp)]
      cases k with
      | zero => rw [iter, hx] at hm; cases hm
      | succ k =>
        obtain ⟨j, hj, e1, e2⟩ := ih (blocker a g x) ⟨k, by omega, hm⟩
        exact ⟨j + 1, by omega, e1, e2⟩
    · rw [if_pos rfl]; exact ⟨0, by omega, rfl, hx⟩
theorem isMove_iff {a g : Tr} {x : Int} : isMove a g x = true ↔ ∃ n, homeS a g x = some ⟨61, n⟩ := by
  unfold isMove
  cases h : homeS a g x with
  | none => simp
  | some s =>
    obtain ⟨k, n⟩ := s
    simp only [beq_iff_eq, Option.some.injEq, St.mk.injEq]
    constructor
    · rintro rfl; exact ⟨n, rfl, rfl⟩
    · rintro ⟨_, e, _⟩; exact e
theorem move_found {a g : Tr} (hv : Valid a) (hg : Valid g) (hst : Stuck a g) {x : Int} (h : AwayAt a g x) : ∃ k, k < 99 ∧ isMove a g (iter (blocker a g) k x) = true := by
  apply Classical.byContradiction
  intro hcon
  have hno : ∀ k, k < 99 → isMove a g (iter (blocker a g) k x) = false := by
    intro k hk
    cases hq : isMove a g (iter (blocker a g) k x)
    · rfl
    · exact absurd ⟨k, hk, hq⟩ hcon
  have haw := iter_away hv hg hst h
  have hdown : ∀ k, isMove a g (iter (blocker a g) k x) = false → isMove a g (iter (blocker a g) (k + 1) x) = false → rank a g (iter (blocker a g) (k + 1) x) < rank a g (iter (blocker a g) k x) := by
    intro k h1 h2
    rw [iter_succ] at h2 ⊢
    have ha := haw k
    obtain ⟨s, hs⟩ := Option.isSome_iff_exists.1 ha.2.2
    obtain ⟨_, _, t, ht, _, hr⟩ := blocker_good hv hg hst ha.1 ha.2.1 hs
    refine hr (fun e => ?_) (fun e => ?_)
    · rw [isMove_iff.2 ⟨s.node, by rw [hs, ← e]⟩] at h1; cases h1
    · rw [isMove_iff.2 ⟨t.node, by rw [ht, ← e]⟩] at h2; cases h2
  have hmono : ∀ d i, i + d < 99 → rank a g (iter (blocker a g) (i + d) x) + d ≤ rank a g (iter (blocker a g) i x) := by
    intro d
    induction d with
    | zero => intro i _; simp
    | succ d ih =>
      intro i hi
      have h1 := ih i (by omega)
      have h2 := hdown (i + d) (hno _ (by omega)) (hno _ (by omega))
      rw [show i + (d + 1) = i + d + 1 by omega]
      omega
  have hnd : ((List.range 99).map (fun k => iter (blocker a g) k x)).Nodup := by
    rw [List.nodup_iff_pairwise_ne, List.pairwise_map]
    refine List.pairwise_lt_range.imp_of_mem (fun {i j} hi hj hij e => ?_)
    rw [List.mem_range] at hi hj
    have := hmono (j - i) i (by omega)
    rw [show i + (j - i) = j by omega, ← e] at this
    omega
  have hsub : ∀ y, AwayAt a g y → y ∈ (List.range' 1 99).map (fun i : Nat => (i : Int)) := by
    intro y hy
    refine List.mem_map.2 ⟨y.toNat, ?_, ?_⟩
    · rw [List.mem_range'_1]; have := hy.1; have := hy.2.1; omega
    · have := hy.1; show ((y.toNat : Nat) : Int) = y; omega
  have hin : iter (blocker a g) 99 x ∈ (List.range 99).map (fun k => iter (blocker a g) k x) := by
    apply Classical.byContradiction
    intro hni
    have := pigeon (iter (blocker a g) 99 x :: (List.range 99).map (fun k => iter (blocker a g) k x)) ((List.range' 1 99).map (fun i : Nat => (i : Int))) (List.nodup_cons.2 ⟨hni, hnd⟩) (fun y hy => by
      rcases List.mem_cons.1 hy with rfl | hy
      · exact hsub _ (haw 99)
      · obtain ⟨k, _, rfl⟩ := List.mem_map.1 hy
        exact hsub _ (haw k))
    simp at this
  obtain ⟨j, hj, e⟩ := List.mem_map.1 hin
  rw [List.mem_range] at hj
  have h1 := hdown 98 (hno 98 (by omega)) (by rw [show 98 + 1 = 99 from rfl, ← e]; exact hno j hj)
  have h2 := hmono (98 - j) j (by omega)
  rw [show j + (98 - j) = 98 by omega] at h2
  rw [show 98 + 1 = 99 from rfl, ← e] at h1
  omega
theorem firstAway_hit {a g : Tr} {x : Int} (h : AwayAt a g x) : AwayAt a g (firstAway a g) := by
  rcases scan_cases (awayIs a g) 1 100 with ⟨e1, e2, e3, _⟩ | ⟨_, e⟩
  · unfold firstAway; rw [if_pos e1]
    exact ⟨by omega, by omega, e3⟩
  · have h1 := h.1
    have h2 := h.2.1
    have := e x.toNat (by omega) (by omega)
    unfold awayIs at this
    rw [Int.toNat_of_nonneg (by omega)] at this
    rw [h.2.2] at this; cases this
theorem knot_good {a g : Tr} (hv : Valid a) (hg : Valid g) (hst : Stuck a g) {x : Int} (h : AwayAt a g x) :
    1 ≤ knotT a g ∧ knotT a g ≤ 99 ∧ (∃ n, homeS a g (knotT a g) = some ⟨61, n⟩) ∧ a (knotT a g).toNat ≠ some (parkN (knotT a g)) ∧ stepE a (parkS (knotT a g)) = 0 := by
  have h0 := firstAway_hit h
  have h99 := iter_away hv hg hst h0 99
  obtain ⟨k, _, e1, e2⟩ := seek_hit 99 _ (move_found hv hg hst h99)
  have hk := iter_away hv hg hst h99 k
  have ek : knotT a g = iter (blocker a g) k (iter (blocker a g) 99 (firstAway a g)) := e1
  rw [← ek] at hk e2
  have hun : a (knotT a g).toNat ≠ some (parkN (knotT a g)) := by
    -- it was come to by at least one step
    have key : ∀ j y, AwayAt a g y → isMove a g (iter (blocker a g) (j + 1) y) = true → a (iter (blocker a g) (j + 1) y).toNat ≠ some (parkN (iter (blocker a g) (j + 1) y)) := by
      intro j y hy hm
      rw [iter_succ] at hm ⊢
      have ha := iter_away hv hg hst hy j
      obtain ⟨s, hs⟩ := Option.isSome_iff_exists.1 ha.2.2
      obtain ⟨_, _, t, ht, hp, _⟩ := blocker_good hv hg hst ha.1 ha.2.1 hs
      obtain ⟨n, hn⟩ := isMove_iff.1 hm
      refine hp ?_
      rw [ht] at hn; cases hn; rfl
    have hadd : ∀ j m y, iter (blocker a g) j (iter (blocker a g) m y) = iter (blocker a g) (m + j) y := by
      intro j m
      induction m with
      | zero => intro y; rw [Nat.zero_add]; rfl
      | succ m ih => intro y; rw [show m + 1 + j = (m + j) + 1 by omega]; exact ih _
    have e3 : knotT a g = iter (blocker a g) (98 + k + 1) (firstAway a g) := by rw [ek, hadd]; congr 1; omega
    rw [e3] at e2 ⊢
    exact key _ _ h0 e2
  obtain ⟨n, hn⟩ := isMove_iff.1 e2
  refine ⟨hk.1, hk.2.1, ⟨n, hn⟩, hun, ?_⟩
  obtain ⟨m, hm⟩ : ∃ m, a (knotT a g).toNat = some m := by
    rcases home_cases hn with ⟨e, _⟩ | ⟨_, e, _⟩ | ⟨_, m, _, _, hm, _⟩
    · cases e
    · cases e
    · exact ⟨m, hm⟩
  have h1 := hk.1
  have h2 := hk.2.1
  generalize knotT a g = id at *
  show stepE a ⟨61, parkN id⟩ = 0
  unfold stepE moveE
  rw [if_neg (show ¬ ((61 : UInt8) = 43) by decide), if_pos rfl]
  have e1 : hasT a (parkN id).id = true := hasT_iff.2 ⟨m, hm⟩
  have e2 : isParentT a (parkN id).parent = true := rfl
  have e3 : meetsT a (parkN id).parent (parkN id).id = false := by
    show meetsF a 100 0 id = false
    rw [meetsF, if_neg (by omega)]
    simp only [Int.toNat_zero]
    rw [hv.ok.1]
  have e4 : (atT a (parkN id).parent (parkN id).name != 0 && atT a (parkN id).parent (parkN id).name != (parkN id).id) = false := by
    cases hq : (atT a (parkN id).parent (parkN id).name != 0 && atT a (parkN id).parent (parkN id).name != (parkN id).id)
    · rfl
    · rw [Bool.and_eq_true, bne_iff_ne, bne_iff_ne] at hq
      obtain ⟨y1, y2, my, hmy, hpy, hny⟩ := atT_hit hq.1
      have hb := trOk_id hv.ok (by omega) hmy
      have h3 := hb.2.2.2.2.2.2.2
      rw [hny, hb.1] at h3
      exact absurd (park_own (x := id) (y := atT a (parkN id).parent (parkN id).name) (by omega) h2 (by omega) y2 h3).symm hq.2
  rw [e1, e2, e3, e4]; rfl
theorem make_seg {g : Tr} (hg : Valid g) : ∀ (f : Nat) (p : Pl), Valid p.now → toCome p.now g < f → ∃ ss, makeF g f p = p.done ++ ss ∧ Seg g p.now ss g := by
  intro f
  induction f with
  | zero => intro p _ h; omega
  | succ f ih =>
    intro p hv hc
    obtain ⟨ss, k1, k2, k3, k4⟩ := goHome_fold g (List.range' 1 99) p false (fun i hi => by rw [List.mem_range'_1] at hi; omega)
    have hE : goHomeT g p = (List.range' 1 99).foldl (goOne g) (p, false) := by unfold goHomeT; rfl
    rw [← hE] at k1 k2 k3 k4
    have hv2 := (seg_valid k2 hg.ok hv).1
    have hc2 := seg_come k2 hg.ok
    rw [makeF]
    cases ss with
    | cons s ss =>
      rw [if_pos (by rw [k3]; rfl)]
      obtain ⟨ts, e1, e2⟩ := ih (goHomeT g p).1 hv2 (by simp only [List.length_cons] at hc2; omega)
      exact ⟨(s :: ss) ++ ts, by rw [e1, k1]; simp, seg_trans k2 e2⟩
    | nil =>
      obtain ⟨ep, hst⟩ := k4 rfl
      rw [if_neg (by rw [k3]; simp), ep]
      have hStuck : Stuck p.now g := by
        intro j s h1 h2 hs
        refine hst j.toNat (by rw [List.mem_range'_1]; omega) s ?_
        rw [Int.toNat_of_nonneg (by omega)]; exact hs
      by_cases haway : ∃ x, AwayAt p.now g x
      · obtain ⟨x, hx⟩ := haway
        obtain ⟨q1, q2, ⟨n, hn⟩, q3, q4⟩ := knot_good hv hg hStuck hx
        have e : parkT g p = (⟨stepT p.now (parkS (knotT p.now g)), p.done ++ [parkS (knotT p.now g)]⟩, true) := by
          unfold parkT; rw [if_neg (by omega), if_pos q4]
        rw [e, if_pos rfl]
        have hc3 := come_park q1 q2 hn q3 q4
        obtain ⟨ts, e1, e2⟩ := ih ⟨stepT p.now (parkS (knotT p.now g)), p.done ++ [parkS (knotT p.now g)]⟩ (valid_step hv (park_ok q1 q2)) (by show toCome (stepT p.now _) g < f; omega)
        exact ⟨parkS (knotT p.now g) :: ts, by rw [e1]; simp, Seg.park q1 q2 hStuck hn q3 q4 e2⟩
      · have hall : p.now = g := by
          funext i
          by_cases hi : 1 ≤ i ∧ i ≤ 99
          · cases hq : homeS p.now g i with
            | none => have := home_none.1 hq; simpa using this
            | some s => exact absurd ⟨(i : Int), by omega, by omega, by rw [hq]; rfl⟩ haway
          · have e1 : p.now i = none := by
              cases h : p.now i with
              | none => rfl
              | some n => have := hv.ok.2 i n h; omega
            have e2 : g i = none := by
              cases h : g i with
              | none => rfl
              | some n => have := hg.ok.2 i n h; omega
            rw [e1, e2]
        have e0 : knotT p.now g = 0 := by
          have hb : ∀ x, blocker p.now g x = 0 := by
            intro x; unfold blocker; rw [home_none.2 (by rw [hall])]
          have hm : ∀ x, isMove p.now g x = false := by
            intro x; unfold isMove; rw [home_none.2 (by rw [hall])]
          have : ∀ f x, seekF p.now g f x = 0 := by
            intro f
            induction f with
            | zero => intro x; rfl
            | succ f ih2 => intro x; rw [seekF, hm, if_neg (by simp)]; exact ih2 _
          exact this _ _
        have e : parkT g p = (p, false) := by unfold parkT; rw [if_pos e0]
        rw [e, if_neg (by simp)]
        exact ⟨[], by simp, by rw [hall]; exact Seg.nil g⟩
theorem makeT_seg {a g : Tr} (ha : Valid a) (hg : Valid g) : Seg g a (makeT a g) g := by
  obtain ⟨ss, e, h⟩ := make_seg hg 199 ⟨a, []⟩ ha (by have := toCome_le a g; show toCome a g < 199; omega)
  have : makeT a g = ss := by unfold makeT; rw [e]; rfl
  rw [this]; exact h
end Go.Proofs.YtdcjimlhaklhfabGreatDoor

namespace Go.Proofs.YtdcjimlhaklhfabGreatDoor
open Go.RowKit
/-! A script's text. -/
def stText (s : St) : Str := if s.kind = 45 then 45 :: digs s.node.id ++ [59] else s.kind :: nodeText s.node
def scriptText (ss : List St) : Str := ss.flatMap stText
def StCan (s : St) : Prop := StOk s ∧ (s.kind = 45 → s.node = ⟨s.node.id, 0, []⟩)
theorem home_can {a g : Tr} (hg : TrOk g) {id : Int} (h1 : 1 ≤ id) (h2 : id ≤ 99) {s : St} (h : homeS a g id = some s) : StCan s := by
  refine ⟨(home_ok hg h1 h2 h).1, fun hk => ?_⟩
  rcases home_cases h with ⟨rfl, _⟩ | ⟨n, rfl, _⟩ | ⟨n, _, rfl, _⟩
  · rfl
  · exact absurd hk (by show ¬ ((43 : UInt8) = 45); decide)
  · exact absurd hk (by show ¬ ((61 : UInt8) = 45); decide)
theorem seg_can {g a b : Tr} {ss : List St} (h : Seg g a ss b) (hg : TrOk g) : ∀ s ∈ ss, StCan s := by
  induction h with
  | nil a => simp
  | home h1 h2 hs he _ ih =>
    intro s hm
    rcases List.mem_cons.1 hm with rfl | hm
    · exact home_can hg h1 h2 hs
    · exact ih s hm
  | park h1 h2 hno hs hp he _ ih =>
    intro s hm
    rcases List.mem_cons.1 hm with rfl | hm
    · exact ⟨park_ok h1 h2, fun hk => absurd hk (by show ¬ ((61 : UInt8) = 45); decide)⟩
    · exact ih s hm
def stBody (s : St) : Str := if s.kind = 45 then 45 :: digs s.node.id else s.kind :: ndBody s.node
theorem stText_body (s : St) : stText s = stBody s ++ [59] := by
  unfold stText stBody
  split
  · rfl
  · rw [nodeText_body]; rfl
theorem stBody_no {s : St} (h : StOk s) : ∀ x ∈ stBody s, x ≠ 59 := by
  intro x hx
  unfold stBody at hx
  rcases h with ⟨hk, hn⟩ | ⟨hk, h1, h2⟩
  · have h45 : ¬ s.kind = 45 := by rcases hk with h | h <;> rw [h] <;> decide
    rw [if_neg h45] at hx
    rcases List.mem_cons.1 hx with rfl | hx
    · rcases hk with h | h <;> rw [h] <;> decide
    · exact body_no hn x hx
  · rw [if_pos hk] at hx
    rcases List.mem_cons.1 hx with rfl | hx
    · decide
    · exact (digs_noI (by omega) h2 x hx).1
theorem readStep_text {s : St} (h : StCan s) : readStep (stText s) = some s := by
  have hb : bodyB (stText s) = true := by rw [stText_body]; unfold bodyB; simp
  have hS : bodyS (stText s) = stBody s := by unfold bodyS; rw [if_pos hb, stText_body]; simp
  unfold readStep
  rw [if_pos hb, hS]
  obtain ⟨k, n⟩ := s
  rcases h with ⟨⟨hk, hn⟩ | ⟨hk, h1, h2⟩, hc⟩
  · simp only at hk hn
    have h45 : ¬ k = 45 := by rcases hk with h | h <;> rw [h] <;> decide
    unfold stBody
    rw [if_neg h45]
    show (if k = 43 ∨ k = 61 then (readNode (ndBody n)).map (fun n => (⟨k, n⟩ : St)) else _) = _
    rw [if_pos hk, readNode_body hn]; rfl
  · simp only at hk h1 h2 hc
    subst hk
    unfold stBody
    rw [if_pos rfl]
    show (if (45 : UInt8) = 43 ∨ (45 : UInt8) = 61 then (readNode (digs n.id)).map (fun n => (⟨45, n⟩ : St)) else if (45 : UInt8) = 45 then (if (number (digs n.id) 1 99).2 then some (⟨45, ⟨(number (digs n.id) 1 99).1, 0, []⟩⟩ : St) else none) else none) = _
    rw [if_neg (by decide), if_pos rfl]
    have e : number (digs n.id) 1 99 = (n.id, true) := by
      obtain ⟨m, hm⟩ := Int.eq_ofNat_of_zero_le (show 0 ≤ n.id by omega)
      rw [hm]; exact digs_num1 m (by omega) (by omega)
    rw [e, if_pos rfl, ← hc rfl]
theorem cut_script : ∀ (ss : List St), (∀ s ∈ ss, StOk s) → cut (scriptText ss) = ss.map stText := by
  intro ss
  induction ss with
  | nil => intro _; rfl
  | cons s ss ih =>
    intro h
    unfold scriptText at ih ⊢
    rw [List.flatMap_cons, stText_body, cut_cons (stBody_no (h s (by simp))), ih (fun x hx => h x (by simp [hx])), List.map_cons, stText_body]
theorem readSteps_map : ∀ (ss : List St), (∀ s ∈ ss, StCan s) → readSteps (ss.map stText) = ss := by
  intro ss
  induction ss with
  | nil => intro _; rfl
  | cons s ss ih =>
    intro h
    rw [List.map_cons, readSteps, readStep_text (h s (by simp)), ih (fun x hx => h x (by simp [hx]))]
theorem readSteps_script {ss : List St} (h : ∀ s ∈ ss, StCan s) : readSteps (cut (scriptText ss)) = ss ∧ (cut (scriptText ss)).length = ss.length := by
  rw [cut_script ss (fun s hs => (h s hs).1)]
  exact ⟨readSteps_map ss h, by simp⟩
theorem stText_len {s : St} (h : StOk s) : (stText s).length ≤ 19 := by
  unfold stText
  rcases h with ⟨hk, hn⟩ | ⟨hk, _⟩
  · have h45 : ¬ s.kind = 45 := by rcases hk with h | h <;> rw [h] <;> decide
    rw [if_neg h45]
    have := nodeText_len hn.2.2.2.2
    simp; omega
  · rw [if_pos hk]
    have := digs_len s.node.id
    simp; omega
theorem script_len : ∀ (ss : List St), (∀ s ∈ ss, StOk s) → (scriptText ss).length ≤ 19 * ss.length := by
  intro ss
  induction ss with
  | nil => intro _; simp [scriptText]
  | cons s ss ih =>
    intro h
    have h1 := stText_len (h s (by simp))
    have h2 := ih (fun x hx => h x (by simp [hx]))
    unfold scriptText at h2 ⊢
    rw [List.flatMap_cons, List.length_append, List.length_cons]; omega
theorem make_len {a g : Tr} (ha : Valid a) (hg : Valid g) : (makeT a g).length ≤ 198 := by
  have h1 := seg_come (makeT_seg ha hg) hg.ok
  have h2 := toCome_le a g
  omega
theorem make_text_len {a g : Tr} (ha : Valid a) (hg : Valid g) : (scriptText (makeT a g)).length ≤ 4000 := by
  have h1 := make_len ha hg
  have h2 := script_len (makeT a g) (fun s hs => (seg_can (makeT_seg ha hg) hg.ok s hs).1)
  omega
/-- What Compile answers: the script and the error. -/
def compileE (f t : Str) : Int := if 4000 < f.length ∨ 4000 < t.length then 1 else if (checkT f).1 ≠ 0 then (checkT f).1 else (checkT t).1
def compileT (f t : Str) : Str := if compileE f t = 0 then scriptText (makeT (gather (readNodes (cut f))) (gather (readNodes (cut t)))) else []
theorem compileE_parts {f t : Str} (h : compileE f t = 0) : (checkT f).1 = 0 ∧ (checkT t).1 = 0 ∧ f.length ≤ 4000 ∧ t.length ≤ 4000 := by
  unfold compileE at h
  split at h
  · cases h
  · rename_i hl
    split at h
    · rename_i h2; exact absurd h h2
    · rename_i h2
      exact ⟨Classical.byContradiction h2, h, by omega, by omega⟩
/-- Apply does Compile's script. -/
theorem apply_compile {f t : Str} (h : compileE f t = 0) : applyT f (compileT f t) = (t, 0, 0) := by
  obtain ⟨h1, h2, h3, h4⟩ := compileE_parts h
  have ha := valid_of_check h1
  have hg := valid_of_check h2
  have hseg := makeT_seg ha hg
  have ec : compileT f t = scriptText (makeT (gather (readNodes (cut f))) (gather (readNodes (cut t)))) := by unfold compileT; rw [if_pos h]
  rw [ec]
  obtain ⟨e1, e2⟩ := readSteps_script (seg_can hseg hg.ok)
  have hl := make_text_len ha hg
  obtain ⟨d1, d2⟩ := seg_does hseg 0
  unfold applyT
  rw [if_neg (by omega), if_neg (by simpa using h1), e1, e2, if_neg (by omega), d1, if_neg (by simp), d2, text_check h2]
end Go.Proofs.YtdcjimlhaklhfabGreatDoor

namespace Go.Proofs.YtdcjimlhaklhfabGreatDoor
open Go.RowKit
/-! The plan in memory: the tree as it is by now, the goal, the steps done. -/
def planX (g : Tr) (v : Value) : Ext := ⟨treeCells g ++ [v], 198⟩
theorem plan_now {x : Ext} {w : World} {b : Nat} {a : Tr} (h : TreeAt x w b a) : CellsAt w b 0 a := by
  intro j hj; rw [Nat.zero_add]; exact h.cell j hj
theorem plan_goal {w : World} {b : Nat} {a g : Tr} {v : Value} (h : TreeAt (planX g v) w b a) : CellsAt w b 400 g := by
  intro j hj
  rw [cell_of_row w b (400 + j) _ _ (0, 0) h]
  simp only [List.getElem?_toArray, planX]
  rw [List.getElem?_append_right (by rw [treeCells_length]; omega), treeCells_length, List.getElem?_append_left (by rw [treeCells_length]; omega), Nat.add_sub_cancel_left]
theorem plan_done {w : World} {b : Nat} {a g : Tr} {v : Value} (h : TreeAt (planX g v) w b a) : w.cell? ⟨b, 800, none⟩ = some v := by
  rw [cell_of_row w b 800 _ _ (0, 0) h]
  simp only [List.getElem?_toArray, planX]
  rw [List.getElem?_append_right (by rw [treeCells_length]; omega), treeCells_length, List.getElem?_append_right (by rw [treeCells_length]; omega), treeCells_length]; rfl
theorem nd_neq' (m n : Nd) : ((m.id == n.id) && ((m.parent == n.parent) && ((bs m.name).toList == (bs n.name).toList))) = ndEq m n := by
  unfold ndEq; rw [names_eq]
theorem Tryz.tnodeGuard : Tryz.prog.eqGuardType Tryz.prog.depth 75 = false := by kernel_rfl
theorem Tryz.tnodeHeld : Tryz.prog.stoodInHeld 75 = false := by kernel_rfl
theorem tnode_eq_run (m n : Nd) (W : World) : (Op.equalIn 10000 75 (.agg #[.int .i64 m.id, .int .i64 m.parent, .string (bs m.name)]) (.agg #[.int .i64 n.id, .int .i64 n.parent, .string (bs n.name)])).run Tryz.prog W = .ok (ndEq m n) W := by
  rw [run_equalIn_agg W 9999 75 _ _ (by simp [Program.fieldsOf, Tryz.underlying75]) Tryz.tnodeHeld]
  simp [Program.fieldsOf, Tryz.underlying75, Op.eqFields, go_sem]
  rw [← nd_neq']
  by_cases h1 : m.id = n.id <;> by_cases h2 : m.parent = n.parent <;> by_cases h3 : (bs m.name).toList = (bs n.name).toList <;> simp [h1, h2, h3]
def stV (s : St) : Value := .agg #[.int .u8 s.kind.toNat, .int .i64 s.node.id, .int .i64 s.node.parent, .string (bs s.node.name)]
def stZ : St := ⟨0, nd0⟩
def homeV (a g : Tr) (id : Int) : St := (homeS a g id).getD stZ
theorem home_split {a g : Tr} (ha : TrOk a) (hg : TrOk g) (m : Nat) :
    (ndEq ((a m).getD nd0) ((g m).getD nd0) = true ∧ homeS a g m = none) ∨
    (ndEq ((a m).getD nd0) ((g m).getD nd0) = false ∧ (g m).isSome = false ∧ homeS a g m = some ⟨45, ⟨m, 0, []⟩⟩) ∨
    (ndEq ((a m).getD nd0) ((g m).getD nd0) = false ∧ (g m).isSome = true ∧ (a m).isSome = false ∧ homeS a g m = some ⟨43, (g m).getD nd0⟩) ∨
    (ndEq ((a m).getD nd0) ((g m).getD nd0) = false ∧ (g m).isSome = true ∧ (a m).isSome = true ∧ homeS a g m = some ⟨61, (g m).getD nd0⟩) := by
  have hz : ∀ t : Tr, TrOk t → ∀ n, t m = some n → n ≠ nd0 := by
    intro t ht n hn e
    have := ht.2 m n hn
    rw [e] at this
    have h0 : nd0.id = 0 := rfl
    omega
  cases h1 : a m with
  | none =>
    cases h2 : g m with
    | none => exact .inl ⟨ndEq_iff.2 rfl, home_none.2 (by simp [h1, h2])⟩
    | some n =>
      refine .inr (.inr (.inl ⟨?_, rfl, rfl, home_new (by simpa using h1) (by simpa using h2)⟩))
      cases hq : ndEq ((none : Option Nd).getD nd0) ((some n).getD nd0)
      · rfl
      · exact absurd (ndEq_iff.1 hq).symm (hz g hg n h2)
  | some k =>
    cases h2 : g m with
    | none =>
      refine .inr (.inl ⟨?_, rfl, home_del (by simpa using h1) (by simpa using h2)⟩)
      cases hq : ndEq ((some k).getD nd0) ((none : Option Nd).getD nd0)
      · rfl
      · exact absurd (ndEq_iff.1 hq) (hz a ha k h1)
    | some n =>
      cases hq : ndEq k n
      · exact .inr (.inr (.inr ⟨hq, rfl, rfl, home_move (by simpa using h1) (by simpa using h2) (fun e => by have := ndEq_iff.2 e; rw [show ndEq k ((some n).getD nd0) = ndEq k n from rfl, hq] at this; cases this)⟩))
      · exact .inl ⟨hq, home_none.2 (by simp [h1, h2, ndEq_iff.1 hq])⟩
set_option maxHeartbeats 4000000 in
set_option maxRecDepth 100000 in
theorem home_nat (a g : Tr) (b m : Nat) (v : Value) (w : World) (ha : TrOk a) (hg : TrOk g) (hm : m ≤ 99) (hT : TreeAt (planX g v) w b a) :
    Calls Tryz.prog 147 #[.pointer (some ⟨b, 0, none⟩), .int .i64 m] w fun e w' => e = .returned (.tuple #[stV (homeV a g m), .bool (homeS a g m).isSome]) ∧ Below w.heap.size w w' := by
  have hlt := hT.lt
  have HC1 := hide (plan_now hT)
  have HC2 := hide (plan_goal hT)
  have HG1 := hide (fun W (h : Below w.heap.size w W) => get_nat a b 0 m W ha hm ((unhide HC1).below h hlt) (by have := h.size; omega))
  have HG2 := hide (fun W (h : Below w.heap.size w W) => get_nat g b 400 m W hg hm ((unhide HC2).below h hlt) (by have := h.size; omega))
  have HH1 := hide (fun W (h : Below w.heap.size w W) => hasAt_nat a b 0 m W ha hm ((unhide HC1).below h hlt))
  have HH2 := hide (fun W (h : Below w.heap.size w W) => hasAt_nat g b 400 m W hg hm ((unhide HC2).below h hlt))
  have hs := home_split ha hg m
  have HV : Hid (homeV a g m = (homeS a g m).getD stZ) := hide rfl
  clear hT ha hg HC1 HC2
  generalize homeV a g m = hv at *
  generalize homeS a g m = hS at *
  have hne := tnode_eq_run ((a m).getD nd0) ((g m).getD nd0)
  have hgd := Tryz.tnodeGuard
  rcases hs with ⟨q1, q2⟩ | ⟨q1, q3, q2⟩ | ⟨q1, q3, q4, q2⟩ | ⟨q1, q3, q4, q2⟩
  · rw [q1] at hne
    subst q2
    generalize (a m).getD nd0 = A0 at *
    generalize (g m).getD nd0 = G0 at *
    go_enter Tryz.func147, Tryz.ntmps147
    go_wp2_with fail
    have hb1 := (Below.refl w.heap.size w).alloc (Nat.le_refl _) (.cells #[.int .u8 0, .int .i64 0, .int .i64 0, .string ByteArray.empty] 169)
    refine (unhide HG1 _ hb1).mono ?_
    rintro e w1 ⟨rfl, hb2⟩
    have hz2 := hb2.size
    simp at hz2
    have hb3 : Below w.heap.size w w1 := hb1.trans (hb2.mono (by simp))
    have hb5 := hb3.alloc (by omega) (.cells #[.int .i64 A0.id, .int .i64 A0.parent, .string (bs A0.name)] 75)
    go_wp2_with fail
    refine (unhide HG2 _ hb5).mono ?_
    rintro e w2 ⟨rfl, hb4⟩
    have hz4 := hb4.size
    simp at hz4
    have hc1 : ∀ o, w2.cell? ⟨w1.heap.size, o, none⟩ = _ := fun o => hb4.cell (p := ⟨w1.heap.size, o, none⟩) (by simp)
    have hb6 := hb2.trans ((((Below.refl _ w1).alloc (Nat.le_refl _) _).trans (hb4.mono (by simp))).mono hb2.size)
    have hc2 : ∀ o, w2.cell? ⟨w.heap.size, o, none⟩ = _ := fun o => hb6.cell (p := ⟨w.heap.size, o, none⟩) (by simp)
    have hf2 : ∀ o, w2.frozen? ⟨w.heap.size, o, none⟩ = _ := fun o => hb6.frozen (p := ⟨w.heap.size, o, none⟩) (by simp)
    have hb7 : Below w.heap.size w w2 := hb5.trans (hb4.mono (by simp; omega))
    have hn1 : ¬ w.heap.size = w2.heap.size := by omega
    have hn2 : ¬ w1.heap.size = w2.heap.size := by omega
    have hn3 : w.heap.size < w2.heap.size := by omega
    have hn4 : w1.heap.size < w2.heap.size := by omega
    have HB7 := hide hb7
    clear hb1 hb2 hb3 hb4 hb5 hb6 hb7
    go_wp2
    refine bodyPost_ret (v := .tuple #[.agg #[.int .u8 0, .int .i64 0, .int .i64 0, .string ByteArray.empty], .bool false]) (by simp [results, Tryz.results147, go_sem, hc2, hn3]; rfl) rfl ⟨by rw [unhide HV]; rfl, ?_⟩
    exact (((((unhide HB7).setCell (Nat.le_refl _) _).setCell (Nat.le_refl _) _).setCell (Nat.le_refl _) _).setCell (Nat.le_refl _) _).alloc (by simp; omega) _
  · rw [q1] at hne
    rw [q3] at HH2
    subst q2
    generalize (a m).getD nd0 = A0 at *
    generalize (g m).getD nd0 = G0 at *
    go_enter Tryz.func147, Tryz.ntmps147
    go_wp2_with fail
    have hb1 := (Below.refl w.heap.size w).alloc (Nat.le_refl _) (.cells #[.int .u8 0, .int .i64 0, .int .i64 0, .string ByteArray.empty] 169)
    refine (unhide HG1 _ hb1).mono ?_
    rintro e w1 ⟨rfl, hb2⟩
    have hz2 := hb2.size
    simp at hz2
    have hb3 : Below w.heap.size w w1 := hb1.trans (hb2.mono (by simp))
    have hb5 := hb3.alloc (by omega) (.cells #[.int .i64 A0.id, .int .i64 A0.parent, .string (bs A0.name)] 75)
    go_wp2_with fail
    refine (unhide HG2 _ hb5).mono ?_
    rintro e w2 ⟨rfl, hb4⟩
    have hz4 := hb4.size
    simp at hz4
    have hc1 : ∀ o, w2.cell? ⟨w1.heap.size, o, none⟩ = _ := fun o => hb4.cell (p := ⟨w1.heap.size, o, none⟩) (by simp)
    have hb6 := hb2.trans ((((Below.refl _ w1).alloc (Nat.le_refl _) _).trans (hb4.mono (by simp))).mono hb2.size)
    have hc2 : ∀ o, w2.cell? ⟨w.heap.size, o, none⟩ = _ := fun o => hb6.cell (p := ⟨w.heap.size, o, none⟩) (by simp)
    have hf2 : ∀ o, w2.frozen? ⟨w.heap.size, o, none⟩ = _ := fun o => hb6.frozen (p := ⟨w.heap.size, o, none⟩) (by simp)
    have hb7 : Below w.heap.size w w2 := hb5.trans (hb4.mono (by simp; omega))
    have hn1 : ¬ w.heap.size = w2.heap.size := by omega
    have hn2 : ¬ w1.heap.size = w2.heap.size := by omega
    have hn3 : w.heap.size < w2.heap.size := by omega
    have hn4 : w1.heap.size < w2.heap.size := by omega
    have HB7 := hide hb7
    clear hb1 hb2 hb3 hb4 hb5 hb6 hb7
    go_wp2_with fail
    refine (unhide HH2 _ ((unhide HB7).alloc (by omega) _)).mono ?_
    rintro e w3 ⟨rfl, rfl⟩
    go_wp2
    refine bodyPost_ret (v := .tuple #[.agg #[.int .u8 45, .int .i64 m, .int .i64 0, .string ByteArray.empty], .bool true]) (by simp [results, Tryz.results147, go_sem, hc2, hn3]; rfl) rfl ⟨by rw [unhide HV]; rfl, ?_⟩
    exact (((((unhide HB7).setCell (Nat.le_refl _) _).setCell (Nat.le_refl _) _).setCell (Nat.le_refl _) _).setCell (Nat.le_refl _) _).alloc (by simp; omega) _
  · rw [q1] at hne
    rw [q3] at HH2
    rw [q4] at HH1
    subst q2
    generalize (a m).getD nd0 = A0 at *
    generalize (g m).getD nd0 = G0 at *
    go_enter Tryz.func147, Tryz.ntmps147
    go_wp2_with fail
    have hb1 := (Below.refl w.heap.size w).alloc (Nat.le_refl _) (.cells #[.int .u8 0, .int .i64 0, .int .i64 0, .string ByteArray.empty] 169)
    refine (unhide HG1 _ hb1).mono ?_
    rintro e w1 ⟨rfl, hb2⟩
    have hz2 := hb2.size
    simp at hz2
    have hb3 : Below w.heap.size w w1 := hb1.trans (hb2.mono (by simp))
    have hb5 := hb3.alloc (by omega) (.cells #[.int .i64 A0.id, .int .i64 A0.parent, .string (bs A0.name)] 75)
    go_wp2_with fail
    refine (unhide HG2 _ hb5).mono ?_
    rintro e w2 ⟨rfl, hb4⟩
    have hz4 := hb4.size
    simp at hz4
    have hc1 : ∀ o, w2.cell? ⟨w1.heap.size, o, none⟩ = _ := fun o => hb4.cell (p := ⟨w1.heap.size, o, none⟩) (by simp)
    have hb6 := hb2.trans ((((Below.refl _ w1).alloc (Nat.le_refl _) _).trans (hb4.mono (by simp))).mono hb2.size)
    have hc2 : ∀ o, w2.cell? ⟨w.heap.size, o, none⟩ = _ := fun o => hb6.cell (p := ⟨w.heap.size, o, none⟩) (by simp)
    have hf2 : ∀ o, w2.frozen? ⟨w.heap.size, o, none⟩ = _ := fun o => hb6.frozen (p := ⟨w.heap.size, o, none⟩) (by simp)
    have hb7 : Below w.heap.size w w2 := hb5.trans (hb4.mono (by simp; omega))
    have hn1 : ¬ w.heap.size = w2.heap.size := by omega
    have hn2 : ¬ w1.heap.size = w2.heap.size := by omega
    have hn3 : w.heap.size < w2.heap.size := by omega
    have hn4 : w1.heap.size < w2.heap.size := by omega
    have HB7 := hide hb7
    clear hb1 hb2 hb3 hb4 hb5 hb6 hb7
    go_wp2_with fail
    refine (unhide HH2 _ ((unhide HB7).alloc (by omega) _)).mono ?_
    rintro e w3 ⟨rfl, rfl⟩
    go_wp2_with fail
    refine (unhide HH1 _ ((unhide HB7).alloc (by omega) _)).mono ?_
    rintro e w3 ⟨rfl, rfl⟩
    go_wp2
    refine bodyPost_ret (v := .tuple #[.agg #[.int .u8 43, .int .i64 G0.id, .int .i64 G0.parent, .string (bs G0.name)], .bool true]) (by simp [results, Tryz.results147, go_sem, hc2, hn3]) rfl ⟨by rw [unhide HV]; rfl, ?_⟩
    exact (((((unhide HB7).setCell (Nat.le_refl _) _).setCell (Nat.le_refl _) _).setCell (Nat.le_refl _) _).setCell (Nat.le_refl _) _).alloc (by simp; omega) _
  · rw [q1] at hne
    rw [q3] at HH2
    rw [q4] at HH1
    subst q2
    generalize (a m).getD nd0 = A0 at *
    generalize (g m).getD nd0 = G0 at *
    go_enter Tryz.func147, Tryz.ntmps147
    go_wp2_with fail
    have hb1 := (Below.refl w.heap.size w).alloc (Nat.le_refl _) (.cells #[.int .u8 0, .int .i64 0, .int .i64 0, .string ByteArray.empty] 169)
    refine (unhide HG1 _ hb1).mono ?_
    rintro e w1 ⟨rfl, hb2⟩
    have hz2 := hb2.size
    simp at hz2
    have hb3 : Below w.heap.size w w1 := hb1.trans (hb2.mono (by simp))
    have hb5 := hb3.alloc (by omega) (.cells #[.int .i64 A0.id, .int .i64 A0.parent, .string (bs A0.name)] 75)
    go_wp2_with fail
    refine (unhide HG2 _ hb5).mono ?_
    rintro e w2 ⟨rfl, hb4⟩
    have hz4 := hb4.size
    simp at hz4
    have hc1 : ∀ o, w2.cell? ⟨w1.heap.size, o, none⟩ = _ := fun o => hb4.cell (p := ⟨w1.heap.size, o, none⟩) (by simp)
    have hb6 := hb2.trans ((((Below.refl _ w1).alloc (Nat.le_refl _) _).trans (hb4.mono (by simp))).mono hb2.size)
    have hc2 : ∀ o, w2.cell? ⟨w.heap.size, o, none⟩ = _ := fun o => hb6.cell (p := ⟨w.heap.size, o, none⟩) (by simp)
    have hf2 : ∀ o, w2.frozen? ⟨w.heap.size, o, none⟩ = _ := fun o => hb6.frozen (p := ⟨w.heap.size, o, none⟩) (by simp)
    have hb7 : Below w.heap.size w w2 := hb5.trans (hb4.mono (by simp; omega))
    have hn1 : ¬ w.heap.size = w2.heap.size := by omega
    have hn2 : ¬ w1.heap.size = w2.heap.size := by omega
    have hn3 : w.heap.size < w2.heap.size := by omega
    have hn4 : w1.heap.size < w2.heap.size := by omega
    have HB7 := hide hb7
    clear hb1 hb2 hb3 hb4 hb5 hb6 hb7
    go_wp2_with fail
    refine (unhide HH2 _ ((unhide HB7).alloc (by omega) _)).mono ?_
    rintro e w3 ⟨rfl, rfl⟩
    go_wp2_with fail
    refine (unhide HH1 _ ((unhide HB7).alloc (by omega) _)).mono ?_
    rintro e w3 ⟨rfl, rfl⟩
    go_wp2
    refine bodyPost_ret (v := .tuple #[.agg #[.int .u8 61, .int .i64 G0.id, .int .i64 G0.parent, .string (bs G0.name)], .bool true]) (by simp [results, Tryz.results147, go_sem, hc2, hn3]) rfl ⟨by rw [unhide HV]; rfl, ?_⟩
    exact (((((unhide HB7).setCell (Nat.le_refl _) _).setCell (Nat.le_refl _) _).setCell (Nat.le_refl _) _).setCell (Nat.le_refl _) _).alloc (by simp; omega) _
end Go.Proofs.YtdcjimlhaklhfabGreatDoor

namespace Go.Proofs.YtdcjimlhaklhfabGreatDoor
open Go.RowKit
/-- What is laid into a slot, by another name. -/
theorem put_as {K : Act → World → Prop} {a : Act} {d : Option Nat} {v v' : Value} {w : World} (h : v = v') (k : K (a.put d v') w) : K (a.put d v) w := h ▸ k
theorem home_any (a g : Tr) (b : Nat) (id : Int) (v : Value) (w : World) (ha : TrOk a) (hg : TrOk g) (h0 : 0 ≤ id) (h1 : id ≤ 99) (hT : TreeAt (planX g v) w b a) :
    Calls Tryz.prog 147 #[.pointer (some ⟨b, 0, none⟩), .int .i64 id] w fun e w' => e = .returned (.tuple #[.agg #[.int .u8 (homeV a g id).kind.toNat, .int .i64 (homeV a g id).node.id, .int .i64 (homeV a g id).node.parent, .string (bs (homeV a g id).node.name)], .bool (homeS a g id).isSome]) ∧ Below w.heap.size w w' := by
  obtain ⟨m, rfl⟩ := Int.eq_ofNat_of_zero_le h0
  exact home_nat a g b m v w ha hg (by omega) hT
theorem get_any (t : Tr) (b o : Nat) (id : Int) (w : World) (ht : TrOk t) (h0 : 0 ≤ id) (h1 : id ≤ 99) (hT : CellsAt w b o t) (hlt : b < w.heap.size) :
    Calls Tryz.prog 98 #[.pointer (some ⟨b, o, none⟩), .int .i64 id] w fun e w' => e = .returned (.agg #[.int .i64 (getT t id).id, .int .i64 (getT t id).parent, .string (bs (getT t id).name)]) ∧ Below w.heap.size w w' := by
  obtain ⟨m, rfl⟩ := Int.eq_ofNat_of_zero_le h0
  exact get_nat t b o m w ht (by omega) hT hlt
theorem getT_parent {t : Tr} (ht : TrOk t) (id : Int) : 0 ≤ (getT t id).parent ∧ (getT t id).parent ≤ 99 := by
  unfold getT
  cases h : t id.toNat with
  | none => simp [nd0]
  | some n => have := ht.2 _ n h; exact ⟨this.2.2.2.1, this.2.2.2.2.1⟩
theorem fromAway_hit {a g : Tr} {f : Nat} {m : Int} (h : (homeS a g m).isSome = true) : fromAwayF a g (f + 1) m = m := by rw [fromAwayF, if_pos h]
theorem fromAway_go {a g : Tr} {f : Nat} {m : Int} (h : (homeS a g m).isSome = false) : fromAwayF a g (f + 1) m = fromAwayF a g f (getT a m).parent := by rw [fromAwayF, if_neg (by rw [h]; simp)]
set_option maxHeartbeats 2000000 in
set_option maxRecDepth 100000 in
theorem fromAway_any (a g : Tr) (b : Nat) (id : Int) (v : Value) (w : World) (ha : TrOk a) (hg : TrOk g) (h0 : 0 ≤ id) (h1 : id ≤ 99) (hT : TreeAt (planX g v) w b a) :
    Calls Tryz.prog 172 #[.pointer (some ⟨b, 0, none⟩), .int .i64 id] w fun e w' => e = .returned (.int .i64 (fromAwayF a g 99 id)) ∧ Below w.heap.size w w' := by
  have HT := hide hT
  have hlt := hT.lt
  generalize hF : fromAwayF a g 99 id = F
  have HF : Hid (F = fromAwayF a g 99 id) := hide hF.symm
  have HH := hide (fun W (m : Int) (q0 : 0 ≤ m) (q1 : m ≤ 99) (h : Below w.heap.size w W) => home_any a g b m v W ha hg q0 q1 (hT.below h))
  have HG := hide (fun W (m : Int) (q0 : 0 ≤ m) (q1 : m ≤ 99) (h : Below w.heap.size w W) => get_any a b 0 m W ha q0 q1 (plan_now (hT.below h)) (by have := h.size; omega))
  have HP := hide (fun m => getT_parent ha m)
  clear hT ha hg hF
  go_enter Tryz.func172, Tryz.ntmps172
  go_wp2
  go_loopw [1, 5] (fun d i wr => ∃ k : Nat, ∃ m : Int, k ≤ 99 ∧ i = .int .i64 k ∧ d = .int .i64 m ∧ 0 ≤ m ∧ m ≤ 99 ∧ Below w.heap.size w wr ∧ Hid (F = fromAwayF a g (99 - k) m)) (fun _ i _ => 100 - (intOf i).toNat)
  case atStart => exact ⟨0, id, by omega, rfl, rfl, h0, h1, Below.refl _ _, HF⟩
  case round =>
    obtain ⟨k, m, hk, rfl, rfl, hm0, hm1, hbel, HI⟩ := hrel
    have hsz := hbel.size
    by_cases hkk : k < 99
    · have hf : 99 - k = (98 - k) + 1 := by omega
      have HI2 : Hid (F = fromAwayF a g ((98 - k) + 1) m) := by apply hide; rw [← hf]; exact unhide HI
      clear hf HI
      have HH1 := hide (unhide HH wr m hm0 hm1 hbel)
      cases hq : (homeS a g m).isSome
      · have HN := hide ((unhide HI2).trans (fromAway_go hq))
        rw [hq] at HH1
        have hp := unhide HP m
        clear hq
        generalize homeV a g m = hv at *
        go_wp2_with fail
        refine (unhide HH1).mono ?_
        rintro e w1 ⟨rfl, hb1⟩
        have hz1 := hb1.size
        have hb2 := (hbel.trans (hb1.mono hsz)).alloc (by omega) (.cells #[.int .u8 hv.kind.toNat, .int .i64 hv.node.id, .int .i64 hv.node.parent, .string (bs hv.node.name)] 169)
        go_wp2_with fail
        refine (unhide HG _ m hm0 hm1 hb2).mono ?_
        rintro e w2 ⟨rfl, hb3⟩
        have hb4 := hb2.trans (hb3.mono hb2.size)
        generalize (getT a m).parent = p at *
        clear hbel hb1 hb2 hb3
        go_wp2
        refine put_as (v' := .int .i64 p) rfl ?_
        go_wp2
        go_roundw
        case rel => exact ⟨k + 1, p, by omega, by go_num, rfl, hp.1, hp.2, hb4, by apply hide; rw [show 99 - (k + 1) = 98 - k by omega]; exact unhide HN⟩
        case measure => simp [intOf]; omega
      · have HN := hide ((unhide HI2).trans (fromAway_hit hq))
        rw [hq] at HH1
        clear hq
        generalize homeV a g m = hv at *
        go_wp2_with fail
        refine (unhide HH1).mono ?_
        rintro e w1 ⟨rfl, hb1⟩
        have hz1 := hb1.size
        have HB := hide ((hbel.trans (hb1.mono hsz)).alloc (by omega) (.cells #[.int .u8 hv.kind.toNat, .int .i64 hv.node.id, .int .i64 hv.node.parent, .string (bs hv.node.name)] 169))
        clear hbel hb1
        go_wp2
        go_ret
        exact ⟨ret_int (unhide HN).symm, unhide HB⟩
    · have HN : Hid (F = 0) := by apply hide; rw [unhide HI, show 99 - k = 0 by omega]; rfl
      go_wp2
      go_ret
      exact ⟨ret_int (unhide HN).symm, hbel⟩
end Go.Proofs.YtdcjimlhaklhfabGreatDoor

namespace Go.Proofs.YtdcjimlhaklhfabGreatDoor
open Go.RowKit
theorem quiet_add2 {P : Program} {f : FuncId} {args : Array Value} {w : World} {a n : Nat} {v : Value}
    (h : Calls P f args (w.drewN (a + n)) fun e w' => e = .returned v ∧ w' = w.drewN (a + n)) : Calls P f args (w.drewN (a + n)) fun e w'' => e = .returned v ∧ ∃ m, w'' = w.drewN (a + m) :=
  h.mono fun _ _ ⟨he, hm⟩ => ⟨he, n, hm⟩
theorem inWay_1 {a g : Tr} {n : Nd} (h : isParentT a n.parent = false) : inWay a g n = n.parent := by unfold inWay; rw [h]; rfl
theorem inWay_2 {a g : Tr} {n : Nd} (h : isParentT a n.parent = true) (h2 : meetsT a n.parent n.id = true) : inWay a g n = fromAwayF a g 99 n.parent := by unfold inWay; rw [h, h2]; rfl
theorem inWay_3 {a g : Tr} {n : Nd} (h : isParentT a n.parent = true) (h2 : meetsT a n.parent n.id = false) : inWay a g n = atT a n.parent n.name := by unfold inWay; rw [h, h2]; rfl
set_option maxHeartbeats 2000000 in
set_option maxRecDepth 100000 in
theorem inWay_any (a g : Tr) (b : Nat) (n : Nd) (v : Value) (w : World) (ha : TrOk a) (hg : TrOk g) (h0 : 0 ≤ n.parent) (h1 : n.parent ≤ 99) (hT : TreeAt (planX g v) w b a) :
    Calls Tryz.prog 169 #[.pointer (some ⟨b, 0, none⟩), .agg #[.int .i64 n.id, .int .i64 n.parent, .string (bs n.name)]] w fun e w' => e = .returned (.int .i64 (inWay a g n)) ∧ Below w.heap.size w w' := by
  have hb1 := (Below.refl w.heap.size w).alloc (Nat.le_refl _) (.cells #[.int .i64 n.id, .int .i64 n.parent, .string (bs n.name)] 75)
  have HT1 := hide (hT.below hb1)
  have HP := hide (fun W (h : TreeAt (planX g v) W b a) => isParent_any a b n.parent W ha h0 h1 h)
  have HM := hide (fun W (h : TreeAt (planX g v) W b a) => meets_any a b n.parent n.id W ha h0 h1 h)
  have HA := hide (fun W (h : TreeAt (planX g v) W b a) => at_any a b n.parent n.name W h)
  have HF := hide (fun W (h : TreeAt (planX g v) W b a) => fromAway_any a g b n.parent v W ha hg h0 h1 h)
  have HB := hide hb1
  have hlt := hT.lt
  clear hb1 hT ha hg
  cases hp : isParentT a n.parent
  · rw [inWay_1 hp]
    rw [hp] at HP
    go_enter Tryz.func169, Tryz.ntmps169
    go_wp2_with fail
    go_quiet ((go_at_call 132; exact Calls.quiet_of_same (unhide HP _ (unhide HT1))))
    go_wp2
    go_ret
    exact ⟨rfl, below_drewN (unhide HB) _⟩
  · rw [hp] at HP
    cases hm : meetsT a n.parent n.id
    · rw [inWay_3 hp hm]
      rw [hm] at HM
      go_enter Tryz.func169, Tryz.ntmps169
      go_wp2_with fail
      go_quiet ((go_at_call 132; exact Calls.quiet_of_same (unhide HP _ (unhide HT1))))
      go_wp2_with fail
      go_quiet ((go_at_call 61; exact quiet_add2 (unhide HM _ (unhide HT1))))
      go_wp2_with fail
      go_quiet ((go_at_call 99; exact quiet_add2 (unhide HA _ (unhide HT1))))
      go_wp2
      go_ret
      exact ⟨rfl, below_drewN (below_drewN (below_drewN (unhide HB) _) _) _⟩
    · rw [inWay_2 hp hm]
      rw [hm] at HM
      go_enter Tryz.func169, Tryz.ntmps169
      go_wp2_with fail
      go_quiet ((go_at_call 132; exact Calls.quiet_of_same (unhide HP _ (unhide HT1))))
      go_wp2_with fail
      go_quiet ((go_at_call 61; exact quiet_add2 (unhide HM _ (unhide HT1))))
      go_wp2_with fail
      refine (unhide HF _ (by exact unhide HT1)).mono ?_
      rintro e w2 ⟨rfl, hb2⟩
      have HB2 := hide ((below_drewN (unhide HB) _).trans (hb2.mono (by simp)))
      clear hb2
      go_wp2
      go_ret
      exact ⟨rfl, unhide HB2⟩
theorem blocker_0 {a g : Tr} {id : Int} (h : homeS a g id = none) : blocker a g id = 0 ∧ homeV a g id = stZ := by unfold blocker homeV; rw [h]; exact ⟨rfl, rfl⟩
theorem blocker_1 {a g : Tr} {id : Int} {s : St} (h : homeS a g id = some s) (hk : s.kind = 45) : blocker a g id = kidT a id ∧ homeV a g id = s := by unfold blocker homeV; rw [h]; exact ⟨if_pos hk, rfl⟩
theorem blocker_2 {a g : Tr} {id : Int} {s : St} (h : homeS a g id = some s) (hk : ¬ s.kind = 45) : blocker a g id = inWay a g s.node ∧ homeV a g id = s := by unfold blocker homeV; rw [h]; exact ⟨if_neg hk, rfl⟩
set_option maxHeartbeats 2000000 in
set_option maxRecDepth 100000 in
theorem blocker_any (a g : Tr) (b : Nat) (id : Int) (v : Value) (w : World) (ha : TrOk a) (hg : TrOk g) (h0 : 0 ≤ id) (h1 : id ≤ 99) (hT : TreeAt (planX g v) w b a) :
    Calls Tryz.prog 162 #[.pointer (some ⟨b, 0, none⟩), .int .i64 id] w fun e w' => e = .returned (.int .i64 (blocker a g id)) ∧ Below w.heap.size w w' := by
  have HH := hide (home_any a g b id v w ha hg h0 h1 hT)
  have hlt := hT.lt
  cases hq : homeS a g id with
  | none =>
    obtain ⟨e1, e2⟩ := blocker_0 hq
    rw [e1]
    rw [e2, hq] at HH
    clear e1 e2 hq hT ha hg
    go_enter Tryz.func162, Tryz.ntmps162
    go_wp2_with fail
    refine (unhide HH).mono ?_
    rintro e w1 ⟨rfl, hb1⟩
    have HB := hide (hb1.alloc hb1.size (.cells #[.int .u8 stZ.kind.toNat, .int .i64 stZ.node.id, .int .i64 stZ.node.parent, .string (bs stZ.node.name)] 169))
    have hkz : stZ.kind.toNat = 0 := rfl
    clear hb1
    go_wp2
    go_ret
    exact ⟨rfl, unhide HB⟩
  | some s =>
    have hT' := hT
    rcases home_cases hq with ⟨e, hgn, m, hm⟩ | ⟨n, e, hgn, hn⟩ | ⟨n, m, e, hgn, hm, _⟩
    · obtain ⟨e1, e2⟩ := blocker_1 hq (by rw [e])
      rw [e1]
      rw [e2, hq, e] at HH
      have HK := hide (fun W (h : TreeAt (planX g v) W b a) => kid_any a b id W h)
      have HT := hide hT
      clear e1 e2 hq hT ha hg e hgn hm hT'
      go_enter Tryz.func162, Tryz.ntmps162
      go_wp2_with fail
      refine (unhide HH).mono ?_
      rintro e w1 ⟨rfl, hb1⟩
      have HB := hide (hb1.alloc hb1.size (.cells #[.int .u8 45, .int .i64 id, .int .i64 0, .string (bs [])] 169))
      have HT1 := hide ((unhide HT).below (unhide HB))
      clear hb1
      go_wp2_with fail
      refine (unhide HK _ (by exact unhide HT1)).mono ?_
      rintro e w2 ⟨rfl, rfl⟩
      go_wp2
      go_ret
      exact ⟨rfl, unhide HB⟩
    · obtain ⟨e1, e2⟩ := blocker_2 hq (by rw [e]; show ¬ ((43 : UInt8) = 45); decide)
      rw [e1]
      rw [e2, hq] at HH
      subst e
      have hb := trOk_id hg h0 hgn
      have HI := hide (fun W (h : TreeAt (planX g v) W b a) => inWay_any a g b n v W ha hg hb.2.2.2.2.2.1 hb.2.2.2.2.2.2.1 h)
      have HT := hide hT
      clear e1 e2 hq hT ha hg hgn hn hT' hb
      go_enter Tryz.func162, Tryz.ntmps162
      go_wp2_with fail
      refine (unhide HH).mono ?_
      rintro e w1 ⟨rfl, hb1⟩
      have HB := hide (hb1.alloc hb1.size (.cells #[.int .u8 43, .int .i64 n.id, .int .i64 n.parent, .string (bs n.name)] 169))
      have HT1 := hide ((unhide HT).below (unhide HB))
      clear hb1
      go_wp2_with fail
      refine (unhide HI _ (by exact unhide HT1)).mono ?_
      rintro e w2 ⟨rfl, hb2⟩
      have HB2 := hide ((unhide HB).trans (hb2.mono (by have := (unhide HB).size; exact this)))
      clear hb2
      go_wp2
      go_ret
      exact ⟨rfl, unhide HB2⟩
    · obtain ⟨e1, e2⟩ := blocker_2 hq (by rw [e]; show ¬ ((61 : UInt8) = 45); decide)
      rw [e1]
      rw [e2, hq] at HH
      subst e
      have hb := trOk_id hg h0 hgn
      have HI := hide (fun W (h : TreeAt (planX g v) W b a) => inWay_any a g b n v W ha hg hb.2.2.2.2.2.1 hb.2.2.2.2.2.2.1 h)
      have HT := hide hT
      clear e1 e2 hq hT ha hg hgn hm hT' hb
      go_enter Tryz.func162, Tryz.ntmps162
      go_wp2_with fail
      refine (unhide HH).mono ?_
      rintro e w1 ⟨rfl, hb1⟩
      have HB := hide (hb1.alloc hb1.size (.cells #[.int .u8 61, .int .i64 n.id, .int .i64 n.parent, .string (bs n.name)] 169))
      have HT1 := hide ((unhide HT).below (unhide HB))
      clear hb1
      go_wp2_with fail
      refine (unhide HI _ (by exact unhide HT1)).mono ?_
      rintro e w2 ⟨rfl, hb2⟩
      have HB2 := hide ((unhide HB).trans (hb2.mono (by have := (unhide HB).size; exact this)))
      clear hb2
      go_wp2
      go_ret
      exact ⟨rfl, unhide HB2⟩
end Go.Proofs.YtdcjimlhaklhfabGreatDoor

namespace Go.Proofs.YtdcjimlhaklhfabGreatDoor
open Go.RowKit
set_option maxHeartbeats 2000000 in
set_option maxRecDepth 100000 in
theorem firstAway_any (a g : Tr) (b : Nat) (v : Value) (w : World) (ha : TrOk a) (hg : TrOk g) (hT : TreeAt (planX g v) w b a) :
    Calls Tryz.prog 161 #[.pointer (some ⟨b, 0, none⟩)] w fun e w' => e = .returned (.int .i64 (firstAway a g)) ∧ Below w.heap.size w w' := by
  have hlt := hT.lt
  have HH := hide (fun W (m : Int) (q0 : 0 ≤ m) (q1 : m ≤ 99) (h : Below w.heap.size w W) => home_any a g b m v W ha hg q0 q1 (hT.below h))
  clear hT ha hg
  go_enter Tryz.func161, Tryz.ntmps161
  go_wp2
  go_loopw [3] (fun i wr => ∃ k : Nat, 1 ≤ k ∧ k ≤ 100 ∧ i = .int .i64 k ∧ Below w.heap.size w wr ∧ Hid (NoIn (awayIs a g) 1 k)) (fun i _ => 101 - (intOf i).toNat)
  case atStart => exact ⟨1, by omega, by omega, rfl, Below.refl _ _, hide (fun j h1 h2 => by omega)⟩
  case round =>
    obtain ⟨k, hk1, hk, rfl, hbel, HN⟩ := hrel
    have hsz := hbel.size
    by_cases hlt2 : k ≤ 99
    · have HH1 := hide (unhide HH wr k (by omega) (by omega) hbel)
      cases hq : (homeS a g k).isSome
      · have HN2 := hide (noIn_succ (unhide HN) (show awayIs a g k = false from hq))
        rw [hq] at HH1
        clear hq
        generalize homeV a g k = hv at *
        go_wp2_with fail
        refine (unhide HH1).mono ?_
        rintro e w1 ⟨rfl, hb1⟩
        have hb2 := (hbel.trans (hb1.mono hsz)).alloc (by have := hb1.size; omega) (.cells #[.int .u8 hv.kind.toNat, .int .i64 hv.node.id, .int .i64 hv.node.parent, .string (bs hv.node.name)] 169)
        clear hbel hb1
        go_wp2
        go_roundw
        case rel => exact ⟨k + 1, by omega, by omega, by go_num, hb2, HN2⟩
        case measure => simp [intOf]; omega
      · have HS : Hid (firstAway a g = k) := by
          apply hide
          have e : scan (awayIs a g) 1 100 = k := scan_hit hk1 (by omega) hq (unhide HN)
          unfold firstAway; rw [e, if_pos (by omega)]
        rw [hq] at HH1
        clear hq
        generalize homeV a g k = hv at *
        go_wp2_with fail
        refine (unhide HH1).mono ?_
        rintro e w1 ⟨rfl, hb1⟩
        have HB2 := hide ((hbel.trans (hb1.mono hsz)).alloc (by have := hb1.size; omega) (.cells #[.int .u8 hv.kind.toNat, .int .i64 hv.node.id, .int .i64 hv.node.parent, .string (bs hv.node.name)] 169))
        clear hbel hb1
        go_wp2
        go_ret
        exact ⟨ret_int (unhide HS).symm, unhide HB2⟩
    · have HS : Hid (firstAway a g = 0) := by
        apply hide
        have e : scan (awayIs a g) 1 100 = 100 := scan_none (fun j h1 h2 => unhide HN j h1 (by omega))
        unfold firstAway; rw [e, if_neg (by omega)]
      go_wp2
      go_ret
      exact ⟨ret_int (unhide HS).symm, hbel⟩
/-! The knot. -/
theorem fromAway_bd {a g : Tr} (ha : TrOk a) : ∀ (f : Nat) (p : Int), 0 ≤ p → p ≤ 99 → 0 ≤ fromAwayF a g f p ∧ fromAwayF a g f p ≤ 99 := by
  intro f
  induction f with
  | zero => intro p _ _; simp [fromAwayF]
  | succ f ih =>
    intro p h0 h1
    rw [fromAwayF]
    split
    · exact ⟨h0, h1⟩
    · have := getT_parent ha p; exact ih _ this.1 this.2
theorem blocker_bd {a g : Tr} (ha : TrOk a) (hg : TrOk g) {id : Int} (h0 : 0 ≤ id) : 0 ≤ blocker a g id ∧ blocker a g id ≤ 99 := by
  have hat : ∀ p s, 0 ≤ atT a p s ∧ atT a p s ≤ 99 := by
    intro p s; unfold atT; split <;> omega
  have hk : 0 ≤ kidT a id ∧ kidT a id ≤ 99 := by unfold kidT; split <;> omega
  unfold blocker
  cases hq : homeS a g id with
  | none => simp
  | some s =>
    simp only
    split
    · exact hk
    · rename_i hk45
      have hn : 0 ≤ s.node.parent ∧ s.node.parent ≤ 99 := by
        rcases home_cases hq with ⟨e, _⟩ | ⟨n, e, hgn, _⟩ | ⟨n, _, e, hgn, _⟩
        · rw [e] at hk45; exact absurd rfl hk45
        · have := (trOk_id hg h0 hgn).2.2.2; rw [e]; exact ⟨this.2.2.1, this.2.2.2.1⟩
        · have := (trOk_id hg h0 hgn).2.2.2; rw [e]; exact ⟨this.2.2.1, this.2.2.2.1⟩
      unfold inWay
      split
      · exact hn
      · split
        · exact fromAway_bd ha 99 _ hn.1 hn.2
        · exact hat _ _
theorem firstAway_bd (a g : Tr) : 0 ≤ firstAway a g ∧ firstAway a g ≤ 99 := by unfold firstAway; split <;> omega
theorem seek_hit' {a g : Tr} {f : Nat} {m : Int} (h : isMove a g m = true) : seekF a g (f + 1) m = m := by rw [seekF, if_pos h]
theorem seek_go {a g : Tr} {f : Nat} {m : Int} (h : isMove a g m = false) : seekF a g (f + 1) m = seekF a g f (blocker a g m) := by rw [seekF, if_neg (by rw [h]; simp)]
theorem isMove_kind (a g : Tr) (m : Int) : isMove a g m = (((homeV a g m).kind.toNat : Int) == 61) := by
  unfold isMove homeV
  cases homeS a g m with
  | none => rfl
  | some s =>
    show (s.kind == 61) = ((s.kind.toNat : Int) == 61)
    rw [Bool.eq_iff_iff, beq_iff_eq, beq_iff_eq]
    constructor
    · intro h; rw [h]; rfl
    · intro h; exact UInt8.toNat_inj.1 (by show s.kind.toNat = 61; omega)
set_option maxHeartbeats 2000000 in
set_option maxRecDepth 100000 in
theorem knot_any (a g : Tr) (b : Nat) (v : Value) (w : World) (ha : TrOk a) (hg : TrOk g) (hT : TreeAt (planX g v) w b a) :
    Calls Tryz.prog 149 #[.pointer (some ⟨b, 0, none⟩)] w fun e w' => e = .returned (.int .i64 (knotT a g)) ∧ Below w.heap.size w w' := by
  have hlt := hT.lt
  have HH := hide (fun W (m : Int) (q0 : 0 ≤ m) (q1 : m ≤ 99) (h : Below w.heap.size w W) => home_any a g b m v W ha hg q0 q1 (hT.below h))
  have HBL := hide (fun W (m : Int) (q0 : 0 ≤ m) (q1 : m ≤ 99) (h : Below w.heap.size w W) => blocker_any a g b m v W ha hg q0 q1 (hT.below h))
  have HFA := hide (firstAway_any a g b v w ha hg hT)
  have HBB := hide (fun (m : Int) (q0 : 0 ≤ m) => blocker_bd (a := a) (g := g) ha hg q0)
  have hfb := firstAway_bd a g
  have HK : Hid (knotT a g = seekF a g 99 (iter (blocker a g) 99 (firstAway a g))) := hide rfl
  clear hT ha hg
  generalize knotT a g = F at *
  generalize hfa : firstAway a g = fa at *
  clear hfa
  go_enter Tryz.func149, Tryz.ntmps149
  go_wp2_with fail
  refine (unhide HFA).mono ?_
  rintro e w0 ⟨rfl, hb0⟩
  go_wp2_with fail
  go_loopw [3, 4] (fun d i wr => ∃ k : Nat, ∃ m : Int, k ≤ 99 ∧ i = .int .i64 k ∧ d = .int .i64 m ∧ 0 ≤ m ∧ m ≤ 99 ∧ Below w.heap.size w wr ∧ Hid (F = seekF a g 99 (iter (blocker a g) (99 - k) m))) (fun _ i _ => 100 - (intOf i).toNat)
  case atStart => exact ⟨0, fa, by omega, rfl, rfl, hfb.1, hfb.2, hb0, HK⟩
  case round =>
    obtain ⟨k, m, hk, rfl, rfl, hm0, hm1, hbel, HI⟩ := hrel
    have hsz := hbel.size
    by_cases hkk : k < 99
    · have HI2 : Hid (F = seekF a g 99 (iter (blocker a g) (98 - k) (blocker a g m))) := by
        apply hide; rw [unhide HI, show 99 - k = (98 - k) + 1 by omega]; rfl
      have hbb := unhide HBB m hm0
      have HB1 := hide (unhide HBL wr m hm0 hm1 hbel)
      generalize blocker a g m = y at *
      clear HI
      go_wp2_with fail
      refine (unhide HB1).mono ?_
      rintro e w1 ⟨rfl, hb1⟩
      have hb2 := hbel.trans (hb1.mono hsz)
      clear hbel hb1
      go_wp2
      go_roundw
      case rel => exact ⟨k + 1, y, by omega, by go_num, rfl, hbb.1, hbb.2, hb2, by apply hide; rw [show 99 - (k + 1) = 98 - k by omega]; exact unhide HI2⟩
      case measure => simp [intOf]; omega
    · have HI2 : Hid (F = seekF a g 99 m) := by
        apply hide; rw [unhide HI, show 99 - k = 0 by omega]; rfl
      clear HI
      go_wp2_with fail
      go_loopw [3, 5] (fun d i wr => ∃ k : Nat, ∃ m : Int, k ≤ 99 ∧ i = .int .i64 k ∧ d = .int .i64 m ∧ 0 ≤ m ∧ m ≤ 99 ∧ Below w.heap.size w wr ∧ Hid (F = seekF a g (99 - k) m)) (fun _ i _ => 100 - (intOf i).toNat)
      case atStart => exact ⟨0, m, by omega, rfl, rfl, hm0, hm1, hbel, HI2⟩
      case round =>
        obtain ⟨k, m, hk, rfl, rfl, hm0, hm1, hbel, HI⟩ := hrel
        have hsz := hbel.size
        by_cases hkk : k < 99
        · have HI2 : Hid (F = seekF a g ((98 - k) + 1) m) := by
            apply hide; rw [unhide HI, show 99 - k = (98 - k) + 1 by omega]
          have HH1 := hide (unhide HH wr m hm0 hm1 hbel)
          have hmk := isMove_kind a g m
          cases hq : isMove a g m
          · have HN := hide ((unhide HI2).trans (seek_go hq))
            rw [hq] at hmk
            have hmk2 := hmk.symm
            have hbb := unhide HBB m hm0
            have HB1 := hide (fun W h => unhide HBL W m hm0 hm1 h)
            clear hq hmk HI HI2
            generalize blocker a g m = y at *
            generalize homeV a g m = hv at *
            go_wp2_with fail
            refine (unhide HH1).mono ?_
            rintro e w1 ⟨rfl, hb1⟩
            have hb2 := (hbel.trans (hb1.mono hsz)).alloc (by have := hb1.size; omega) (.cells #[.int .u8 hv.kind.toNat, .int .i64 hv.node.id, .int .i64 hv.node.parent, .string (bs hv.node.name)] 169)
            clear hbel hb1
            go_wp2_with fail
            refine (unhide HB1 _ hb2).mono ?_
            rintro e w2 ⟨rfl, hb3⟩
            have hb4 := hb2.trans (hb3.mono hb2.size)
            clear hb2 hb3
            go_wp2
            go_roundw
            case rel => exact ⟨k + 1, y, by omega, by go_num, rfl, hbb.1, hbb.2, hb4, by apply hide; rw [show 99 - (k + 1) = 98 - k by omega]; exact unhide HN⟩
            case measure => simp [intOf]; omega
          · have HN := hide ((unhide HI2).trans (seek_hit' hq))
            rw [hq] at hmk
            have hmk2 := hmk.symm
            clear hq hmk HI HI2
            generalize homeV a g m = hv at *
            go_wp2_with fail
            refine (unhide HH1).mono ?_
            rintro e w1 ⟨rfl, hb1⟩
            have HB2 := hide ((hbel.trans (hb1.mono hsz)).alloc (by have := hb1.size; omega) (.cells #[.int .u8 hv.kind.toNat, .int .i64 hv.node.id, .int .i64 hv.node.parent, .string (bs hv.node.name)] 169))
            clear hbel hb1
            go_wp2
            go_ret
            exact ⟨ret_int (unhide HN).symm, unhide HB2⟩
        · have HN : Hid (F = 0) := by apply hide; rw [unhide HI, show 99 - k = 0 by omega]; rfl
          go_wp2
          go_ret
          exact ⟨ret_int (unhide HN).symm, hbel⟩
end Go.Proofs.YtdcjimlhaklhfabGreatDoor

namespace Go.Proofs.YtdcjimlhaklhfabGreatDoor
open Go.RowKit
theorem step_append_own {P : Program} {ops : Array Oper} {o : Oper} {a : Act} {w : World} {K : Act → World → Prop} {Q : Exit → Act → World → Prop} {E : Prop}
    (hg : o.guard = none) (s x : Operand) (t : TypeId) (hop : o.op = Op.call { callee := Callee.builtin Builtin.append, args := #[s, x], argTypes := #[t, t] })
    (e : TypeId) (i : TypeInfo) (z : Value) (size bytes : Nat) (h1 : P.underlying t = some (.slice e)) (h2 : P.info? e = some i) (h3 : i.zero = some z) (h4 : i.size = size) (h5 : i.bytes = bytes) (h6 : z.cells.size = size) (h7 : 0 < size)
    (base : Nat) (v : Value) (n : Nat) (xs : List Value) (hs : a.eval s = v) (hown : w.ownsRow base e size v n xs)
    (ad : Addr) (m c : Nat) (news : List Value) (hx : a.eval x = .slice (some ad) m c) (hn : news.length = m * size) (hc : ∀ j u, news[j]? = some u → w.cell? (ad.add j) = some u) (h1c : ∀ u ∈ news, u.oneCell' = true)
    (b1 : n + m ≤ maxLen) (b2 : (n + m) * bytes ≤ 140737488355328) (hbase : base ≤ w.heap.size)
    (hK : ∀ v' w', w'.ownsRow base e size v' (n + m) (xs ++ news) → w.grownBy w' v.ownBlock → K (a.put o.dst v') w') :
    if Region.wanted o (yielded ops a.tmps) = true then Oper.wp P o a w K Q else E := by
  have hw : Region.wanted o (yielded ops a.tmps) = true := by simp [Region.wanted, hg]
  rw [if_pos hw]
  obtain ⟨v', w', hrun, r1, r2, _⟩ := run_append_own (P := P) w base t o.type e i z size bytes h1 h2 h3 h4 h5 h6 h7 v n xs hown ad m c news hn hc h1c b1 b2 hbase
  unfold Oper.wp
  simp [execOp, hop, resolve, invoke, builtin, hs, hx, hrun, Result.andThen]
  exact hK v' w' r1 r2
theorem own_grown {w w' : World} {base : Nat} {e : TypeId} {size : Nat} {v : Value} {n : Nat} {xs : List Value} {c : Nat} (h : w.ownsRow base e size v n xs) (hg : w.grownBy w' (some c)) (hc : c < base) : w'.ownsRow base e size v n xs := by
  obtain ⟨h1, h2⟩ := h
  refine ⟨h1, ?_⟩
  rcases h2 with h2 | ⟨g, cap, cur, hv, hgb, hh, r⟩
  · exact Or.inl h2
  · exact Or.inr ⟨g, cap, cur, hv, hgb, by rw [hg.block g (lt_of_block hh) (fun e => by cases e; omega)]; exact hh, r⟩
theorem cell_grown {w w' : World} {c b : Nat} (hg : w.grownBy w' (some c)) (hb : b < w.heap.size) (hne : b ≠ c) (o : Nat) : w'.cell? ⟨b, o, none⟩ = w.cell? ⟨b, o, none⟩ :=
  World.cell?_of_block (a := ⟨b, o, none⟩) (hg.block b hb (fun e => hne (by cases e; rfl)))
theorem own_form {w : World} {base : Nat} {e : TypeId} {size : Nat} {v : Value} {n : Nat} {xs : List Value} (h : w.ownsRow base e size v (n + 1) xs) : ∃ g cap, v = .slice (some ⟨g, 0, none⟩) (n + 1) cap ∧ base ≤ g := by
  rcases h.2 with ⟨_, h2⟩ | ⟨g, cap, _, hv, hg, _⟩
  · omega
  · exact ⟨g, cap, hv, hg⟩
theorem own_block {w : World} {base : Nat} {e : TypeId} {size : Nat} {v : Value} {n : Nat} {xs : List Value} (h : w.ownsRow base e size v n xs) {c : Nat} (hc : c < base) : some c ≠ v.ownBlock := by
  rcases h.2 with ⟨rfl, _⟩ | ⟨g, cap, _, rfl, hg, _⟩
  · intro e; cases e
  · intro e; simp [Value.ownBlock] at e; omega
theorem own_set {w : World} {base : Nat} {e : TypeId} {size : Nat} {v : Value} {n : Nat} {xs : List Value} (h : w.ownsRow base e size v n xs) {c : Nat} (hc : c < base) (o : Nat) (u : Value) : (w.setCell ⟨c, o, none⟩ u).ownsRow base e size v n xs := by
  obtain ⟨h1, h2⟩ := h
  refine ⟨h1, ?_⟩
  rcases h2 with h2 | ⟨g, cap, cur, hv, hgb, hh, r⟩
  · exact Or.inl h2
  · exact Or.inr ⟨g, cap, cur, hv, hgb, by rw [heap_setCell_other _ _ _ _ (show g ≠ c by omega)]; exact hh, r⟩
theorem plan_set {w : World} {b : Nat} {a g : Tr} {v v' : Value} (h : TreeAt (planX g v) w b a) : TreeAt (planX g v') (w.setCell ⟨b, 800, none⟩ v') b a := by
  unfold TreeAt
  rw [heap_setCell_same w b 800 _ _ v' h]
  have e : (treeCells a ++ (treeCells g ++ [v])).set 800 v' = treeCells a ++ (treeCells g ++ [v']) := by
    rw [List.set_append_right _ _ (by rw [treeCells_length]; omega), treeCells_length, List.set_append_right _ _ (by rw [treeCells_length]; omega), treeCells_length]
    simp
  simp only [planX, List.setIfInBounds_toArray, e]
theorem plan_grown {x : Ext} {w2 w4 : World} {b : Nat} {a : Tr} {o : Obj} {r : Option Nat} (h : TreeAt x w2 b a) (hg : (World.drew (w2.alloc o)).grownBy w4 r) (hr : some b ≠ r) : TreeAt x w4 b a := by
  have hlt := h.lt
  have h1 : TreeAt x (World.drew (w2.alloc o)) b a := h.below (below_drewN ((Below.refl w2.heap.size w2).alloc (Nat.le_refl _) o) 1)
  unfold TreeAt
  rw [hg.block b h1.lt hr]; exact h1
def PlanAt (w : World) (b : Nat) (g : Tr) (p : Pl) : Prop := ∃ v, TreeAt (planX g v) w b p.now ∧ w.ownsRow (b + 1) 169 4 v p.done.length (stCells p.done)
def tryP (p : Pl) (s : St) : Pl := if stepE p.now s = 0 then ⟨stepT p.now s, p.done ++ [s]⟩ else p
theorem tryP_yes {p : Pl} {s : St} (h : stepE p.now s = 0) : tryP p s = ⟨stepT p.now s, p.done ++ [s]⟩ := by unfold tryP; rw [if_pos h]
theorem tryP_no {p : Pl} {s : St} (h : ¬ stepE p.now s = 0) : tryP p s = p ∧ stepT p.now s = p.now := by unfold tryP stepT; rw [if_neg h, if_neg h]; exact ⟨rfl, rfl⟩
set_option maxHeartbeats 2000000 in
set_option maxRecDepth 100000 in
theorem attempt_any (g : Tr) (p : Pl) (b : Nat) (s : St) (w : World) (ha : TrOk p.now) (hs : StOk s) (hP : PlanAt w b g p) (hl : p.done.length ≤ 30000) :
    Calls Tryz.prog 148 #[.pointer (some ⟨b, 0, none⟩), .agg #[.int .u8 s.kind.toNat, .int .i64 s.node.id, .int .i64 s.node.parent, .string (bs s.node.name)]] w fun e w' => e = .returned (.bool (stepE p.now s == 0)) ∧ PlanAt w' b g (tryP p s) ∧ Below b w w' := by
  obtain ⟨v, hT, hown⟩ := hP
  obtain ⟨i0, hi, hz0, hz1, hz2⟩ := info_parts Tryz.infoStep
  have hlt := hT.lt
  have HDO := hide (fun W (h : TreeAt (planX g v) W b p.now) => do_any p.now b s W ha h hs)
  have hb1 := (Below.refl w.heap.size w).alloc (Nat.le_refl _) (.cells #[.int .u8 s.kind.toNat, .int .i64 s.node.id, .int .i64 s.node.parent, .string (bs s.node.name)] 169)
  have HT1 := hide (hT.below hb1)
  have HOWN := hide (own_below hown hb1)
  clear ha hs
  by_cases hE : stepE p.now s = 0
  · rw [tryP_yes hE]
    rw [hE] at HDO ⊢
    clear hT hown hb1
    go_enter Tryz.func148, Tryz.ntmps148
    go_wp2_with fail
    go_region_with (go_at_call 102; refine (unhide HDO _ (by exact unhide HT1)).mono ?_; rintro e w2 ⟨rfl, hT2, hg2⟩)
    have hlw : w.heap.size + 1 ≤ w2.heap.size := by have := hg2.size; simpa using this
    have HB2 : Hid (Below b w w2) := hide (((below_drewN ((Below.refl b w).alloc (by omega) (.cells #[.int .u8 s.kind.toNat, .int .i64 s.node.id, .int .i64 s.node.parent, .string (bs s.node.name)] 169)) 1)).grown hg2 (by simp; omega) (fun k hk => by cases hk; omega))
    have HOWN2 := hide (own_grown (show World.ownsRow (World.drew (w.alloc _)) _ _ _ _ _ _ from unhide HOWN) hg2 (by omega))
    have hcs : ∀ o, w2.cell? ⟨w.heap.size, o, none⟩ = (w.alloc _).cell? ⟨w.heap.size, o, none⟩ := fun o => cell_grown hg2 (by simp) (by omega) o
    have hdone := plan_done hT2
    have hfz : ∀ o, w2.frozen? ⟨b, o, none⟩ = false := hT2.free
    have HT2 := hide hT2
    clear hT2 hg2
    go_wp2_with fail
    have HOWN3 : Hid (World.ownsRow (World.drew (w2.alloc (.cells #[.int .u8 s.kind.toNat, .int .i64 s.node.id, .int .i64 s.node.parent, .string (bs s.node.name)] 169))) (b + 1) 169 4 v p.done.length (stCells p.done)) := hide (own_below (unhide HOWN2) (below_drewN ((Below.refl w2.heap.size w2).alloc (Nat.le_refl _) _) 1))
    have HNEW : Hid (∀ j x, [Value.int .u8 s.kind.toNat, .int .i64 s.node.id, .int .i64 s.node.parent, .string (bs s.node.name)][j]? = some x → (World.drew (w2.alloc (.cells #[.int .u8 s.kind.toNat, .int .i64 s.node.id, .int .i64 s.node.parent, .string (bs s.node.name)] 169))).cell? ((⟨w2.heap.size, 0, none⟩ : Addr).add j) = some x) := hide (fun j x hx => World.news_of_block (w := w2.alloc (.cells #[.int .u8 s.kind.toNat, .int .i64 s.node.id, .int .i64 s.node.parent, .string (bs s.node.name)] 169)) (cs := #[.int .u8 s.kind.toNat, .int .i64 s.node.id, .int .i64 s.node.parent, .string (bs s.node.name)]) (heap_alloc_new w2 _) j x hx)
    have hbs : b + 1 ≤ w2.heap.size + 1 := by omega
    have hbw : b < w2.heap.size := by omega
    have hbn : ¬ b = w2.heap.size := by omega
    go_region_law (refine step_append_own rfl (.tmp 17) (.tmp 19) 122 rfl 169 i0 (.agg #[.int .u8 0, .int .i64 0, .int .i64 0, .string ByteArray.empty]) 4 40 Tryz.underlying122 hi hz0 hz1 hz2 rfl (by decide) (b + 1) v p.done.length (stCells p.done) (by simp [Act.eval]) (unhide HOWN3) ⟨w2.heap.size, 0, none⟩ 1 1 [.int .u8 s.kind.toNat, .int .i64 s.node.id, .int .i64 s.node.parent, .string (bs s.node.name)] (by simp [Act.eval]) rfl (unhide HNEW) (by simp [Value.oneCell']) (by unfold maxLen; omega) (by omega) (by simp; omega) ?_; intro v' w4 hown4 hgrow; obtain ⟨g4, cap4, rfl, hg4⟩ := own_form hown4; have hT4 : TreeAt (planX g v) w4 b (stepT p.now s) := plan_grown (unhide HT2) hgrow (own_block (unhide HOWN3) (by omega)); have hd4 := plan_done hT4; have hf4 := hT4.free 800; have HT4 := hide hT4; have HOWN4 := hide hown4; have HG4 := hide hgrow; clear hT4 hown4 hgrow)
    all_goals
      go_wp2
      go_ret
      refine ⟨rfl, ⟨_, plan_set (unhide HT4), ?_⟩, ?_⟩
      · have := own_set (unhide HOWN4) (show b < b + 1 by omega) 800 (.slice (some ⟨g4, 0, none⟩) (p.done.length + 1) cap4)
        show World.ownsRow _ _ _ _ _ (p.done ++ [s]).length (stCells (p.done ++ [s]))
        rw [stCells_snoc, List.length_append]; exact this
      · refine Below.setCell ((below_drewN ((unhide HB2).alloc (by omega) _) 1).grown (unhide HG4) (by simp; omega) (fun k hk => by have := own_ge (unhide HOWN3) k hk; omega)) (Nat.le_refl _) _
  · obtain ⟨e1, e2⟩ := tryP_no hE
    rw [e1]
    rw [e2] at HDO
    have hE2 : (stepE p.now s == 0) = false := by simpa using hE
    have hE3 : (stepE p.now s != 0) = true := by simpa using hE
    clear hT hown hb1 e1 e2
    generalize stepE p.now s = E at *
    rw [hE2]
    go_enter Tryz.func148, Tryz.ntmps148
    go_wp2_with fail
    go_region_with (go_at_call 102; refine (unhide HDO _ (by exact unhide HT1)).mono ?_; rintro e w2 ⟨rfl, hT2, hg2⟩)
    have HB2 : Hid (Below b w w2) := hide (((below_drewN ((Below.refl b w).alloc (by omega) (.cells #[.int .u8 s.kind.toNat, .int .i64 s.node.id, .int .i64 s.node.parent, .string (bs s.node.name)] 169)) 1)).grown hg2 (by simp; omega) (fun k hk => by cases hk; omega))
    have HOWN2 := hide (own_grown (show World.ownsRow (World.drew (w.alloc _)) _ _ _ _ _ _ from unhide HOWN) hg2 (by omega))
    have HT2 := hide hT2
    clear hT2 hg2
    go_wp2
    go_ret
    exact ⟨rfl, ⟨v, unhide HT2, unhide HOWN2⟩, unhide HB2⟩
end Go.Proofs.YtdcjimlhaklhfabGreatDoor

namespace Go.Proofs.YtdcjimlhaklhfabGreatDoor
open Go.RowKit
theorem PlanAt.below {w w' : World} {b : Nat} {g : Tr} {p : Pl} (h : PlanAt w b g p) (hb : Below w.heap.size w w') : PlanAt w' b g p := by
  obtain ⟨v, h1, h2⟩ := h
  exact ⟨v, h1.below hb, own_below h2 hb⟩
theorem PlanAt.lt {w : World} {b : Nat} {g : Tr} {p : Pl} (h : PlanAt w b g p) : b < w.heap.size := by
  obtain ⟨v, h1, _⟩ := h; exact h1.lt
theorem homeP_any (g : Tr) (p : Pl) (b : Nat) (id : Int) (w : World) (ha : TrOk p.now) (hg : TrOk g) (h0 : 0 ≤ id) (h1 : id ≤ 99) (hP : PlanAt w b g p) :
    Calls Tryz.prog 147 #[.pointer (some ⟨b, 0, none⟩), .int .i64 id] w fun e w' => e = .returned (.tuple #[.agg #[.int .u8 (homeV p.now g id).kind.toNat, .int .i64 (homeV p.now g id).node.id, .int .i64 (homeV p.now g id).node.parent, .string (bs (homeV p.now g id).node.name)], .bool (homeS p.now g id).isSome]) ∧ Below w.heap.size w w' := by
  obtain ⟨v, hT, _⟩ := hP
  exact home_any p.now g b id v w ha hg h0 h1 hT
theorem goOne_none {g : Tr} {p : Pl} {m : Bool} {i : Nat} (h : homeS p.now g i = none) : goOne g (p, m) i = (p, m) := by unfold goOne; rw [h]
theorem goOne_some {g : Tr} {p : Pl} {m : Bool} {i : Nat} {s : St} (h : homeS p.now g i = some s) : goOne g (p, m) i = (tryP p s, m || (stepE p.now s == 0)) := by
  unfold goOne; rw [h]
  by_cases he : stepE p.now s = 0
  · rw [tryP_yes he]; simp [he]
  · rw [(tryP_no he).1]; simp [he]
theorem tryP_len (p : Pl) (s : St) : (tryP p s).done.length ≤ p.done.length + 1 := by unfold tryP; split <;> simp
theorem tryP_ok {p : Pl} {s : St} (h : TrOk p.now) (hs : StOk s) : TrOk (tryP p s).now := by
  unfold tryP; split
  · exact stepT_ok h hs
  · exact h
def GoInv (g : Tr) (F : Pl × Bool) (k : Nat) (q : Pl) (m : Bool) : Prop := F = (List.range' k (100 - k)).foldl (goOne g) (q, m)
theorem goInv_next {g : Tr} {F : Pl × Bool} {k : Nat} {q : Pl} {m : Bool} (h : GoInv g F k q m) (hk : k ≤ 99) {q' : Pl} {m' : Bool} (e : goOne g (q, m) k = (q', m')) : GoInv g F (k + 1) q' m' := by
  unfold GoInv at *
  rw [h, show 100 - k = (100 - (k + 1)) + 1 by omega, List.range'_succ, List.foldl_cons, e]
theorem goInv_end {g : Tr} {F : Pl × Bool} {q : Pl} {m : Bool} {k : Nat} (h : GoInv g F k q m) (hk : ¬ k ≤ 99) : F = (q, m) := by
  unfold GoInv at h; rw [h, show 100 - k = 0 by omega]; rfl
set_option maxHeartbeats 2000000 in
set_option maxRecDepth 100000 in
theorem goHome_any (g : Tr) (p : Pl) (b : Nat) (w : World) (ha : TrOk p.now) (hg : TrOk g) (hP : PlanAt w b g p) (hl : p.done.length ≤ 20000) :
    Calls Tryz.prog 133 #[.pointer (some ⟨b, 0, none⟩)] w fun e w' => e = .returned (.bool (goHomeT g p).2) ∧ PlanAt w' b g (goHomeT g p).1 ∧ Below b w w' := by
  have hlt := hP.lt
  have HF : Hid (GoInv g (goHomeT g p) 1 p false) := hide (by unfold GoInv goHomeT; rfl)
  generalize goHomeT g p = F at *
  have HG := hide hg
  have HP := hide hP
  have HO := hide ha
  clear hg hP ha
  go_enter Tryz.func133, Tryz.ntmps133
  go_wp2
  go_loopw [3, 4] (fun mv i wr => ∃ k : Nat, ∃ q : Pl, ∃ m : Bool, 1 ≤ k ∧ k ≤ 100 ∧ i = .int .i64 k ∧ mv = .bool m ∧ Hid (TrOk q.now) ∧ Hid (PlanAt wr b g q) ∧ q.done.length ≤ p.done.length + (k - 1) ∧ Below b w wr ∧ Hid (GoInv g F k q m)) (fun _ i _ => 101 - (intOf i).toNat)
  case atStart => exact ⟨1, p, false, by omega, by omega, rfl, rfl, HO, HP, by omega, Below.refl _ _, HF⟩
  case round =>
    obtain ⟨k, q, m, hk1, hk, rfl, rfl, HOK, HPL, hql, hbel, HI⟩ := hrel
    have hltr := (unhide HPL).lt
    by_cases hkk : k ≤ 99
    · have HH := hide (homeP_any g q b k wr (unhide HOK) (unhide HG) (by omega) (by omega) (unhide HPL))
      cases hq : homeS q.now g k with
      | none =>
        have HI2 := hide (goInv_next (unhide HI) hkk (goOne_none hq))
        have e2 : homeV q.now g k = stZ := by unfold homeV; rw [hq]; rfl
        rw [hq, e2] at HH
        clear hq e2 HI
        go_wp2_with fail
        refine (unhide HH).mono ?_
        rintro e w1 ⟨rfl, hb1⟩
        have hb2 := hb1.alloc hb1.size (.cells #[.int .u8 stZ.kind.toNat, .int .i64 stZ.node.id, .int .i64 stZ.node.parent, .string (bs stZ.node.name)] 169)
        have HPL2 := hide ((unhide HPL).below hb2)
        have hb3 := hbel.trans (hb2.mono (by omega))
        clear hb1 hb2 hbel HPL
        go_wp2
        go_roundw
        case rel => exact ⟨k + 1, q, m, by omega, by omega, by go_num, rfl, HOK, HPL2, by omega, hb3, HI2⟩
        case measure => simp [intOf]; omega
      | some s =>
        have hsok := (home_ok (unhide HG) (show (1 : Int) ≤ k by omega) (by omega) hq).1
        have HI2 := hide (goInv_next (unhide HI) hkk (goOne_some hq))
        have e2 : homeV q.now g k = s := by unfold homeV; rw [hq]; rfl
        rw [hq, e2] at HH
        have HAT := hide (fun W (h : PlanAt W b g q) => attempt_any g q b s W (unhide HOK) hsok h (by omega))
        have HOK2 := hide (tryP_ok (unhide HOK) hsok)
        have hql2 := tryP_len q s
        clear hq e2 HI hsok
        cases hE : (stepE q.now s == 0)
        · rw [hE] at HAT HI2
          rw [Bool.or_false] at HI2
          go_wp2_with fail
          refine (unhide HH).mono ?_
          rintro e w1 ⟨rfl, hb1⟩
          have hb2 := hb1.alloc hb1.size (.cells #[.int .u8 s.kind.toNat, .int .i64 s.node.id, .int .i64 s.node.parent, .string (bs s.node.name)] 169)
          have HPL2 := hide ((unhide HPL).below hb2)
          have hb3 := hbel.trans (hb2.mono (by omega))
          clear hb1 hb2 hbel HPL
          go_wp2_with fail
          refine (unhide HAT _ (by exact unhide HPL2)).mono ?_
          rintro e w3 ⟨rfl, hP3, hb4⟩
          have HP3 := hide hP3
          have hb5 := hb3.trans hb4
          clear hP3 hb3 hb4
          generalize tryP q s = q2 at *
          go_wp2
          go_roundw
          case rel => exact ⟨k + 1, q2, m, by omega, by omega, by go_num, rfl, HOK2, HP3, by omega, hb5, HI2⟩
          case measure => simp [intOf]; omega
        · rw [hE] at HAT HI2
          rw [Bool.or_true] at HI2
          go_wp2_with fail
          refine (unhide HH).mono ?_
          rintro e w1 ⟨rfl, hb1⟩
          have hb2 := hb1.alloc hb1.size (.cells #[.int .u8 s.kind.toNat, .int .i64 s.node.id, .int .i64 s.node.parent, .string (bs s.node.name)] 169)
          have HPL2 := hide ((unhide HPL).below hb2)
          have hb3 := hbel.trans (hb2.mono (by omega))
          clear hb1 hb2 hbel HPL
          go_wp2_with fail
          refine (unhide HAT _ (by exact unhide HPL2)).mono ?_
          rintro e w3 ⟨rfl, hP3, hb4⟩
          have HP3 := hide hP3
          have hb5 := hb3.trans hb4
          clear hP3 hb3 hb4
          generalize tryP q s = q2 at *
          go_wp2
          go_roundw
          case rel => exact ⟨k + 1, q2, true, by omega, by omega, by go_num, rfl, HOK2, HP3, by omega, hb5, HI2⟩
          case measure => simp [intOf]; omega
    · have hE := goInv_end (unhide HI) hkk
      have HE := hide hE
      clear hE
      go_wp2
      go_ret
      rw [unhide HE]
      exact ⟨rfl, unhide HPL, hbel⟩
theorem seek_bd {a g : Tr} (ha : TrOk a) (hg : TrOk g) : ∀ (f : Nat) (m : Int), 0 ≤ m → m ≤ 99 → 0 ≤ seekF a g f m ∧ seekF a g f m ≤ 99 := by
  intro f
  induction f with
  | zero => intro m _ _; simp [seekF]
  | succ f ih =>
    intro m h0 h1
    rw [seekF]
    split
    · exact ⟨h0, h1⟩
    · have := blocker_bd ha hg (id := m) h0; exact ih _ this.1 this.2
theorem iter_bd {a g : Tr} (ha : TrOk a) (hg : TrOk g) : ∀ (f : Nat) (m : Int), 0 ≤ m → m ≤ 99 → 0 ≤ iter (blocker a g) f m ∧ iter (blocker a g) f m ≤ 99 := by
  intro f
  induction f with
  | zero => intro m h0 h1; exact ⟨h0, h1⟩
  | succ f ih =>
    intro m h0 h1
    rw [iter]
    have := blocker_bd ha hg (id := m) h0; exact ih _ this.1 this.2
theorem knot_bd {a g : Tr} (ha : TrOk a) (hg : TrOk g) : 0 ≤ knotT a g ∧ knotT a g ≤ 99 := by
  have h1 := firstAway_bd a g
  have h2 := iter_bd ha hg 99 _ h1.1 h1.2
  exact seek_bd ha hg 99 _ h2.1 h2.2
theorem parkT_no {g : Tr} {p : Pl} (h : knotT p.now g = 0) : parkT g p = (p, false) := by unfold parkT; rw [if_pos h]
theorem parkT_yes {g : Tr} {p : Pl} (h : ¬ knotT p.now g = 0) : parkT g p = (tryP p (parkS (knotT p.now g)), stepE p.now (parkS (knotT p.now g)) == 0) := by
  unfold parkT; rw [if_neg h]
  by_cases he : stepE p.now (parkS (knotT p.now g)) = 0
  · rw [if_pos he, tryP_yes he, he]; rfl
  · rw [if_neg he, (tryP_no he).1]; simp [he]
theorem add_t (a : Str) (ha : a.length ≤ 1000000) (W : World) : (Op.stringOp .add ⟨#[116, 126]⟩ (bs a)).run Tryz.prog W = .ok (.string (bs (116 :: 126 :: a))) W := add_bs [116, 126] a (by simp) ha W
set_option maxHeartbeats 2000000 in
set_option maxRecDepth 100000 in
theorem park_any (g : Tr) (p : Pl) (b : Nat) (w : World) (ha : TrOk p.now) (hg : TrOk g) (hP : PlanAt w b g p) (hl : p.done.length ≤ 30000) :
    Calls Tryz.prog 134 #[.pointer (some ⟨b, 0, none⟩)] w fun e w' => e = .returned (.bool (parkT g p).2) ∧ PlanAt w' b g (parkT g p).1 ∧ Below b w w' := by
  have hlt := hP.lt
  have HK : Hid (Calls Tryz.prog 149 #[.pointer (some ⟨b, 0, none⟩)] w fun e w' => e = .returned (.int .i64 (knotT p.now g)) ∧ Below w.heap.size w w') := by
    obtain ⟨v, hT, _⟩ := hP; exact hide (knot_any p.now g b v w ha hg hT)
  have hkb := knot_bd ha hg
  have HP := hide hP
  by_cases h0 : knotT p.now g = 0
  · rw [parkT_no h0]
    rw [h0] at HK
    clear hP ha hg
    go_enter Tryz.func134, Tryz.ntmps134
    go_wp2_with fail
    refine (unhide HK).mono ?_
    rintro e w1 ⟨rfl, hb1⟩
    have HP1 := hide ((unhide HP).below hb1)
    have HB := hide (hb1.mono (show b ≤ w.heap.size by omega))
    clear hb1
    go_wp2
    go_ret
    exact ⟨rfl, unhide HP1, unhide HB⟩
  · rw [parkT_yes h0]
    have hz : (knotT p.now g == 0) = false := by simpa using h0
    have HAT := hide (fun W (h : PlanAt W b g p) => attempt_any g p b (parkS (knotT p.now g)) W ha (park_ok (by omega) hkb.2) h hl)
    have HIT := hide (fun W => itoa_any (knotT p.now g) W hkb.1 hkb.2)
    have l1 := digs_len (knotT p.now g)
    have a1 := add_t (digs (knotT p.now g)) (by omega)
    generalize hEE : (stepE p.now (parkS (knotT p.now g)) == 0) = E at *
    clear hEE
    generalize tryP p (parkS (knotT p.now g)) = q at *
    unfold parkS parkN at HAT
    generalize knotT p.now g = id at *
    clear hP ha hg
    go_enter Tryz.func134, Tryz.ntmps134
    go_wp2_with fail
    refine (unhide HK).mono ?_
    rintro e w1 ⟨rfl, hb1⟩
    go_wp2_with fail
    refine (unhide HIT _).mono ?_
    rintro e w2 ⟨rfl, rfl⟩
    have hb2 := hb1.alloc hb1.size (.cells #[.int .i64 id, .int .i64 0, .string (bs (116 :: 126 :: digs id))] 75)
    have HP1 := hide ((unhide HP).below hb2)
    have hb3 := hb2.mono (show b ≤ w.heap.size by omega)
    clear hb1 hb2
    go_wp2_with fail
    refine (unhide HAT _ (by exact unhide HP1)).mono ?_
    rintro e w3 ⟨rfl, hP3, hb4⟩
    have HP3 := hide hP3
    have HB5 := hide (hb3.trans hb4)
    clear hP3 hb3 hb4
    go_wp2
    go_ret
    exact ⟨rfl, unhide HP3, unhide HB5⟩
end Go.Proofs.YtdcjimlhaklhfabGreatDoor
