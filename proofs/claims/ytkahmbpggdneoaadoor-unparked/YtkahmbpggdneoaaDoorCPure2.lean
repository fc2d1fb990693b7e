import Derived.Test.YtkahmbpggdneoaaDoorCPure1
namespace Go.Proofs.YtkahmbpggdneoaaDoor
open Go.RowKit
/-! How deep a node lies. -/
def deep (t : Tr) (x : Int) : Nat := scan (fun f => meetsF t f x 0) 0 200
theorem meets_zero (t : Tr) (x goal : Int) : meetsF t 0 x goal = false := rfl
theorem meets_succ {t : Tr} {f : Nat} {x goal : Int} {n : Nd} (hne : x ≠ goal) (hn : t x.toNat = some n) : meetsF t (f + 1) x goal = meetsF t f n.parent goal := by
  rw [meetsF, if_neg hne, hn]
theorem deep_le {t : Tr} (ht : TrOk t) {x : Int} (h : Goes t x 0) : deep t x ≤ 100 := by
  have h1 := (goes_meets ht).2 h
  unfold deep
  rcases scan_cases (fun f => meetsF t f x 0) 0 200 with ⟨_, _, _, h2⟩ | ⟨_, h2⟩
  · apply Classical.byContradiction
    intro hn
    have := h2 100 (by omega) (by omega)
    unfold meetsT at h1; rw [h1] at this; cases this
  · have := h2 100 (by omega) (by omega)
    unfold meetsT at h1; rw [h1] at this; cases this
theorem deep_hit {t : Tr} {x : Int} (h : deep t x < 200) : meetsF t (deep t x) x 0 = true ∧ ∀ j, j < deep t x → meetsF t j x 0 = false := by
  unfold deep at h ⊢
  rcases scan_cases (fun f => meetsF t f x 0) 0 200 with ⟨_, _, h1, h2⟩ | ⟨h1, _⟩
  · exact ⟨h1, fun j hj => h2 j (by omega) hj⟩
  · omega
theorem parent_goes {t : Tr} (hv : Valid t) {p : Int} (hp0 : 0 ≤ p) (h : isParentT t p = true) : Goes t p 0 := by
  rcases isParent_iff.1 h with rfl | ⟨_, n, hn⟩
  · exact goes_here t 0
  · have := hv.goes _ n hn
    rwa [(trOk_id hv.ok hp0 hn).1] at this
theorem deep_succ {t : Tr} (hv : Valid t) {x : Int} (hx : 1 ≤ x) {n : Nd} (hn : t x.toNat = some n) : deep t x = deep t n.parent + 1 := by
  have hp0 : 0 ≤ n.parent := (trOk_id hv.ok (by omega) hn).2.2.2.2.2.1
  have hg := parent_goes hv hp0 (hv.parent _ n hn)
  have hd := deep_le hv.ok hg
  obtain ⟨h1, h2⟩ := deep_hit (t := t) (x := n.parent) (by omega)
  show scan (fun f => meetsF t f x 0) 0 200 = _
  refine scan_hit (by omega) (by omega) ?_ ?_
  · rw [meets_succ (by omega) hn]; exact h1
  · intro j _ hj
    cases j with
    | zero => rfl
    | succ j => rw [meets_succ (by omega) hn]; exact h2 j (by omega)
theorem deep_up {t : Tr} (hv : Valid t) {goal : Int} : ∀ (f : Nat) (x : Int), 0 ≤ x → meetsF t f x goal = true → deep t goal ≤ deep t x := by
  intro f
  induction f with
  | zero => intro x _ h; cases h
  | succ f ih =>
    intro x hx h
    by_cases e : x = goal
    · rw [e]; omega
    · cases hn : t x.toNat with
      | none => rw [meetsF, if_neg e, hn] at h; cases h
      | some n =>
        rw [meets_succ e hn] at h
        have hb := trOk_id hv.ok hx hn
        have := ih n.parent hb.2.2.2.2.2.1 h
        have := deep_succ hv hb.2.1 hn
        omega
theorem no_loop {t : Tr} (hv : Valid t) {id : Int} (h1 : 1 ≤ id) {n : Nd} (hn : t id.toNat = some n) : ¬ Goes t n.parent id := by
  rintro ⟨f, hf⟩
  have h2 := deep_up hv f n.parent (trOk_id hv.ok (by omega) hn).2.2.2.2.2.1 hf
  have h3 := deep_succ hv h1 hn
  omega
/-! What is in the way. -/
def Stuck (a g : Tr) : Prop := ∀ (j : Int) (s : St), 1 ≤ j → j ≤ 99 → homeS a g j = some s → stepE a s ≠ 0
theorem fromAway_good {a g : Tr} (hv : Valid a) (_hg : Valid g) {id : Int} (h1 : 1 ≤ id) : ∀ (f : Nat) (p : Int), 0 ≤ p → meetsF a (f + 1) p id = true → ¬ Goes g p id →
    1 ≤ fromAwayF a g f p ∧ fromAwayF a g f p ≤ 99 ∧ (homeS a g (fromAwayF a g f p)).isSome = true ∧ ∃ m, a (fromAwayF a g f p).toNat = some m ∧ m.parent ≠ 0 := by
  intro f
  induction f with
  | zero =>
    intro p _ hm hno
    rw [meetsF] at hm
    by_cases e : p = id
    · rw [e] at hno; exact absurd (goes_here g id) hno
    · rw [if_neg e] at hm
      cases hp : a p.toNat with
      | none => rw [hp] at hm; cases hm
      | some n => rw [hp] at hm; cases hm
  | succ f ih =>
    intro p hp0 hm hno
    by_cases e : p = id
    · rw [e] at hno; exact absurd (goes_here g id) hno
    · cases hp : a p.toNat with
      | none => rw [meetsF, if_neg e, hp] at hm; cases hm
      | some n =>
        rw [meets_succ e hp] at hm
        have hb := trOk_id hv.ok hp0 hp
        unfold fromAwayF
        cases hq : (homeS a g p).isSome
        · rw [if_neg (by simp)]
          have e2 : a p.toNat = g p.toNat := home_none.1 (by simpa using hq)
          have e3 : (getT a p).parent = n.parent := by unfold getT; rw [hp]; rfl
          rw [e3]
          exact ih n.parent hb.2.2.2.2.2.1 hm (fun hh => hno (goes_up (by rw [← e2]; exact hp) hh))
        · rw [if_pos rfl]
          refine ⟨hb.2.1, hb.2.2.1, hq, n, hp, fun h0 => ?_⟩
          rw [h0, meetsF, if_neg (by omega)] at hm
          have := hv.ok.1
          simp only [Int.toNat_zero] at hm
          rw [this] at hm; cases hm
theorem atT_hit {t : Tr} {p : Int} {s : Str} (h : atT t p s ≠ 0) : 1 ≤ atT t p s ∧ atT t p s ≤ 99 ∧ ∃ m, t (atT t p s).toNat = some m ∧ m.parent = p ∧ m.name = s := by
  rcases scan_cases (spotIs t p s) 1 100 with ⟨e1, e2, e3, _⟩ | ⟨e, _⟩
  · unfold atT; rw [if_pos e1]
    generalize scan (spotIs t p s) 1 100 = k at *
    unfold spotIs at e3
    cases hk : t k with
    | none => rw [hk] at e3; simp at e3
    | some m =>
      rw [hk] at e3; simp at e3
      exact ⟨by omega, by omega, m, by simpa using hk, e3.1, e3.2⟩
  · unfold atT at h; rw [if_neg (by omega)] at h; exact absurd rfl h
theorem kidT_hit {t : Tr} {id : Int} (h : kidT t id ≠ 0) : 1 ≤ kidT t id ∧ kidT t id ≤ 99 ∧ ∃ m, t (kidT t id).toNat = some m ∧ m.parent = id := by
  rcases scan_cases (kidIs t id) 1 100 with ⟨e1, e2, e3, _⟩ | ⟨e, _⟩
  · unfold kidT; rw [if_pos e1]
    generalize scan (kidIs t id) 1 100 = k at *
    unfold kidIs at e3
    cases hk : t k with
    | none => rw [hk] at e3; simp at e3
    | some m =>
      rw [hk] at e3; simp at e3
      exact ⟨by omega, by omega, m, by simpa using hk, e3⟩
  · unfold kidT at h; rw [if_neg (by omega)] at h; exact absurd rfl h
/-- What stands in another's place is not home, and not parked. -/
theorem taker_away {a g : Tr} (_hv : Valid a) (hg : Valid g) {id : Int} (h1 : 1 ≤ id) {n : Nd} (hn : g id.toNat = some n) (h0 : atT a n.parent n.name ≠ 0) (hne : atT a n.parent n.name ≠ id) :
    ∃ t, homeS a g (atT a n.parent n.name) = some t ∧ t.kind ≠ 43 ∧ (t.kind = 61 → a (atT a n.parent n.name).toNat ≠ some (parkN (atT a n.parent n.name))) := by
  obtain ⟨y1, y2, m, hm, hp, hs⟩ := atT_hit h0
  generalize atT a n.parent n.name = y at *
  have hid := trOk_id hg.ok (by omega) hn
  cases hgy : g y.toNat with
  | none => exact ⟨_, home_del hm hgy, by show ((45 : UInt8) ≠ 43); decide, fun h => absurd h (by show ¬ ((45 : UInt8) = 61); decide)⟩
  | some k =>
    refine ⟨_, home_move hm hgy (fun e => ?_), by show ((61 : UInt8) ≠ 43); decide, fun _ e => ?_⟩
    · subst e
      have := hg.apart _ _ _ _ hgy hn hp hs
      omega
    · rw [hm] at e
      cases e
      have h3 : isName n.name n.id = true := hid.2.2.2.2.2.2.2
      rw [← hs, hid.1] at h3
      have := park_own (x := y) (y := id) (by omega) y2 (by omega) hid.2.2.1 h3
      exact hne this
theorem parent_away {a g : Tr} (hg : Valid g) {id : Int} (h1 : 1 ≤ id) {n : Nd} (hn : g id.toNat = some n) (hp : isParentT a n.parent = false) :
    1 ≤ n.parent ∧ n.parent ≤ 99 ∧ ∃ k, g n.parent.toNat = some k ∧ homeS a g n.parent = some ⟨43, k⟩ := by
  have hid := trOk_id hg.ok (by omega) hn
  have hb := hid.2.2.2
  have h2 := hg.parent _ n hn
  rcases isParent_iff.1 h2 with h0 | ⟨he, k, hk⟩
  · rw [h0] at hp; simp [isParentT] at hp
  · have hk' := trOk_id hg.ok hb.2.2.1 hk
    refine ⟨hk'.2.1, hk'.2.2.1, k, hk, home_new ?_ hk⟩
    cases ha : a n.parent.toNat with
    | none => rfl
    | some m =>
      have : isParentT a n.parent = true := isParent_iff.2 (.inr ⟨he, m, ha⟩)
      rw [this] at hp; cases hp
/-- Where a step home is not a move and the next is none either, that one is of a lesser rank. -/
def rank (a g : Tr) (x : Int) : Nat := if (g x.toNat).isSome then 1000 + deep g x else 500 - deep a x
theorem blocker_good {a g : Tr} (hv : Valid a) (hg : Valid g) (hst : Stuck a g) {id : Int} (h1 : 1 ≤ id) (h2 : id ≤ 99) {s : St} (hs : homeS a g id = some s) :
    1 ≤ blocker a g id ∧ blocker a g id ≤ 99 ∧ ∃ t, homeS a g (blocker a g id) = some t ∧ (t.kind = 61 → a (blocker a g id).toNat ≠ some (parkN (blocker a g id))) ∧ (s.kind ≠ 61 → t.kind ≠ 61 → rank a g (blocker a g id) < rank a g id) := by
  have hE := hst id s h1 h2 hs
  rcases home_cases hs with ⟨rfl, hgn, m, hm⟩ | ⟨n, rfl, hgn, ha⟩ | ⟨n, m, rfl, hgn, hm, hmn⟩
  · -- a deletion waits for a kid
    have eb : blocker a g id = kidT a id := by unfold blocker; rw [hs]; rfl
    have hk : kidT a id ≠ 0 := by
      intro h0
      apply hE
      show stepE a ⟨45, ⟨id, 0, []⟩⟩ = 0
      unfold stepE deleteE
      rw [if_neg (show ¬ ((45 : UInt8) = 43) by decide), if_neg (show ¬ ((45 : UInt8) = 61) by decide), if_pos rfl, kids_kid, h0]
      rw [hasT_iff.2 ⟨m, hm⟩]; rfl
    rw [eb]
    obtain ⟨k1, k2, mk, hmk, hpk⟩ := kidT_hit hk
    generalize kidT a id = k at *
    refine ⟨k1, k2, ?_⟩
    cases hgk : g k.toNat with
    | none =>
      refine ⟨_, home_del hmk hgk, fun h => absurd h (by show ¬ ((45 : UInt8) = 61); decide), fun _ _ => ?_⟩
      unfold rank; rw [hgk, hgn, if_neg (by simp), if_neg (by simp)]
      have e1 := deep_succ hv k1 hmk
      rw [hpk] at e1
      have e2 := deep_le hv.ok (hv.goes _ mk hmk)
      rw [(trOk_id hv.ok (by omega) hmk).1] at e2
      omega
    | some nk =>
      refine ⟨_, home_move hmk hgk (fun e => ?_), fun _ e => ?_, fun _ h => absurd rfl h⟩
      · subst e
        have := hg.parent _ mk hgk
        rw [hpk] at this
        rcases isParent_iff.1 this with h0 | ⟨_, x, hx⟩
        · omega
        · rw [hgn] at hx; cases hx
      · rw [hmk] at e; cases e; simp [parkN] at hpk; omega
  · -- a creation
    have hid := trOk_id hg.ok (by omega) hgn
    have eb : blocker a g id = inWay a g n := by
      unfold blocker; rw [hs]; show (if (43 : UInt8) = 45 then _ else _) = _; rw [if_neg (by decide)]
    rw [eb]
    have hno : hasT a id = false := by unfold hasT; rw [ha]; rfl
    cases hp : isParentT a n.parent
    · have ei : inWay a g n = n.parent := by unfold inWay; rw [hp]; rfl
      rw [ei]
      obtain ⟨p1, p2, k, hk, hh⟩ := parent_away hg h1 hgn hp
      refine ⟨p1, p2, _, hh, fun h => absurd h (by show ¬ ((43 : UInt8) = 61); decide), fun _ _ => ?_⟩
      unfold rank; rw [hk, hgn, if_pos (by simp), if_pos (by simp)]
      have := deep_succ hg h1 hgn
      omega
    · have hme : meetsT a n.parent n.id = false := by
        rw [hid.1]
        cases hq : meetsT a n.parent id
        · rfl
        · exfalso
          have key : ∀ f p, isParentT a p = true → meetsF a f p id = true → False := by
            intro f
            induction f with
            | zero => intro p _ h; cases h
            | succ f ih =>
              intro p hpp h
              by_cases e : p = id
              · rcases isParent_iff.1 hpp with h0 | ⟨_, x, hx⟩
                · omega
                · rw [e, ha] at hx; cases hx
              · cases hx : a p.toNat with
                | none => rw [meetsF, if_neg e, hx] at h; cases h
                | some x => rw [meets_succ e hx] at h; exact ih _ (hv.parent _ x hx) h
          exact key 100 _ hp hq
      have ei : inWay a g n = atT a n.parent n.name := by unfold inWay; rw [hp, hme]; rfl
      have h0 : atT a n.parent n.name ≠ 0 := by
        intro h0
        apply hE
        show stepE a ⟨43, n⟩ = 0
        unfold stepE createE
        rw [if_pos rfl, hid.1, hno, hp, h0]; rfl
      rw [ei]
      obtain ⟨y1, y2, my, hmy, _⟩ := atT_hit h0
      obtain ⟨t, ht, hk, hpk⟩ := taker_away hv hg h1 hgn h0 (fun e => by rw [e, ha] at hmy; cases hmy)
      refine ⟨y1, y2, t, ht, hpk, fun _ hk2 => ?_⟩
      -- it is deleted
      rcases home_cases ht with ⟨rfl, hgy, _⟩ | ⟨k, rfl, _⟩ | ⟨k, _, rfl, _⟩
      · unfold rank; rw [hgy, hgn, if_neg (by simp), if_pos (by simp)]; omega
      · exact absurd rfl hk
      · exact absurd rfl hk2
  · -- a move
    have hid := trOk_id hg.ok (by omega) hgn
    have eb : blocker a g id = inWay a g n := by
      unfold blocker; rw [hs]; show (if (61 : UInt8) = 45 then _ else _) = _; rw [if_neg (by decide)]
    rw [eb]
    cases hp : isParentT a n.parent
    · have ei : inWay a g n = n.parent := by unfold inWay; rw [hp]; rfl
      rw [ei]
      obtain ⟨p1, p2, k, hk, hh⟩ := parent_away hg h1 hgn hp
      exact ⟨p1, p2, _, hh, fun h => absurd h (by show ¬ ((43 : UInt8) = 61); decide), fun h => absurd rfl h⟩
    · cases hme : meetsT a n.parent n.id
      · have ei : inWay a g n = atT a n.parent n.name := by unfold inWay; rw [hp, hme]; rfl
        have hE2 : atT a n.parent n.name ≠ 0 ∧ atT a n.parent n.name ≠ id := by
          apply Classical.byContradiction
          intro hcon
          apply hE
          show stepE a ⟨61, n⟩ = 0
          unfold stepE moveE
          rw [if_neg (show ¬ ((61 : UInt8) = 43) by decide), if_pos rfl, hp, hme, hid.1, hasT_iff.2 ⟨m, hm⟩]
          have : (atT a n.parent n.name != 0 && atT a n.parent n.name != id) = false := by
            cases hq : (atT a n.parent n.name != 0 && atT a n.parent n.name != id)
            · rfl
            · rw [Bool.and_eq_true, bne_iff_ne, bne_iff_ne] at hq; exact absurd hq hcon
          rw [this]; rfl
        rw [ei]
        obtain ⟨y1, y2, _⟩ := atT_hit hE2.1
        obtain ⟨t, ht, _, hpk⟩ := taker_away hv hg h1 hgn hE2.1 hE2.2
        exact ⟨y1, y2, t, ht, hpk, fun h => absurd rfl h⟩
      · have ei : inWay a g n = fromAwayF a g 99 n.parent := by unfold inWay; rw [hp, hme]; rfl
        rw [ei]
        rw [hid.1] at hme
        obtain ⟨y1, y2, y3, my, hmy, hpy⟩ := fromAway_good hv hg h1 99 n.parent hid.2.2.2.2.2.1 hme (no_loop hg h1 hgn)
        obtain ⟨t, ht⟩ := Option.isSome_iff_exists.1 y3
        refine ⟨y1, y2, t, ht, fun _ e => ?_, fun h => absurd rfl h⟩
        rw [hmy] at e; cases e; exact hpy rfl
/-! The knot. -/
theorem iter_succ (f : Int → Int) : ∀ (k : Nat) (x : Int), iter f (k + 1) x = f (iter f k x) := by
  intro k
  induction k with
  | zero => intro x; rfl
  | succ k ih => intro x; rw [iter, ih]; rfl
def AwayAt (a g : Tr) (x : Int) : Prop := 1 ≤ x ∧ x ≤ 99 ∧ (homeS a g x).isSome = true
theorem iter_away {a g : Tr} (hv : Valid a) (hg : Valid g) (hst : Stuck a g) {x : Int} (h : AwayAt a g x) : ∀ k, AwayAt a g (iter (blocker a g) k x) := by
  intro k
  induction k with
  | zero => exact h
  | succ k ih =>
    rw [iter_succ]
    obtain ⟨s, hs⟩ := Option.isSome_iff_exists.1 ih.2.2
    obtain ⟨b1, b2, t, ht, _⟩ := blocker_good hv hg hst ih.1 ih.2.1 hs
    exact ⟨b1, b2, by rw [ht]; rfl⟩
theorem seek_hit {a g : Tr} : ∀ (f : Nat) (x : Int), (∃ k, k < f ∧ isMove a g (iter (blocker a g) k x) = true) → ∃ k, k < f ∧ seekF a g f x = iter (blocker a g) k x ∧ isMove a g (iter (blocker a g) k x) = true := by
  intro f
  induction f with
  | zero => rintro x ⟨k, hk, _⟩; omega
  | succ f ih =>
    rintro x ⟨k, hk, hm⟩
    rw [seekF]
    cases hx : isMove a g x
    · rw [if_neg (by simp)]
      cases k with
      | zero => rw [iter, hx] at hm; cases hm
      | succ k =>
        obtain ⟨j, hj, e1, e2⟩ := ih (blocker a g x) ⟨k, by omega, hm⟩
        exact ⟨j + 1, by omega, e1, e2⟩
    · rw [if_pos rfl]; exact ⟨0, by omega, rfl, hx⟩
theorem isMove_iff {a g : Tr} {x : Int} : isMove a g x = true ↔ ∃ n, homeS a g x = some ⟨61, n⟩ := by
  unfold isMove
  cases h : homeS a g x with
  | none => simp
  | some s =>
    obtain ⟨k, n⟩ := s
    simp only [beq_iff_eq, Option.some.injEq, St.mk.injEq]
    constructor
    · rintro rfl; exact ⟨n, rfl, rfl⟩
    · rintro ⟨_, e, _⟩; exact e
theorem move_found {a g : Tr} (hv : Valid a) (hg : Valid g) (hst : Stuck a g) {x : Int} (h : AwayAt a g x) : ∃ k, k < 99 ∧ isMove a g (iter (blocker a g) k x) = true := by
  apply Classical.byContradiction
  intro hcon
  have hno : ∀ k, k < 99 → isMove a g (iter (blocker a g) k x) = false := by
    intro k hk
    cases hq : isMove a g (iter (blocker a g) k x)
    · rfl
    · exact absurd ⟨k, hk, hq⟩ hcon
  have haw := iter_away hv hg hst h
  have hdown : ∀ k, isMove a g (iter (blocker a g) k x) = false → isMove a g (iter (blocker a g) (k + 1) x) = false → rank a g (iter (blocker a g) (k + 1) x) < rank a g (iter (blocker a g) k x) := by
    intro k h1 h2
    rw [iter_succ] at h2 ⊢
    have ha := haw k
    obtain ⟨s, hs⟩ := Option.isSome_iff_exists.1 ha.2.2
    obtain ⟨_, _, t, ht, _, hr⟩ := blocker_good hv hg hst ha.1 ha.2.1 hs
    refine hr (fun e => ?_) (fun e => ?_)
    · rw [isMove_iff.2 ⟨s.node, by rw [hs, ← e]⟩] at h1; cases h1
    · rw [isMove_iff.2 ⟨t.node, by rw [ht, ← e]⟩] at h2; cases h2
  have hmono : ∀ d i, i + d < 99 → rank a g (iter (blocker a g) (i + d) x) + d ≤ rank a g (iter (blocker a g) i x) := by
    intro d
    induction d with
    | zero => intro i _; simp
    | succ d ih =>
      intro i hi
      have h1 := ih i (by omega)
      have h2 := hdown (i + d) (hno _ (by omega)) (hno _ (by omega))
      rw [show i + (d + 1) = i + d + 1 by omega]
      omega
  have hnd : ((List.range 99).map (fun k => iter (blocker a g) k x)).Nodup := by
    rw [List.nodup_iff_pairwise_ne, List.pairwise_map]
    refine List.pairwise_lt_range.imp_of_mem (fun {i j} hi hj hij e => ?_)
    rw [List.mem_range] at hi hj
    have := hmono (j - i) i (by omega)
    rw [show i + (j - i) = j by omega, ← e] at this
    omega
  have hsub : ∀ y, AwayAt a g y → y ∈ (List.range' 1 99).map (fun i : Nat => (i : Int)) := by
    intro y hy
    refine List.mem_map.2 ⟨y.toNat, ?_, ?_⟩
    · rw [List.mem_range'_1]; have := hy.1; have := hy.2.1; omega
    · have := hy.1; show ((y.toNat : Nat) : Int) = y; omega
  have hin : iter (blocker a g) 99 x ∈ (List.range 99).map (fun k => iter (blocker a g) k x) := by
    apply Classical.byContradiction
    intro hni
    have := pigeon (iter (blocker a g) 99 x :: (List.range 99).map (fun k => iter (blocker a g) k x)) ((List.range' 1 99).map (fun i : Nat => (i : Int))) (List.nodup_cons.2 ⟨hni, hnd⟩) (fun y hy => by
      rcases List.mem_cons.1 hy with rfl | hy
      · exact hsub _ (haw 99)
      · obtain ⟨k, _, rfl⟩ := List.mem_map.1 hy
        exact hsub _ (haw k))
    simp at this
  obtain ⟨j, hj, e⟩ := List.mem_map.1 hin
  rw [List.mem_range] at hj
  have h1 := hdown 98 (hno 98 (by omega)) (by rw [show 98 + 1 = 99 from rfl, ← e]; exact hno j hj)
  have h2 := hmono (98 - j) j (by omega)
  rw [show j + (98 - j) = 98 by omega] at h2
  rw [show 98 + 1 = 99 from rfl, ← e] at h1
  omega
theorem firstAway_hit {a g : Tr} {x : Int} (h : AwayAt a g x) : AwayAt a g (firstAway a g) := by
  rcases scan_cases (awayIs a g) 1 100 with ⟨e1, e2, e3, _⟩ | ⟨_, e⟩
  · unfold firstAway; rw [if_pos e1]
    exact ⟨by omega, by omega, e3⟩
  · have h1 := h.1
    have h2 := h.2.1
    have := e x.toNat (by omega) (by omega)
    unfold awayIs at this
    rw [Int.toNat_of_nonneg (by omega)] at this
    rw [h.2.2] at this; cases this
theorem knot_good {a g : Tr} (hv : Valid a) (hg : Valid g) (hst : Stuck a g) {x : Int} (h : AwayAt a g x) :
    1 ≤ knotT a g ∧ knotT a g ≤ 99 ∧ (∃ n, homeS a g (knotT a g) = some ⟨61, n⟩) ∧ a (knotT a g).toNat ≠ some (parkN (knotT a g)) ∧ stepE a (parkS (knotT a g)) = 0 := by
  have h0 := firstAway_hit h
  have h99 := iter_away hv hg hst h0 99
  obtain ⟨k, _, e1, e2⟩ := seek_hit 99 _ (move_found hv hg hst h99)
  have hk := iter_away hv hg hst h99 k
  have ek : knotT a g = iter (blocker a g) k (iter (blocker a g) 99 (firstAway a g)) := e1
  rw [← ek] at hk e2
  have hun : a (knotT a g).toNat ≠ some (parkN (knotT a g)) := by
    -- it was come to by at least one step
    have key : ∀ j y, AwayAt a g y → isMove a g (iter (blocker a g) (j + 1) y) = true → a (iter (blocker a g) (j + 1) y).toNat ≠ some (parkN (iter (blocker a g) (j + 1) y)) := by
      intro j y hy hm
      rw [iter_succ] at hm ⊢
      have ha := iter_away hv hg hst hy j
      obtain ⟨s, hs⟩ := Option.isSome_iff_exists.1 ha.2.2
      obtain ⟨_, _, t, ht, hp, _⟩ := blocker_good hv hg hst ha.1 ha.2.1 hs
      obtain ⟨n, hn⟩ := isMove_iff.1 hm
      refine hp ?_
      rw [ht] at hn; cases hn; rfl
    have hadd : ∀ j m y, iter (blocker a g) j (iter (blocker a g) m y) = iter (blocker a g) (m + j) y := by
      intro j m
      induction m with
      | zero => intro y; rw [Nat.zero_add]; rfl
      | succ m ih => intro y; rw [show m + 1 + j = (m + j) + 1 by omega]; exact ih _
    have e3 : knotT a g = iter (blocker a g) (98 + k + 1) (firstAway a g) := by rw [ek, hadd]; congr 1; omega
    rw [e3] at e2 ⊢
    exact key _ _ h0 e2
  obtain ⟨n, hn⟩ := isMove_iff.1 e2
  refine ⟨hk.1, hk.2.1, ⟨n, hn⟩, hun, ?_⟩
  obtain ⟨m, hm⟩ : ∃ m, a (knotT a g).toNat = some m := by
    rcases home_cases hn with ⟨e, _⟩ | ⟨_, e, _⟩ | ⟨_, m, _, _, hm, _⟩
    · cases e
    · cases e
    · exact ⟨m, hm⟩
  have h1 := hk.1
  have h2 := hk.2.1
  generalize knotT a g = id at *
  show stepE a ⟨61, parkN id⟩ = 0
  unfold stepE moveE
  rw [if_neg (show ¬ ((61 : UInt8) = 43) by decide), if_pos rfl]
  have e1 : hasT a (parkN id).id = true := hasT_iff.2 ⟨m, hm⟩
  have e2 : isParentT a (parkN id).parent = true := rfl
  have e3 : meetsT a (parkN id).parent (parkN id).id = false := by
    show meetsF a 100 0 id = false
    rw [meetsF, if_neg (by omega)]
    simp only [Int.toNat_zero]
    rw [hv.ok.1]
  have e4 : (atT a (parkN id).parent (parkN id).name != 0 && atT a (parkN id).parent (parkN id).name != (parkN id).id) = false := by
    cases hq : (atT a (parkN id).parent (parkN id).name != 0 && atT a (parkN id).parent (parkN id).name != (parkN id).id)
    · rfl
    · rw [Bool.and_eq_true, bne_iff_ne, bne_iff_ne] at hq
      obtain ⟨y1, y2, my, hmy, hpy, hny⟩ := atT_hit hq.1
      have hb := trOk_id hv.ok (by omega) hmy
      have h3 := hb.2.2.2.2.2.2.2
      rw [hny, hb.1] at h3
      exact absurd (park_own (x := id) (y := atT a (parkN id).parent (parkN id).name) (by omega) h2 (by omega) y2 h3).symm hq.2
  rw [e1, e2, e3, e4]; rfl
theorem make_seg {g : Tr} (hg : Valid g) : ∀ (f : Nat) (p : Pl), Valid p.now → toCome p.now g < f → ∃ ss, makeF g f p = p.done ++ ss ∧ Seg g p.now ss g := by
  intro f
  induction f with
  | zero => intro p _ h; omega
  | succ f ih =>
    intro p hv hc
    obtain ⟨ss, k1, k2, k3, k4⟩ := goHome_fold g (List.range' 1 99) p false (fun i hi => by rw [List.mem_range'_1] at hi; omega)
    have hE : goHomeT g p = (List.range' 1 99).foldl (goOne g) (p, false) := by unfold goHomeT; rfl
    rw [← hE] at k1 k2 k3 k4
    have hv2 := (seg_valid k2 hg.ok hv).1
    have hc2 := seg_come k2 hg.ok
    rw [makeF]
    cases ss with
    | cons s ss =>
      rw [if_pos (by rw [k3]; rfl)]
      obtain ⟨ts, e1, e2⟩ := ih (goHomeT g p).1 hv2 (by simp only [List.length_cons] at hc2; omega)
      exact ⟨(s :: ss) ++ ts, by rw [e1, k1]; simp, seg_trans k2 e2⟩
    | nil =>
      obtain ⟨ep, hst⟩ := k4 rfl
      rw [if_neg (by rw [k3]; simp), ep]
      have hStuck : Stuck p.now g := by
        intro j s h1 h2 hs
        refine hst j.toNat (by rw [List.mem_range'_1]; omega) s ?_
        rw [Int.toNat_of_nonneg (by omega)]; exact hs
      by_cases haway : ∃ x, AwayAt p.now g x
      · obtain ⟨x, hx⟩ := haway
        obtain ⟨q1, q2, ⟨n, hn⟩, q3, q4⟩ := knot_good hv hg hStuck hx
        have e : parkT g p = (⟨stepT p.now (parkS (knotT p.now g)), p.done ++ [parkS (knotT p.now g)]⟩, true) := by
          unfold parkT; rw [if_neg (by omega), if_pos q4]
        rw [e, if_pos rfl]
        have hc3 := come_park q1 q2 hn q3 q4
        obtain ⟨ts, e1, e2⟩ := ih ⟨stepT p.now (parkS (knotT p.now g)), p.done ++ [parkS (knotT p.now g)]⟩ (valid_step hv (park_ok q1 q2)) (by show toCome (stepT p.now _) g < f; omega)
        exact ⟨parkS (knotT p.now g) :: ts, by rw [e1]; simp, Seg.park q1 q2 hStuck hn q3 q4 e2⟩
      · have hall : p.now = g := by
          funext i
          by_cases hi : 1 ≤ i ∧ i ≤ 99
          · cases hq : homeS p.now g i with
            | none => have := home_none.1 hq; simpa using this
            | some s => exact absurd ⟨(i : Int), by omega, by omega, by rw [hq]; rfl⟩ haway
          · have e1 : p.now i = none := by
              cases h : p.now i with
              | none => rfl
              | some n => have := hv.ok.2 i n h; omega
            have e2 : g i = none := by
              cases h : g i with
              | none => rfl
              | some n => have := hg.ok.2 i n h; omega
            rw [e1, e2]
        have e0 : knotT p.now g = 0 := by
          have hb : ∀ x, blocker p.now g x = 0 := by
            intro x; unfold blocker; rw [home_none.2 (by rw [hall])]
          have hm : ∀ x, isMove p.now g x = false := by
            intro x; unfold isMove; rw [home_none.2 (by rw [hall])]
          have : ∀ f x, seekF p.now g f x = 0 := by
            intro f
            induction f with
            | zero => intro x; rfl
            | succ f ih2 => intro x; rw [seekF, hm, if_neg (by simp)]; exact ih2 _
          exact this _ _
        have e : parkT g p = (p, false) := by unfold parkT; rw [if_pos e0]
        rw [e, if_neg (by simp)]
        exact ⟨[], by simp, by rw [hall]; exact Seg.nil g⟩
theorem makeT_seg {a g : Tr} (ha : Valid a) (hg : Valid g) : Seg g a (makeT a g) g := by
  obtain ⟨ss, e, h⟩ := make_seg hg 199 ⟨a, []⟩ ha (by have := toCome_le a g; show toCome a g < 199; omega)
  have : makeT a g = ss := by unfold makeT; rw [e]; rfl
  rw [this]; exact h
end Go.Proofs.YtkahmbpggdneoaaDoor
