import Derived.Test.YtkahmbpggdneoaaDoorKPure3
namespace Go.Proofs.YtkahmbpggdneoaaDoor
open Go.RowKit
/-! Compile: what the program does. -/
def getT (t : Tr) (id : Int) : Nd := (t id.toNat).getD nd0
/-- The step that brings a node home, if it is not there. -/
def homeS (a g : Tr) (id : Int) : Option St := match a id.toNat, g id.toNat with
  | none, none => none
  | some _, none => some ⟨45, ⟨id, 0, []⟩⟩
  | none, some n => some ⟨43, n⟩
  | some m, some n => if ndEq m n then none else some ⟨61, n⟩
structure Pl where
  now : Tr
  done : List St
def goOne (g : Tr) (p : Pl × Bool) (i : Nat) : Pl × Bool := match homeS p.1.now g i with
  | none => p
  | some s => if stepE p.1.now s = 0 then (⟨stepT p.1.now s, p.1.done ++ [s]⟩, true) else p
def goHomeT (g : Tr) (p : Pl) : Pl × Bool := (List.range' 1 99).foldl (goOne g) (p, false)
def fromAwayF (a g : Tr) : Nat → Int → Int
  | 0, _ => 0
  | f + 1, id => if (homeS a g id).isSome then id else fromAwayF a g f (getT a id).parent
def inWay (a g : Tr) (n : Nd) : Int := if !isParentT a n.parent then n.parent else if meetsT a n.parent n.id then fromAwayF a g 99 n.parent else atT a n.parent n.name
def blocker (a g : Tr) (id : Int) : Int := match homeS a g id with
  | none => 0
  | some s => if s.kind = 45 then kidT a id else inWay a g s.node
def awayIs (a g : Tr) (i : Nat) : Bool := (homeS a g i).isSome
def firstAway (a g : Tr) : Int := if scan (awayIs a g) 1 100 < 100 then (scan (awayIs a g) 1 100 : Int) else 0
def iter (f : Int → Int) : Nat → Int → Int
  | 0, x => x
  | n + 1, x => iter f n (f x)
def isMove (a g : Tr) (id : Int) : Bool := match homeS a g id with
  | none => false
  | some s => s.kind == 61
def seekF (a g : Tr) : Nat → Int → Int
  | 0, _ => 0
  | f + 1, id => if isMove a g id then id else seekF a g f (blocker a g id)
def knotT (a g : Tr) : Int := seekF a g 99 (iter (blocker a g) 99 (firstAway a g))
def parkN (id : Int) : Nd := ⟨id, 0, 116 :: 126 :: digs id⟩
def parkS (id : Int) : St := ⟨61, parkN id⟩
def parkT (g : Tr) (p : Pl) : Pl × Bool :=
  if knotT p.now g = 0 then (p, false) else
  if stepE p.now (parkS (knotT p.now g)) = 0 then (⟨stepT p.now (parkS (knotT p.now g)), p.done ++ [parkS (knotT p.now g)]⟩, true) else (p, false)
def makeF (g : Tr) : Nat → Pl → List St
  | 0, p => p.done
  | f + 1, p => if (goHomeT g p).2 then makeF g f (goHomeT g p).1 else if (parkT g (goHomeT g p).1).2 then makeF g f (parkT g (goHomeT g p).1).1 else (parkT g (goHomeT g p).1).1.done
def makeT (a g : Tr) : List St := makeF g 199 ⟨a, []⟩
/-! The document's way from tree to tree. -/
inductive Seg (g : Tr) : Tr → List St → Tr → Prop
  | nil (a : Tr) : Seg g a [] a
  | home {a b : Tr} {i : Int} {s : St} {ss : List St} (h1 : 1 ≤ i) (h2 : i ≤ 99) (hs : homeS a g i = some s) (he : stepE a s = 0) (k : Seg g (stepT a s) ss b) : Seg g a (s :: ss) b
  | park {a b : Tr} {i : Int} {n : Nd} {ss : List St} (h1 : 1 ≤ i) (h2 : i ≤ 99) (hno : ∀ (j : Int) (s : St), 1 ≤ j → j ≤ 99 → homeS a g j = some s → stepE a s ≠ 0) (hs : homeS a g i = some ⟨61, n⟩) (hp : a i.toNat ≠ some (parkN i)) (he : stepE a (parkS i) = 0) (k : Seg g (stepT a (parkS i)) ss b) : Seg g a (parkS i :: ss) b
theorem seg_trans {g a b c : Tr} {ss ts : List St} (h : Seg g a ss b) (k : Seg g b ts c) : Seg g a (ss ++ ts) c := by
  induction h with
  | nil a => exact k
  | home h1 h2 hs he _ ih => exact Seg.home h1 h2 hs he (ih k)
  | park h1 h2 hno hs hp he _ ih => exact Seg.park h1 h2 hno hs hp he (ih k)
/-! Steps home. -/
theorem home_cases {a g : Tr} {id : Int} {s : St} (h : homeS a g id = some s) :
    (s = ⟨45, ⟨id, 0, []⟩⟩ ∧ g id.toNat = none ∧ ∃ m, a id.toNat = some m) ∨ (∃ n, s = ⟨43, n⟩ ∧ g id.toNat = some n ∧ a id.toNat = none) ∨ ∃ n m, s = ⟨61, n⟩ ∧ g id.toNat = some n ∧ a id.toNat = some m ∧ m ≠ n := by
  unfold homeS at h
  cases ha : a id.toNat with
  | none =>
    cases hg : g id.toNat with
    | none => rw [ha, hg] at h; cases h
    | some n => rw [ha, hg] at h; cases h; exact .inr (.inl ⟨n, rfl, rfl, rfl⟩)
  | some m =>
    cases hg : g id.toNat with
    | none => rw [ha, hg] at h; cases h; exact .inl ⟨rfl, rfl, m, rfl⟩
    | some n =>
      rw [ha, hg] at h
      have h' : (if ndEq m n then none else some (⟨61, n⟩ : St)) = some s := h
      split at h'
      · cases h'
      · rename_i hne
        cases h'
        exact .inr (.inr ⟨n, m, rfl, rfl, rfl, fun e => hne (ndEq_iff.2 e)⟩)
theorem home_none {a g : Tr} {id : Int} : homeS a g id = none ↔ a id.toNat = g id.toNat := by
  unfold homeS
  cases ha : a id.toNat with
  | none => cases hg : g id.toNat <;> simp
  | some m =>
    cases hg : g id.toNat with
    | none => simp
    | some n =>
      simp only [Option.some.injEq]
      constructor
      · intro h
        split at h
        · exact ndEq_iff.1 (by assumption)
        · cases h
      · intro h; rw [if_pos (ndEq_iff.2 h)]
theorem home_del {a g : Tr} {id : Int} {m : Nd} (ha : a id.toNat = some m) (hg : g id.toNat = none) : homeS a g id = some ⟨45, ⟨id, 0, []⟩⟩ := by unfold homeS; rw [ha, hg]
theorem home_new {a g : Tr} {id : Int} {n : Nd} (ha : a id.toNat = none) (hg : g id.toNat = some n) : homeS a g id = some ⟨43, n⟩ := by unfold homeS; rw [ha, hg]
theorem home_move {a g : Tr} {id : Int} {m n : Nd} (ha : a id.toNat = some m) (hg : g id.toNat = some n) (h : m ≠ n) : homeS a g id = some ⟨61, n⟩ := by
  unfold homeS; rw [ha, hg]
  show (if ndEq m n then none else some (⟨61, n⟩ : St)) = _
  rw [if_neg (fun e => h (ndEq_iff.1 e))]
theorem home_congr {a a' g : Tr} {id : Int} (h : a id.toNat = a' id.toNat) : homeS a g id = homeS a' g id := by unfold homeS; rw [h]
theorem digs_inj : ∀ x : Nat, x < 100 → ∀ y : Nat, y < 100 → digs (x : Int) = digs (y : Int) → x = y := by decide +kernel
theorem plain_park (l : Str) : plainLen (116 :: 126 :: l) = 1 := by
  unfold plainLen
  rw [List.takeWhile_cons, if_pos (by decide), List.takeWhile_cons, if_neg (by decide)]; rfl
theorem park_name (id : Int) : isName (116 :: 126 :: digs id) id = true := by
  unfold isName; rw [plain_park]; simp
theorem park_own {x y : Int} (hx0 : 0 ≤ x) (hx : x ≤ 99) (hy0 : 0 ≤ y) (hy : y ≤ 99) (h : isName (116 :: 126 :: digs x) y = true) : x = y := by
  unfold isName at h; rw [plain_park] at h
  simp only [List.length_cons, List.drop_succ_cons, List.drop_zero, Bool.and_eq_true, Bool.or_eq_true, beq_iff_eq] at h
  rcases h.2 with h | h
  · omega
  · obtain ⟨a, rfl⟩ := Int.eq_ofNat_of_zero_le hx0
    obtain ⟨b, rfl⟩ := Int.eq_ofNat_of_zero_le hy0
    have := digs_inj a (by omega) b (by omega) (by simpa using h)
    rw [this]
theorem park_ok {id : Int} (h1 : 1 ≤ id) (h2 : id ≤ 99) : StOk (parkS id) := .inl ⟨.inr rfl, h1, h2, Int.le_refl 0, by show (0 : Int) ≤ 99; omega, park_name id⟩
theorem trOk_id {t : Tr} (h : TrOk t) {id : Int} (h1 : 0 ≤ id) {n : Nd} (hn : t id.toNat = some n) : n.id = id ∧ 1 ≤ id ∧ id ≤ 99 ∧ NdOk n := by
  have := h.2 _ n hn
  refine ⟨by omega, by omega, by omega, by omega, by omega, this.2.2.2.1, this.2.2.2.2.1, this.2.2.2.2.2⟩
theorem home_ok {a g : Tr} (hg : TrOk g) {id : Int} (h1 : 1 ≤ id) (h2 : id ≤ 99) {s : St} (h : homeS a g id = some s) : StOk s ∧ s.node.id = id := by
  rcases home_cases h with ⟨rfl, _⟩ | ⟨n, rfl, hn, _⟩ | ⟨n, _, rfl, hn, _⟩
  · exact ⟨.inr ⟨rfl, h1, h2⟩, rfl⟩
  · have := trOk_id hg (by omega) hn; exact ⟨.inl ⟨.inl rfl, this.2.2.2⟩, this.1⟩
  · have := trOk_id hg (by omega) hn; exact ⟨.inl ⟨.inr rfl, this.2.2.2⟩, this.1⟩
/-- A step home that is done: the node is home, all else is as it was. -/
theorem home_done {a g : Tr} (hg : TrOk g) {id : Int} (h1 : 1 ≤ id) {s : St} (h : homeS a g id = some s) (he : stepE a s = 0) (j : Nat) : stepT a s j = if (j : Int) = id then g j else a j := by
  unfold stepT
  rw [if_pos he]
  rcases home_cases h with ⟨rfl, hn, _⟩ | ⟨n, rfl, hn, _⟩ | ⟨n, _, rfl, hn, _⟩
  · rw [if_pos rfl]
    unfold trRemove
    by_cases e : (j : Int) = id
    · rw [if_pos e, if_pos e, ← hn]; congr 1; omega
    · rw [if_neg e, if_neg e]
  · rw [if_neg (show ¬ ((43 : UInt8) = 45) by decide), put_at]
    have := (trOk_id hg (by omega) hn).1
    simp only
    rw [this]
    by_cases e : (j : Int) = id
    · rw [if_pos e, if_pos e, ← hn]; congr 1; omega
    · rw [if_neg e, if_neg e]
  · rw [if_neg (show ¬ ((61 : UInt8) = 45) by decide), put_at]
    have := (trOk_id hg (by omega) hn).1
    simp only
    rw [this]
    by_cases e : (j : Int) = id
    · rw [if_pos e, if_pos e, ← hn]; congr 1; omega
    · rw [if_neg e, if_neg e]
theorem park_done {a : Tr} {id : Int} (he : stepE a (parkS id) = 0) (j : Nat) : stepT a (parkS id) j = if (j : Int) = id then some (parkN id) else a j := by
  unfold stepT
  rw [if_pos he, if_neg (show ¬ ((parkS id).kind = 45) by show ¬ ((61 : UInt8) = 45); decide), put_at]; rfl
theorem seg_valid {g a b : Tr} {ss : List St} (h : Seg g a ss b) (hg : TrOk g) : Valid a → Valid b ∧ ∀ s ∈ ss, StOk s := by
  induction h with
  | nil a => intro h; exact ⟨h, by simp⟩
  | home h1 h2 hs he _ ih =>
    intro h
    have hk := (home_ok hg h1 h2 hs).1
    obtain ⟨k1, k2⟩ := ih (valid_step h hk)
    refine ⟨k1, fun s hm => ?_⟩
    rcases List.mem_cons.1 hm with rfl | hm
    · exact hk
    · exact k2 s hm
  | park h1 h2 hno hs hp he _ ih =>
    intro h
    have hk := park_ok h1 h2
    obtain ⟨k1, k2⟩ := ih (valid_step h hk)
    refine ⟨k1, fun s hm => ?_⟩
    rcases List.mem_cons.1 hm with rfl | hm
    · exact hk
    · exact k2 s hm
theorem seg_does {g a b : Tr} {ss : List St} (h : Seg g a ss b) : ∀ i, doAllE ss a i = (0, 0) ∧ doAllT ss a = b := by
  induction h with
  | nil a => intro i; exact ⟨rfl, rfl⟩
  | home h1 h2 hs he _ ih => intro i; rw [doAllE, doAllT, if_pos he, if_pos he]; exact ih _
  | park h1 h2 hno hs hp he _ ih => intro i; rw [doAllE, doAllT, if_pos he, if_pos he]; exact ih _
/-! How much is to come. -/
def parkedB (a : Tr) (i : Nat) : Bool := match a i with
  | none => false
  | some m => ndEq m (parkN i)
theorem parkedB_iff {a : Tr} {i : Nat} : parkedB a i = true ↔ a i = some (parkN i) := by
  unfold parkedB
  cases a i with
  | none => simp
  | some m => simp [ndEq_iff]
def weight (a g : Tr) (i : Nat) : Nat := match homeS a g i with
  | none => 0
  | some s => if s.kind == 61 && !parkedB a i then 2 else 1
def toCome (a g : Tr) : Nat := ((List.range' 1 99).map (weight a g)).sum
theorem weight_le (a g : Tr) (i : Nat) : weight a g i ≤ 2 := by
  unfold weight; split
  · omega
  · split <;> omega
theorem sum_le {f h : Nat → Nat} : ∀ (l : List Nat), (∀ i ∈ l, f i ≤ h i) → (l.map f).sum ≤ (l.map h).sum := by
  intro l
  induction l with
  | nil => simp
  | cons x l ih =>
    intro hh
    have h1 := hh x (by simp)
    have h2 := ih (fun i hi => hh i (by simp [hi]))
    simp only [List.map_cons, List.sum_cons]; omega
theorem sum_lt {f h : Nat → Nat} : ∀ (l : List Nat) (k : Nat), k ∈ l → (∀ i ∈ l, f i ≤ h i) → f k < h k → (l.map f).sum < (l.map h).sum := by
  intro l
  induction l with
  | nil => intro k hk; simp at hk
  | cons x l ih =>
    intro k hk hh hlt
    have h1 := hh x (by simp)
    have h2 := sum_le l (fun i hi => hh i (by simp [hi]))
    simp only [List.map_cons, List.sum_cons]
    rcases List.mem_cons.1 hk with rfl | hk
    · omega
    · have := ih k hk (fun i hi => hh i (by simp [hi])) hlt; omega
theorem sum_bd {f : Nat → Nat} {c : Nat} : ∀ (l : List Nat), (∀ i ∈ l, f i ≤ c) → (l.map f).sum ≤ c * l.length := by
  intro l
  induction l with
  | nil => simp
  | cons x l ih =>
    intro hh
    have h1 := hh x (by simp)
    have h2 := ih (fun i hi => hh i (by simp [hi]))
    simp only [List.map_cons, List.sum_cons, List.length_cons, Nat.mul_add]; omega
theorem toCome_le (a g : Tr) : toCome a g ≤ 198 := by
  have := sum_bd (f := weight a g) (c := 2) (List.range' 1 99) (fun i _ => weight_le a g i)
  simpa [toCome] using this
theorem weight_congr {a b g : Tr} {i : Nat} (h : a i = b i) : weight a g i = weight b g i := by
  unfold weight parkedB
  rw [home_congr (a := a) (a' := b) (by simpa using h), h]
theorem weight_home {a g : Tr} {i : Nat} (h : a i = g i) : weight a g i = 0 := by
  unfold weight
  rw [home_none.2 (by simpa using h)]
theorem weight_pos {a g : Tr} {i : Nat} {s : St} (h : homeS a g i = some s) : 1 ≤ weight a g i := by
  unfold weight; rw [h]; simp only; split <;> omega
theorem come_home {a g : Tr} (hg : TrOk g) {id : Int} (h1 : 1 ≤ id) (h2 : id ≤ 99) {s : St} (h : homeS a g id = some s) (he : stepE a s = 0) : toCome (stepT a s) g < toCome a g := by
  obtain ⟨m, rfl⟩ := Int.eq_ofNat_of_zero_le (show 0 ≤ id by omega)
  have hd := home_done hg h1 h he
  have hz : weight (stepT a s) g m = 0 := weight_home (by rw [hd, if_pos rfl])
  refine sum_lt _ m (by rw [List.mem_range'_1]; omega) (fun i _ => ?_) (by rw [hz]; exact weight_pos h)
  by_cases e : (i : Int) = m
  · have : i = m := by omega
    subst this; rw [hz]; omega
  · rw [weight_congr (show stepT a s i = a i by rw [hd, if_neg e])]; omega
theorem come_park {a g : Tr} {id : Int} (h1 : 1 ≤ id) (h2 : id ≤ 99) {n : Nd} (h : homeS a g id = some ⟨61, n⟩) (hp : a id.toNat ≠ some (parkN id)) (he : stepE a (parkS id) = 0) : toCome (stepT a (parkS id)) g < toCome a g := by
  obtain ⟨m, rfl⟩ := Int.eq_ofNat_of_zero_le (show 0 ≤ id by omega)
  have hd := park_done he
  have hz : weight (stepT a (parkS m)) g m ≤ 1 := by
    unfold weight
    split
    · omega
    · rw [parkedB_iff.2 (by rw [hd, if_pos rfl])]; simp
  have hw : weight a g m = 2 := by
    unfold weight; rw [h]
    have : parkedB a m = false := by
      cases hq : parkedB a m
      · rfl
      · exact absurd (parkedB_iff.1 hq) (by simpa using hp)
    rw [this]; rfl
  refine sum_lt _ m (by rw [List.mem_range'_1]; omega) (fun i _ => ?_) (by omega)
  by_cases e : (i : Int) = m
  · have : i = m := by omega
    subst this; omega
  · rw [weight_congr (show stepT a (parkS m) i = a i by rw [hd, if_neg e])]; omega
theorem seg_come {g a b : Tr} {ss : List St} (h : Seg g a ss b) (hg : TrOk g) : toCome b g + ss.length ≤ toCome a g := by
  induction h with
  | nil a => simp
  | home h1 h2 hs he _ ih => have := come_home hg h1 h2 hs he; simp only [List.length_cons]; omega
  | park h1 h2 hno hs hp he _ ih => have := come_park h1 h2 hs hp he; simp only [List.length_cons]; omega
theorem come_none {a g : Tr} (ha : TrOk a) (hg : TrOk g) (h : toCome a g = 0) : a = g := by
  funext i
  by_cases hi : 1 ≤ i ∧ i ≤ 99
  · apply Classical.byContradiction
    intro hne
    cases hs : homeS a g i with
    | none => exact hne (by have := home_none.1 hs; simpa using this)
    | some s =>
      have h1 := weight_pos hs
      have h2 : (List.map (fun _ => 0) (List.range' 1 99)).sum < toCome a g := sum_lt (f := fun _ => 0) (h := weight a g) _ i (by rw [List.mem_range'_1]; omega) (fun _ _ => Nat.zero_le _) h1
      omega
  · have e1 : a i = none := by
      cases h : a i with
      | none => rfl
      | some n => have := ha.2 i n h; omega
    have e2 : g i = none := by
      cases h : g i with
      | none => rfl
      | some n => have := hg.2 i n h; omega
    rw [e1, e2]
/-! Rounds. -/
theorem goHome_fold (g : Tr) : ∀ (l : List Nat) (p : Pl) (m : Bool), (∀ i ∈ l, 1 ≤ i ∧ i ≤ 99) →
    ∃ ss, (l.foldl (goOne g) (p, m)).1.done = p.done ++ ss ∧ Seg g p.now ss (l.foldl (goOne g) (p, m)).1.now ∧ ((l.foldl (goOne g) (p, m)).2 = (m || !ss.isEmpty)) ∧ (ss = [] → (l.foldl (goOne g) (p, m)).1 = p ∧ ∀ i ∈ l, ∀ s, homeS p.now g i = some s → stepE p.now s ≠ 0) := by
  intro l
  induction l with
  | nil => intro p m _; exact ⟨[], by simp, Seg.nil _, by simp, fun _ => ⟨rfl, by simp⟩⟩
  | cons i l ih =>
    intro p m hl
    have hi := hl i (by simp)
    rw [List.foldl_cons]
    cases hs : homeS p.now g i with
    | none =>
      have e : goOne g (p, m) i = (p, m) := by unfold goOne; rw [hs]
      rw [e]
      obtain ⟨ss, k1, k2, k3, k4⟩ := ih p m (fun j hj => hl j (by simp [hj]))
      refine ⟨ss, k1, k2, k3, fun h => ⟨(k4 h).1, fun j hj s hs' => ?_⟩⟩
      rcases List.mem_cons.1 hj with rfl | hj
      · rw [hs] at hs'; cases hs'
      · exact (k4 h).2 j hj s hs'
    | some s =>
      by_cases he : stepE p.now s = 0
      · have e : goOne g (p, m) i = (⟨stepT p.now s, p.done ++ [s]⟩, true) := by
          unfold goOne; rw [hs]; simp only; rw [if_pos he]
        rw [e]
        obtain ⟨ss, k1, k2, k3, k4⟩ := ih ⟨stepT p.now s, p.done ++ [s]⟩ true (fun j hj => hl j (by simp [hj]))
        refine ⟨s :: ss, ?_, Seg.home (by omega) (by omega) hs he k2, ?_, fun h => by cases h⟩
        · rw [k1]; simp
        · rw [k3]; simp
      · have e : goOne g (p, m) i = (p, m) := by
          unfold goOne; rw [hs]; simp only; rw [if_neg he]
        rw [e]
        obtain ⟨ss, k1, k2, k3, k4⟩ := ih p m (fun j hj => hl j (by simp [hj]))
        refine ⟨ss, k1, k2, k3, fun h => ⟨(k4 h).1, fun j hj t hs' => ?_⟩⟩
        rcases List.mem_cons.1 hj with rfl | hj
        · rw [hs] at hs'; cases hs'; exact he
        · exact (k4 h).2 j hj t hs'
end Go.Proofs.YtkahmbpggdneoaaDoor
