import Derived.Test.YtdcjimlhaklhfaaGreatDoorHz3
import Derived.Test.YtdcjimlhaklhfaaGreatDoorHz1
namespace Go.Proofs.YtdcjimlhaklhfaaGreatDoor
open Go.RowKit
theorem find_congr' {p q : Nat → Bool} : ∀ (l : List Nat), (∀ x ∈ l, p x = q x) → l.find? p = l.find? q := by
  intro l
  induction l with
  | nil => intro _; rfl
  | cons a l ih =>
    intro h
    rw [List.find?_cons, List.find?_cons, h a (by simp), ih (fun x hx => h x (by simp [hx]))]
theorem scan_congr {p q : Nat → Bool} {lo n : Nat} (h : ∀ j, lo ≤ j → j < n → p j = q j) : scan p lo n = scan q lo n := by
  unfold scan
  rw [find_congr' (p := p) (q := q) _ (fun x hx => by rw [List.mem_range'_1] at hx; exact h x hx.1 (by omega))]
theorem scan_cases (p : Nat → Bool) (lo n : Nat) : (scan p lo n < n ∧ lo ≤ scan p lo n ∧ p (scan p lo n) = true ∧ ∀ j, lo ≤ j → j < scan p lo n → p j = false) ∨ (scan p lo n = n ∧ ∀ j, lo ≤ j → j < n → p j = false) := by
  by_cases h : ∃ k, lo ≤ k ∧ k < n ∧ p k = true
  · -- the least such
    have key : ∀ m, (∃ k, lo ≤ k ∧ k < n ∧ p k = true ∧ k ≤ m) → ∃ k, lo ≤ k ∧ k < n ∧ p k = true ∧ ∀ j, lo ≤ j → j < k → p j = false := by
      intro m
      induction m with
      | zero => rintro ⟨k, h1, h2, h3, h4⟩; exact ⟨k, h1, h2, h3, fun j _ hj => by omega⟩
      | succ m ih =>
        rintro ⟨k, h1, h2, h3, h4⟩
        by_cases hm : ∃ k, lo ≤ k ∧ k < n ∧ p k = true ∧ k ≤ m
        · exact ih hm
        · refine ⟨k, h1, h2, h3, fun j hj hk => ?_⟩
          cases hp : p j
          · rfl
          · exact absurd ⟨j, hj, by omega, hp, by omega⟩ hm
    obtain ⟨k, h1, h2, h3⟩ := h
    obtain ⟨k, h1, h2, h3, h4⟩ := key k ⟨k, h1, h2, h3, Nat.le_refl _⟩
    have e := scan_hit h1 h2 h3 h4
    left; rw [e]; exact ⟨h2, h1, h3, h4⟩
  · have hno : ∀ j, lo ≤ j → j < n → p j = false := by
      intro j h1 h2
      cases hp : p j
      · rfl
      · exact absurd ⟨j, h1, h2, hp⟩ h
    right; exact ⟨scan_none hno, hno⟩
/-! Ordered lists of nodes. -/
def Ordered (ns : List Nd) : Prop := ∀ i j, i < j → j < ns.length → (ndAt ns i).id < (ndAt ns j).id
theorem ordered_of {ns : List Nd} (h : ¬ scan (unordered ns) 1 ns.length < ns.length) : Ordered ns := by
  have hno : ∀ j, 1 ≤ j → j < ns.length → unordered ns j = false := by
    rcases scan_cases (unordered ns) 1 ns.length with ⟨h1, _⟩ | ⟨_, h2⟩
    · exact absurd h1 h
    · exact h2
  have step : ∀ j, 1 ≤ j → j < ns.length → (ndAt ns (j - 1)).id < (ndAt ns j).id := by
    intro j h1 h2
    have := hno j h1 h2
    unfold unordered at this
    simp at this; exact this
  intro i j hij
  induction j with
  | zero => omega
  | succ j ih =>
    intro hj
    have h1 := step (j + 1) (by omega) hj
    rw [show j + 1 - 1 = j from rfl] at h1
    by_cases e : i = j
    · subst e; exact h1
    · have := ih (by omega) (by omega); omega
theorem mem_ndAt {ns : List Nd} {n : Nd} (h : n ∈ ns) : ∃ i, i < ns.length ∧ ndAt ns i = n := by
  obtain ⟨i, hi, e⟩ := List.getElem_of_mem h
  exact ⟨i, hi, by rw [ndAt_get _ _ hi, e]⟩
theorem ndAt_mem {ns : List Nd} {i : Nat} (h : i < ns.length) : ndAt ns i ∈ ns := by rw [ndAt_get _ _ h]; exact List.getElem_mem h
def Unique (ns : List Nd) : Prop := ∀ n m, n ∈ ns → m ∈ ns → n.id = m.id → n = m
theorem ordered_unique {ns : List Nd} (h : Ordered ns) : Unique ns := by
  intro n m hn hm e
  obtain ⟨i, hi, rfl⟩ := mem_ndAt hn
  obtain ⟨j, hj, rfl⟩ := mem_ndAt hm
  rcases Nat.lt_trichotomy i j with hlt | rfl | hlt
  · have := h i j hlt hj; omega
  · rfl
  · have := h j i hlt hi; omega
theorem lookR_mem {ns : List Nd} {id : Int} {n : Nd} (h : lookR ns id = some n) : n ∈ ns ∧ n.id = id := by
  rcases scan_cases (idIs ns id) 0 ns.length with ⟨h1, _, h3, _⟩ | ⟨h1, _⟩
  · have h1' : findN ns id < ns.length := h1
    unfold lookR at h; rw [if_pos h1'] at h; cases h
    exact ⟨ndAt_mem h1', by have : idIs ns id (findN ns id) = true := h3; unfold idIs at this; simpa using this⟩
  · unfold lookR at h; rw [if_neg (by unfold findN; omega)] at h; cases h
theorem lookR_no {ns : List Nd} {id : Int} (h : lookR ns id = none) : ∀ n ∈ ns, n.id ≠ id := by
  rcases scan_cases (idIs ns id) 0 ns.length with ⟨h1, _, _, _⟩ | ⟨_, h2⟩
  · unfold lookR at h; rw [if_pos (show findN ns id < ns.length from h1)] at h; cases h
  · intro n hn e
    obtain ⟨i, hi, rfl⟩ := mem_ndAt hn
    have := h2 i (by omega) hi
    unfold idIs at this; simp at this; exact this e
theorem lookR_of {ns : List Nd} (hu : Unique ns) {n : Nd} (hn : n ∈ ns) : lookR ns n.id = some n := by
  cases h : lookR ns n.id with
  | none => exact absurd rfl (lookR_no h n hn)
  | some m => obtain ⟨h1, h2⟩ := lookR_mem h; rw [hu m n h1 hn h2]
theorem fold_some : ∀ (ns : List Nd) (t : Tr) (i : Nat) (n : Nd), (ns.foldl trPut t) i = some n → (n ∈ ns ∧ n.id = i) ∨ t i = some n := by
  intro ns
  induction ns with
  | nil => intro t i n h; exact .inr h
  | cons a ns ih =>
    intro t i n h
    rcases ih (trPut t a) i n h with ⟨h1, h2⟩ | h1
    · exact .inl ⟨by simp [h1], h2⟩
    · unfold trPut at h1
      split at h1
      · cases h1; rename_i e; exact .inl ⟨by simp, e.symm⟩
      · exact .inr h1
theorem fold_none : ∀ (ns : List Nd) (t : Tr) (i : Nat), (ns.foldl trPut t) i = none → (∀ n ∈ ns, n.id ≠ i) ∧ t i = none := by
  intro ns
  induction ns with
  | nil => intro t i h; exact ⟨by simp, h⟩
  | cons a ns ih =>
    intro t i h
    obtain ⟨h1, h2⟩ := ih (trPut t a) i h
    unfold trPut at h2
    split at h2
    · cases h2
    · rename_i e
      refine ⟨fun n hn => ?_, h2⟩
      rcases List.mem_cons.1 hn with rfl | hn
      · exact fun hh => e hh.symm
      · exact h1 n hn
theorem gather_look {ns : List Nd} (hu : Unique ns) (hb : ∀ n ∈ ns, 1 ≤ n.id) (id : Int) : gather ns id.toNat = lookR ns id := by
  cases h : lookR ns id with
  | some n =>
    obtain ⟨h1, h2⟩ := lookR_mem h
    have hid := hb n h1
    cases hg : gather ns id.toNat with
    | none => exact absurd (by omega) ((fold_none ns tr0 _ hg).1 n h1)
    | some m =>
      rcases fold_some ns tr0 _ m hg with ⟨h3, h4⟩ | h3
      · rw [hu m n h3 h1 (by omega)]
      · cases h3
  | none =>
    cases hg : gather ns id.toNat with
    | none => rfl
    | some m =>
      rcases fold_some ns tr0 _ m hg with ⟨h3, h4⟩ | h3
      · have := hb m h3
        exact absurd (by omega) (lookR_no h m h3)
      · cases h3
/-! The way up. -/
theorem below_mono {look : Int → Option Nd} {top : Int} : ∀ (f : Nat) (id : Int), belowF look f id top = true → belowF look (f + 1) id top = true := by
  intro f
  induction f with
  | zero => intro id h; simp [belowF] at h
  | succ f ih =>
    intro id h
    rw [belowF] at h ⊢
    cases hl : look id with
    | none => rw [hl] at h; simp at h
    | some n =>
      rw [hl] at h
      simp only at h ⊢
      by_cases hp : n.parent = top
      · rw [if_pos hp]
      · rw [if_neg hp] at h ⊢; exact ih _ h
theorem below_le {look : Int → Option Nd} {top : Int} {f g : Nat} (hfg : f ≤ g) (id : Int) (h : belowF look f id top = true) : belowF look g id top = true := by
  induction g with
  | zero => have : f = 0 := by omega
            subst this; exact h
  | succ g ih =>
    by_cases e : f = g + 1
    · subst e; exact h
    · exact below_mono g id (ih (by omega))
theorem way_list {look : Int → Option Nd} {top : Int} : ∀ (f : Nat) (id : Int), belowF look (f + 1) id top = true → belowF look f id top = false →
    ∃ l : List Int, l.length = f + 1 ∧ l.Nodup ∧ (∀ x ∈ l, (look x).isSome = true) ∧ ∀ x ∈ l, ∃ g, g ≤ f ∧ belowF look (g + 1) x top = true := by
  intro f
  induction f with
  | zero =>
    intro id h _
    refine ⟨[id], rfl, by simp, ?_, ?_⟩
    · intro x hx; simp at hx; subst hx
      rw [belowF] at h
      cases hl : look x with
      | none => rw [hl] at h; simp at h
      | some n => rfl
    · intro x hx; simp at hx; subst hx; exact ⟨0, Nat.le_refl _, h⟩
  | succ f ih =>
    intro id h hno
    have h' := h
    rw [belowF] at h'
    cases hl : look id with
    | none => rw [hl] at h'; simp at h'
    | some n =>
      rw [hl] at h'
      simp only at h'
      have hp : ¬ n.parent = top := by
        intro hp
        have : belowF look 1 id top = true := by rw [belowF, hl]; simp [hp]
        rw [below_le (show 1 ≤ f + 1 by omega) id this] at hno
        cases hno
      rw [if_neg hp] at h'
      have hno' : belowF look f n.parent top = false := by
        rw [belowF, hl] at hno
        simp only [if_neg hp] at hno
        exact hno
      obtain ⟨l, l1, l2, l3, l4⟩ := ih n.parent h' hno'
      refine ⟨id :: l, by simp [l1], ?_, ?_, ?_⟩
      · rw [List.nodup_cons]
        refine ⟨fun hm => ?_, l2⟩
        obtain ⟨g, hg, hb⟩ := l4 id hm
        rw [below_le (show g + 1 ≤ f + 1 by omega) id hb] at hno
        cases hno
      · intro x hx
        rcases List.mem_cons.1 hx with rfl | hx
        · rw [hl]; rfl
        · exact l3 x hx
      · intro x hx
        rcases List.mem_cons.1 hx with rfl | hx
        · exact ⟨f + 1, Nat.le_refl _, h⟩
        · obtain ⟨g, hg, hb⟩ := l4 x hx; exact ⟨g, by omega, hb⟩
theorem pigeon : ∀ (l m : List Int), l.Nodup → (∀ x ∈ l, x ∈ m) → l.length ≤ m.length := by
  intro l
  induction l with
  | nil => intro m _ _; simp
  | cons a l ih =>
    intro m hn hs
    rw [List.nodup_cons] at hn
    have ha := hs a (by simp)
    have := ih (m.erase a) hn.2 (fun x hx => by
      have hxa : x ≠ a := fun e => hn.1 (e ▸ hx)
      exact (List.mem_erase_of_ne hxa).2 (hs x (by simp [hx])))
    rw [List.length_erase_of_mem ha] at this
    have hpos : 0 < m.length := List.length_pos_of_mem ha
    simp; omega
theorem below_stop {ns : List Nd} {look : Int → Option Nd} (hlook : ∀ x n, look x = some n → n ∈ ns ∧ n.id = x) {top : Int} (f : Nat) (id : Int) (h : belowF look f id top = true) : belowF look ns.length id top = true := by
  induction f with
  | zero => simp [belowF] at h
  | succ f ih =>
    cases hf : belowF look f id top
    · obtain ⟨l, l1, l2, l3, _⟩ := way_list f id h hf
      have hle : l.length ≤ (ns.map (·.id)).length := pigeon l _ l2 (fun x hx => by
        obtain ⟨n, hn⟩ := Option.isSome_iff_exists.1 (l3 x hx)
        obtain ⟨h1, h2⟩ := hlook x n hn
        exact List.mem_map.2 ⟨n, h1, h2⟩)
      rw [List.length_map] at hle
      exact below_le (by omega) id h
    · exact ih hf
theorem below_same {ns : List Nd} {look : Int → Option Nd} (hlook : ∀ x n, look x = some n → n ∈ ns ∧ n.id = x) {top : Int} {f g : Nat} (hf : ns.length ≤ f) (hg : ns.length ≤ g) (id : Int) : belowF look f id top = belowF look g id top := by
  cases h1 : belowF look f id top
  · cases h2 : belowF look g id top
    · rfl
    · rw [below_le hf id (below_stop hlook g id h2)] at h1; cases h1
  · rw [below_le hg id (below_stop hlook f id h1)]
theorem meets_below (t : Tr) (goal : Int) : ∀ (f : Nat) (id : Int), meetsF t (f + 1) id goal = (decide (id = goal) || belowF (fun x => t x.toNat) f id goal) := by
  intro f
  induction f with
  | zero =>
    intro id
    by_cases h : id = goal
    · simp [meetsF, h]
    · rw [meetsF, if_neg h]
      cases hl : t id.toNat with
      | none => simp [belowF, h]
      | some n => simp [belowF, h, meetsF]
  | succ f ih =>
    intro id
    by_cases h : id = goal
    · simp [meetsF, h]
    · rw [meetsF, if_neg h, belowF]
      cases hl : t id.toNat with
      | none => simp [h]
      | some n =>
        simp only
        rw [ih]
        by_cases hp : n.parent = goal
        · simp [hp]
        · simp [h, hp]
theorem ordered_short {ns : List Nd} (ho : Ordered ns) (hb : ∀ n ∈ ns, 1 ≤ n.id ∧ n.id ≤ 99) : ns.length ≤ 99 := by
  have : ∀ i, i < ns.length → (i : Int) + 1 ≤ (ndAt ns i).id := by
    intro i
    induction i with
    | zero => intro h; have := (hb _ (ndAt_mem h)).1; omega
    | succ i ih => intro h; have h1 := ih (by omega); have h2 := ho i (i + 1) (by omega) h; omega
  rcases Nat.lt_or_ge 99 ns.length with h | h
  · have h1 := this 99 h
    have h2 := (hb _ (ndAt_mem h)).2
    omega
  · exact h
theorem meets_R {ns : List Nd} (ho : Ordered ns) (hb : ∀ n ∈ ns, 1 ≤ n.id ∧ n.id ≤ 99) (id goal : Int) : meetsT (gather ns) id goal = (decide (id = goal) || belowR ns id goal) := by
  have hfun : (fun x : Int => gather ns x.toNat) = lookR ns := funext fun x => gather_look (ordered_unique ho) (fun n hn => (hb n hn).1) x
  unfold meetsT belowR
  rw [meets_below, hfun, below_same (ns := ns) (look := lookR ns) (fun x n h => lookR_mem h) (ordered_short ho hb) (show ns.length ≤ ns.length + 1 by omega) id]
theorem isParent_R {ns : List Nd} (ho : Ordered ns) (hb : ∀ n ∈ ns, 1 ≤ n.id ∧ n.id ≤ 99) (id : Int) : isParentT (gather ns) id = folderR ns id := by
  unfold isParentT folderR hasT
  rw [gather_look (ordered_unique ho) (fun n hn => (hb n hn).1) id]
theorem ndAt_take {ns : List Nd} {i j : Nat} (h : j < i) (hi : i ≤ ns.length) : ndAt (ns.take i) j = ndAt ns j := by
  rw [ndAt_get _ _ (by rw [List.length_take]; omega), ndAt_get _ _ (by omega)]; simp
theorem twice_R {ns : List Nd} (hb : ∀ n ∈ ns, 1 ≤ n.id) {i : Nat} (hi : i < ns.length) : twice ns i = rTwice ns i := by
  have hlen : (ns.take i).length = i := by rw [List.length_take]; omega
  unfold rTwice takenR takenN
  rw [hlen]
  rcases scan_cases (placeIs (ns.take i) (ndAt ns i).parent (ndAt ns i).name) 0 i with ⟨h1, _, h3, _⟩ | ⟨h1, h2⟩
  · rw [if_pos h1]
    generalize scan (placeIs (ns.take i) (ndAt ns i).parent (ndAt ns i).name) 0 i = k at *
    have hm := hb _ (ndAt_mem (ns := ns) (i := k) (by omega))
    rw [ndAt_take h1 (by omega)]
    have e1 : twice ns i = true := by
      unfold twice
      refine decide_eq_true ⟨_, h1, ?_⟩
      unfold placeIs at h3; rw [ndAt_take h1 (by omega)] at h3
      exact h3
    rw [e1]
    symm; rw [bne_iff_ne]; omega
  · rw [if_neg (by omega)]
    have e1 : twice ns i = false := by
      unfold twice
      apply decide_eq_false
      rintro ⟨j, hj, hs⟩
      have := h2 j (by omega) hj
      unfold placeIs at this; rw [ndAt_take hj (by omega)] at this
      unfold samePlace at hs
      rw [this] at hs; cases hs
    rw [e1]; rfl
theorem check_same (l : Str) : checkR l = checkT l := by
  unfold checkR checkT
  split
  · rfl
  · simp only []
    split
    · rfl
    · unfold wrongR
      split
      · rfl
      · rename_i _ _ hu
        have ho := ordered_of hu
        have hb := readNodes_bd (cut l)
        generalize readNodes (cut l) = ns at *
        have hb2 : ∀ n ∈ ns, 1 ≤ n.id ∧ n.id ≤ 99 := fun n hn => ⟨(hb n hn).1, (hb n hn).2.1⟩
        unfold misplaced
        have e1 : scan (orphan (gather ns) ns) 0 ns.length = scan (rOrphan ns) 0 ns.length := scan_congr (fun j _ _ => by unfold orphan rOrphan; rw [isParent_R ho hb2])
        have e2 : scan (looped (gather ns) ns) 0 ns.length = scan (rLooped ns) 0 ns.length := scan_congr (fun j _ hj => by
          unfold looped rLooped; rw [meets_R ho hb2]
          have := (hb2 _ (ndAt_mem hj)).1
          have e : decide ((ndAt ns j).id = 0) = false := by simp; omega
          rw [e]; rfl)
        have e3 : scan (twice ns) 0 ns.length = scan (rTwice ns) 0 ns.length := scan_congr (fun j _ hj => twice_R (fun n hn => (hb2 n hn).1) hj)
        rw [e1, e2, e3]
end Go.Proofs.YtdcjimlhaklhfaaGreatDoor

namespace Go.Proofs.YtdcjimlhaklhfaaGreatDoor
open Go.RowKit
/-- A script's steps in memory: five cells each. -/
def OpsAt (w : World) (ao : Option Addr) (len : Nat) : Prop :=
  0 < len → ∃ b off, ao = some ⟨b, off, none⟩ ∧ b < w.heap.size ∧ ∀ i, i < len → ∃ (k x y : Int) (s t : ByteArray),
    w.cell? ⟨b, off + i * 5, none⟩ = some (.int .i64 k) ∧ w.cell? ⟨b, off + i * 5 + 1, none⟩ = some (.int .i64 x) ∧ w.cell? ⟨b, off + i * 5 + 2, none⟩ = some (.int .i64 y) ∧ w.cell? ⟨b, off + i * 5 + 3, none⟩ = some (.string s) ∧ w.cell? ⟨b, off + i * 5 + 4, none⟩ = some (.string t)
end Go.Proofs.YtdcjimlhaklhfaaGreatDoor

namespace Go.Proofs.YtdcjimlhaklhfaaGreatDoor
open Go.RowKit
set_option maxHeartbeats 1000000 in
theorem plain_check (x y : Int) (s t : ByteArray) (w : World) :
    Calls Tryz.prog 11 #[.agg #[.int .i64 1, .int .i64 x, .int .i64 y, .string s, .string t]] w fun e w' => e = .returned (.bool true) ∧ Below w.heap.size w w' := by
  have HC := hide (fun W => check_any s W)
  have HR := hide (fun W => rcheck_any s W)
  rw [check_same] at HR
  generalize checkT (sl s) = c at *
  go_enter Tryz.func11, Tryz.ntmps11
  go_wp2_with fail
  refine (unhide HC _).mono ?_
  rintro e w1 ⟨rfl, hb1⟩
  obtain ⟨hc1, hf1⟩ := bcell hb1
  have hz1 := lt_kept hb1
  have HB1 : Hid (Below w.heap.size w w1) := hide (((Below.refl _ _).alloc (Nat.le_refl _) _).trans (hb1.mono (by simp)))
  clear hb1
  go_wp2_with fail
  refine (unhide HR _).mono ?_
  rintro e w2 ⟨rfl, hb2⟩
  have HB2 : Hid (Below w.heap.size w w2) := hide ((unhide HB1).trans (hb2.mono (unhide HB1).size))
  clear hb2 hc1 hf1 hz1
  go_wp2_with go_in
  go_ret
  exact ⟨ret_bool (by simp), unhide HB2⟩
set_option maxHeartbeats 1000000 in
theorem step_check (v : Value) (x y : Int) (s t : ByteArray) (w : World) :
    Calls Tryz.prog 10 #[v, .agg #[.int .i64 1, .int .i64 x, .int .i64 y, .string s, .string t]] w fun e w' => e = .returned (.bool true) ∧ Below w.heap.size w w' := by
  have HP := hide (fun W => plain_check x y s t W)
  go_enter Tryz.func10, Tryz.ntmps10
  go_wp2_with fail
  refine (unhide HP _).mono ?_
  rintro e w1 ⟨rfl, hb1⟩
  go_wp2
  go_ret
  exact ⟨rfl, ((Below.refl _ _).alloc (Nat.le_refl _) _).trans (hb1.mono (by simp))⟩
set_option maxHeartbeats 2000000 in
theorem upto_check (ao : Option Addr) (len cap : Nat) (w : World) (hops : OpsAt w ao len) (hlen : len ≤ 140737488355328) :
    Calls Tryz.prog 9 #[.slice ao len cap, .int .i64 1, .int .i64 1, .int .i64 1, .int .i64 1] w fun e w' => e = .returned (.int .i64 (-1)) ∧ Below w.heap.size w w' := by
  have HO := hide hops; clear hops
  go_enter Tryz.func9, Tryz.ntmps9
  go_wp2
  go_loopw [12] (fun i wr => ∃ k : Nat, k ≤ len ∧ i = .int .i64 k ∧ Below w.heap.size w wr) (fun i _ => len - (intOf i).toNat)
  case atStart => exact ⟨0, Nat.zero_le _, rfl, (Below.refl _ _).alloc (Nat.le_refl _) _⟩
  case round =>
    obtain ⟨k, hk, rfl, hbel⟩ := hrel
    have hsz := hbel.size
    by_cases hlt : k < len
    · obtain ⟨b, off, hao, hb, hcells⟩ := unhide HO (by omega)
      obtain ⟨kd, x, y, s, t, e0, e1, e2, e3, e4⟩ := hcells k hlt
      clear hcells
      rw [← hbel.cell (p := ⟨b, _, none⟩) hb] at e0 e1 e2 e3 e4
      rw [hao]
      clear hao
      by_cases h1 : kd = 1
      · subst h1
        have HS := hide (fun v W => step_check v x y s t W)
        have HB1 := hide (hbel.alloc hsz (.cells #[.int .i64 1, .int .i64 x, .int .i64 y, .string s, .string t] 30))
        go_wp2_with fail
        refine (unhide HS _ _).mono ?_
        rintro e w2 ⟨rfl, hb2⟩
        obtain ⟨hc2, hf2⟩ := bcell hb2
        have HB2 : Hid (Below w.heap.size w w2) := hide ((unhide HB1).trans (hb2.mono (by simp; omega)))
        clear hb2 e0 e1 e2 e3 e4
        go_wp2
        go_roundw
        case rel => exact ⟨k + 1, by omega, by go_num, unhide HB2⟩
        case measure => simp [intOf]; omega
      · have HB1 := hide (hbel.alloc hsz (.cells #[.int .i64 kd, .int .i64 x, .int .i64 y, .string s, .string t] 30))
        have h12 : kd < 1 ∨ 1 < kd := by omega
        clear h1
        rcases h12 with h1 | h1
        all_goals
          go_wp2
          go_roundw
          case rel => exact ⟨k + 1, by omega, by go_num, unhide HB1⟩
          case measure => simp [intOf]; omega
    · go_wp2
      go_ret
      exact ⟨rfl, hbel⟩
set_option maxHeartbeats 1000000 in
theorem checks_any (ao : Option Addr) (len cap : Nat) (w : World) (hops : OpsAt w ao len) (hlen : len ≤ 140737488355328) :
    Calls Tryz.prog 3 #[.slice ao len cap] w fun e w' => e = .returned (.bool true) ∧ Below w.heap.size w w' := by
  have HU := hide (upto_check ao len cap w hops hlen)
  clear hops
  go_enter Tryz.func3, Tryz.ntmps3
  go_wp2_with fail
  refine (unhide HU).mono ?_
  rintro e w1 ⟨rfl, hb1⟩
  go_wp2
  go_ret
  exact ⟨rfl, hb1⟩
end Go.Proofs.YtdcjimlhaklhfaaGreatDoor
