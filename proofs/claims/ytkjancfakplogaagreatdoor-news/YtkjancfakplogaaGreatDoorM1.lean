import Derived.Test.YtkjancfakplogaaGreatDoorPL9
import Derived.Test.YtkjancfakplogaaGreatDoorL0
namespace Go.Proofs.YtkjancfakplogaaGreatDoor
open Go.RowKit
/-! The world of a script: pairs of a replica and the document's log. -/
def tyAt (w : World) (k : Nat) (t : TypeId) : Prop := ∃ cs f, w.heap[k]? = some (.cells cs t f)
theorem tyAt_inj {w : World} {k : Nat} {t t' : TypeId} (h : tyAt w k t) (g : tyAt w k t') : t = t' := by
  obtain ⟨cs, f, h⟩ := h
  obtain ⟨cs', f', g⟩ := g
  rw [h] at g; cases g; rfl
theorem tyAt_own {w : World} {base : Nat} {e : TypeId} {size : Nat} {v : Value} {n : Nat} {xs : List Value} (h : w.ownsRow base e size v n xs) : ∀ k, v.ownBlock = some k → tyAt w k e := by
  intro k hk
  rcases h.2 with ⟨rfl, _⟩ | ⟨g, cap, cur, rfl, _, hg, _⟩
  · simp [Value.ownBlock] at hk
  · simp [Value.ownBlock] at hk; subst hk; exact ⟨_, _, hg⟩
theorem tyAt_lt {w : World} {k : Nat} {t : TypeId} (h : tyAt w k t) : k < w.heap.size := by
  obtain ⟨cs, f, h⟩ := h; exact lt_of_block h
structure PS where
  pb : Nat
  rb : Nat
  site : Int
  v : Value
  u : Value
  L : List Lo
def ptrV (p : PS) : Value := .pointer (some ⟨p.pb, 0, none⟩)
def PairAt (w : World) (p : PS) : Prop := w.heap[p.pb]? = some (.cells #[.pointer (some ⟨p.rb, 0, none⟩), .int .i64 p.site, p.u] 40 (0, 0))
structure PairOk (w : World) (p : PS) : Prop where
  at' : PairAt w p
  rep : Repl w p.rb p.site p.v p.L
  log : w.ownsRow 0 66 5 p.u p.L.length (loCells p.L)
def PFoot (p : PS) : Nat → Prop := fun k => k = p.pb ∨ k = p.rb ∨ p.v.ownBlock = some k ∨ p.u.ownBlock = some k
theorem PairOk.foot {w : World} {p : PS} (h : PairOk w p) {k : Nat} (hk : PFoot p k) : tyAt w k 40 ∨ tyAt w k 104 ∨ tyAt w k 139 ∨ tyAt w k 66 := by
  rcases hk with rfl | rfl | hk | hk
  · exact .inl ⟨_, _, h.at'⟩
  · exact .inr (.inl ⟨_, _, h.rep.at'⟩)
  · exact .inr (.inr (.inl (tyAt_own h.rep.own k hk)))
  · exact .inr (.inr (.inr (tyAt_own h.log k hk)))
theorem PairOk.lt {w : World} {p : PS} (h : PairOk w p) {k : Nat} (hk : PFoot p k) : k < w.heap.size := by
  rcases h.foot hk with h | h | h | h <;> exact tyAt_lt h
theorem PairOk.kept {w w' : World} {p : PS} {S : Nat → Prop} (h : PairOk w p) (hk : Keeps S w w') (hS : ∀ k, PFoot p k → ¬ S k) : PairOk w' p := by
  refine ⟨?_, h.rep.kept hk (fun k hf => hS k ?_), own_kept h.log hk (fun k e => hS k (.inr (.inr (.inr e))))⟩
  · unfold PairAt; rw [hk.block p.pb (lt_of_block h.at') (hS p.pb (.inl rfl))]; exact h.at'
  · rcases hf with hf | hf
    · exact .inr (.inl hf)
    · exact .inr (.inr (.inl hf))
theorem PairOk.cell0 {w : World} {p : PS} (h : PairOk w p) : w.cell? ⟨p.pb, 0, none⟩ = some (.pointer (some ⟨p.rb, 0, none⟩)) := by rw [cell_of_row w p.pb 0 _ _ _ h.at']; rfl
theorem PairOk.cell1 {w : World} {p : PS} (h : PairOk w p) : w.cell? ⟨p.pb, 1, none⟩ = some (.int .i64 p.site) := by rw [cell_of_row w p.pb 1 _ _ _ h.at']; rfl
theorem PairOk.cell2 {w : World} {p : PS} (h : PairOk w p) : w.cell? ⟨p.pb, 2, none⟩ = some p.u := by rw [cell_of_row w p.pb 2 _ _ _ h.at']; rfl
theorem PairOk.free {w : World} {p : PS} (h : PairOk w p) (j : Nat) : w.frozen? ⟨p.pb, j, none⟩ = false := by simp [World.frozen?, show w.heap[p.pb]? = _ from h.at']
def Apart (p q : PS) : Prop := ∀ k, PFoot p k → ¬ PFoot q k
/-- The script's World, and all that hangs on it. -/
def WorldAt (base wp : Nat) (ps : List PS) (rv : Value) (w : World) : Prop :=
  w.heap[wp]? = some (.cells #[rv] 28 (0, 0)) ∧ w.ownsRow 0 33 1 rv ps.length (ps.map ptrV) ∧ (∀ p ∈ ps, PairOk w p) ∧
  (∀ i j (hi : i < ps.length) (hj : j < ps.length), i ≠ j → Apart ps[i] ps[j]) ∧ base ≤ wp ∧ (∀ k, rv.ownBlock = some k → base ≤ k) ∧ ∀ p ∈ ps, ∀ k, PFoot p k → base ≤ k
theorem world_kept {base wp : Nat} {ps : List PS} {rv : Value} {w w' : World} {S : Nat → Prop} (h : WorldAt base wp ps rv w) (hk : Keeps S w w') (h1 : ¬ S wp) (h2 : ∀ k, rv.ownBlock = some k → ¬ S k) (h3 : ∀ p ∈ ps, ∀ k, PFoot p k → ¬ S k) : WorldAt base wp ps rv w' := by
  obtain ⟨a1, a2, a3, a4⟩ := h
  exact ⟨by rw [hk.block wp (lt_of_block a1) h1]; exact a1, own_kept a2 hk h2, fun p hp => (a3 p hp).kept hk (h3 p hp), a4⟩
theorem world_below {base wp : Nat} {ps : List PS} {rv : Value} {w w' : World} (h : WorldAt base wp ps rv w) (hb : Below w.heap.size w w') : WorldAt base wp ps rv w' :=
  world_kept h (Keeps.of_below (S := fun _ => False) hb (fun k h1 h2 => by omega)) (fun e => e) (fun _ _ e => e) (fun _ _ _ _ e => e)
theorem world_lt {base wp : Nat} {ps : List PS} {rv : Value} {w : World} (h : WorldAt base wp ps rv w) : wp < w.heap.size := lt_of_block h.1
theorem world_cell {base wp : Nat} {ps : List PS} {rv : Value} {w : World} (h : WorldAt base wp ps rv w) : w.cell? ⟨wp, 0, none⟩ = some rv := by rw [cell_of_row w wp 0 _ _ _ h.1]; rfl
theorem world_free {base wp : Nat} {ps : List PS} {rv : Value} {w : World} (h : WorldAt base wp ps rv w) (j : Nat) : w.frozen? ⟨wp, j, none⟩ = false := by simp [World.frozen?, h.1]
theorem wp_out {base wp : Nat} {ps : List PS} {rv : Value} {w : World} (h : WorldAt base wp ps rv w) {p : PS} (hp : p ∈ ps) : ¬ PFoot p wp := by
  intro hf
  have ht : tyAt w wp 28 := ⟨_, _, h.1⟩
  rcases (h.2.2.1 p hp).foot hf with g | g | g | g <;> exact absurd (tyAt_inj ht g) (by decide)
theorem rv_out {base wp : Nat} {ps : List PS} {rv : Value} {w : World} (h : WorldAt base wp ps rv w) {p : PS} (hp : p ∈ ps) : ∀ k, rv.ownBlock = some k → ¬ PFoot p k := by
  intro k hk hf
  have ht := tyAt_own h.2.1 k hk
  rcases (h.2.2.1 p hp).foot hf with g | g | g | g <;> exact absurd (tyAt_inj ht g) (by decide)
theorem rv_wp {base wp : Nat} {ps : List PS} {rv : Value} {w : World} (h : WorldAt base wp ps rv w) : rv.ownBlock ≠ some wp := by
  intro hk
  have ht := tyAt_own h.2.1 wp hk
  exact absurd (tyAt_inj ht ⟨_, _, h.1⟩) (by decide)
/-- All that a step may change. -/
def WFoot (wp : Nat) (ps : List PS) (rv : Value) : Nat → Prop := fun k => k = wp ∨ rv.ownBlock = some k ∨ ∃ p ∈ ps, PFoot p k
theorem wfoot_lt {base wp : Nat} {ps : List PS} {rv : Value} {w : World} (h : WorldAt base wp ps rv w) {k : Nat} (hk : WFoot wp ps rv k) : k < w.heap.size := by
  rcases hk with rfl | hk | ⟨p, hp, hk⟩
  · exact world_lt h
  · exact tyAt_lt (tyAt_own h.2.1 k hk)
  · exact (h.2.2.1 p hp).lt hk
theorem wfoot_base {base wp : Nat} {ps : List PS} {rv : Value} {w : World} (h : WorldAt base wp ps rv w) {k : Nat} (hk : WFoot wp ps rv k) : base ≤ k := by
  obtain ⟨_, _, _, _, a5, a6, a7⟩ := h
  rcases hk with rfl | hk | ⟨p, hp, hk⟩
  · exact a5
  · exact a6 k hk
  · exact a7 p hp k hk
theorem wfoot_below {base wp : Nat} {ps : List PS} {rv : Value} {w w' : World} (h : WorldAt base wp ps rv w) (hb : base ≤ w.heap.size) (hk : Keeps (WFoot wp ps rv) w w') : Below base w w' :=
  hk.below hb (fun k h1 h2 => by have := wfoot_base h h2; omega)
/-- One pair goes on. -/
theorem world_set {base wp : Nat} {ps : List PS} {rv : Value} {w w' : World} (h : WorldAt base wp ps rv w) {i : Nat} (hi : i < ps.length) {p' : PS} (hpb : p'.pb = ps[i].pb) (hok : PairOk w' p') (hk : Keeps (PFoot ps[i]) w w') (hf : ∀ k, PFoot p' k → PFoot ps[i] k ∨ w.heap.size ≤ k) (hb : base ≤ w.heap.size) : WorldAt base wp (ps.set i p') rv w' := by
  have hm := List.getElem_mem hi
  have o1 := wp_out h hm
  have o2 := rv_out h hm
  obtain ⟨a1, a2, a3, a4, a5, a6, a7⟩ := h
  have hmem : ∀ q ∈ ps.set i p', q = p' ∨ ∃ j, ∃ hj : j < ps.length, j ≠ i ∧ q = ps[j] := by
    intro q hq
    obtain ⟨j, hj, rfl⟩ := List.mem_iff_getElem.1 hq
    rw [List.length_set] at hj
    by_cases e : i = j
    · subst e; left; simp
    · right; exact ⟨j, hj, fun h => e h.symm, by rw [List.getElem_set_ne e]⟩
  have hfar : ∀ j (hj : j < ps.length), j ≠ i → Apart p' ps[j] := by
    intro j hj hne k hk hq
    rcases hf k hk with h1 | h1
    · exact a4 i j hi hj (fun e => hne e.symm) k h1 hq
    · have := (a3 _ (List.getElem_mem hj)).lt hq; omega
  refine ⟨by rw [hk.block wp (lt_of_block a1) o1]; exact a1, ?_, ?_, ?_, a5, a6, ?_⟩
  · have e : (ps.set i p').map ptrV = ps.map ptrV := by
      rw [List.map_set, show ptrV p' = ptrV ps[i] by unfold ptrV; rw [hpb]]
      rw [← List.getElem_map ptrV (h := by simpa using hi), List.set_getElem_self]
    rw [e, List.length_set]; exact own_kept a2 hk o2
  · intro q hq
    rcases hmem q hq with rfl | ⟨j, hj, hne, rfl⟩
    · exact hok
    · exact (a3 _ (List.getElem_mem hj)).kept hk (fun k h1 h2 => a4 i j hi hj (fun e => hne e.symm) k h2 h1)
  · intro a b ha hb' hne
    rw [List.length_set] at ha hb'
    by_cases e1 : i = a
    · subst e1
      rw [List.getElem_set_self, List.getElem_set_ne hne]
      exact hfar b hb' (fun e => hne e.symm)
    · rw [List.getElem_set_ne e1]
      by_cases e2 : i = b
      · subst e2; rw [List.getElem_set_self]
        exact fun k h1 h2 => hfar a ha (fun e => e1 e.symm) k h2 h1
      · rw [List.getElem_set_ne e2]; exact a4 a b ha hb' hne
  · intro q hq k hk
    rcases hmem q hq with rfl | ⟨j, hj, hne, rfl⟩
    · rcases hf k hk with h1 | h1
      · exact a7 _ hm k h1
      · omega
    · exact a7 _ (List.getElem_mem hj) k hk
/-- One pair more. -/
theorem world_push {base wp : Nat} {ps : List PS} {rv rv' : Value} {w w' : World} (h : WorldAt base wp ps rv w) {p : PS} (hw : w'.heap[wp]? = some (.cells #[rv'] 28 (0, 0))) (hr : w'.ownsRow 0 33 1 rv' (ps.length + 1) (ps.map ptrV ++ [ptrV p])) (hok : PairOk w' p) (hk : Keeps (fun k => k = wp ∨ rv.ownBlock = some k) w w') (hf : ∀ k, PFoot p k → w.heap.size ≤ k) (hrv : ∀ k, rv'.ownBlock = some k → rv.ownBlock = some k ∨ w.heap.size ≤ k) (hb : base ≤ w.heap.size) : WorldAt base wp (ps ++ [p]) rv' w' := by
  have o1 : ∀ q ∈ ps, ¬ PFoot q wp := fun q hq => wp_out h hq
  have o2 : ∀ q ∈ ps, ∀ k, rv.ownBlock = some k → ¬ PFoot q k := fun q hq => rv_out h hq
  obtain ⟨a1, a2, a3, a4, a5, a6, a7⟩ := h
  refine ⟨hw, by rw [List.map_append, List.length_append]; exact hr, ?_, ?_, a5, ?_, ?_⟩
  · intro q hq
    rcases List.mem_append.1 hq with hq | hq
    · refine (a3 q hq).kept hk (fun k h1 h2 => ?_)
      rcases h2 with rfl | h2
      · exact o1 q hq h1
      · exact o2 q hq k h2 h1
    · rw [List.mem_singleton] at hq; subst hq; exact hok
  · intro i j hi hj hne
    rw [List.length_append, List.length_singleton] at hi hj
    rcases Nat.lt_or_ge i ps.length with h1 | h1
    · rw [List.getElem_append_left h1]
      rcases Nat.lt_or_ge j ps.length with h2 | h2
      · rw [List.getElem_append_left h2]; exact a4 i j h1 h2 hne
      · rw [List.getElem_append_right h2]
        intro k hk1 hk2
        have e : [p][j - ps.length]'(by simp; omega) = p := by simp
        rw [e] at hk2
        have := (a3 _ (List.getElem_mem h1)).lt hk1
        have := hf k hk2
        omega
    · rw [List.getElem_append_right h1]
      rcases Nat.lt_or_ge j ps.length with h2 | h2
      · rw [List.getElem_append_left h2]
        intro k hk1 hk2
        have e : [p][i - ps.length]'(by simp; omega) = p := by simp
        rw [e] at hk1
        have := (a3 _ (List.getElem_mem h2)).lt hk2
        have := hf k hk1
        omega
      · omega
  · intro k hk
    rcases hrv k hk with h1 | h1
    · exact a6 k h1
    · omega
  · intro q hq k hk
    rcases List.mem_append.1 hq with hq | hq
    · exact a7 q hq k hk
    · rw [List.mem_singleton] at hq; subst hq
      have := hf k hk; omega
end Go.Proofs.YtkjancfakplogaaGreatDoor
