import Derived.Test.YtkjancfakplogaaGreatDoorPL5
import Derived.Deep.RegionLaw
import Derived.Deep.AppendLies
import Derived.Laws.IdiomStrings
namespace Go.Proofs.YtkjancfakplogaaGreatDoor
open Go.RowKit
/-- Nothing but the blocks of S and new ones is changed. -/
structure Keeps (S : Nat → Prop) (w w' : World) : Prop where
  os : w'.os = w.os
  tape : w'.tape = w.tape
  output : w'.output = w.output
  size : w.heap.size ≤ w'.heap.size
  block : ∀ k, k < w.heap.size → ¬ S k → w'.heap[k]? = w.heap[k]?
theorem Keeps.refl (S : Nat → Prop) (w : World) : Keeps S w w := ⟨rfl, rfl, rfl, Nat.le_refl _, fun _ _ _ => rfl⟩
theorem Keeps.trans {S T : Nat → Prop} {a b c : World} (h : Keeps S a b) (g : Keeps T b c) (hT : ∀ k, k < a.heap.size → T k → S k) : Keeps S a c :=
  ⟨g.os.trans h.os, g.tape.trans h.tape, g.output.trans h.output, Nat.le_trans h.size g.size, fun k hk hS => (g.block k (by have := h.size; omega) (fun ht => hS (hT k hk ht))).trans (h.block k hk hS)⟩
theorem Keeps.of_below {S : Nat → Prop} {B : Nat} {w w' : World} (h : Below B w w') (hS : ∀ k, k < w.heap.size → B ≤ k → S k) : Keeps S w w' :=
  ⟨h.os, h.tape, h.output, h.size, fun k hk hn => h.block k (by rcases Nat.lt_or_ge k B with g | g; exact g; exact absurd (hS k hk g) hn)⟩
theorem Keeps.below {S : Nat → Prop} {B : Nat} {w w' : World} (h : Keeps S w w') (hB : B ≤ w.heap.size) (hS : ∀ k, k < B → ¬ S k) : Below B w w' :=
  ⟨h.os, h.tape, h.output, h.size, fun k hk => h.block k (by omega) (hS k hk)⟩
theorem Keeps.mono {S T : Nat → Prop} {w w' : World} (h : Keeps S w w') (hT : ∀ k, k < w.heap.size → S k → T k) : Keeps T w w' :=
  ⟨h.os, h.tape, h.output, h.size, fun k hk hn => h.block k hk (fun hs => hn (hT k hk hs))⟩
theorem Keeps.of_grown {w w' : World} {row : Option Nat} (h : w.grownBy w' row) : Keeps (fun k => row = some k) w w' :=
  ⟨h.os, h.tape, h.output, h.size, fun k hk hn => h.block k hk (fun e => hn e.symm)⟩
theorem Keeps.set (w : World) (b o : Nat) (v : Value) : Keeps (fun k => k = b) w (w.setCell ⟨b, o, none⟩ v) :=
  ⟨rfl, rfl, rfl, by simp, fun k _ hn => heap_setCell_other _ _ _ _ hn⟩
/-- A replica in memory. -/
def RepAt (w : World) (b : Nat) (site : Int) (v : Value) : Prop := w.heap[b]? = some (.cells #[.int .i64 site, v] 104 (0, 0))
theorem RepAt.lt {w : World} {b : Nat} {site : Int} {v : Value} (h : RepAt w b site v) : b < w.heap.size := lt_of_block h
theorem RepAt.cell0 {w : World} {b : Nat} {site : Int} {v : Value} (h : RepAt w b site v) : w.cell? ⟨b, 0, none⟩ = some (.int .i64 site) := by
  rw [cell_of_row w b 0 _ _ _ h]; rfl
theorem RepAt.cell1 {w : World} {b : Nat} {site : Int} {v : Value} (h : RepAt w b site v) : w.cell? ⟨b, 1, none⟩ = some v := by
  rw [cell_of_row w b 1 _ _ _ h]; rfl
theorem RepAt.free {w : World} {b : Nat} {site : Int} {v : Value} (h : RepAt w b site v) (j : Nat) : w.frozen? ⟨b, j, none⟩ = false := by
  simp [World.frozen?, show w.heap[b]? = _ from h]
theorem RepAt.kept {w w' : World} {b : Nat} {site : Int} {v : Value} {S : Nat → Prop} (h : RepAt w b site v) (hk : Keeps S w w') (hS : ¬ S b) : RepAt w' b site v := by
  unfold RepAt; rw [hk.block b h.lt hS]; exact h
theorem RepAt.below {w w' : World} {b B : Nat} {site : Int} {v : Value} (h : RepAt w b site v) (hb : Below B w w') (hB : b < B) : RepAt w' b site v := by
  unfold RepAt; rw [hb.block b hB]; exact h
theorem RepAt.set {w : World} {b : Nat} {site : Int} {v : Value} (h : RepAt w b site v) (v' : Value) : RepAt (w.setCell ⟨b, 1, none⟩ v') b site v' := by
  unfold RepAt; rw [heap_setCell_same w b 1 _ _ v' h]; rfl
theorem rep_apart {w : World} {b : Nat} {site : Int} {u v : Value} {base n : Nat} {xs : List Value} (h : RepAt w b site u) (hown : w.ownsRow base 139 5 v n xs) : v.ownBlock ≠ some b := by
  rcases hown.2 with ⟨rfl, _⟩ | ⟨g, cap, cur, rfl, _, hg, _⟩
  · simp [Value.ownBlock]
  · intro e
    simp [Value.ownBlock] at e
    subst e
    unfold RepAt at h
    rw [hg] at h
    simp at h
theorem own_kept {w w' : World} {base : Nat} {e : TypeId} {size : Nat} {v : Value} {n : Nat} {xs : List Value} {S : Nat → Prop} (h : w.ownsRow base e size v n xs) (hk : Keeps S w w') (hS : ∀ k, v.ownBlock = some k → ¬ S k) : w'.ownsRow base e size v n xs := by
  refine ⟨h.1, ?_⟩
  rcases h.2 with hn | ⟨g, cap, cur, rfl, hb, hgg, rest⟩
  · exact .inl hn
  · exact .inr ⟨g, cap, cur, rfl, hb, by rw [hk.block g (lt_of_block hgg) (hS g rfl)]; exact hgg, rest⟩
/-- A row's element is set. -/
theorem own_cell {w : World} {base : Nat} {e : TypeId} {size : Nat} {g n cap : Nat} {xs : List Value} (h : w.ownsRow base e size (.slice (some ⟨g, 0, none⟩) n cap) n xs) (j : Nat) (u : Value) (_hj : j < n * size) : (w.setCell ⟨g, j, none⟩ u).ownsRow base e size (.slice (some ⟨g, 0, none⟩) n cap) n (xs.set j u) := by
  obtain ⟨h1, h2⟩ := h
  refine ⟨by simpa using h1, ?_⟩
  rcases h2 with ⟨h2, _⟩ | ⟨g', cap', cur, hv, hb, hh, h3, h4, h5, h6⟩
  · cases h2
  · cases hv
    refine .inr ⟨g, cap, cur.setIfInBounds j u, rfl, hb, heap_setCell_same w g j cur _ u hh, h3, h4, by simpa using h5, ?_⟩
    rw [← h6, Array.toList_setIfInBounds, List.take_set]
theorem own_free {w : World} {base : Nat} {e : TypeId} {size : Nat} {g n cap : Nat} {xs : List Value} (h : w.ownsRow base e size (.slice (some ⟨g, 0, none⟩) n cap) n xs) (j : Nat) : w.frozen? ⟨g, j, none⟩ = false := by
  rcases h.2 with ⟨h2, _⟩ | ⟨g', cap', cur, hv, hb, hh, _⟩
  · cases h2
  · cases hv; simp [World.frozen?, hh]
theorem own_at {w : World} {base : Nat} {e : TypeId} {size : Nat} {g n cap : Nat} {xs : List Value} (h : w.ownsRow base e size (.slice (some ⟨g, 0, none⟩) n cap) n xs) {j : Nat} {u : Value} (hu : xs[j]? = some u) : w.cell? ⟨g, j, none⟩ = some u := by
  have := h.cells (g := g) rfl j u hu
  rwa [show (⟨g, 0, none⟩ : Addr).add j = ⟨g, j, none⟩ by unfold Addr.add; split <;> simp_all] at this
theorem loCells_set (M : List Lo) (i : Nat) (y : Lo) (h : i < M.length) : loCells (M.set i y) = (((((loCells M).set (i * 5) (.int .i64 y.count)).set (i * 5 + 1) (.int .i64 y.site)).set (i * 5 + 2) (.int .i64 y.node.id)).set (i * 5 + 3) (.int .i64 y.node.parent)).set (i * 5 + 4) (.string (bs y.node.name)) := by
  induction M generalizing i with
  | nil => simp at h
  | cons m M ih =>
    have e : ∀ (m : Lo) (M : List Lo), loCells (m :: M) = .int .i64 m.count :: .int .i64 m.site :: .int .i64 m.node.id :: .int .i64 m.node.parent :: .string (bs m.node.name) :: loCells M := fun _ _ => rfl
    cases i with
    | zero => rw [List.set_cons_zero, e, e]; simp
    | succ i =>
      rw [List.set_cons_succ, e, e, ih i (by simpa using h), show (i + 1) * 5 = i * 5 + 1 + 1 + 1 + 1 + 1 by omega]
      simp only [List.set_cons_succ, show ∀ a, i * 5 + 1 + 1 + 1 + 1 + 1 + a = (i * 5 + a) + 1 + 1 + 1 + 1 + 1 from fun a => by omega]
theorem own_op {w : World} {base g n cap : Nat} {M : List Lo} (h : w.ownsRow base 139 5 (.slice (some ⟨g, 0, none⟩) n cap) n (loCells M)) {i : Nat} (hi : i < n) (hM : M.length = n) (y : Lo) :
    (((((w.setCell ⟨g, i * 5, none⟩ (.int .i64 y.count)).setCell ⟨g, i * 5 + 1, none⟩ (.int .i64 y.site)).setCell ⟨g, i * 5 + 2, none⟩ (.int .i64 y.node.id)).setCell ⟨g, i * 5 + 3, none⟩ (.int .i64 y.node.parent)).setCell ⟨g, i * 5 + 4, none⟩ (.string (bs y.node.name))).ownsRow base 139 5 (.slice (some ⟨g, 0, none⟩) n cap) n (loCells (M.set i y)) := by
  rw [loCells_set M i y (by omega)]
  exact own_cell (own_cell (own_cell (own_cell (own_cell h _ _ (by omega)) _ _ (by omega)) _ _ (by omega)) _ _ (by omega)) _ _ (by omega)
/-- The list while the op moves ahead. -/
def bub (x : Lo) (L : List Lo) (i : Nat) : List Lo := L.take i ++ x :: L.drop i
theorem bub_len (x : Lo) (L : List Lo) {i : Nat} (h : i ≤ L.length) : (bub x L i).length = L.length + 1 := by unfold bub; simp; omega
theorem bub_get (x : Lo) (L : List Lo) {k : Nat} (h : k < L.length) : (bub x L (k + 1))[k]? = some L[k] := by
  unfold bub
  rw [List.getElem?_append_left (by rw [List.length_take]; omega), List.getElem?_take, if_pos (by omega), List.getElem?_eq_getElem h]
theorem bub_step (x : Lo) (L : List Lo) {k : Nat} (h : k < L.length) : ((bub x L (k + 1)).set (k + 1) L[k]).set k x = bub x L k := by
  apply List.ext_getElem?
  intro j
  unfold bub
  rw [List.getElem?_set, List.getElem?_set]
  have hlen : (L.take (k + 1) ++ x :: L.drop (k + 1)).length = L.length + 1 := bub_len x L (by omega)
  rw [List.length_set, hlen]
  by_cases h1 : k = j
  · subst h1
    rw [if_pos rfl, if_pos (by omega), List.getElem?_append_right (by rw [List.length_take]; omega), List.length_take, show k - min k L.length = 0 by omega]; rfl
  · rw [if_neg h1]
    by_cases h2 : k + 1 = j
    · subst h2
      rw [if_pos rfl, if_pos (by omega), List.getElem?_append_right (by rw [List.length_take]; omega), List.length_take, show k + 1 - min k L.length = 1 by omega, List.getElem?_cons_succ, List.getElem?_drop]
      rw [show k + 0 = k by omega, List.getElem?_eq_getElem h]
    · rw [if_neg h2]
      by_cases h3 : j < k
      · rw [List.getElem?_append_left (by rw [List.length_take]; omega), List.getElem?_append_left (by rw [List.length_take]; omega), List.getElem?_take, List.getElem?_take, if_pos (by omega), if_pos h3]
      · rw [List.getElem?_append_right (by rw [List.length_take]; omega), List.getElem?_append_right (by rw [List.length_take]; omega), List.length_take, List.length_take]
        obtain ⟨d, rfl⟩ : ∃ d, j = k + 2 + d := ⟨j - (k + 2), by omega⟩
        rw [show k + 2 + d - min (k + 1) L.length = d + 1 by omega, show k + 2 + d - min k L.length = d + 2 by omega, List.getElem?_cons_succ, List.getElem?_cons_succ, List.getElem?_drop, List.getElem?_drop]
        congr 1; omega
end Go.Proofs.YtkjancfakplogaaGreatDoor
