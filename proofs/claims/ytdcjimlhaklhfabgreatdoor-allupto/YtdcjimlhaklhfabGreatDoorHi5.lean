import Derived.Test.YtdcjimlhaklhfabGreatDoorHi4
import Derived.Deep.RegionLaw
import Derived.Deep.AppendLies
import Derived.Laws.IdiomStrings
import Derived.Test.YtdcjimlhaklhfabGreatDoorHi1
namespace Go.Proofs.YtdcjimlhaklhfabGreatDoor
open Go.RowKit
/-- Nothing but the blocks of S and new ones is changed. -/
structure Keeps (S : Nat → Prop) (w w' : World) : Prop where
  os : w'.os = w.os
  tape : w'.tape = w.tape
  output : w'.output = w.output
  size : w.heap.size ≤ w'.heap.size
  block : ∀ k, k < w.heap.size → ¬ S k → w'.heap[k]? = w.heap[k]?
theorem Keeps.refl (S : Nat → Prop) (w : World) : Keeps S w w := ⟨rfl, rfl, rfl, Nat.le_refl _, fun _ _ _ => rfl⟩
theorem Keeps.trans {S T : Nat → Prop} {a b c : World} (h : Keeps S a b) (g : Keeps T b c) (hT : ∀ k, k < a.heap.size → T k → S k) : Keeps S a c :=
  ⟨g.os.trans h.os, g.tape.trans h.tape, g.output.trans h.output, Nat.le_trans h.size g.size, fun k hk hS => (g.block k (by have := h.size; omega) (fun ht => hS (hT k hk ht))).trans (h.block k hk hS)⟩
theorem Keeps.of_below {S : Nat → Prop} {B : Nat} {w w' : World} (h : Below B w w') (hS : ∀ k, k < w.heap.size → B ≤ k → S k) : Keeps S w w' :=
  ⟨h.os, h.tape, h.output, h.size, fun k hk hn => h.block k (by rcases Nat.lt_or_ge k B with g | g; exact g; exact absurd (hS k hk g) hn)⟩
theorem Keeps.below {S : Nat → Prop} {B : Nat} {w w' : World} (h : Keeps S w w') (hB : B ≤ w.heap.size) (hS : ∀ k, k < B → ¬ S k) : Below B w w' :=
  ⟨h.os, h.tape, h.output, h.size, fun k hk => h.block k (by omega) (hS k hk)⟩
theorem Keeps.mono {S T : Nat → Prop} {w w' : World} (h : Keeps S w w') (hT : ∀ k, k < w.heap.size → S k → T k) : Keeps T w w' :=
  ⟨h.os, h.tape, h.output, h.size, fun k hk hn => h.block k hk (fun hs => hn (hT k hk hs))⟩
theorem Keeps.of_grown {w w' : World} {row : Option Nat} (h : w.grownBy w' row) : Keeps (fun k => row = some k) w w' :=
  ⟨h.os, h.tape, h.output, h.size, fun k hk hn => h.block k hk (fun e => hn e.symm)⟩
theorem Keeps.set (w : World) (b o : Nat) (v : Value) : Keeps (fun k => k = b) w (w.setCell ⟨b, o, none⟩ v) :=
  ⟨rfl, rfl, rfl, by simp, fun k _ hn => heap_setCell_other _ _ _ _ hn⟩
/-- A replica in memory. -/
def RepAt (w : World) (b : Nat) (site : Int) (v : Value) : Prop := w.heap[b]? = some (.cells #[.int .i64 site, v] 69 (0, 0))
theorem RepAt.lt {w : World} {b : Nat} {site : Int} {v : Value} (h : RepAt w b site v) : b < w.heap.size := lt_of_block h
theorem RepAt.cell0 {w : World} {b : Nat} {site : Int} {v : Value} (h : RepAt w b site v) : w.cell? ⟨b, 0, none⟩ = some (.int .i64 site) := by
  rw [cell_of_row w b 0 _ _ _ h]; rfl
theorem RepAt.cell1 {w : World} {b : Nat} {site : Int} {v : Value} (h : RepAt w b site v) : w.cell? ⟨b, 1, none⟩ = some v := by
  rw [cell_of_row w b 1 _ _ _ h]; rfl
theorem RepAt.free {w : World} {b : Nat} {site : Int} {v : Value} (h : RepAt w b site v) (j : Nat) : w.frozen? ⟨b, j, none⟩ = false := by
  simp [World.frozen?, show w.heap[b]? = _ from h]
theorem RepAt.kept {w w' : World} {b : Nat} {site : Int} {v : Value} {S : Nat → Prop} (h : RepAt w b site v) (hk : Keeps S w w') (hS : ¬ S b) : RepAt w' b site v := by
  unfold RepAt; rw [hk.block b h.lt hS]; exact h
theorem RepAt.below {w w' : World} {b B : Nat} {site : Int} {v : Value} (h : RepAt w b site v) (hb : Below B w w') (hB : b < B) : RepAt w' b site v := by
  unfold RepAt; rw [hb.block b hB]; exact h
theorem RepAt.set {w : World} {b : Nat} {site : Int} {v : Value} (h : RepAt w b site v) (v' : Value) : RepAt (w.setCell ⟨b, 1, none⟩ v') b site v' := by
  unfold RepAt; rw [heap_setCell_same w b 1 _ _ v' h]; rfl
theorem rep_apart {w : World} {b : Nat} {site : Int} {u v : Value} {base n : Nat} {xs : List Value} (h : RepAt w b site u) (hown : w.ownsRow base 113 5 v n xs) : v.ownBlock ≠ some b := by
  rcases hown.2 with ⟨rfl, _⟩ | ⟨g, cap, cur, rfl, _, hg, _⟩
  · simp [Value.ownBlock]
  · intro e
    simp [Value.ownBlock] at e
    subst e
    unfold RepAt at h
    rw [hg] at h
    simp at h
theorem own_kept {w w' : World} {base : Nat} {e : TypeId} {size : Nat} {v : Value} {n : Nat} {xs : List Value} {S : Nat → Prop} (h : w.ownsRow base e size v n xs) (hk : Keeps S w w') (hS : ∀ k, v.ownBlock = some k → ¬ S k) : w'.ownsRow base e size v n xs := by
  refine ⟨h.1, ?_⟩
  rcases h.2 with hn | ⟨g, cap, cur, rfl, hb, hgg, rest⟩
  · exact .inl hn
  · exact .inr ⟨g, cap, cur, rfl, hb, by rw [hk.block g (lt_of_block hgg) (hS g rfl)]; exact hgg, rest⟩
/-- A row's element is set. -/
theorem own_cell {w : World} {base : Nat} {e : TypeId} {size : Nat} {g n cap : Nat} {xs : List Value} (h : w.ownsRow base e size (.slice (some ⟨g, 0, none⟩) n cap) n xs) (j : Nat) (u : Value) (_hj : j < n * size) : (w.setCell ⟨g, j, none⟩ u).ownsRow base e size (.slice (some ⟨g, 0, none⟩) n cap) n (xs.set j u) := by
  obtain ⟨h1, h2⟩ := h
  refine ⟨by simpa using h1, ?_⟩
  rcases h2 with ⟨h2, _⟩ | ⟨g', cap', cur, hv, hb, hh, h3, h4, h5, h6⟩
  · cases h2
  · cases hv
    refine .inr ⟨g, cap, cur.setIfInBounds j u, rfl, hb, heap_setCell_same w g j cur _ u hh, h3, h4, by simpa using h5, ?_⟩
    rw [← h6, Array.toList_setIfInBounds, List.take_set]
theorem own_free {w : World} {base : Nat} {e : TypeId} {size : Nat} {g n cap : Nat} {xs : List Value} (h : w.ownsRow base e size (.slice (some ⟨g, 0, none⟩) n cap) n xs) (j : Nat) : w.frozen? ⟨g, j, none⟩ = false := by
  rcases h.2 with ⟨h2, _⟩ | ⟨g', cap', cur, hv, hb, hh, _⟩
  · cases h2
  · cases hv; simp [World.frozen?, hh]
theorem own_at {w : World} {base : Nat} {e : TypeId} {size : Nat} {g n cap : Nat} {xs : List Value} (h : w.ownsRow base e size (.slice (some ⟨g, 0, none⟩) n cap) n xs) {j : Nat} {u : Value} (hu : xs[j]? = some u) : w.cell? ⟨g, j, none⟩ = some u := by
  have := h.cells (g := g) rfl j u hu
  rwa [show (⟨g, 0, none⟩ : Addr).add j = ⟨g, j, none⟩ by unfold Addr.add; split <;> simp_all] at this
theorem loCells_set (M : List Lo) (i : Nat) (y : Lo) (h : i < M.length) : loCells (M.set i y) = (((((loCells M).set (i * 5) (.int .i64 y.count)).set (i * 5 + 1) (.int .i64 y.site)).set (i * 5 + 2) (.int .i64 y.node.id)).set (i * 5 + 3) (.int .i64 y.node.parent)).set (i * 5 + 4) (.string (bs y.node.name)) := by
  induction M generalizing i with
  | nil => simp at h
  | cons m M ih =>
    have e : ∀ (m : Lo) (M : List Lo), loCells (m :: M) = .int .i64 m.count :: .int .i64 m.site :: .int .i64 m.node.id :: .int .i64 m.node.parent :: .string (bs m.node.name) :: loCells M := fun _ _ => rfl
    cases i with
    | zero => rw [List.set_cons_zero, e, e]; simp
    | succ i =>
      rw [List.set_cons_succ, e, e, ih i (by simpa using h), show (i + 1) * 5 = i * 5 + 1 + 1 + 1 + 1 + 1 by omega]
      simp only [List.set_cons_succ, show ∀ a, i * 5 + 1 + 1 + 1 + 1 + 1 + a = (i * 5 + a) + 1 + 1 + 1 + 1 + 1 from fun a => by omega]
theorem own_op {w : World} {base g n cap : Nat} {M : List Lo} (h : w.ownsRow base 113 5 (.slice (some ⟨g, 0, none⟩) n cap) n (loCells M)) {i : Nat} (hi : i < n) (hM : M.length = n) (y : Lo) :
    (((((w.setCell ⟨g, i * 5, none⟩ (.int .i64 y.count)).setCell ⟨g, i * 5 + 1, none⟩ (.int .i64 y.site)).setCell ⟨g, i * 5 + 2, none⟩ (.int .i64 y.node.id)).setCell ⟨g, i * 5 + 3, none⟩ (.int .i64 y.node.parent)).setCell ⟨g, i * 5 + 4, none⟩ (.string (bs y.node.name))).ownsRow base 113 5 (.slice (some ⟨g, 0, none⟩) n cap) n (loCells (M.set i y)) := by
  rw [loCells_set M i y (by omega)]
  exact own_cell (own_cell (own_cell (own_cell (own_cell h _ _ (by omega)) _ _ (by omega)) _ _ (by omega)) _ _ (by omega)) _ _ (by omega)
/-- The list while the op moves ahead. -/
def bub (x : Lo) (L : List Lo) (i : Nat) : List Lo := L.take i ++ x :: L.drop i
theorem bub_len (x : Lo) (L : List Lo) {i : Nat} (h : i ≤ L.length) : (bub x L i).length = L.length + 1 := by unfold bub; simp; omega
theorem bub_get (x : Lo) (L : List Lo) {k : Nat} (h : k < L.length) : (bub x L (k + 1))[k]? = some L[k] := by
  unfold bub
  rw [List.getElem?_append_left (by rw [List.length_take]; omega), List.getElem?_take, if_pos (by omega), List.getElem?_eq_getElem h]
theorem bub_step (x : Lo) (L : List Lo) {k : Nat} (h : k < L.length) : ((bub x L (k + 1)).set (k + 1) L[k]).set k x = bub x L k := by
  apply List.ext_getElem?
  intro j
  unfold bub
  rw [List.getElem?_set, List.getElem?_set]
  have hlen : (L.take (k + 1) ++ x :: L.drop (k + 1)).length = L.length + 1 := bub_len x L (by omega)
  rw [List.length_set, hlen]
  by_cases h1 : k = j
  · subst h1
    rw [if_pos rfl, if_pos (by omega), List.getElem?_append_right (by rw [List.length_take]; omega), List.length_take, show k - min k L.length = 0 by omega]; rfl
  · rw [if_neg h1]
    by_cases h2 : k + 1 = j
    · subst h2
      rw [if_pos rfl, if_pos (by omega), List.getElem?_append_right (by rw [List.length_take]; omega), List.length_take, show k + 1 - min k L.length = 1 by omega, List.getElem?_cons_succ, List.getElem?_drop]
      rw [show k + 0 = k by omega, List.getElem?_eq_getElem h]
    · rw [if_neg h2]
      by_cases h3 : j < k
      · rw [List.getElem?_append_left (by rw [List.length_take]; omega), List.getElem?_append_left (by rw [List.length_take]; omega), List.getElem?_take, List.getElem?_take, if_pos (by omega), if_pos h3]
      · rw [List.getElem?_append_right (by rw [List.length_take]; omega), List.getElem?_append_right (by rw [List.length_take]; omega), List.length_take, List.length_take]
        obtain ⟨d, rfl⟩ : ∃ d, j = k + 2 + d := ⟨j - (k + 2), by omega⟩
        rw [show k + 2 + d - min (k + 1) L.length = d + 1 by omega, show k + 2 + d - min k L.length = d + 2 by omega, List.getElem?_cons_succ, List.getElem?_cons_succ, List.getElem?_drop, List.getElem?_drop]
        congr 1; omega
end Go.Proofs.YtdcjimlhaklhfabGreatDoor

namespace Go.Proofs.YtdcjimlhaklhfabGreatDoor
open Go.RowKit
theorem conv_out (W : World) (s : ByteArray) : (convert 9 159 (.string s)).run Tryz.prog W = .ok (.slice (some ⟨W.heap.size, 0, none⟩) s.size (grownCap W s.size 0 5)) (W.drew.alloc (.cells (bytesRow s (grownCap W s.size 0 5)) 5 ((bytesRow s (grownCap W s.size 0 5)).size, (bytesRow s (grownCap W s.size 0 5)).size + 1))) :=
  run_bytes_of_string W 9 159 5 s Tryz.underlying9 Tryz.underlying159 Tryz.underlying5
theorem conv_back (w : World) (o : Obj) (s : ByteArray) (cap : Nat) (f : Nat × Nat) : (convert 159 9 (.slice (some ⟨w.heap.size + 1, 0, none⟩) s.size cap)).run Tryz.prog (((w.alloc o).alloc (.cells (bytesRow s cap) 5 f)).drew) = .ok (.string s) (((w.alloc o).alloc (.cells (bytesRow s cap) 5 f)).drew) := by
  have h := run_convert_bytes_back (P := Tryz.prog) (((w.alloc o).alloc (.cells (bytesRow s cap) 5 f)).drew) 159 9 5 ⟨w.heap.size + 1, 0, none⟩ cap s.data.toList Tryz.underlying159 Tryz.underlying5 Tryz.underlying9 (fun j hj => by
    have hb : (((w.alloc o).alloc (.cells (bytesRow s cap) 5 f)).drew).heap[w.heap.size + 1]? = some (.cells (bytesRow s cap) 5 f) := by
      have := heap_alloc_new (w.alloc o) (.cells (bytesRow s cap) 5 f)
      simpa [heap_drew] using this
    refine World.news_of_block hb j _ ?_
    simp only [Array.length_toList] at hj
    simp only [bytesRow, Array.toList_append, Array.toList_map]
    rw [List.getElem?_append_left (by simpa using hj)]
    simp only [List.getElem?_map, Option.map_eq_some_iff]
    exact ⟨s.data[j], by simp, by simp⟩)
  have e : s.data.toList.length = s.size := by rw [Array.length_toList]; rfl
  rw [e] at h
  rw [h]
theorem OpAt.kept {w w' : World} {g : Nat} {x : Lo} {S : Nat → Prop} (h : OpAt w g x) (hk : Keeps S w w') (hS : ¬ S g) : OpAt w' g x := by
  obtain ⟨h0, h1, h2, h3, h4, h5⟩ := h
  have hc : ∀ o, w'.cell? ⟨g, o, none⟩ = w.cell? ⟨g, o, none⟩ := fun o => World.cell?_of_block (a := ⟨g, o, none⟩) (hk.block g h0 hS)
  have := hk.size
  exact ⟨by omega, (hc _).trans h1, (hc _).trans h2, (hc _).trans h3, (hc _).trans h4, (hc _).trans h5⟩
theorem ck {wr W w1 : World} {p o : Nat} {v : Value} (hbel : Below wr.heap.size wr W) (hb : Below W.heap.size W w1) (hp : p < wr.heap.size) (h : W.cell? ⟨p, o, none⟩ = some v) : w1.cell? ⟨p, o, none⟩ = some v := by
  rw [hb.cell (p := ⟨p, o, none⟩) (by have := hbel.size; show p < _; omega)]; exact h
theorem Keeps.drewN {S : Nat → Prop} {w w' : World} (h : Keeps S w w') (n : Nat) : Keeps S w (w'.drewN n) := ⟨h.os, h.tape, h.output, h.size, h.block⟩
def InsPost (b : Nat) (site : Int) (v : Value) (n : Nat) (M : List Lo) (w w' : World) : Prop := ∃ v', RepAt w' b site v' ∧ w'.ownsRow 0 113 5 v' n (loCells M) ∧ Keeps (fun k => k = b ∨ v.ownBlock = some k) w w' ∧ (v'.ownBlock = v.ownBlock ∨ ∃ g, v'.ownBlock = some g ∧ w.heap.size ≤ g)
theorem insPost_of {b : Nat} {site : Int} {v : Value} {n : Nat} {M : List Lo} {w w' : World} {g cap : Nat} (h1 : RepAt w' b site (.slice (some ⟨g, 0, none⟩) n cap)) (h2 : w'.ownsRow 0 113 5 (.slice (some ⟨g, 0, none⟩) n cap) n (loCells M)) (h3 : Keeps (fun k => k = b ∨ v.ownBlock = some k) w w') (h4 : v.ownBlock = some g ∨ w.heap.size ≤ g) : InsPost b site v n M w w' :=
  ⟨_, h1, h2, h3, h4.elim (fun h => .inl h.symm) (fun h => .inr ⟨g, rfl, h⟩)⟩
theorem ins_kept {wr W : World} (hb : Below wr.heap.size wr W) {p b g k : Nat} {a0 a1 a2 a3 a4 s y0 y1 y2 y3 y4 : Value} (hp : p < wr.heap.size) (hb' : b < wr.heap.size) (hg : g < wr.heap.size)
    (h : wr.drew.cell? ⟨p, 0, none⟩ = some a0 ∧ wr.drew.cell? ⟨p, 1, none⟩ = some a1 ∧ wr.drew.cell? ⟨p, 2, none⟩ = some a2 ∧ wr.drew.cell? ⟨p, 3, none⟩ = some a3 ∧ wr.drew.cell? ⟨p, 4, none⟩ = some a4 ∧ wr.drew.cell? ⟨b, 1, none⟩ = some s ∧ wr.drew.cell? ⟨g, k * 5, none⟩ = some y0 ∧ wr.drew.cell? ⟨g, k * 5 + 1, none⟩ = some y1 ∧ wr.drew.cell? ⟨g, k * 5 + 2, none⟩ = some y2 ∧ wr.drew.cell? ⟨g, k * 5 + 3, none⟩ = some y3 ∧ wr.drew.cell? ⟨g, k * 5 + 4, none⟩ = some y4 ∧ Below wr.heap.size wr wr.drew) :
    W.cell? ⟨p, 0, none⟩ = some a0 ∧ W.cell? ⟨p, 1, none⟩ = some a1 ∧ W.cell? ⟨p, 2, none⟩ = some a2 ∧ W.cell? ⟨p, 3, none⟩ = some a3 ∧ W.cell? ⟨p, 4, none⟩ = some a4 ∧ W.cell? ⟨b, 1, none⟩ = some s ∧ W.cell? ⟨g, k * 5, none⟩ = some y0 ∧ W.cell? ⟨g, k * 5 + 1, none⟩ = some y1 ∧ W.cell? ⟨g, k * 5 + 2, none⟩ = some y2 ∧ W.cell? ⟨g, k * 5 + 3, none⟩ = some y3 ∧ W.cell? ⟨g, k * 5 + 4, none⟩ = some y4 ∧ Below wr.heap.size wr W := by
  obtain ⟨h1, h2, h3, h4, h5, h6, h7, h8, h9, h10, h11, _⟩ := h
  exact ⟨(hb.cell (p := ⟨p, _, none⟩) hp).trans h1, (hb.cell (p := ⟨p, _, none⟩) hp).trans h2, (hb.cell (p := ⟨p, _, none⟩) hp).trans h3, (hb.cell (p := ⟨p, _, none⟩) hp).trans h4, (hb.cell (p := ⟨p, _, none⟩) hp).trans h5, (hb.cell (p := ⟨b, _, none⟩) hb').trans h6, (hb.cell (p := ⟨g, _, none⟩) hg).trans h7, (hb.cell (p := ⟨g, _, none⟩) hg).trans h8, (hb.cell (p := ⟨g, _, none⟩) hg).trans h9, (hb.cell (p := ⟨g, _, none⟩) hg).trans h10, (hb.cell (p := ⟨g, _, none⟩) hg).trans h11, hb⟩
theorem Keeps.drew {S : Nat → Prop} {w w' : World} (h : Keeps S w w') : Keeps S w w'.drew := ⟨h.os, h.tape, h.output, h.size, h.block⟩
theorem op_keeps (w : World) (g o0 o1 o2 o3 o4 : Nat) (v0 v1 v2 v3 v4 : Value) : Keeps (fun k => k = g) w (((((w.setCell ⟨g, o0, none⟩ v0).setCell ⟨g, o1, none⟩ v1).setCell ⟨g, o2, none⟩ v2).setCell ⟨g, o3, none⟩ v3).setCell ⟨g, o4, none⟩ v4) :=
  ((((Keeps.set w g o0 v0).trans (Keeps.set _ g o1 v1) (fun _ _ h => h)).trans (Keeps.set _ g o2 v2) (fun _ _ h => h)).trans (Keeps.set _ g o3 v3) (fun _ _ h => h)).trans (Keeps.set _ g o4 v4) (fun _ _ h => h)
theorem own_drew {w : World} {base : Nat} {e : TypeId} {size : Nat} {v : Value} {n : Nat} {xs : List Value} (h : w.ownsRow base e size v n xs) : w.drew.ownsRow base e size v n xs := h
theorem ahead_same (x y : Lo) : (if x.count ≠ y.count then decide (x.count < y.count) else decide (x.site < y.site)) = ahead x y := rfl
set_option maxHeartbeats 4000000 in
set_option maxRecDepth 100000 in
theorem insert_any (L : List Lo) (x : Lo) (b : Nat) (site : Int) (v : Value) (w : World) (hR : RepAt w b site v) (hown : w.ownsRow 0 113 5 v L.length (loCells L)) (hs : Sorted L) (hl : L.length ≤ 4000) :
    Calls Tryz.prog 59 #[.pointer (some ⟨b, 1, none⟩), .agg #[.int .i64 x.count, .int .i64 x.site, .int .i64 x.node.id, .int .i64 x.node.parent, .string (bs x.node.name)]] w fun e w' => e = .returned (.tuple #[]) ∧ InsPost b site v (L.length + 1) (ins x L) w w' := by
  obtain ⟨i0, hi, hz0, hz1, hz2⟩ := info_parts Tryz.infoOp
  have c1 := conv_out
  have c2 := conv_back
  have hbl := hR.lt
  have HR := hide hR; clear hR
  have HOWN := hide hown; clear hown
  have HSO := hide hs; clear hs
  go_enter Tryz.func59, Tryz.ntmps59
  go_wp2
  have HQ : Hid (OpAt (World.drew (World.alloc (World.alloc w (.cells #[.int .i64 x.count, .int .i64 x.site, .int .i64 x.node.id, .int .i64 x.node.parent, .string (bs x.node.name)] 113)) (.cells (bytesRow (bs x.node.name) (grownCap (w.alloc (.cells #[.int .i64 x.count, .int .i64 x.site, .int .i64 x.node.id, .int .i64 x.node.parent, .string (bs x.node.name)] 113)) (bs x.node.name).size 0 5)) 5 ((bytesRow (bs x.node.name) (grownCap (w.alloc (.cells #[.int .i64 x.count, .int .i64 x.site, .int .i64 x.node.id, .int .i64 x.node.parent, .string (bs x.node.name)] 113)) (bs x.node.name).size 0 5)).size, (bytesRow (bs x.node.name) (grownCap (w.alloc (.cells #[.int .i64 x.count, .int .i64 x.site, .int .i64 x.node.id, .int .i64 x.node.parent, .string (bs x.node.name)] 113)) (bs x.node.name).size 0 5)).size + 1)))) w.heap.size x ∧ Below w.heap.size w (World.drew (World.alloc (World.alloc w (.cells #[.int .i64 x.count, .int .i64 x.site, .int .i64 x.node.id, .int .i64 x.node.parent, .string (bs x.node.name)] 113)) (.cells (bytesRow (bs x.node.name) (grownCap (w.alloc (.cells #[.int .i64 x.count, .int .i64 x.site, .int .i64 x.node.id, .int .i64 x.node.parent, .string (bs x.node.name)] 113)) (bs x.node.name).size 0 5)) 5 ((bytesRow (bs x.node.name) (grownCap (w.alloc (.cells #[.int .i64 x.count, .int .i64 x.site, .int .i64 x.node.id, .int .i64 x.node.parent, .string (bs x.node.name)] 113)) (bs x.node.name).size 0 5)).size, (bytesRow (bs x.node.name) (grownCap (w.alloc (.cells #[.int .i64 x.count, .int .i64 x.site, .int .i64 x.node.id, .int .i64 x.node.parent, .string (bs x.node.name)] 113)) (bs x.node.name).size 0 5)).size + 1)))) ∧ (World.drew (World.alloc (World.alloc w (.cells #[.int .i64 x.count, .int .i64 x.site, .int .i64 x.node.id, .int .i64 x.node.parent, .string (bs x.node.name)] 113)) (.cells (bytesRow (bs x.node.name) (grownCap (w.alloc (.cells #[.int .i64 x.count, .int .i64 x.site, .int .i64 x.node.id, .int .i64 x.node.parent, .string (bs x.node.name)] 113)) (bs x.node.name).size 0 5)) 5 ((bytesRow (bs x.node.name) (grownCap (w.alloc (.cells #[.int .i64 x.count, .int .i64 x.site, .int .i64 x.node.id, .int .i64 x.node.parent, .string (bs x.node.name)] 113)) (bs x.node.name).size 0 5)).size, (bytesRow (bs x.node.name) (grownCap (w.alloc (.cells #[.int .i64 x.count, .int .i64 x.site, .int .i64 x.node.id, .int .i64 x.node.parent, .string (bs x.node.name)] 113)) (bs x.node.name).size 0 5)).size + 1)))).heap.size = w.heap.size + 2) := by
    refine hide ⟨OpAt.below (w := w.alloc (.cells #[.int .i64 x.count, .int .i64 x.site, .int .i64 x.node.id, .int .i64 x.node.parent, .string (bs x.node.name)] 113)) (opAt_new w x _) ((Below.refl (w.heap.size + 1) _).alloc (by simp) _).drew (by omega), ((Below.refl _ _).alloc (Nat.le_refl _) _).alloc (by simp) _ |>.drew, by simp [heap_drew]⟩
  generalize World.drew (World.alloc (World.alloc w (.cells #[.int .i64 x.count, .int .i64 x.site, .int .i64 x.node.id, .int .i64 x.node.parent, .string (bs x.node.name)] 113)) (.cells (bytesRow (bs x.node.name) (grownCap (w.alloc (.cells #[.int .i64 x.count, .int .i64 x.site, .int .i64 x.node.id, .int .i64 x.node.parent, .string (bs x.node.name)] 113)) (bs x.node.name).size 0 5)) 5 ((bytesRow (bs x.node.name) (grownCap (w.alloc (.cells #[.int .i64 x.count, .int .i64 x.site, .int .i64 x.node.id, .int .i64 x.node.parent, .string (bs x.node.name)] 113)) (bs x.node.name).size 0 5)).size, (bytesRow (bs x.node.name) (grownCap (w.alloc (.cells #[.int .i64 x.count, .int .i64 x.site, .int .i64 x.node.id, .int .i64 x.node.parent, .string (bs x.node.name)] 113)) (bs x.node.name).size 0 5)).size + 1))) = wq at *
  generalize (grownCap (w.alloc (.cells #[.int .i64 x.count, .int .i64 x.site, .int .i64 x.node.id, .int .i64 x.node.parent, .string (bs x.node.name)] 113)) (bs x.node.name).size 0 5) = capq at *
  obtain ⟨hopq, hbq, hszq⟩ := unhide HQ
  clear HQ c1 c2
  have HBQ := hide hbq
  have HOPQ := hide hopq
  obtain ⟨_, o0, o1, o2, o3, o4⟩ := hopq
  have hRq := (unhide HR).below hbq hbl
  have r1 := hRq.cell1
  have rf := hRq.free
  have HRQ := hide hRq; clear hRq
  have HOWNQ := hide (own_below (unhide HOWN) hbq)
  clear hbq
  have hbq : b < wq.heap.size := by omega
  have hbn : ¬ b = wq.heap.size := by omega
  have hpn : ¬ w.heap.size = wq.heap.size := by omega
  have hpl : w.heap.size < wq.heap.size := by omega
  have HSZQ := hide hszq; clear hszq
  have HAP : Hid (v.ownBlock ≠ some b) := hide (rep_apart (unhide HRQ) (unhide HOWNQ))
  have HVL : Hid (∀ k, v.ownBlock = some k → k < w.heap.size) := hide (fun k hk => ((unhide HOWN).lt k hk).2)
  have hB3 : Below wq.heap.size wq (World.drew (wq.alloc (.cells #[.int .i64 x.count, .int .i64 x.site, .int .i64 x.node.id, .int .i64 x.node.parent, .string (bs x.node.name)] 113))) := ((Below.refl wq.heap.size wq).alloc (Nat.le_refl _) _).drew
  have HOWN3 := hide (own_below (unhide HOWNQ) hB3)
  have HR3 := hide ((unhide HRQ).below hB3 hbq)
  have HOP3 := hide ((unhide HOPQ).below hB3 hpl)
  have HK3 : Hid (Keeps (fun k => k = b ∨ v.ownBlock = some k) w (World.drew (wq.alloc (.cells #[.int .i64 x.count, .int .i64 x.site, .int .i64 x.node.id, .int .i64 x.node.parent, .string (bs x.node.name)] 113)))) := hide (Keeps.of_below ((unhide HBQ).trans (hB3.mono (by omega))) (fun k h1 h2 => by omega))
  have HNEW : Hid (∀ j y, (loC x)[j]? = some y → (World.drew (wq.alloc (.cells #[.int .i64 x.count, .int .i64 x.site, .int .i64 x.node.id, .int .i64 x.node.parent, .string (bs x.node.name)] 113))).cell? ((⟨wq.heap.size, 0, none⟩ : Addr).add j) = some y) := hide (news_five (w := wq) _ _ _ _ _ _)
  clear hB3
  go_region_law (refine step_append_lies _ rfl (.tmp 16) (.tmp 18) 65 rfl 0 113 i0 (.agg #[.int .i64 0, .int .i64 0, .int .i64 0, .int .i64 0, .string ByteArray.empty]) 5 48 Tryz.underlying65 hi hz0 hz1 hz2 rfl (by decide) v L.length (loCells L) (by simp [Act.eval]) (unhide HOWN3) ⟨wq.heap.size, 0, none⟩ 1 1 (loC x) (by simp [Act.eval]) rfl (unhide HNEW) (by simp [Value.oneCell', loC]) (by decide) (by unfold maxLen; omega) (by omega) (by simp) (wq.heap.size + 1) (by simp [heap_drew]) ?_; intro g cap w4 hown4 hgrow hgg hgl; have hR4 := (unhide HR3).kept (Keeps.of_grown hgrow) (unhide HAP); have q1 := hR4.cell1; have qf := hR4.free; have HR4 := hide hR4; have HOWN4 := hide hown4; have HG4 := hide hgrow; have HGG := hide hgg; clear hR4 hown4 hgrow hgg)
  all_goals
    have HGN : Hid (g ≠ b ∧ g ≠ w.heap.size ∧ (v.ownBlock = some g ∨ w.heap.size ≤ g)) := by
      apply hide
      have h1 : g ≠ b := by
        intro e; subst e
        exact (rep_apart (unhide HR4) (unhide HOWN4)) rfl
      rcases unhide HGG with h2 | h2
      · exact ⟨h1, by have := unhide HVL g h2; omega, .inl h2⟩
      · exact ⟨h1, by have := unhide HSZQ; omega, .inr (by have := unhide HSZQ; omega)⟩
    have HR5 := hide ((unhide HR4).set (.slice (some ⟨g, 0, none⟩) (L.length + 1) cap))
    have HOWN5 : Hid ((w4.setCell ⟨b, 1, none⟩ (.slice (some ⟨g, 0, none⟩) (L.length + 1) cap)).ownsRow 0 113 5 (.slice (some ⟨g, 0, none⟩) (L.length + 1) cap) (L.length + 1) (loCells (bub x L L.length))) := by
      apply hide
      have e : bub x L L.length = L ++ [x] := by unfold bub; simp
      rw [e, loCells_snoc]
      exact own_kept (unhide HOWN4) (Keeps.set w4 b 1 _) (fun k hk => by simp [Value.ownBlock] at hk; subst hk; exact (unhide HGN).1)
    have HOP5 : Hid (OpAt (w4.setCell ⟨b, 1, none⟩ (.slice (some ⟨g, 0, none⟩) (L.length + 1) cap)) w.heap.size x) := by
      apply hide
      exact (OpAt.kept (unhide HOP3) (Keeps.of_grown (unhide HG4)) (fun e => by have := unhide HVL _ e; omega)).kept (Keeps.set w4 b 1 _) (by omega)
    have HK5 : Hid (Keeps (fun k => k = b ∨ v.ownBlock = some k) w (w4.setCell ⟨b, 1, none⟩ (.slice (some ⟨g, 0, none⟩) (L.length + 1) cap))) := hide (((unhide HK3).trans (Keeps.of_grown (unhide HG4)) (fun k _ h => .inr h)).trans (Keeps.set w4 b 1 _) (fun k _ h => .inl h))
    clear q1 qf HG4 HR4 HOWN4
    generalize w4.setCell ⟨b, 1, none⟩ (.slice (some ⟨g, 0, none⟩) (L.length + 1) cap) = w5 at *
    have s1 := (unhide HR5).cell1
    clear o0 o1 o2 o3 o4 r1 rf
    go_wp2
    go_loopw [4] (fun t wr => ∃ i : Nat, i ≤ L.length ∧ t = .int .i64 i ∧ Hid (RepAt wr b site (.slice (some ⟨g, 0, none⟩) (L.length + 1) cap)) ∧ Hid (wr.ownsRow 0 113 5 (.slice (some ⟨g, 0, none⟩) (L.length + 1) cap) (L.length + 1) (loCells (bub x L i))) ∧ Hid (OpAt wr w.heap.size x) ∧ Hid (Keeps (fun k => k = b ∨ v.ownBlock = some k) w wr) ∧ Hid (∀ j (h : j < L.length), i ≤ j → ahead x L[j] = true)) (fun t _ => (intOf t).toNat)
    case atStart => exact ⟨L.length, Nat.le_refl _, rfl, HR5, HOWN5, HOP5, HK5, hide (fun j h1 h2 => by omega)⟩
    case round =>
      obtain ⟨i, hi', rfl, HRr, HOr, HPr, HKr, HA⟩ := hrel
      clear s1
      cases i with
      | zero =>
        have HE : Hid (ins x L = bub x L 0) := hide (sorted_cut (unhide HSO) (Nat.zero_le _) (unhide HA) (.inl rfl))
        go_wp2
        go_quiet (fail)
        go_wp2
        go_end0
        refine ⟨rfl, ?_⟩
        rw [unhide HE]
        exact insPost_of (unhide HRr) (unhide HOr) ((unhide HKr).drewN _) (unhide HGN).2.2
      | succ k =>
        have hkl : k < L.length := by omega
        have r1 := (unhide HRr).cell1
        have rf := (unhide HRr).free
        have hbr := (unhide HRr).lt
        have HY := hide (bub_get x L hkl)
        have HBS := hide (bub_step x L hkl)
        have hbk : k < (bub x L (k + 1)).length := by rw [bub_len x L (by omega)]; omega
        have hgk : (bub x L (k + 1))[k] = L[k] := by have := bub_get x L hkl; rw [List.getElem?_eq_getElem hbk] at this; exact Option.some.inj this
        have y0 := own_at (unhide HOr) (j := k * 5 + 0) (by rw [loCells_at _ k 0 hbk (by omega), hgk]; rfl)
        have y1 := own_at (unhide HOr) (j := k * 5 + 1) (by rw [loCells_at _ k 1 hbk (by omega), hgk]; rfl)
        have y2 := own_at (unhide HOr) (j := k * 5 + 2) (by rw [loCells_at _ k 2 hbk (by omega), hgk]; rfl)
        have y3 := own_at (unhide HOr) (j := k * 5 + 3) (by rw [loCells_at _ k 3 hbk (by omega), hgk]; rfl)
        have y4 := own_at (unhide HOr) (j := k * 5 + 4) (by rw [loCells_at _ k 4 hbk (by omega), hgk]; rfl)
        have hgl' : g < wr.heap.size := ((unhide HOr).lt g rfl).2
        rw [Nat.add_zero] at y0
        obtain ⟨hpr, p0, p1, p2, p3, p4⟩ := unhide HPr
        have HSC : Hid (ahead x L[k] = false → ins x L = bub x L (k + 1)) := hide (fun h => sorted_cut (unhide HSO) hi' (unhide HA) (.inr ⟨by simpa using hkl, by simpa using h⟩))
        have HAN : Hid (ahead x L[k] = true → ∀ j (h : j < L.length), k ≤ j → ahead x L[j] = true) := hide (fun h j hj hkj => by
          by_cases e : j = k
          · subst e; exact h
          · exact unhide HA j hj (by omega))
        have HIS := hide (fun W => isAhead_any x.count x.site x.node.id x.node.parent (bs x.node.name) (L[k]).count (L[k]).site (L[k]).node.id (L[k]).node.parent (bs (L[k]).node.name) W)
        rw [ahead_same] at HIS
        clear hgk hbk
        generalize L[k] = y at *
        generalize ahead x y = ah at *
        have hk0 : (0 : Int) ≤ (k : Int) := by omega
        have hk1 : ((k : Int) + 1).toNat = k + 1 := by omega
        obtain ⟨N, hN⟩ : ∃ N, N = L.length + 1 := ⟨_, rfl⟩
        rw [← hN] at HRr HOr r1 ⊢
        have hk2 : (k : Int) < N := by omega
        have hk3 : (k : Int) + 1 < N := by omega
        have HN := hide hN; clear hN
        have hw1 : IntKind.i64.wrap (k : Int) = k := IntWalk.i64_in _ ⟨by omega, by omega⟩
        have hw2 : IntKind.i64.wrap ((k : Int) + 1 - 1) = k := IntWalk.i64_in _ ⟨by omega, by omega⟩ |>.trans (by omega)
        have hd : decide ((0 : Int) < (k : Int) + 1) = true := by simp
        rw [show ((k + 1 : Nat) : Int) = (k : Int) + 1 from rfl]
        have HS0 := hide (show wr.drew.cell? ⟨w.heap.size, 0, none⟩ = some (.int .i64 x.count) ∧ wr.drew.cell? ⟨w.heap.size, 1, none⟩ = some (.int .i64 x.site) ∧ wr.drew.cell? ⟨w.heap.size, 2, none⟩ = some (.int .i64 x.node.id) ∧ wr.drew.cell? ⟨w.heap.size, 3, none⟩ = some (.int .i64 x.node.parent) ∧ wr.drew.cell? ⟨w.heap.size, 4, none⟩ = some (.string (bs x.node.name)) ∧ wr.drew.cell? ⟨b, 1, none⟩ = some (.slice (some ⟨g, 0, none⟩) N cap) ∧ wr.drew.cell? ⟨g, k * 5, none⟩ = some (.int .i64 y.count) ∧ wr.drew.cell? ⟨g, k * 5 + 1, none⟩ = some (.int .i64 y.site) ∧ wr.drew.cell? ⟨g, k * 5 + 2, none⟩ = some (.int .i64 y.node.id) ∧ wr.drew.cell? ⟨g, k * 5 + 3, none⟩ = some (.int .i64 y.node.parent) ∧ wr.drew.cell? ⟨g, k * 5 + 4, none⟩ = some (.string (bs y.node.name)) ∧ Below wr.heap.size wr wr.drew from ⟨p0, p1, p2, p3, p4, r1, y0, y1, y2, y3, y4, (Below.refl _ _).drew⟩)
        go_wp2
        go_region_held3 (fun W => W.cell? ⟨w.heap.size, 0, none⟩ = some (.int .i64 x.count) ∧ W.cell? ⟨w.heap.size, 1, none⟩ = some (.int .i64 x.site) ∧ W.cell? ⟨w.heap.size, 2, none⟩ = some (.int .i64 x.node.id) ∧ W.cell? ⟨w.heap.size, 3, none⟩ = some (.int .i64 x.node.parent) ∧ W.cell? ⟨w.heap.size, 4, none⟩ = some (.string (bs x.node.name)) ∧ W.cell? ⟨b, 1, none⟩ = some (.slice (some ⟨g, 0, none⟩) N cap) ∧ W.cell? ⟨g, k * 5, none⟩ = some (.int .i64 y.count) ∧ W.cell? ⟨g, k * 5 + 1, none⟩ = some (.int .i64 y.site) ∧ W.cell? ⟨g, k * 5 + 2, none⟩ = some (.int .i64 y.node.id) ∧ W.cell? ⟨g, k * 5 + 3, none⟩ = some (.int .i64 y.node.parent) ∧ W.cell? ⟨g, k * 5 + 4, none⟩ = some (.string (bs y.node.name)) ∧ Below wr.heap.size wr W) (first | exact unhide HS0 | assumption) ((go_at_call 96; refine (unhide HIS _).mono ?_; rintro e w1 ⟨rfl, hb1⟩; have hbx : Below wr.heap.size wr w1 := (Below.refl wr.heap.size wr).drew.trans (hb1.mono (by simp [heap_drew])); have hs1 := ins_kept hbx hpr hbr hgl' (unhide HS0)))
        all_goals
          have HR1 := hide ((unhide HRr).below hbx hbr)
          have HO1 := hide (own_below (unhide HOr) hbx)
          have HP1 := hide ((unhide HPr).below hbx hpr)
          have HK1 : Hid (Keeps (fun k => k = b ∨ v.ownBlock = some k) w w1) := hide ((unhide HKr).trans (Keeps.of_below (S := fun _ => False) hbx (fun k h1 h2 => by omega)) (fun k _ h => h.elim))
          clear p0 p1 p2 p3 p4 y0 y1 y2 y3 y4 r1 rf HS0
          cases ah with
          | false =>
            have HE := hide (unhide HSC rfl)
            go_wp2
            go_end0
            refine ⟨rfl, ?_⟩
            rw [unhide HE, ← unhide HN]
            exact insPost_of (unhide HR1) (unhide HO1) (unhide HK1) (unhide HGN).2.2
          | true =>
            have HA2 := hide (unhide HAN rfl)
            obtain ⟨p0, p1, p2, p3, p4, r1, y0, y1, y2, y3, y4, _⟩ := hs1
            have hbk : k + 1 < (bub x L (k + 1)).length := by rw [bub_len x L (by omega)]; omega
            have hgk : (bub x L (k + 1))[k + 1] = x := by
              have : (bub x L (k + 1))[k + 1]? = some x := by
                unfold bub
                rw [List.getElem?_append_right (by rw [List.length_take]; omega), List.length_take, show k + 1 - min (k + 1) L.length = 0 by omega]; rfl
              rw [List.getElem?_eq_getElem hbk] at this; exact Option.some.inj this
            have z0 := own_at (unhide HO1) (j := (k + 1) * 5 + 0) (by rw [loCells_at _ (k + 1) 0 hbk (by omega), hgk]; rfl)
            have z1 := own_at (unhide HO1) (j := (k + 1) * 5 + 1) (by rw [loCells_at _ (k + 1) 1 hbk (by omega), hgk]; rfl)
            have z2 := own_at (unhide HO1) (j := (k + 1) * 5 + 2) (by rw [loCells_at _ (k + 1) 2 hbk (by omega), hgk]; rfl)
            have z3 := own_at (unhide HO1) (j := (k + 1) * 5 + 3) (by rw [loCells_at _ (k + 1) 3 hbk (by omega), hgk]; rfl)
            have z4 := own_at (unhide HO1) (j := (k + 1) * 5 + 4) (by rw [loCells_at _ (k + 1) 4 hbk (by omega), hgk]; rfl)
            rw [Nat.add_zero] at z0
            have zf := own_free (unhide HO1)
            have n1 : ¬ g = b := (unhide HGN).1
            have n2 : ¬ g = w.heap.size := (unhide HGN).2.1
            have n3 : ¬ b = g := fun e => n1 e.symm
            have n4 : ¬ w.heap.size = g := fun e => n2 e.symm
            have hk6 : (0 : Int) ≤ (k : Int) + 1 := by omega
            clear hgk hbk
            go_wp2
            go_region
            all_goals go_wp2
            all_goals go_region
            all_goals go_wp2
            all_goals
              have hkx := ((op_keeps w1 g ((k + 1) * 5) ((k + 1) * 5 + 1) ((k + 1) * 5 + 2) ((k + 1) * 5 + 3) ((k + 1) * 5 + 4) (.int .i64 y.count) (.int .i64 y.site) (.int .i64 y.node.id) (.int .i64 y.node.parent) (.string (bs y.node.name))).trans (op_keeps _ g (k * 5) (k * 5 + 1) (k * 5 + 2) (k * 5 + 3) (k * 5 + 4) (.int .i64 x.count) (.int .i64 x.site) (.int .i64 x.node.id) (.int .i64 x.node.parent) (.string (bs x.node.name))) (fun _ _ h => h)).drew.drew
              have hox := own_op (own_op (unhide HO1) (i := k + 1) (by have := unhide HN; omega) (by rw [bub_len x L (by omega)]; exact (unhide HN).symm) y) (i := k) (by have := unhide HN; omega) (by rw [List.length_set, bub_len x L (by omega)]; exact (unhide HN).symm) x
              rw [unhide HBS] at hox
              have hox := own_drew (own_drew hox)
              have HKX := hide hkx
              have HOX := hide hox
              clear hkx hox
              go_roundw
              case rel =>
                refine ⟨k, by omega, rfl, hide ((unhide HR1).kept (unhide HKX) n3), HOX, hide ((unhide HP1).kept (unhide HKX) n4), hide ((unhide HK1).trans (unhide HKX) (fun j hj e => ?_)), HA2⟩
                subst e
                rcases (unhide HGN).2.2 with h | h
                · exact .inr h
                · omega
              case measure => simp [intOf]
end Go.Proofs.YtdcjimlhaklhfabGreatDoor

namespace Go.Proofs.YtdcjimlhaklhfabGreatDoor
open Go.RowKit
theorem row_of {w : World} {base : Nat} {e : TypeId} {size : Nat} {fo : Option Addr} {n cap : Nat} {xs : List Value} (h : w.ownsRow base e size (.slice fo n cap) n xs) : Row w fo n size xs := by
  obtain ⟨ao, c, e', hr⟩ := row_of_owns h
  cases e'; exact hr
theorem joinAll_take (L fr : List Lo) (k : Nat) (h : k < fr.length) : joinAll L (fr.take (k + 1)) = ins fr[k] (joinAll L (fr.take k)) := by
  rw [List.take_succ_eq_append_getElem h, joinAll_snoc]
theorem newTo_take {L fr : List Lo} (h : NewTo L fr) (k : Nat) : NewTo L (fr.take k) :=
  ⟨fun x hx => h.1 x (List.mem_of_mem_take hx), h.2.sublist (List.take_sublist _ _)⟩
/-- The replica's block and its log's. -/
abbrev Foot (b : Nat) (v : Value) : Nat → Prop := fun k => k = b ∨ v.ownBlock = some k
/-- A log's new row: as it was, or new. -/
def Moved (w : World) (v v' : Value) : Prop := v'.ownBlock = v.ownBlock ∨ ∃ g, v'.ownBlock = some g ∧ w.heap.size ≤ g
set_option maxHeartbeats 2000000 in
theorem join_any (L list : List Lo) (b : Nat) (site : Int) (v : Value) (bo : Option Addr) (cb : Nat) (w : World) (hR : RepAt w b site v) (hown : w.ownsRow 0 113 5 v L.length (loCells L)) (hs : Sorted L) (hL0 : L.length ≤ 150) (hl : Row w bo list.length 5 (loCells list)) (hl0 : list.length ≤ 4000) :
    Calls Tryz.prog 30 #[.pointer (some ⟨b, 1, none⟩), .slice bo list.length cb] w fun e w' =>
      if 150 < L.length + (fresh L list).length then e = .returned (.tuple #[.int .i64 0, .int .i64 13]) ∧ Below w.heap.size w w'
      else e = .returned (.tuple #[.int .i64 (fresh L list).length, .int .i64 0]) ∧ ∃ v', RepAt w' b site v' ∧ w'.ownsRow 0 113 5 v' (joinAll L (fresh L list)).length (loCells (joinAll L (fresh L list))) ∧ Keeps (Foot b v) w w' ∧ Moved w v v' := by
  obtain ⟨ao, ca, rfl, hrow⟩ := row_of_owns hown
  have HFR := hide (fresh_any L list b 1 ao bo ca cb w hR.cell1 hR.lt hrow hl (by omega) hl0)
  have hfl := fresh_len L list
  have HNEW := hide (fresh_new L list)
  clear hrow hl
  generalize fresh L list = fr at *
  have HR := hide hR; clear hR
  have HOWN := hide hown; clear hown
  have hbl := (unhide HR).lt
  have HSO := hide hs; clear hs
  by_cases hbig : 150 < L.length + fr.length
  · simp only [if_pos hbig]
    have hd : decide ((150 : Int) < (L.length : Int) + (fr.length : Int)) = true := by rw [decide_eq_true_eq]; omega
    go_enter Tryz.func30, Tryz.ntmps30
    go_wp2_with fail
    refine (unhide HFR).mono ?_
    rintro e w1 ⟨fo, cf, rfl, hownf, hb1⟩
    have r1 := ((unhide HR).below hb1 hbl).cell1
    clear hownf
    go_wp2
    go_ret2
    exact ⟨rfl, hb1⟩
  · simp only [if_neg hbig]
    have hd : decide ((150 : Int) < (L.length : Int) + (fr.length : Int)) = false := by rw [decide_eq_false_iff_not]; omega
    go_enter Tryz.func30, Tryz.ntmps30
    go_wp2_with fail
    refine (unhide HFR).mono ?_
    rintro e w1 ⟨fo, cf, rfl, hownf, hb1⟩
    have hR1 := (unhide HR).below hb1 hbl
    have r1 := hR1.cell1
    have HR1 := hide hR1; clear hR1
    have HOWN1 := hide (own_below (unhide HOWN) hb1)
    have hs1 := hb1.size
    have HFO : Hid (∀ k, (Value.slice fo fr.length cf).ownBlock = some k → w.heap.size ≤ k ∧ k < w1.heap.size) := hide (fun k hk => hownf.lt k hk)
    have HVL : Hid (∀ k, (Value.slice ao L.length ca).ownBlock = some k → k < w.heap.size) := hide (fun k hk => ((unhide HOWN).lt k hk).2)
    have HOF := hide hownf; clear hownf
    have HB1 := hide hb1; clear hb1
    go_wp2
    go_loopw [23] (fun i wr => ∃ k : Nat, ∃ v' : Value, k ≤ fr.length ∧ i = .int .i64 k ∧ Hid (RepAt wr b site v') ∧ Hid (wr.ownsRow 0 113 5 v' (joinAll L (fr.take k)).length (loCells (joinAll L (fr.take k)))) ∧ Hid (Keeps (Foot b (.slice ao L.length ca)) w1 wr) ∧ Hid (Moved w1 (.slice ao L.length ca) v') ∧ Hid (wr.ownsRow w.heap.size 113 5 (.slice fo fr.length cf) fr.length (loCells fr))) (fun i _ => fr.length - (intOf i).toNat)
    case atStart => exact ⟨0, _, Nat.zero_le _, rfl, HR1, HOWN1, hide (Keeps.refl _ _), hide (.inl rfl), HOF⟩
    case round =>
      obtain ⟨k, v', hk, rfl, HRr, HOr, HKr, HMr, HFr⟩ := hrel
      clear r1
      by_cases hlt : k < fr.length
      · obtain ⟨g, hao, hg, c0, c1, c2, c3, c4⟩ := lo_cells (row_of (unhide HFr)) (Below.refl wr.heap.size wr) (Nat.le_refl _) hlt
        have HG : Hid ((Value.slice fo fr.length cf).ownBlock = some g) := by apply hide; rw [hao]; rfl
        have HAO := hide hao
        rw [hao]
        clear hao
        have HJ := hide (joinAll_take L fr k hlt)
        have HJL : Hid ((joinAll L (fr.take k)).length ≤ 4000) := by apply hide; rw [joinAll_len, List.length_take]; omega
        have HSR : Hid (Sorted (joinAll L (fr.take k))) := hide (joinAll_sorted (unhide HSO) _ (newTo_take (unhide HNEW) k))
        generalize fr[k] = x at *
        have hbr := (unhide HRr).lt
        have hB2 : Below wr.heap.size wr (wr.alloc (.cells #[.int .i64 x.count, .int .i64 x.site, .int .i64 x.node.id, .int .i64 x.node.parent, .string (bs x.node.name)] 113)) := (Below.refl _ _).alloc (Nat.le_refl _) _
        have HI := hide (insert_any (joinAll L (fr.take k)) x b site v' (wr.alloc (.cells #[.int .i64 x.count, .int .i64 x.site, .int .i64 x.node.id, .int .i64 x.node.parent, .string (bs x.node.name)] 113)) ((unhide HRr).below hB2 hbr) (own_below (unhide HOr) hB2) (unhide HSR) (unhide HJL))
        have HB2 := hide hB2; clear hB2
        go_wp2_with fail
        refine (unhide HI).mono ?_
        rintro e w3 ⟨rfl, v3, hR3, hO3, hK3, hM3⟩
        have hw1r := (unhide HKr).size
        have HKK : Hid (Keeps (Foot b (.slice ao L.length ca)) w1 w3) := by
          apply hide
          refine ((unhide HKr).trans (Keeps.of_below (S := fun _ => False) (unhide HB2) (fun k h1 h2 => by omega)) (fun k _ h => h.elim)).trans hK3 (fun j hj h => ?_)
          rcases h with h | h
          · exact .inl h
          · rcases unhide HMr with hm | ⟨q, hm, hq⟩
            · exact .inr (hm ▸ h)
            · rw [hm] at h; cases h; omega
        have HMM : Hid (Moved w1 (.slice ao L.length ca) v3) := by
          apply hide
          rcases hM3 with h | ⟨q, h, hq⟩
          · rcases unhide HMr with hm | ⟨q, hm, hq⟩
            · exact .inl (h.trans hm)
            · exact .inr ⟨q, h.trans hm, hq⟩
          · exact .inr ⟨q, h, by have := (unhide HB2).size; omega⟩
        have HFF : Hid (w3.ownsRow w.heap.size 113 5 (.slice fo fr.length cf) fr.length (loCells fr)) := by
          apply hide
          refine own_kept (own_below (unhide HFr) (unhide HB2)) hK3 (fun j hj h => ?_)
          have h1 := unhide HFO j hj
          rcases h with h | h
          · omega
          · rcases unhide HMr with hm | ⟨q, hm, hq⟩
            · rw [hm] at h; have := unhide HVL j h; omega
            · rw [hm] at h; cases h; omega
        have HO3 : Hid (w3.ownsRow 0 113 5 v3 (joinAll L (fr.take (k + 1))).length (loCells (joinAll L (fr.take (k + 1))))) := by
          apply hide; rw [unhide HJ, ins_len]; exact hO3
        have HR3 := hide hR3
        clear hR3 hO3 hK3 hM3 c0 c1 c2 c3 c4
        go_wp2
        go_roundw
        case rel => exact ⟨k + 1, v3, by omega, by go_num, HR3, HO3, HKK, HMM, by have h := HFF; rw [unhide HAO] at h; exact h⟩
        case measure => simp [intOf]; omega
      · have HE : Hid (joinAll L fr = joinAll L (fr.take k)) := by apply hide; rw [List.take_of_length_le (by omega)]
        go_wp2
        go_ret2
        refine ⟨rfl, v', unhide HRr, by rw [unhide HE]; exact unhide HOr, ?_, ?_⟩
        · exact (Keeps.of_below (S := fun _ => False) (unhide HB1) (fun k h1 h2 => by omega) |>.mono (fun _ _ h => h.elim)).trans (unhide HKr) (fun _ _ h => h)
        · rcases unhide HMr with h | ⟨q, h, hq⟩
          · exact .inl h
          · exact .inr ⟨q, h, by omega⟩
end Go.Proofs.YtdcjimlhaklhfabGreatDoor

namespace Go.Proofs.YtdcjimlhaklhfabGreatDoor
open Go.RowKit
/-- A replica with its log. -/
structure Repl (w : World) (b : Nat) (site : Int) (v : Value) (L : List Lo) : Prop where
  at' : RepAt w b site v
  own : w.ownsRow 0 113 5 v L.length (loCells L)
  ok : LogOk L
theorem Repl.lt {w : World} {b : Nat} {site : Int} {v : Value} {L : List Lo} (h : Repl w b site v L) : b < w.heap.size := h.at'.lt
theorem Repl.kept {w w' : World} {b : Nat} {site : Int} {v : Value} {L : List Lo} {S : Nat → Prop} (h : Repl w b site v L) (hk : Keeps S w w') (hS : ∀ k, Foot b v k → ¬ S k) : Repl w' b site v L :=
  ⟨h.at'.kept hk (hS b (.inl rfl)), own_kept h.own hk (fun k e => hS k (.inr e)), h.ok⟩
theorem Repl.below {w w' : World} {b : Nat} {site : Int} {v : Value} {L : List Lo} (h : Repl w b site v L) (hb : Below w.heap.size w w') : Repl w' b site v L :=
  ⟨h.at'.below hb h.lt, own_below h.own hb, h.ok⟩
theorem deliverT_long {L : List Lo} {s : Str} (h : 4000 < s.length) : deliverT L s = (L, 0, 1) := by unfold deliverT; rw [if_pos h]
theorem deliverT_none {L : List Lo} {s : Str} (h : ¬ 4000 < s.length) (g : readOps (cut s) = none) : deliverT L s = (L, 0, 12) := by unfold deliverT; rw [if_neg h, g]
theorem deliverT_full {L list : List Lo} {s : Str} (h : ¬ 4000 < s.length) (g : readOps (cut s) = some list) (hb : 150 < L.length + (fresh L list).length) : deliverT L s = (L, 0, 13) := by unfold deliverT; rw [if_neg h, g]; simp only [if_pos hb]
theorem deliverT_ok {L list : List Lo} {s : Str} (h : ¬ 4000 < s.length) (g : readOps (cut s) = some list) (hb : ¬ 150 < L.length + (fresh L list).length) : deliverT L s = (joinAll L (fresh L list), (fresh L list).length, 0) := by unfold deliverT; rw [if_neg h, g]; simp only [if_neg hb]
set_option maxHeartbeats 2000000 in
set_option maxRecDepth 100000 in
theorem deliver_any (L : List Lo) (s : ByteArray) (b : Nat) (site : Int) (v : Value) (w : World) (hR : Repl w b site v L) :
    Calls Tryz.prog 12 #[.pointer (some ⟨b, 0, none⟩), .string s] w fun e w' =>
      e = .returned (.tuple #[.int .i64 (deliverT L (sl s)).2.1, .int .i64 (deliverT L (sl s)).2.2]) ∧ ∃ v', Repl w' b site v' (deliverT L (sl s)).1 ∧ Keeps (Foot b v) w w' ∧ Moved w v v' := by
  have hkeep : ∀ w', Below w.heap.size w w' → ∃ v', Repl w' b site v' L ∧ Keeps (Foot b v) w w' ∧ Moved w v v' := fun w' hb => ⟨v, hR.below hb, Keeps.of_below hb (fun k h1 h2 => by omega), .inl rfl⟩
  have HKP := hide hkeep; clear hkeep
  by_cases hlong : 4000 < s.size
  · rw [deliverT_long (show 4000 < (sl s).length by rw [sl_length]; exact hlong)]
    have hd : decide ((4000 : Int) < (s.size : Int)) = true := by rw [decide_eq_true_eq]; omega
    clear hR
    go_enter Tryz.func12, Tryz.ntmps12
    go_wp2
    go_ret2
    exact ⟨rfl, unhide HKP _ (Below.refl _ _)⟩
  · have hnl : ¬ 4000 < (sl s).length := by rw [sl_length]; exact hlong
    have hd : decide ((4000 : Int) < (s.size : Int)) = false := by rw [decide_eq_false_iff_not]; omega
    have HRD := hide (fun W => opsRead_any s W (by omega))
    cases hq : readOps (cut (sl s)) with
    | none =>
      rw [deliverT_none hnl hq]
      rw [hq] at HRD
      clear hq hR hnl
      go_enter Tryz.func12, Tryz.ntmps12
      go_wp2_with fail
      refine (unhide HRD _).mono ?_
      rintro e w1 ⟨rfl, hb1⟩
      go_wp2
      go_ret2
      exact ⟨rfl, unhide HKP _ hb1⟩
    | some list =>
      have hll := readOps_len _ _ hq
      have hcl := cut_length_le (sl s)
      rw [sl_length] at hcl
      have hlen : list.length ≤ 4000 := by omega
      clear hll hcl
      have HOK := hide (deliver_ok hR.ok (sl s))
      have HJ := hide (fun W (h : Repl W b site v L) bo cb hl => join_any L list b site v bo cb W h.at' h.own h.ok.1 h.ok.2.2 hl (by omega))
      rw [hq] at HRD
      have HR := hide hR; clear hR
      by_cases hbig : 150 < L.length + (fresh L list).length
      · rw [deliverT_full hnl hq hbig]
        simp only [if_pos hbig] at HJ
        clear hq hnl HOK
        go_enter Tryz.func12, Tryz.ntmps12
        go_wp2_with fail
        refine (unhide HRD _).mono ?_
        rintro e w1 ⟨⟨ao, cap, rfl, hrow⟩, hb1⟩
        have HR1 := hide ((unhide HR).below hb1)
        have HROW := hide hrow; clear hrow
        go_wp2_with fail
        refine (unhide HJ _ (by exact unhide HR1) _ _ (by exact unhide HROW)).mono ?_
        rintro e w2 ⟨rfl, hb2⟩
        have HB2 := hide (hb1.trans (hb2.mono hb1.size))
        clear hb2
        go_wp2
        go_ret2
        exact ⟨rfl, unhide HKP _ (unhide HB2)⟩
      · rw [deliverT_ok hnl hq hbig] at HOK ⊢
        simp only [if_neg hbig] at HJ
        clear hq hnl
        simp only at HOK
        go_enter Tryz.func12, Tryz.ntmps12
        go_wp2_with fail
        refine (unhide HRD _).mono ?_
        rintro e w1 ⟨⟨ao, cap, rfl, hrow⟩, hb1⟩
        have HR1 := hide ((unhide HR).below hb1)
        have HROW := hide hrow; clear hrow
        go_wp2_with fail
        refine (unhide HJ _ (by exact unhide HR1) _ _ (by exact unhide HROW)).mono ?_
        rintro e w2 ⟨rfl, v', h1, h2, h3, h4⟩
        have HF : Hid (∃ v', Repl w2 b site v' (joinAll L (fresh L list)) ∧ Keeps (Foot b v) w w2 ∧ Moved w v v') := by
          apply hide
          refine ⟨v', ⟨h1, h2, unhide HOK⟩, (Keeps.of_below (S := fun _ => False) hb1 (fun k h1 h2 => by omega) |>.mono (fun _ _ h => h.elim)).trans h3 (fun _ _ h => h), ?_⟩
          rcases h4 with h | ⟨q, h, hq⟩
          · exact .inl h
          · exact .inr ⟨q, h, by have := hb1.size; omega⟩
        clear h1 h2 h3 h4
        go_wp2
        go_ret2
        exact ⟨rfl, unhide HF⟩
set_option maxHeartbeats 1000000 in
theorem new_bad (site : Int) (w : World) (h : site < 1 ∨ 9 < site) :
    Calls Tryz.prog 40 #[.int .i64 site] w fun e w' => e = .returned (.tuple #[.pointer none, .int .i64 11]) ∧ Below w.heap.size w w' := by
  rcases h with h | h
  · have hd : decide (site < 1) = true := by simpa using h
    go_enter Tryz.func40, Tryz.ntmps40
    go_wp2
    go_ret2
    exact ⟨rfl, Below.refl _ _⟩
  · have hd : decide (site < 1) = false := by simp; omega
    have hd2 : decide (9 < site) = true := by simpa using h
    go_enter Tryz.func40, Tryz.ntmps40
    go_wp2
    go_ret2
    exact ⟨rfl, Below.refl _ _⟩
set_option maxHeartbeats 1000000 in
theorem new_ok (site : Int) (w : World) (h1 : 1 ≤ site) (h2 : site ≤ 9) :
    Calls Tryz.prog 40 #[.int .i64 site] w fun e w' => e = .returned (.tuple #[.pointer (some ⟨w.heap.size, 0, none⟩), .int .i64 0]) ∧ Repl w' w.heap.size site (.slice none 0 0) [] ∧ Below w.heap.size w w' := by
  have hd : decide (site < 1) = false := by simp; omega
  have hd2 : decide (9 < site) = false := by simp; omega
  go_enter Tryz.func40, Tryz.ntmps40
  go_wp2
  go_ret2
  exact ⟨rfl, ⟨heap_alloc_new w _, World.ownsRow_nil _ _ _ _, logOk_nil⟩, (Below.refl _ _).alloc (Nat.le_refl _) _⟩
end Go.Proofs.YtdcjimlhaklhfabGreatDoor

namespace Go.Proofs.YtdcjimlhaklhfabGreatDoor
open Go.RowKit
/-! Which type's cells lie in a block. -/
def tyAt (w : World) (k : Nat) (t : TypeId) : Prop := ∃ cs f, w.heap[k]? = some (.cells cs t f)
theorem tyAt_inj {w : World} {k : Nat} {t t' : TypeId} (h : tyAt w k t) (g : tyAt w k t') : t = t' := by
  obtain ⟨cs, f, h⟩ := h
  obtain ⟨cs', f', g⟩ := g
  rw [h] at g; cases g; rfl
theorem tyAt_own {w : World} {base : Nat} {e : TypeId} {size : Nat} {v : Value} {n : Nat} {xs : List Value} (h : w.ownsRow base e size v n xs) : ∀ k, v.ownBlock = some k → tyAt w k e := by
  intro k hk
  rcases h.2 with ⟨rfl, _⟩ | ⟨g, cap, cur, rfl, _, hg, _⟩
  · simp [Value.ownBlock] at hk
  · simp [Value.ownBlock] at hk; subst hk; exact ⟨_, _, hg⟩
theorem tyAt_lt {w : World} {k : Nat} {t : TypeId} (h : tyAt w k t) : k < w.heap.size := by
  obtain ⟨cs, f, h⟩ := h; exact lt_of_block h
theorem rows_apart {w : World} {b1 b2 : Nat} {e1 e2 : TypeId} {s1 s2 : Nat} {u v : Value} {n m : Nat} {xs ys : List Value} (h : w.ownsRow b1 e1 s1 u n xs) (g : w.ownsRow b2 e2 s2 v m ys) (hne : e1 ≠ e2) : ∀ k, u.ownBlock = some k → v.ownBlock ≠ some k :=
  fun k h1 h2 => hne (tyAt_inj (tyAt_own h k h1) (tyAt_own g k h2))
end Go.Proofs.YtdcjimlhaklhfabGreatDoor

namespace Go.Proofs.YtdcjimlhaklhfabGreatDoor
open Go.RowKit
/-- A script's steps in memory: five cells each. -/
def OpsAt (w : World) (ao : Option Addr) (len : Nat) : Prop :=
  0 < len → ∃ b off, ao = some ⟨b, off, none⟩ ∧ b < w.heap.size ∧ ∀ i, i < len → ∃ (k x y : Int) (s t : ByteArray),
    w.cell? ⟨b, off + i * 5, none⟩ = some (.int .i64 k) ∧ w.cell? ⟨b, off + i * 5 + 1, none⟩ = some (.int .i64 x) ∧ w.cell? ⟨b, off + i * 5 + 2, none⟩ = some (.int .i64 y) ∧ w.cell? ⟨b, off + i * 5 + 3, none⟩ = some (.string s) ∧ w.cell? ⟨b, off + i * 5 + 4, none⟩ = some (.string t)
end Go.Proofs.YtdcjimlhaklhfabGreatDoor

namespace Go.Proofs.YtdcjimlhaklhfabGreatDoor
open Go.RowKit
/-! The world of a script: pairs of a replica and the document's log. -/
structure PS where
  pb : Nat
  rb : Nat
  site : Int
  v : Value
  u : Value
  L : List Lo
def ptrV (p : PS) : Value := .pointer (some ⟨p.pb, 0, none⟩)
def PairAt (w : World) (p : PS) : Prop := w.heap[p.pb]? = some (.cells #[.pointer (some ⟨p.rb, 0, none⟩), .int .i64 p.site, p.u] 101 (0, 0))
structure PairOk (w : World) (p : PS) : Prop where
  at' : PairAt w p
  rep : Repl w p.rb p.site p.v p.L
  log : w.ownsRow 0 146 5 p.u p.L.length (loCells p.L)
  site : 1 ≤ p.site ∧ p.site ≤ 9
def PFoot (p : PS) : Nat → Prop := fun k => k = p.pb ∨ k = p.rb ∨ p.v.ownBlock = some k ∨ p.u.ownBlock = some k
theorem PairOk.foot {w : World} {p : PS} (h : PairOk w p) {k : Nat} (hk : PFoot p k) : tyAt w k 101 ∨ tyAt w k 69 ∨ tyAt w k 113 ∨ tyAt w k 146 := by
  rcases hk with rfl | rfl | hk | hk
  · exact .inl ⟨_, _, h.at'⟩
  · exact .inr (.inl ⟨_, _, h.rep.at'⟩)
  · exact .inr (.inr (.inl (tyAt_own h.rep.own k hk)))
  · exact .inr (.inr (.inr (tyAt_own h.log k hk)))
theorem PairOk.lt {w : World} {p : PS} (h : PairOk w p) {k : Nat} (hk : PFoot p k) : k < w.heap.size := by
  rcases h.foot hk with h | h | h | h <;> exact tyAt_lt h
theorem PairOk.kept {w w' : World} {p : PS} {S : Nat → Prop} (h : PairOk w p) (hk : Keeps S w w') (hS : ∀ k, PFoot p k → ¬ S k) : PairOk w' p := by
  refine ⟨?_, h.rep.kept hk (fun k hf => hS k ?_), own_kept h.log hk (fun k e => hS k (.inr (.inr (.inr e)))), h.site⟩
  · unfold PairAt; rw [hk.block p.pb (lt_of_block h.at') (hS p.pb (.inl rfl))]; exact h.at'
  · rcases hf with hf | hf
    · exact .inr (.inl hf)
    · exact .inr (.inr (.inl hf))
theorem PairOk.cell0 {w : World} {p : PS} (h : PairOk w p) : w.cell? ⟨p.pb, 0, none⟩ = some (.pointer (some ⟨p.rb, 0, none⟩)) := by rw [cell_of_row w p.pb 0 _ _ _ h.at']; rfl
theorem PairOk.cell1 {w : World} {p : PS} (h : PairOk w p) : w.cell? ⟨p.pb, 1, none⟩ = some (.int .i64 p.site) := by rw [cell_of_row w p.pb 1 _ _ _ h.at']; rfl
theorem PairOk.cell2 {w : World} {p : PS} (h : PairOk w p) : w.cell? ⟨p.pb, 2, none⟩ = some p.u := by rw [cell_of_row w p.pb 2 _ _ _ h.at']; rfl
theorem PairOk.free {w : World} {p : PS} (h : PairOk w p) (j : Nat) : w.frozen? ⟨p.pb, j, none⟩ = false := by simp [World.frozen?, show w.heap[p.pb]? = _ from h.at']
def Apart (p q : PS) : Prop := ∀ k, PFoot p k → ¬ PFoot q k
/-- The script's World, and all that hangs on it. -/
def WorldAt (base wp : Nat) (ps : List PS) (rv : Value) (w : World) : Prop :=
  w.heap[wp]? = some (.cells #[rv] 57 (0, 0)) ∧ w.ownsRow 0 97 1 rv ps.length (ps.map ptrV) ∧ (∀ p ∈ ps, PairOk w p) ∧
  (∀ i j (hi : i < ps.length) (hj : j < ps.length), i ≠ j → Apart ps[i] ps[j]) ∧ base ≤ wp ∧ (∀ k, rv.ownBlock = some k → base ≤ k) ∧ ∀ p ∈ ps, ∀ k, PFoot p k → base ≤ k
theorem world_kept {base wp : Nat} {ps : List PS} {rv : Value} {w w' : World} {S : Nat → Prop} (h : WorldAt base wp ps rv w) (hk : Keeps S w w') (h1 : ¬ S wp) (h2 : ∀ k, rv.ownBlock = some k → ¬ S k) (h3 : ∀ p ∈ ps, ∀ k, PFoot p k → ¬ S k) : WorldAt base wp ps rv w' := by
  obtain ⟨a1, a2, a3, a4⟩ := h
  exact ⟨by rw [hk.block wp (lt_of_block a1) h1]; exact a1, own_kept a2 hk h2, fun p hp => (a3 p hp).kept hk (h3 p hp), a4⟩
theorem world_below {base wp : Nat} {ps : List PS} {rv : Value} {w w' : World} (h : WorldAt base wp ps rv w) (hb : Below w.heap.size w w') : WorldAt base wp ps rv w' :=
  world_kept h (Keeps.of_below (S := fun _ => False) hb (fun k h1 h2 => by omega)) (fun e => e) (fun _ _ e => e) (fun _ _ _ _ e => e)
theorem world_lt {base wp : Nat} {ps : List PS} {rv : Value} {w : World} (h : WorldAt base wp ps rv w) : wp < w.heap.size := lt_of_block h.1
theorem world_cell {base wp : Nat} {ps : List PS} {rv : Value} {w : World} (h : WorldAt base wp ps rv w) : w.cell? ⟨wp, 0, none⟩ = some rv := by rw [cell_of_row w wp 0 _ _ _ h.1]; rfl
theorem world_free {base wp : Nat} {ps : List PS} {rv : Value} {w : World} (h : WorldAt base wp ps rv w) (j : Nat) : w.frozen? ⟨wp, j, none⟩ = false := by simp [World.frozen?, h.1]
theorem wp_out {base wp : Nat} {ps : List PS} {rv : Value} {w : World} (h : WorldAt base wp ps rv w) {p : PS} (hp : p ∈ ps) : ¬ PFoot p wp := by
  intro hf
  have ht : tyAt w wp 57 := ⟨_, _, h.1⟩
  rcases (h.2.2.1 p hp).foot hf with g | g | g | g <;> exact absurd (tyAt_inj ht g) (by decide)
theorem rv_out {base wp : Nat} {ps : List PS} {rv : Value} {w : World} (h : WorldAt base wp ps rv w) {p : PS} (hp : p ∈ ps) : ∀ k, rv.ownBlock = some k → ¬ PFoot p k := by
  intro k hk hf
  have ht := tyAt_own h.2.1 k hk
  rcases (h.2.2.1 p hp).foot hf with g | g | g | g <;> exact absurd (tyAt_inj ht g) (by decide)
theorem rv_wp {base wp : Nat} {ps : List PS} {rv : Value} {w : World} (h : WorldAt base wp ps rv w) : rv.ownBlock ≠ some wp := by
  intro hk
  have ht := tyAt_own h.2.1 wp hk
  exact absurd (tyAt_inj ht ⟨_, _, h.1⟩) (by decide)
/-- All that a step may change. -/
def WFoot (wp : Nat) (ps : List PS) (rv : Value) : Nat → Prop := fun k => k = wp ∨ rv.ownBlock = some k ∨ ∃ p ∈ ps, PFoot p k
theorem wfoot_lt {base wp : Nat} {ps : List PS} {rv : Value} {w : World} (h : WorldAt base wp ps rv w) {k : Nat} (hk : WFoot wp ps rv k) : k < w.heap.size := by
  rcases hk with rfl | hk | ⟨p, hp, hk⟩
  · exact world_lt h
  · exact tyAt_lt (tyAt_own h.2.1 k hk)
  · exact (h.2.2.1 p hp).lt hk
theorem wfoot_base {base wp : Nat} {ps : List PS} {rv : Value} {w : World} (h : WorldAt base wp ps rv w) {k : Nat} (hk : WFoot wp ps rv k) : base ≤ k := by
  obtain ⟨_, _, _, _, a5, a6, a7⟩ := h
  rcases hk with rfl | hk | ⟨p, hp, hk⟩
  · exact a5
  · exact a6 k hk
  · exact a7 p hp k hk
theorem wfoot_below {base wp : Nat} {ps : List PS} {rv : Value} {w w' : World} (h : WorldAt base wp ps rv w) (hb : base ≤ w.heap.size) (hk : Keeps (WFoot wp ps rv) w w') : Below base w w' :=
  hk.below hb (fun k h1 h2 => by have := wfoot_base h h2; omega)
/-- One pair goes on. -/
theorem world_set {base wp : Nat} {ps : List PS} {rv : Value} {w w' : World} (h : WorldAt base wp ps rv w) {i : Nat} (hi : i < ps.length) {p' : PS} (hpb : p'.pb = ps[i].pb) (hok : PairOk w' p') (hk : Keeps (PFoot ps[i]) w w') (hf : ∀ k, PFoot p' k → PFoot ps[i] k ∨ w.heap.size ≤ k) (hb : base ≤ w.heap.size) : WorldAt base wp (ps.set i p') rv w' := by
  have hm := List.getElem_mem hi
  have o1 := wp_out h hm
  have o2 := rv_out h hm
  obtain ⟨a1, a2, a3, a4, a5, a6, a7⟩ := h
  have hmem : ∀ q ∈ ps.set i p', q = p' ∨ ∃ j, ∃ hj : j < ps.length, j ≠ i ∧ q = ps[j] := by
    intro q hq
    obtain ⟨j, hj, rfl⟩ := List.mem_iff_getElem.1 hq
    rw [List.length_set] at hj
    by_cases e : i = j
    · subst e; left; simp
    · right; exact ⟨j, hj, fun h => e h.symm, by rw [List.getElem_set_ne e]⟩
  have hfar : ∀ j (hj : j < ps.length), j ≠ i → Apart p' ps[j] := by
    intro j hj hne k hk hq
    rcases hf k hk with h1 | h1
    · exact a4 i j hi hj (fun e => hne e.symm) k h1 hq
    · have := (a3 _ (List.getElem_mem hj)).lt hq; omega
  refine ⟨by rw [hk.block wp (lt_of_block a1) o1]; exact a1, ?_, ?_, ?_, a5, a6, ?_⟩
  · have e : (ps.set i p').map ptrV = ps.map ptrV := by
      rw [List.map_set, show ptrV p' = ptrV ps[i] by unfold ptrV; rw [hpb]]
      rw [← List.getElem_map ptrV (h := by simpa using hi), List.set_getElem_self]
    rw [e, List.length_set]; exact own_kept a2 hk o2
  · intro q hq
    rcases hmem q hq with rfl | ⟨j, hj, hne, rfl⟩
    · exact hok
    · exact (a3 _ (List.getElem_mem hj)).kept hk (fun k h1 h2 => a4 i j hi hj (fun e => hne e.symm) k h2 h1)
  · intro a b ha hb' hne
    rw [List.length_set] at ha hb'
    by_cases e1 : i = a
    · subst e1
      rw [List.getElem_set_self, List.getElem_set_ne hne]
      exact hfar b hb' (fun e => hne e.symm)
    · rw [List.getElem_set_ne e1]
      by_cases e2 : i = b
      · subst e2; rw [List.getElem_set_self]
        exact fun k h1 h2 => hfar a ha (fun e => e1 e.symm) k h2 h1
      · rw [List.getElem_set_ne e2]; exact a4 a b ha hb' hne
  · intro q hq k hk
    rcases hmem q hq with rfl | ⟨j, hj, hne, rfl⟩
    · rcases hf k hk with h1 | h1
      · exact a7 _ hm k h1
      · omega
    · exact a7 _ (List.getElem_mem hj) k hk
/-- One pair more. -/
theorem world_push {base wp : Nat} {ps : List PS} {rv rv' : Value} {w w' : World} (h : WorldAt base wp ps rv w) {p : PS} (hw : w'.heap[wp]? = some (.cells #[rv'] 57 (0, 0))) (hr : w'.ownsRow 0 97 1 rv' (ps.length + 1) (ps.map ptrV ++ [ptrV p])) (hok : PairOk w' p) (hk : Keeps (fun k => k = wp ∨ rv.ownBlock = some k) w w') (hf : ∀ k, PFoot p k → w.heap.size ≤ k) (hrv : ∀ k, rv'.ownBlock = some k → rv.ownBlock = some k ∨ w.heap.size ≤ k) (hb : base ≤ w.heap.size) : WorldAt base wp (ps ++ [p]) rv' w' := by
  have o1 : ∀ q ∈ ps, ¬ PFoot q wp := fun q hq => wp_out h hq
  have o2 : ∀ q ∈ ps, ∀ k, rv.ownBlock = some k → ¬ PFoot q k := fun q hq => rv_out h hq
  obtain ⟨a1, a2, a3, a4, a5, a6, a7⟩ := h
  refine ⟨hw, by rw [List.map_append, List.length_append]; exact hr, ?_, ?_, a5, ?_, ?_⟩
  · intro q hq
    rcases List.mem_append.1 hq with hq | hq
    · refine (a3 q hq).kept hk (fun k h1 h2 => ?_)
      rcases h2 with rfl | h2
      · exact o1 q hq h1
      · exact o2 q hq k h2 h1
    · rw [List.mem_singleton] at hq; subst hq; exact hok
  · intro i j hi hj hne
    rw [List.length_append, List.length_singleton] at hi hj
    rcases Nat.lt_or_ge i ps.length with h1 | h1
    · rw [List.getElem_append_left h1]
      rcases Nat.lt_or_ge j ps.length with h2 | h2
      · rw [List.getElem_append_left h2]; exact a4 i j h1 h2 hne
      · rw [List.getElem_append_right h2]
        intro k hk1 hk2
        have e : [p][j - ps.length]'(by simp; omega) = p := by simp
        rw [e] at hk2
        have := (a3 _ (List.getElem_mem h1)).lt hk1
        have := hf k hk2
        omega
    · rw [List.getElem_append_right h1]
      rcases Nat.lt_or_ge j ps.length with h2 | h2
      · rw [List.getElem_append_left h2]
        intro k hk1 hk2
        have e : [p][i - ps.length]'(by simp; omega) = p := by simp
        rw [e] at hk1
        have := (a3 _ (List.getElem_mem h2)).lt hk2
        have := hf k hk1
        omega
      · omega
  · intro k hk
    rcases hrv k hk with h1 | h1
    · exact a6 k h1
    · omega
  · intro q hq k hk
    rcases List.mem_append.1 hq with hq | hq
    · exact a7 q hq k hk
    · rw [List.mem_singleton] at hq; subst hq
      have := hf k hk; omega
end Go.Proofs.YtdcjimlhaklhfabGreatDoor

namespace Go.Proofs.YtdcjimlhaklhfabGreatDoor
open Go.RowKit
theorem Tryz.infoPtr : (Tryz.prog.info? 97).map (fun i => (i.zero, i.size, i.bytes)) = some (some (.pointer none), 1, 8) := by kernel_rfl
set_option maxHeartbeats 1000000 in
theorem made_bad (base wp : Nat) (ps : List PS) (rv : Value) (site : Int) (w : World) (h : WorldAt base wp ps rv w) (hs : site < 1 ∨ 9 < site) :
    Calls Tryz.prog 43 #[.pointer (some ⟨wp, 0, none⟩), .int .i64 site] w fun e w' => e = .returned (.bool true) ∧ WorldAt base wp ps rv w' ∧ Below w.heap.size w w' := by
  have HN := hide (new_bad site w hs)
  have HW := hide (fun w' => @world_below base wp ps rv w w' h)
  clear h
  rcases hs with hs | hs
  · have hd : decide (site < 1) = true := by simpa using hs
    go_enter Tryz.func43, Tryz.ntmps43
    go_wp2_with fail
    refine (unhide HN).mono ?_
    rintro e w1 ⟨rfl, hb1⟩
    have HB := hide hb1; clear hb1
    go_wp2_with go_in
    go_ret
    exact ⟨rfl, unhide HW _ (unhide HB), unhide HB⟩
  · have hd : decide (site < 1) = false := by simp; omega
    have hd2 : decide (9 < site) = true := by simpa using hs
    go_enter Tryz.func43, Tryz.ntmps43
    go_wp2_with fail
    refine (unhide HN).mono ?_
    rintro e w1 ⟨rfl, hb1⟩
    have HB := hide hb1; clear hb1
    go_wp2_with go_in
    go_ret
    exact ⟨rfl, unhide HW _ (unhide HB), unhide HB⟩
set_option maxHeartbeats 2000000 in
set_option maxRecDepth 100000 in
theorem made_ok (base wp : Nat) (ps : List PS) (rv : Value) (site : Int) (w : World) (h : WorldAt base wp ps rv w) (h1 : 1 ≤ site) (h2 : site ≤ 9) (hl : ps.length ≤ 10000000000000) (hbase : base ≤ w.heap.size) :
    Calls Tryz.prog 43 #[.pointer (some ⟨wp, 0, none⟩), .int .i64 site] w fun e w' => e = .returned (.bool true) ∧ (∃ p rv', WorldAt base wp (ps ++ [p]) rv' w') ∧ Keeps (WFoot wp ps rv) w w' := by
  obtain ⟨i0, hi, hz0, hz1, hz2⟩ := info_parts Tryz.infoPtr
  have HN := hide (new_ok site w h1 h2)
  have hwl := world_lt h
  have HH := hide h
  have HRW := hide (rv_wp h)
  clear h
  have hd : decide (site < 1) = false := by simp; omega
  have hd2 : decide (9 < site) = false := by simp; omega
  go_enter Tryz.func43, Tryz.ntmps43
  go_wp2_with fail
  refine (unhide HN).mono ?_
  rintro e w1 ⟨rfl, hR1, hb1⟩
  have hW1 := world_below (unhide HH) hb1
  have c0 := world_cell hW1
  have hs1 : w.heap.size < w1.heap.size := hR1.lt
  have hwl1 : wp < w1.heap.size := by omega
  have hwn : ¬ wp = w1.heap.size := by omega
  have HOW := hide hW1.2.1
  have HW1 := hide hW1
  have HR1 := hide hR1
  have HB1 := hide hb1
  clear hW1 hR1 hb1
  have hb2 := ((Below.refl w1.heap.size w1).alloc (Nat.le_refl _) (.cells #[.pointer (some ⟨w.heap.size, 0, none⟩), .int .i64 site, .slice none 0 0] 101)).alloc (by simp) (.cells #[.pointer (some ⟨w1.heap.size, 0, none⟩)] 97)
  have HOW2 := hide (own_below (unhide HOW) hb2)
  have HB2 := hide hb2; clear hb2
  go_wp2_with (first
    | (at_builtin; (refine wpList_append_lies _ rfl _ _ 55 rfl 0 97 i0 (.pointer none) 1 8 Tryz.underlying55 hi hz0 hz1 hz2 rfl (by decide) rv ps.length (ps.map ptrV) rfl (unhide HOW2) ⟨w1.heap.size + 1, 0, none⟩ 1 1 [.pointer (some ⟨w1.heap.size, 0, none⟩)] rfl rfl (by have := @news_one (w1.alloc (.cells #[.pointer (some ⟨w.heap.size, 0, none⟩), .int .i64 site, .slice none 0 0] 101)) (.pointer (some ⟨w1.heap.size, 0, none⟩)) 97; simpa using this) (by simp [Value.oneCell']) (by decide) (by unfold maxLen; omega) (by omega) (by simp) (w1.heap.size + 2) (by simp) ?_))
    | go_in)
  intro g cap w4 hown4 hgrow hgg hgl
  have hK4 := Keeps.of_grown hgrow
  have hw2 := (world_below (unhide HW1) (unhide HB2)).1
  have hw4 : w4.heap[wp]? = some (.cells #[rv] 57 (0, 0)) := by rw [hK4.block wp (lt_of_block hw2) (unhide HRW)]; exact hw2
  have d0 : w4.cell? ⟨wp, 0, none⟩ = some rv := by rw [cell_of_row w4 wp 0 _ _ _ hw4]; rfl
  have df : ∀ j, w4.frozen? ⟨wp, j, none⟩ = false := fun j => by simp [World.frozen?, hw4]
  have HVL : Hid (∀ k, rv.ownBlock = some k → k < w.heap.size) := hide (fun k hk => tyAt_lt (tyAt_own (unhide HH).2.1 k hk))
  have hgw : g ≠ wp := by
    intro e; subst e
    exact absurd (tyAt_inj (tyAt_own hown4 g rfl) ⟨_, _, hw4⟩) (by decide)
  have HKK : Hid (Keeps (fun k => k = wp ∨ rv.ownBlock = some k) w (w4.setCell ⟨wp, 0, none⟩ (.slice (some ⟨g, 0, none⟩) (ps.length + 1) cap))) := by
    apply hide
    have k1 : Keeps (fun k => k = wp ∨ rv.ownBlock = some k) w w1 := Keeps.of_below (unhide HB1) (fun k h1 h2 => by omega)
    have k2 := k1.trans (Keeps.of_below (S := fun _ => False) (unhide HB2) (fun k h1 h2 => by omega)) (fun _ _ h => h.elim)
    exact (k2.trans hK4 (fun _ _ h => .inr h)).trans (Keeps.set w4 wp 0 _) (fun _ _ h => .inl h)
  have HF : Hid (∃ p rv', WorldAt base wp (ps ++ [p]) rv' (w4.setCell ⟨wp, 0, none⟩ (.slice (some ⟨g, 0, none⟩) (ps.length + 1) cap))) := by
    apply hide
    refine ⟨⟨w1.heap.size, w.heap.size, site, .slice none 0 0, .slice none 0 0, []⟩, .slice (some ⟨g, 0, none⟩) (ps.length + 1) cap, ?_⟩
    have hK5 := Keeps.set w4 wp 0 (.slice (some ⟨g, 0, none⟩) (ps.length + 1) cap)
    refine world_push (unhide HH) ?_ ?_ ?_ ?_ ?_ ?_ hbase
    · rw [heap_setCell_same w4 wp 0 _ _ _ hw4]; rfl
    · exact own_kept hown4 hK5 (fun k hk => by simp [Value.ownBlock] at hk; subst hk; exact hgw)
    · refine ⟨?_, ?_, World.ownsRow_nil _ _ _ _, ⟨h1, h2⟩⟩
      · unfold PairAt
        rw [hK5.block w1.heap.size (by have := hgrow.size; simp at this; omega) (by omega), hK4.block w1.heap.size (by simp; omega) (fun e => by have := unhide HVL w1.heap.size e; omega)]
        rw [Below.heap_alloc _ _ _ (by simp)]
        exact heap_alloc_new w1 _
      · refine Repl.kept (Repl.kept ((unhide HR1).below (unhide HB2)) hK4 (fun k hf e => ?_)) hK5 (fun k hf e => ?_)
        · have := unhide HVL k e
          rcases hf with hf | hf
          · have hf' : k = w.heap.size := hf
            omega
          · simp [Value.ownBlock] at hf
        · rcases hf with hf | hf
          · have hf' : k = w.heap.size := hf
            omega
          · simp [Value.ownBlock] at hf
    · exact unhide HKK
    · intro k hk
      rcases hk with hk | hk | hk | hk
      · simp at hk; omega
      · simp at hk; omega
      · simp [Value.ownBlock] at hk
      · simp [Value.ownBlock] at hk
    · intro k hk
      simp [Value.ownBlock] at hk
      subst hk
      rcases hgg with h | h
      · exact .inl h
      · exact .inr (by omega)
  clear hown4 hgrow hgg hK4 hw2 hw4
  go_wp2
  go_ret
  exact ⟨rfl, unhide HF, (unhide HKK).mono (fun k _ h => h.elim .inl (fun h => .inr (.inl h)))⟩
theorem made_any (base wp : Nat) (ps : List PS) (rv : Value) (site : Int) (w : World) (h : WorldAt base wp ps rv w) (hl : ps.length ≤ 10000000000000) (hbase : base ≤ w.heap.size) :
    Calls Tryz.prog 43 #[.pointer (some ⟨wp, 0, none⟩), .int .i64 site] w fun e w' => e = .returned (.bool true) ∧ (∃ ps' rv', ps'.length ≤ ps.length + 1 ∧ WorldAt base wp ps' rv' w') ∧ Keeps (WFoot wp ps rv) w w' := by
  by_cases h1 : 1 ≤ site ∧ site ≤ 9
  · refine (made_ok base wp ps rv site w h h1.1 h1.2 hl hbase).mono ?_
    rintro e w' ⟨he, ⟨p, rv', hW⟩, hb⟩
    exact ⟨he, ⟨_, _, by simp, hW⟩, hb⟩
  · refine (made_bad base wp ps rv site w h (by omega)).mono ?_
    rintro e w' ⟨he, hW, hb⟩
    exact ⟨he, ⟨_, _, by omega, hW⟩, Keeps.of_below hb (fun k h1 h2 => by omega)⟩
/-- What a step leaves: it is as the document says; the world goes on. -/
def StepPost (base wp : Nat) (ps : List PS) (rv : Value) (w : World) (e : Ending) (w' : World) : Prop := e = .returned (.bool true) ∧ (∃ ps' rv', ps'.length ≤ ps.length + 1 ∧ WorldAt base wp ps' rv' w') ∧ Keeps (WFoot wp ps rv) w w'
theorem keeps_alloc {S : Nat → Prop} {w w' : World} {o : Obj} (h : Keeps S (w.alloc o) w') : Keeps S w w' :=
  (Keeps.of_below (S := S) ((Below.refl w.heap.size w).alloc (Nat.le_refl _) o) (fun k h1 h2 => by omega)).trans h (fun _ _ h => h)
set_option maxHeartbeats 1000000 in
theorem step_new (base wp : Nat) (ps : List PS) (rv : Value) (x y : Int) (s t : ByteArray) (w : World) (h : WorldAt base wp ps rv w) (hl : ps.length ≤ 10000000000000) (hbase : base ≤ w.heap.size) :
    Calls Tryz.prog 24 #[.pointer (some ⟨wp, 0, none⟩), .agg #[.int .i64 4, .int .i64 x, .int .i64 y, .string s, .string t]] w (StepPost base wp ps rv w) := by
  have hb0 := (Below.refl w.heap.size w).alloc (Nat.le_refl _) (.cells #[.int .i64 4, .int .i64 x, .int .i64 y, .string s, .string t] 60)
  have HM := hide (made_any base wp ps rv x _ (world_below h hb0) hl (by simp; omega))
  clear h hb0
  go_enter Tryz.func24, Tryz.ntmps24
  go_wp2_with fail
  refine (unhide HM).mono ?_
  rintro e w1 ⟨rfl, hW, hb1⟩
  have HW := hide hW; clear hW
  have HB1 := hide (keeps_alloc hb1)
  clear hb1
  go_wp2
  go_ret
  exact ⟨rfl, unhide HW, unhide HB1⟩
theorem world_new (w : World) (ty : TypeId) (ht : ty = 57) : WorldAt w.heap.size w.heap.size [] (.slice none 0 0) (w.alloc (.cells #[.slice none 0 0] ty)) := by
  subst ht
  exact ⟨heap_alloc_new w _, World.ownsRow_nil _ _ _ _, by simp, fun i j hi => by simp at hi, Nat.le_refl _, fun k hk => by simp [Value.ownBlock] at hk, by simp⟩
/-- The step's own copy stays behind it. -/
theorem op_stays {base wp : Nat} {ps : List PS} {rv : Value} {w w' : World} {c0 c1 c2 c3 c4 : Value} {ty : TypeId} (h : WorldAt base wp ps rv w) (hk : Keeps (WFoot wp ps rv) (w.alloc (.cells #[c0, c1, c2, c3, c4] ty)) w') : w'.cell? ⟨w.heap.size, 0, none⟩ = some c0 := by
  have hb : w'.heap[w.heap.size]? = some (.cells #[c0, c1, c2, c3, c4] ty) := by
    rw [hk.block w.heap.size (by simp) (fun e => by have := wfoot_lt h e; omega)]; exact heap_alloc_new w _
  rw [cell_of_row w' w.heap.size 0 _ _ _ hb]; rfl
end Go.Proofs.YtdcjimlhaklhfabGreatDoor
