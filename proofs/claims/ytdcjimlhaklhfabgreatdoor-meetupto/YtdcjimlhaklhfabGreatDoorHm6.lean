import Derived.Test.YtdcjimlhaklhfabGreatDoorHm5
import Derived.Deep.RegionLaw
import Derived.Deep.AppendLies
import Derived.Laws.IdiomStrings
import Derived.Deep.Cut
import Derived.Shelf.Strconv.Itoa0
import Derived.Shelf.Strconv.Itoa1
import Derived.Shelf.LaysM
import Derived.Shelf.Strconv.Itoa2
import Derived.Shelf.Strconv.Itoa3
import Derived.Lib.AppendIntMem
import Derived.Test.YtdcjimlhaklhfabGreatDoorHm2
import Derived.Test.YtdcjimlhaklhfabGreatDoorHm3
namespace Go.Proofs.YtdcjimlhaklhfabGreatDoor
open Go.RowKit
/-- Nothing but the blocks of S and new ones is changed. -/
structure Keeps (S : Nat → Prop) (w w' : World) : Prop where
  os : w'.os = w.os
  tape : w'.tape = w.tape
  output : w'.output = w.output
  size : w.heap.size ≤ w'.heap.size
  block : ∀ k, k < w.heap.size → ¬ S k → w'.heap[k]? = w.heap[k]?
theorem Keeps.refl (S : Nat → Prop) (w : World) : Keeps S w w := ⟨rfl, rfl, rfl, Nat.le_refl _, fun _ _ _ => rfl⟩
theorem Keeps.trans {S T : Nat → Prop} {a b c : World} (h : Keeps S a b) (g : Keeps T b c) (hT : ∀ k, k < a.heap.size → T k → S k) : Keeps S a c :=
  ⟨g.os.trans h.os, g.tape.trans h.tape, g.output.trans h.output, Nat.le_trans h.size g.size, fun k hk hS => (g.block k (by have := h.size; omega) (fun ht => hS (hT k hk ht))).trans (h.block k hk hS)⟩
theorem Keeps.of_below {S : Nat → Prop} {B : Nat} {w w' : World} (h : Below B w w') (hS : ∀ k, k < w.heap.size → B ≤ k → S k) : Keeps S w w' :=
  ⟨h.os, h.tape, h.output, h.size, fun k hk hn => h.block k (by rcases Nat.lt_or_ge k B with g | g; exact g; exact absurd (hS k hk g) hn)⟩
theorem Keeps.below {S : Nat → Prop} {B : Nat} {w w' : World} (h : Keeps S w w') (hB : B ≤ w.heap.size) (hS : ∀ k, k < B → ¬ S k) : Below B w w' :=
  ⟨h.os, h.tape, h.output, h.size, fun k hk => h.block k (by omega) (hS k hk)⟩
theorem Keeps.mono {S T : Nat → Prop} {w w' : World} (h : Keeps S w w') (hT : ∀ k, k < w.heap.size → S k → T k) : Keeps T w w' :=
  ⟨h.os, h.tape, h.output, h.size, fun k hk hn => h.block k hk (fun hs => hn (hT k hk hs))⟩
theorem Keeps.of_grown {w w' : World} {row : Option Nat} (h : w.grownBy w' row) : Keeps (fun k => row = some k) w w' :=
  ⟨h.os, h.tape, h.output, h.size, fun k hk hn => h.block k hk (fun e => hn e.symm)⟩
theorem Keeps.set (w : World) (b o : Nat) (v : Value) : Keeps (fun k => k = b) w (w.setCell ⟨b, o, none⟩ v) :=
  ⟨rfl, rfl, rfl, by simp, fun k _ hn => heap_setCell_other _ _ _ _ hn⟩
/-- A replica in memory. -/
def RepAt (w : World) (b : Nat) (site : Int) (v : Value) : Prop := w.heap[b]? = some (.cells #[.int .i64 site, v] 69 (0, 0))
theorem RepAt.lt {w : World} {b : Nat} {site : Int} {v : Value} (h : RepAt w b site v) : b < w.heap.size := lt_of_block h
theorem RepAt.cell0 {w : World} {b : Nat} {site : Int} {v : Value} (h : RepAt w b site v) : w.cell? ⟨b, 0, none⟩ = some (.int .i64 site) := by
  rw [cell_of_row w b 0 _ _ _ h]; rfl
theorem RepAt.cell1 {w : World} {b : Nat} {site : Int} {v : Value} (h : RepAt w b site v) : w.cell? ⟨b, 1, none⟩ = some v := by
  rw [cell_of_row w b 1 _ _ _ h]; rfl
theorem RepAt.free {w : World} {b : Nat} {site : Int} {v : Value} (h : RepAt w b site v) (j : Nat) : w.frozen? ⟨b, j, none⟩ = false := by
  simp [World.frozen?, show w.heap[b]? = _ from h]
theorem RepAt.kept {w w' : World} {b : Nat} {site : Int} {v : Value} {S : Nat → Prop} (h : RepAt w b site v) (hk : Keeps S w w') (hS : ¬ S b) : RepAt w' b site v := by
  unfold RepAt; rw [hk.block b h.lt hS]; exact h
theorem RepAt.below {w w' : World} {b B : Nat} {site : Int} {v : Value} (h : RepAt w b site v) (hb : Below B w w') (hB : b < B) : RepAt w' b site v := by
  unfold RepAt; rw [hb.block b hB]; exact h
theorem RepAt.set {w : World} {b : Nat} {site : Int} {v : Value} (h : RepAt w b site v) (v' : Value) : RepAt (w.setCell ⟨b, 1, none⟩ v') b site v' := by
  unfold RepAt; rw [heap_setCell_same w b 1 _ _ v' h]; rfl
theorem rep_apart {w : World} {b : Nat} {site : Int} {u v : Value} {base n : Nat} {xs : List Value} (h : RepAt w b site u) (hown : w.ownsRow base 113 5 v n xs) : v.ownBlock ≠ some b := by
  rcases hown.2 with ⟨rfl, _⟩ | ⟨g, cap, cur, rfl, _, hg, _⟩
  · simp [Value.ownBlock]
  · intro e
    simp [Value.ownBlock] at e
    subst e
    unfold RepAt at h
    rw [hg] at h
    simp at h
theorem own_kept {w w' : World} {base : Nat} {e : TypeId} {size : Nat} {v : Value} {n : Nat} {xs : List Value} {S : Nat → Prop} (h : w.ownsRow base e size v n xs) (hk : Keeps S w w') (hS : ∀ k, v.ownBlock = some k → ¬ S k) : w'.ownsRow base e size v n xs := by
  refine ⟨h.1, ?_⟩
  rcases h.2 with hn | ⟨g, cap, cur, rfl, hb, hgg, rest⟩
  · exact .inl hn
  · exact .inr ⟨g, cap, cur, rfl, hb, by rw [hk.block g (lt_of_block hgg) (hS g rfl)]; exact hgg, rest⟩
/-- A row's element is set. -/
theorem own_cell {w : World} {base : Nat} {e : TypeId} {size : Nat} {g n cap : Nat} {xs : List Value} (h : w.ownsRow base e size (.slice (some ⟨g, 0, none⟩) n cap) n xs) (j : Nat) (u : Value) (_hj : j < n * size) : (w.setCell ⟨g, j, none⟩ u).ownsRow base e size (.slice (some ⟨g, 0, none⟩) n cap) n (xs.set j u) := by
  obtain ⟨h1, h2⟩ := h
  refine ⟨by simpa using h1, ?_⟩
  rcases h2 with ⟨h2, _⟩ | ⟨g', cap', cur, hv, hb, hh, h3, h4, h5, h6⟩
  · cases h2
  · cases hv
    refine .inr ⟨g, cap, cur.setIfInBounds j u, rfl, hb, heap_setCell_same w g j cur _ u hh, h3, h4, by simpa using h5, ?_⟩
    rw [← h6, Array.toList_setIfInBounds, List.take_set]
theorem own_free {w : World} {base : Nat} {e : TypeId} {size : Nat} {g n cap : Nat} {xs : List Value} (h : w.ownsRow base e size (.slice (some ⟨g, 0, none⟩) n cap) n xs) (j : Nat) : w.frozen? ⟨g, j, none⟩ = false := by
  rcases h.2 with ⟨h2, _⟩ | ⟨g', cap', cur, hv, hb, hh, _⟩
  · cases h2
  · cases hv; simp [World.frozen?, hh]
theorem own_at {w : World} {base : Nat} {e : TypeId} {size : Nat} {g n cap : Nat} {xs : List Value} (h : w.ownsRow base e size (.slice (some ⟨g, 0, none⟩) n cap) n xs) {j : Nat} {u : Value} (hu : xs[j]? = some u) : w.cell? ⟨g, j, none⟩ = some u := by
  have := h.cells (g := g) rfl j u hu
  rwa [show (⟨g, 0, none⟩ : Addr).add j = ⟨g, j, none⟩ by unfold Addr.add; split <;> simp_all] at this
theorem loCells_set (M : List Lo) (i : Nat) (y : Lo) (h : i < M.length) : loCells (M.set i y) = (((((loCells M).set (i * 5) (.int .i64 y.count)).set (i * 5 + 1) (.int .i64 y.site)).set (i * 5 + 2) (.int .i64 y.node.id)).set (i * 5 + 3) (.int .i64 y.node.parent)).set (i * 5 + 4) (.string (bs y.node.name)) := by
  induction M generalizing i with
  | nil => simp at h
  | cons m M ih =>
    have e : ∀ (m : Lo) (M : List Lo), loCells (m :: M) = .int .i64 m.count :: .int .i64 m.site :: .int .i64 m.node.id :: .int .i64 m.node.parent :: .string (bs m.node.name) :: loCells M := fun _ _ => rfl
    cases i with
    | zero => rw [List.set_cons_zero, e, e]; simp
    | succ i =>
      rw [List.set_cons_succ, e, e, ih i (by simpa using h), show (i + 1) * 5 = i * 5 + 1 + 1 + 1 + 1 + 1 by omega]
      simp only [List.set_cons_succ, show ∀ a, i * 5 + 1 + 1 + 1 + 1 + 1 + a = (i * 5 + a) + 1 + 1 + 1 + 1 + 1 from fun a => by omega]
theorem own_op {w : World} {base g n cap : Nat} {M : List Lo} (h : w.ownsRow base 113 5 (.slice (some ⟨g, 0, none⟩) n cap) n (loCells M)) {i : Nat} (hi : i < n) (hM : M.length = n) (y : Lo) :
    (((((w.setCell ⟨g, i * 5, none⟩ (.int .i64 y.count)).setCell ⟨g, i * 5 + 1, none⟩ (.int .i64 y.site)).setCell ⟨g, i * 5 + 2, none⟩ (.int .i64 y.node.id)).setCell ⟨g, i * 5 + 3, none⟩ (.int .i64 y.node.parent)).setCell ⟨g, i * 5 + 4, none⟩ (.string (bs y.node.name))).ownsRow base 113 5 (.slice (some ⟨g, 0, none⟩) n cap) n (loCells (M.set i y)) := by
  rw [loCells_set M i y (by omega)]
  exact own_cell (own_cell (own_cell (own_cell (own_cell h _ _ (by omega)) _ _ (by omega)) _ _ (by omega)) _ _ (by omega)) _ _ (by omega)
/-- The list while the op moves ahead. -/
def bub (x : Lo) (L : List Lo) (i : Nat) : List Lo := L.take i ++ x :: L.drop i
theorem bub_len (x : Lo) (L : List Lo) {i : Nat} (h : i ≤ L.length) : (bub x L i).length = L.length + 1 := by unfold bub; simp; omega
theorem bub_get (x : Lo) (L : List Lo) {k : Nat} (h : k < L.length) : (bub x L (k + 1))[k]? = some L[k] := by
  unfold bub
  rw [List.getElem?_append_left (by rw [List.length_take]; omega), List.getElem?_take, if_pos (by omega), List.getElem?_eq_getElem h]
theorem bub_step (x : Lo) (L : List Lo) {k : Nat} (h : k < L.length) : ((bub x L (k + 1)).set (k + 1) L[k]).set k x = bub x L k := by
  apply List.ext_getElem?
  intro j
  unfold bub
  rw [List.getElem?_set, List.getElem?_set]
  have hlen : (L.take (k + 1) ++ x :: L.drop (k + 1)).length = L.length + 1 := bub_len x L (by omega)
  rw [List.length_set, hlen]
  by_cases h1 : k = j
  · subst h1
    rw [if_pos rfl, if_pos (by omega), List.getElem?_append_right (by rw [List.length_take]; omega), List.length_take, show k - min k L.length = 0 by omega]; rfl
  · rw [if_neg h1]
    by_cases h2 : k + 1 = j
    · subst h2
      rw [if_pos rfl, if_pos (by omega), List.getElem?_append_right (by rw [List.length_take]; omega), List.length_take, show k + 1 - min k L.length = 1 by omega, List.getElem?_cons_succ, List.getElem?_drop]
      rw [show k + 0 = k by omega, List.getElem?_eq_getElem h]
    · rw [if_neg h2]
      by_cases h3 : j < k
      · rw [List.getElem?_append_left (by rw [List.length_take]; omega), List.getElem?_append_left (by rw [List.length_take]; omega), List.getElem?_take, List.getElem?_take, if_pos (by omega), if_pos h3]
      · rw [List.getElem?_append_right (by rw [List.length_take]; omega), List.getElem?_append_right (by rw [List.length_take]; omega), List.length_take, List.length_take]
        obtain ⟨d, rfl⟩ : ∃ d, j = k + 2 + d := ⟨j - (k + 2), by omega⟩
        rw [show k + 2 + d - min (k + 1) L.length = d + 1 by omega, show k + 2 + d - min k L.length = d + 2 by omega, List.getElem?_cons_succ, List.getElem?_cons_succ, List.getElem?_drop, List.getElem?_drop]
        congr 1; omega
end Go.Proofs.YtdcjimlhaklhfabGreatDoor

namespace Go.Proofs.YtdcjimlhaklhfabGreatDoor
open Go.RowKit
theorem conv_out (W : World) (s : ByteArray) : (convert 9 159 (.string s)).run Tryz.prog W = .ok (.slice (some ⟨W.heap.size, 0, none⟩) s.size (grownCap W s.size 0 5)) (W.drew.alloc (.cells (bytesRow s (grownCap W s.size 0 5)) 5 ((bytesRow s (grownCap W s.size 0 5)).size, (bytesRow s (grownCap W s.size 0 5)).size + 1))) :=
  run_bytes_of_string W 9 159 5 s Tryz.underlying9 Tryz.underlying159 Tryz.underlying5
theorem conv_back (w : World) (o : Obj) (s : ByteArray) (cap : Nat) (f : Nat × Nat) : (convert 159 9 (.slice (some ⟨w.heap.size + 1, 0, none⟩) s.size cap)).run Tryz.prog (((w.alloc o).alloc (.cells (bytesRow s cap) 5 f)).drew) = .ok (.string s) (((w.alloc o).alloc (.cells (bytesRow s cap) 5 f)).drew) := by
  have h := run_convert_bytes_back (P := Tryz.prog) (((w.alloc o).alloc (.cells (bytesRow s cap) 5 f)).drew) 159 9 5 ⟨w.heap.size + 1, 0, none⟩ cap s.data.toList Tryz.underlying159 Tryz.underlying5 Tryz.underlying9 (fun j hj => by
    have hb : (((w.alloc o).alloc (.cells (bytesRow s cap) 5 f)).drew).heap[w.heap.size + 1]? = some (.cells (bytesRow s cap) 5 f) := by
      have := heap_alloc_new (w.alloc o) (.cells (bytesRow s cap) 5 f)
      simpa [heap_drew] using this
    refine World.news_of_block hb j _ ?_
    simp only [Array.length_toList] at hj
    simp only [bytesRow, Array.toList_append, Array.toList_map]
    rw [List.getElem?_append_left (by simpa using hj)]
    simp only [List.getElem?_map, Option.map_eq_some_iff]
    exact ⟨s.data[j], by simp, by simp⟩)
  have e : s.data.toList.length = s.size := by rw [Array.length_toList]; rfl
  rw [e] at h
  rw [h]
theorem OpAt.kept {w w' : World} {g : Nat} {x : Lo} {S : Nat → Prop} (h : OpAt w g x) (hk : Keeps S w w') (hS : ¬ S g) : OpAt w' g x := by
  obtain ⟨h0, h1, h2, h3, h4, h5⟩ := h
  have hc : ∀ o, w'.cell? ⟨g, o, none⟩ = w.cell? ⟨g, o, none⟩ := fun o => World.cell?_of_block (a := ⟨g, o, none⟩) (hk.block g h0 hS)
  have := hk.size
  exact ⟨by omega, (hc _).trans h1, (hc _).trans h2, (hc _).trans h3, (hc _).trans h4, (hc _).trans h5⟩
theorem ck {wr W w1 : World} {p o : Nat} {v : Value} (hbel : Below wr.heap.size wr W) (hb : Below W.heap.size W w1) (hp : p < wr.heap.size) (h : W.cell? ⟨p, o, none⟩ = some v) : w1.cell? ⟨p, o, none⟩ = some v := by
  rw [hb.cell (p := ⟨p, o, none⟩) (by have := hbel.size; show p < _; omega)]; exact h
theorem Keeps.drewN {S : Nat → Prop} {w w' : World} (h : Keeps S w w') (n : Nat) : Keeps S w (w'.drewN n) := ⟨h.os, h.tape, h.output, h.size, h.block⟩
def InsPost (b : Nat) (site : Int) (v : Value) (n : Nat) (M : List Lo) (w w' : World) : Prop := ∃ v', RepAt w' b site v' ∧ w'.ownsRow 0 113 5 v' n (loCells M) ∧ Keeps (fun k => k = b ∨ v.ownBlock = some k) w w' ∧ (v'.ownBlock = v.ownBlock ∨ ∃ g, v'.ownBlock = some g ∧ w.heap.size ≤ g)
theorem insPost_of {b : Nat} {site : Int} {v : Value} {n : Nat} {M : List Lo} {w w' : World} {g cap : Nat} (h1 : RepAt w' b site (.slice (some ⟨g, 0, none⟩) n cap)) (h2 : w'.ownsRow 0 113 5 (.slice (some ⟨g, 0, none⟩) n cap) n (loCells M)) (h3 : Keeps (fun k => k = b ∨ v.ownBlock = some k) w w') (h4 : v.ownBlock = some g ∨ w.heap.size ≤ g) : InsPost b site v n M w w' :=
  ⟨_, h1, h2, h3, h4.elim (fun h => .inl h.symm) (fun h => .inr ⟨g, rfl, h⟩)⟩
theorem ins_kept {wr W : World} (hb : Below wr.heap.size wr W) {p b g k : Nat} {a0 a1 a2 a3 a4 s y0 y1 y2 y3 y4 : Value} (hp : p < wr.heap.size) (hb' : b < wr.heap.size) (hg : g < wr.heap.size)
    (h : wr.drew.cell? ⟨p, 0, none⟩ = some a0 ∧ wr.drew.cell? ⟨p, 1, none⟩ = some a1 ∧ wr.drew.cell? ⟨p, 2, none⟩ = some a2 ∧ wr.drew.cell? ⟨p, 3, none⟩ = some a3 ∧ wr.drew.cell? ⟨p, 4, none⟩ = some a4 ∧ wr.drew.cell? ⟨b, 1, none⟩ = some s ∧ wr.drew.cell? ⟨g, k * 5, none⟩ = some y0 ∧ wr.drew.cell? ⟨g, k * 5 + 1, none⟩ = some y1 ∧ wr.drew.cell? ⟨g, k * 5 + 2, none⟩ = some y2 ∧ wr.drew.cell? ⟨g, k * 5 + 3, none⟩ = some y3 ∧ wr.drew.cell? ⟨g, k * 5 + 4, none⟩ = some y4 ∧ Below wr.heap.size wr wr.drew) :
    W.cell? ⟨p, 0, none⟩ = some a0 ∧ W.cell? ⟨p, 1, none⟩ = some a1 ∧ W.cell? ⟨p, 2, none⟩ = some a2 ∧ W.cell? ⟨p, 3, none⟩ = some a3 ∧ W.cell? ⟨p, 4, none⟩ = some a4 ∧ W.cell? ⟨b, 1, none⟩ = some s ∧ W.cell? ⟨g, k * 5, none⟩ = some y0 ∧ W.cell? ⟨g, k * 5 + 1, none⟩ = some y1 ∧ W.cell? ⟨g, k * 5 + 2, none⟩ = some y2 ∧ W.cell? ⟨g, k * 5 + 3, none⟩ = some y3 ∧ W.cell? ⟨g, k * 5 + 4, none⟩ = some y4 ∧ Below wr.heap.size wr W := by
  obtain ⟨h1, h2, h3, h4, h5, h6, h7, h8, h9, h10, h11, _⟩ := h
  exact ⟨(hb.cell (p := ⟨p, _, none⟩) hp).trans h1, (hb.cell (p := ⟨p, _, none⟩) hp).trans h2, (hb.cell (p := ⟨p, _, none⟩) hp).trans h3, (hb.cell (p := ⟨p, _, none⟩) hp).trans h4, (hb.cell (p := ⟨p, _, none⟩) hp).trans h5, (hb.cell (p := ⟨b, _, none⟩) hb').trans h6, (hb.cell (p := ⟨g, _, none⟩) hg).trans h7, (hb.cell (p := ⟨g, _, none⟩) hg).trans h8, (hb.cell (p := ⟨g, _, none⟩) hg).trans h9, (hb.cell (p := ⟨g, _, none⟩) hg).trans h10, (hb.cell (p := ⟨g, _, none⟩) hg).trans h11, hb⟩
theorem Keeps.drew {S : Nat → Prop} {w w' : World} (h : Keeps S w w') : Keeps S w w'.drew := ⟨h.os, h.tape, h.output, h.size, h.block⟩
theorem op_keeps (w : World) (g o0 o1 o2 o3 o4 : Nat) (v0 v1 v2 v3 v4 : Value) : Keeps (fun k => k = g) w (((((w.setCell ⟨g, o0, none⟩ v0).setCell ⟨g, o1, none⟩ v1).setCell ⟨g, o2, none⟩ v2).setCell ⟨g, o3, none⟩ v3).setCell ⟨g, o4, none⟩ v4) :=
  ((((Keeps.set w g o0 v0).trans (Keeps.set _ g o1 v1) (fun _ _ h => h)).trans (Keeps.set _ g o2 v2) (fun _ _ h => h)).trans (Keeps.set _ g o3 v3) (fun _ _ h => h)).trans (Keeps.set _ g o4 v4) (fun _ _ h => h)
theorem own_drew {w : World} {base : Nat} {e : TypeId} {size : Nat} {v : Value} {n : Nat} {xs : List Value} (h : w.ownsRow base e size v n xs) : w.drew.ownsRow base e size v n xs := h
theorem ahead_same (x y : Lo) : (if x.count ≠ y.count then decide (x.count < y.count) else decide (x.site < y.site)) = ahead x y := rfl
set_option maxHeartbeats 4000000 in
set_option maxRecDepth 100000 in
theorem insert_any (L : List Lo) (x : Lo) (b : Nat) (site : Int) (v : Value) (w : World) (hR : RepAt w b site v) (hown : w.ownsRow 0 113 5 v L.length (loCells L)) (hs : Sorted L) (hl : L.length ≤ 4000) :
    Calls Tryz.prog 59 #[.pointer (some ⟨b, 1, none⟩), .agg #[.int .i64 x.count, .int .i64 x.site, .int .i64 x.node.id, .int .i64 x.node.parent, .string (bs x.node.name)]] w fun e w' => e = .returned (.tuple #[]) ∧ InsPost b site v (L.length + 1) (ins x L) w w' := by
  obtain ⟨i0, hi, hz0, hz1, hz2⟩ := info_parts Tryz.infoOp
  have c1 := conv_out
  have c2 := conv_back
  have hbl := hR.lt
  have HR := hide hR; clear hR
  have HOWN := hide hown; clear hown
  have HSO := hide hs; clear hs
  go_enter Tryz.func59, Tryz.ntmps59
  go_wp2
  have HQ : Hid (OpAt (World.drew (World.alloc (World.alloc w (.cells #[.int .i64 x.count, .int .i64 x.site, .int .i64 x.node.id, .int .i64 x.node.parent, .string (bs x.node.name)] 113)) (.cells (bytesRow (bs x.node.name) (grownCap (w.alloc (.cells #[.int .i64 x.count, .int .i64 x.site, .int .i64 x.node.id, .int .i64 x.node.parent, .string (bs x.node.name)] 113)) (bs x.node.name).size 0 5)) 5 ((bytesRow (bs x.node.name) (grownCap (w.alloc (.cells #[.int .i64 x.count, .int .i64 x.site, .int .i64 x.node.id, .int .i64 x.node.parent, .string (bs x.node.name)] 113)) (bs x.node.name).size 0 5)).size, (bytesRow (bs x.node.name) (grownCap (w.alloc (.cells #[.int .i64 x.count, .int .i64 x.site, .int .i64 x.node.id, .int .i64 x.node.parent, .string (bs x.node.name)] 113)) (bs x.node.name).size 0 5)).size + 1)))) w.heap.size x ∧ Below w.heap.size w (World.drew (World.alloc (World.alloc w (.cells #[.int .i64 x.count, .int .i64 x.site, .int .i64 x.node.id, .int .i64 x.node.parent, .string (bs x.node.name)] 113)) (.cells (bytesRow (bs x.node.name) (grownCap (w.alloc (.cells #[.int .i64 x.count, .int .i64 x.site, .int .i64 x.node.id, .int .i64 x.node.parent, .string (bs x.node.name)] 113)) (bs x.node.name).size 0 5)) 5 ((bytesRow (bs x.node.name) (grownCap (w.alloc (.cells #[.int .i64 x.count, .int .i64 x.site, .int .i64 x.node.id, .int .i64 x.node.parent, .string (bs x.node.name)] 113)) (bs x.node.name).size 0 5)).size, (bytesRow (bs x.node.name) (grownCap (w.alloc (.cells #[.int .i64 x.count, .int .i64 x.site, .int .i64 x.node.id, .int .i64 x.node.parent, .string (bs x.node.name)] 113)) (bs x.node.name).size 0 5)).size + 1)))) ∧ (World.drew (World.alloc (World.alloc w (.cells #[.int .i64 x.count, .int .i64 x.site, .int .i64 x.node.id, .int .i64 x.node.parent, .string (bs x.node.name)] 113)) (.cells (bytesRow (bs x.node.name) (grownCap (w.alloc (.cells #[.int .i64 x.count, .int .i64 x.site, .int .i64 x.node.id, .int .i64 x.node.parent, .string (bs x.node.name)] 113)) (bs x.node.name).size 0 5)) 5 ((bytesRow (bs x.node.name) (grownCap (w.alloc (.cells #[.int .i64 x.count, .int .i64 x.site, .int .i64 x.node.id, .int .i64 x.node.parent, .string (bs x.node.name)] 113)) (bs x.node.name).size 0 5)).size, (bytesRow (bs x.node.name) (grownCap (w.alloc (.cells #[.int .i64 x.count, .int .i64 x.site, .int .i64 x.node.id, .int .i64 x.node.parent, .string (bs x.node.name)] 113)) (bs x.node.name).size 0 5)).size + 1)))).heap.size = w.heap.size + 2) := by
    refine hide ⟨OpAt.below (w := w.alloc (.cells #[.int .i64 x.count, .int .i64 x.site, .int .i64 x.node.id, .int .i64 x.node.parent, .string (bs x.node.name)] 113)) (opAt_new w x _) ((Below.refl (w.heap.size + 1) _).alloc (by simp) _).drew (by omega), ((Below.refl _ _).alloc (Nat.le_refl _) _).alloc (by simp) _ |>.drew, by simp [heap_drew]⟩
  generalize World.drew (World.alloc (World.alloc w (.cells #[.int .i64 x.count, .int .i64 x.site, .int .i64 x.node.id, .int .i64 x.node.parent, .string (bs x.node.name)] 113)) (.cells (bytesRow (bs x.node.name) (grownCap (w.alloc (.cells #[.int .i64 x.count, .int .i64 x.site, .int .i64 x.node.id, .int .i64 x.node.parent, .string (bs x.node.name)] 113)) (bs x.node.name).size 0 5)) 5 ((bytesRow (bs x.node.name) (grownCap (w.alloc (.cells #[.int .i64 x.count, .int .i64 x.site, .int .i64 x.node.id, .int .i64 x.node.parent, .string (bs x.node.name)] 113)) (bs x.node.name).size 0 5)).size, (bytesRow (bs x.node.name) (grownCap (w.alloc (.cells #[.int .i64 x.count, .int .i64 x.site, .int .i64 x.node.id, .int .i64 x.node.parent, .string (bs x.node.name)] 113)) (bs x.node.name).size 0 5)).size + 1))) = wq at *
  generalize (grownCap (w.alloc (.cells #[.int .i64 x.count, .int .i64 x.site, .int .i64 x.node.id, .int .i64 x.node.parent, .string (bs x.node.name)] 113)) (bs x.node.name).size 0 5) = capq at *
  obtain ⟨hopq, hbq, hszq⟩ := unhide HQ
  clear HQ c1 c2
  have HBQ := hide hbq
  have HOPQ := hide hopq
  obtain ⟨_, o0, o1, o2, o3, o4⟩ := hopq
  have hRq := (unhide HR).below hbq hbl
  have r1 := hRq.cell1
  have rf := hRq.free
  have HRQ := hide hRq; clear hRq
  have HOWNQ := hide (own_below (unhide HOWN) hbq)
  clear hbq
  have hbq : b < wq.heap.size := by omega
  have hbn : ¬ b = wq.heap.size := by omega
  have hpn : ¬ w.heap.size = wq.heap.size := by omega
  have hpl : w.heap.size < wq.heap.size := by omega
  have HSZQ := hide hszq; clear hszq
  have HAP : Hid (v.ownBlock ≠ some b) := hide (rep_apart (unhide HRQ) (unhide HOWNQ))
  have HVL : Hid (∀ k, v.ownBlock = some k → k < w.heap.size) := hide (fun k hk => ((unhide HOWN).lt k hk).2)
  have hB3 : Below wq.heap.size wq (World.drew (wq.alloc (.cells #[.int .i64 x.count, .int .i64 x.site, .int .i64 x.node.id, .int .i64 x.node.parent, .string (bs x.node.name)] 113))) := ((Below.refl wq.heap.size wq).alloc (Nat.le_refl _) _).drew
  have HOWN3 := hide (own_below (unhide HOWNQ) hB3)
  have HR3 := hide ((unhide HRQ).below hB3 hbq)
  have HOP3 := hide ((unhide HOPQ).below hB3 hpl)
  have HK3 : Hid (Keeps (fun k => k = b ∨ v.ownBlock = some k) w (World.drew (wq.alloc (.cells #[.int .i64 x.count, .int .i64 x.site, .int .i64 x.node.id, .int .i64 x.node.parent, .string (bs x.node.name)] 113)))) := hide (Keeps.of_below ((unhide HBQ).trans (hB3.mono (by omega))) (fun k h1 h2 => by omega))
  have HNEW : Hid (∀ j y, (loC x)[j]? = some y → (World.drew (wq.alloc (.cells #[.int .i64 x.count, .int .i64 x.site, .int .i64 x.node.id, .int .i64 x.node.parent, .string (bs x.node.name)] 113))).cell? ((⟨wq.heap.size, 0, none⟩ : Addr).add j) = some y) := hide (news_five (w := wq) _ _ _ _ _ _)
  clear hB3
  go_region_law (refine step_append_lies _ rfl (.tmp 16) (.tmp 18) 65 rfl 0 113 i0 (.agg #[.int .i64 0, .int .i64 0, .int .i64 0, .int .i64 0, .string ByteArray.empty]) 5 48 Tryz.underlying65 hi hz0 hz1 hz2 rfl (by decide) v L.length (loCells L) (by simp [Act.eval]) (unhide HOWN3) ⟨wq.heap.size, 0, none⟩ 1 1 (loC x) (by simp [Act.eval]) rfl (unhide HNEW) (by simp [Value.oneCell', loC]) (by decide) (by unfold maxLen; omega) (by omega) (by simp) (wq.heap.size + 1) (by simp [heap_drew]) ?_; intro g cap w4 hown4 hgrow hgg hgl; have hR4 := (unhide HR3).kept (Keeps.of_grown hgrow) (unhide HAP); have q1 := hR4.cell1; have qf := hR4.free; have HR4 := hide hR4; have HOWN4 := hide hown4; have HG4 := hide hgrow; have HGG := hide hgg; clear hR4 hown4 hgrow hgg)
  all_goals
    have HGN : Hid (g ≠ b ∧ g ≠ w.heap.size ∧ (v.ownBlock = some g ∨ w.heap.size ≤ g)) := by
      apply hide
      have h1 : g ≠ b := by
        intro e; subst e
        exact (rep_apart (unhide HR4) (unhide HOWN4)) rfl
      rcases unhide HGG with h2 | h2
      · exact ⟨h1, by have := unhide HVL g h2; omega, .inl h2⟩
      · exact ⟨h1, by have := unhide HSZQ; omega, .inr (by have := unhide HSZQ; omega)⟩
    have HR5 := hide ((unhide HR4).set (.slice (some ⟨g, 0, none⟩) (L.length + 1) cap))
    have HOWN5 : Hid ((w4.setCell ⟨b, 1, none⟩ (.slice (some ⟨g, 0, none⟩) (L.length + 1) cap)).ownsRow 0 113 5 (.slice (some ⟨g, 0, none⟩) (L.length + 1) cap) (L.length + 1) (loCells (bub x L L.length))) := by
      apply hide
      have e : bub x L L.length = L ++ [x] := by unfold bub; simp
      rw [e, loCells_snoc]
      exact own_kept (unhide HOWN4) (Keeps.set w4 b 1 _) (fun k hk => by simp [Value.ownBlock] at hk; subst hk; exact (unhide HGN).1)
    have HOP5 : Hid (OpAt (w4.setCell ⟨b, 1, none⟩ (.slice (some ⟨g, 0, none⟩) (L.length + 1) cap)) w.heap.size x) := by
      apply hide
      exact (OpAt.kept (unhide HOP3) (Keeps.of_grown (unhide HG4)) (fun e => by have := unhide HVL _ e; omega)).kept (Keeps.set w4 b 1 _) (by omega)
    have HK5 : Hid (Keeps (fun k => k = b ∨ v.ownBlock = some k) w (w4.setCell ⟨b, 1, none⟩ (.slice (some ⟨g, 0, none⟩) (L.length + 1) cap))) := hide (((unhide HK3).trans (Keeps.of_grown (unhide HG4)) (fun k _ h => .inr h)).trans (Keeps.set w4 b 1 _) (fun k _ h => .inl h))
    clear q1 qf HG4 HR4 HOWN4
    generalize w4.setCell ⟨b, 1, none⟩ (.slice (some ⟨g, 0, none⟩) (L.length + 1) cap) = w5 at *
    have s1 := (unhide HR5).cell1
    clear o0 o1 o2 o3 o4 r1 rf
    go_wp2
    go_loopw [4] (fun t wr => ∃ i : Nat, i ≤ L.length ∧ t = .int .i64 i ∧ Hid (RepAt wr b site (.slice (some ⟨g, 0, none⟩) (L.length + 1) cap)) ∧ Hid (wr.ownsRow 0 113 5 (.slice (some ⟨g, 0, none⟩) (L.length + 1) cap) (L.length + 1) (loCells (bub x L i))) ∧ Hid (OpAt wr w.heap.size x) ∧ Hid (Keeps (fun k => k = b ∨ v.ownBlock = some k) w wr) ∧ Hid (∀ j (h : j < L.length), i ≤ j → ahead x L[j] = true)) (fun t _ => (intOf t).toNat)
    case atStart => exact ⟨L.length, Nat.le_refl _, rfl, HR5, HOWN5, HOP5, HK5, hide (fun j h1 h2 => by omega)⟩
    case round =>
      obtain ⟨i, hi', rfl, HRr, HOr, HPr, HKr, HA⟩ := hrel
      clear s1
      cases i with
      | zero =>
        have HE : Hid (ins x L = bub x L 0) := hide (sorted_cut (unhide HSO) (Nat.zero_le _) (unhide HA) (.inl rfl))
        go_wp2
        go_quiet (fail)
        go_wp2
        go_end0
        refine ⟨rfl, ?_⟩
        rw [unhide HE]
        exact insPost_of (unhide HRr) (unhide HOr) ((unhide HKr).drewN _) (unhide HGN).2.2
      | succ k =>
        have hkl : k < L.length := by omega
        have r1 := (unhide HRr).cell1
        have rf := (unhide HRr).free
        have hbr := (unhide HRr).lt
        have HY := hide (bub_get x L hkl)
        have HBS := hide (bub_step x L hkl)
        have hbk : k < (bub x L (k + 1)).length := by rw [bub_len x L (by omega)]; omega
        have hgk : (bub x L (k + 1))[k] = L[k] := by have := bub_get x L hkl; rw [List.getElem?_eq_getElem hbk] at this; exact Option.some.inj this
        have y0 := own_at (unhide HOr) (j := k * 5 + 0) (by rw [loCells_at _ k 0 hbk (by omega), hgk]; rfl)
        have y1 := own_at (unhide HOr) (j := k * 5 + 1) (by rw [loCells_at _ k 1 hbk (by omega), hgk]; rfl)
        have y2 := own_at (unhide HOr) (j := k * 5 + 2) (by rw [loCells_at _ k 2 hbk (by omega), hgk]; rfl)
        have y3 := own_at (unhide HOr) (j := k * 5 + 3) (by rw [loCells_at _ k 3 hbk (by omega), hgk]; rfl)
        have y4 := own_at (unhide HOr) (j := k * 5 + 4) (by rw [loCells_at _ k 4 hbk (by omega), hgk]; rfl)
        have hgl' : g < wr.heap.size := ((unhide HOr).lt g rfl).2
        rw [Nat.add_zero] at y0
        obtain ⟨hpr, p0, p1, p2, p3, p4⟩ := unhide HPr
        have HSC : Hid (ahead x L[k] = false → ins x L = bub x L (k + 1)) := hide (fun h => sorted_cut (unhide HSO) hi' (unhide HA) (.inr ⟨by simpa using hkl, by simpa using h⟩))
        have HAN : Hid (ahead x L[k] = true → ∀ j (h : j < L.length), k ≤ j → ahead x L[j] = true) := hide (fun h j hj hkj => by
          by_cases e : j = k
          · subst e; exact h
          · exact unhide HA j hj (by omega))
        have HIS := hide (fun W => isAhead_any x.count x.site x.node.id x.node.parent (bs x.node.name) (L[k]).count (L[k]).site (L[k]).node.id (L[k]).node.parent (bs (L[k]).node.name) W)
        rw [ahead_same] at HIS
        clear hgk hbk
        generalize L[k] = y at *
        generalize ahead x y = ah at *
        have hk0 : (0 : Int) ≤ (k : Int) := by omega
        have hk1 : ((k : Int) + 1).toNat = k + 1 := by omega
        obtain ⟨N, hN⟩ : ∃ N, N = L.length + 1 := ⟨_, rfl⟩
        rw [← hN] at HRr HOr r1 ⊢
        have hk2 : (k : Int) < N := by omega
        have hk3 : (k : Int) + 1 < N := by omega
        have HN := hide hN; clear hN
        have hw1 : IntKind.i64.wrap (k : Int) = k := IntWalk.i64_in _ ⟨by omega, by omega⟩
        have hw2 : IntKind.i64.wrap ((k : Int) + 1 - 1) = k := IntWalk.i64_in _ ⟨by omega, by omega⟩ |>.trans (by omega)
        have hd : decide ((0 : Int) < (k : Int) + 1) = true := by simp
        rw [show ((k + 1 : Nat) : Int) = (k : Int) + 1 from rfl]
        have HS0 := hide (show wr.drew.cell? ⟨w.heap.size, 0, none⟩ = some (.int .i64 x.count) ∧ wr.drew.cell? ⟨w.heap.size, 1, none⟩ = some (.int .i64 x.site) ∧ wr.drew.cell? ⟨w.heap.size, 2, none⟩ = some (.int .i64 x.node.id) ∧ wr.drew.cell? ⟨w.heap.size, 3, none⟩ = some (.int .i64 x.node.parent) ∧ wr.drew.cell? ⟨w.heap.size, 4, none⟩ = some (.string (bs x.node.name)) ∧ wr.drew.cell? ⟨b, 1, none⟩ = some (.slice (some ⟨g, 0, none⟩) N cap) ∧ wr.drew.cell? ⟨g, k * 5, none⟩ = some (.int .i64 y.count) ∧ wr.drew.cell? ⟨g, k * 5 + 1, none⟩ = some (.int .i64 y.site) ∧ wr.drew.cell? ⟨g, k * 5 + 2, none⟩ = some (.int .i64 y.node.id) ∧ wr.drew.cell? ⟨g, k * 5 + 3, none⟩ = some (.int .i64 y.node.parent) ∧ wr.drew.cell? ⟨g, k * 5 + 4, none⟩ = some (.string (bs y.node.name)) ∧ Below wr.heap.size wr wr.drew from ⟨p0, p1, p2, p3, p4, r1, y0, y1, y2, y3, y4, (Below.refl _ _).drew⟩)
        go_wp2
        go_region_held3 (fun W => W.cell? ⟨w.heap.size, 0, none⟩ = some (.int .i64 x.count) ∧ W.cell? ⟨w.heap.size, 1, none⟩ = some (.int .i64 x.site) ∧ W.cell? ⟨w.heap.size, 2, none⟩ = some (.int .i64 x.node.id) ∧ W.cell? ⟨w.heap.size, 3, none⟩ = some (.int .i64 x.node.parent) ∧ W.cell? ⟨w.heap.size, 4, none⟩ = some (.string (bs x.node.name)) ∧ W.cell? ⟨b, 1, none⟩ = some (.slice (some ⟨g, 0, none⟩) N cap) ∧ W.cell? ⟨g, k * 5, none⟩ = some (.int .i64 y.count) ∧ W.cell? ⟨g, k * 5 + 1, none⟩ = some (.int .i64 y.site) ∧ W.cell? ⟨g, k * 5 + 2, none⟩ = some (.int .i64 y.node.id) ∧ W.cell? ⟨g, k * 5 + 3, none⟩ = some (.int .i64 y.node.parent) ∧ W.cell? ⟨g, k * 5 + 4, none⟩ = some (.string (bs y.node.name)) ∧ Below wr.heap.size wr W) (first | exact unhide HS0 | assumption) ((go_at_call 96; refine (unhide HIS _).mono ?_; rintro e w1 ⟨rfl, hb1⟩; have hbx : Below wr.heap.size wr w1 := (Below.refl wr.heap.size wr).drew.trans (hb1.mono (by simp [heap_drew])); have hs1 := ins_kept hbx hpr hbr hgl' (unhide HS0)))
        all_goals
          have HR1 := hide ((unhide HRr).below hbx hbr)
          have HO1 := hide (own_below (unhide HOr) hbx)
          have HP1 := hide ((unhide HPr).below hbx hpr)
          have HK1 : Hid (Keeps (fun k => k = b ∨ v.ownBlock = some k) w w1) := hide ((unhide HKr).trans (Keeps.of_below (S := fun _ => False) hbx (fun k h1 h2 => by omega)) (fun k _ h => h.elim))
          clear p0 p1 p2 p3 p4 y0 y1 y2 y3 y4 r1 rf HS0
          cases ah with
          | false =>
            have HE := hide (unhide HSC rfl)
            go_wp2
            go_end0
            refine ⟨rfl, ?_⟩
            rw [unhide HE, ← unhide HN]
            exact insPost_of (unhide HR1) (unhide HO1) (unhide HK1) (unhide HGN).2.2
          | true =>
            have HA2 := hide (unhide HAN rfl)
            obtain ⟨p0, p1, p2, p3, p4, r1, y0, y1, y2, y3, y4, _⟩ := hs1
            have hbk : k + 1 < (bub x L (k + 1)).length := by rw [bub_len x L (by omega)]; omega
            have hgk : (bub x L (k + 1))[k + 1] = x := by
              have : (bub x L (k + 1))[k + 1]? = some x := by
                unfold bub
                rw [List.getElem?_append_right (by rw [List.length_take]; omega), List.length_take, show k + 1 - min (k + 1) L.length = 0 by omega]; rfl
              rw [List.getElem?_eq_getElem hbk] at this; exact Option.some.inj this
            have z0 := own_at (unhide HO1) (j := (k + 1) * 5 + 0) (by rw [loCells_at _ (k + 1) 0 hbk (by omega), hgk]; rfl)
            have z1 := own_at (unhide HO1) (j := (k + 1) * 5 + 1) (by rw [loCells_at _ (k + 1) 1 hbk (by omega), hgk]; rfl)
            have z2 := own_at (unhide HO1) (j := (k + 1) * 5 + 2) (by rw [loCells_at _ (k + 1) 2 hbk (by omega), hgk]; rfl)
            have z3 := own_at (unhide HO1) (j := (k + 1) * 5 + 3) (by rw [loCells_at _ (k + 1) 3 hbk (by omega), hgk]; rfl)
            have z4 := own_at (unhide HO1) (j := (k + 1) * 5 + 4) (by rw [loCells_at _ (k + 1) 4 hbk (by omega), hgk]; rfl)
            rw [Nat.add_zero] at z0
            have zf := own_free (unhide HO1)
            have n1 : ¬ g = b := (unhide HGN).1
            have n2 : ¬ g = w.heap.size := (unhide HGN).2.1
            have n3 : ¬ b = g := fun e => n1 e.symm
            have n4 : ¬ w.heap.size = g := fun e => n2 e.symm
            have hk6 : (0 : Int) ≤ (k : Int) + 1 := by omega
            clear hgk hbk
            go_wp2
            go_region
            all_goals go_wp2
            all_goals go_region
            all_goals go_wp2
            all_goals
              have hkx := ((op_keeps w1 g ((k + 1) * 5) ((k + 1) * 5 + 1) ((k + 1) * 5 + 2) ((k + 1) * 5 + 3) ((k + 1) * 5 + 4) (.int .i64 y.count) (.int .i64 y.site) (.int .i64 y.node.id) (.int .i64 y.node.parent) (.string (bs y.node.name))).trans (op_keeps _ g (k * 5) (k * 5 + 1) (k * 5 + 2) (k * 5 + 3) (k * 5 + 4) (.int .i64 x.count) (.int .i64 x.site) (.int .i64 x.node.id) (.int .i64 x.node.parent) (.string (bs x.node.name))) (fun _ _ h => h)).drew.drew
              have hox := own_op (own_op (unhide HO1) (i := k + 1) (by have := unhide HN; omega) (by rw [bub_len x L (by omega)]; exact (unhide HN).symm) y) (i := k) (by have := unhide HN; omega) (by rw [List.length_set, bub_len x L (by omega)]; exact (unhide HN).symm) x
              rw [unhide HBS] at hox
              have hox := own_drew (own_drew hox)
              have HKX := hide hkx
              have HOX := hide hox
              clear hkx hox
              go_roundw
              case rel =>
                refine ⟨k, by omega, rfl, hide ((unhide HR1).kept (unhide HKX) n3), HOX, hide ((unhide HP1).kept (unhide HKX) n4), hide ((unhide HK1).trans (unhide HKX) (fun j hj e => ?_)), HA2⟩
                subst e
                rcases (unhide HGN).2.2 with h | h
                · exact .inr h
                · omega
              case measure => simp [intOf]
end Go.Proofs.YtdcjimlhaklhfabGreatDoor

namespace Go.Proofs.YtdcjimlhaklhfabGreatDoor
open Go.RowKit
theorem row_of {w : World} {base : Nat} {e : TypeId} {size : Nat} {fo : Option Addr} {n cap : Nat} {xs : List Value} (h : w.ownsRow base e size (.slice fo n cap) n xs) : Row w fo n size xs := by
  obtain ⟨ao, c, e', hr⟩ := row_of_owns h
  cases e'; exact hr
theorem joinAll_take (L fr : List Lo) (k : Nat) (h : k < fr.length) : joinAll L (fr.take (k + 1)) = ins fr[k] (joinAll L (fr.take k)) := by
  rw [List.take_succ_eq_append_getElem h, joinAll_snoc]
theorem newTo_take {L fr : List Lo} (h : NewTo L fr) (k : Nat) : NewTo L (fr.take k) :=
  ⟨fun x hx => h.1 x (List.mem_of_mem_take hx), h.2.sublist (List.take_sublist _ _)⟩
/-- The replica's block and its log's. -/
abbrev Foot (b : Nat) (v : Value) : Nat → Prop := fun k => k = b ∨ v.ownBlock = some k
/-- A log's new row: as it was, or new. -/
def Moved (w : World) (v v' : Value) : Prop := v'.ownBlock = v.ownBlock ∨ ∃ g, v'.ownBlock = some g ∧ w.heap.size ≤ g
set_option maxHeartbeats 2000000 in
theorem join_any (L list : List Lo) (b : Nat) (site : Int) (v : Value) (bo : Option Addr) (cb : Nat) (w : World) (hR : RepAt w b site v) (hown : w.ownsRow 0 113 5 v L.length (loCells L)) (hs : Sorted L) (hL0 : L.length ≤ 150) (hl : Row w bo list.length 5 (loCells list)) (hl0 : list.length ≤ 4000) :
    Calls Tryz.prog 30 #[.pointer (some ⟨b, 1, none⟩), .slice bo list.length cb] w fun e w' =>
      if 150 < L.length + (fresh L list).length then e = .returned (.tuple #[.int .i64 0, .int .i64 13]) ∧ Below w.heap.size w w'
      else e = .returned (.tuple #[.int .i64 (fresh L list).length, .int .i64 0]) ∧ ∃ v', RepAt w' b site v' ∧ w'.ownsRow 0 113 5 v' (joinAll L (fresh L list)).length (loCells (joinAll L (fresh L list))) ∧ Keeps (Foot b v) w w' ∧ Moved w v v' := by
  obtain ⟨ao, ca, rfl, hrow⟩ := row_of_owns hown
  have HFR := hide (fresh_any L list b 1 ao bo ca cb w hR.cell1 hR.lt hrow hl (by omega) hl0)
  have hfl := fresh_len L list
  have HNEW := hide (fresh_new L list)
  clear hrow hl
  generalize fresh L list = fr at *
  have HR := hide hR; clear hR
  have HOWN := hide hown; clear hown
  have hbl := (unhide HR).lt
  have HSO := hide hs; clear hs
  by_cases hbig : 150 < L.length + fr.length
  · simp only [if_pos hbig]
    have hd : decide ((150 : Int) < (L.length : Int) + (fr.length : Int)) = true := by rw [decide_eq_true_eq]; omega
    go_enter Tryz.func30, Tryz.ntmps30
    go_wp2_with fail
    refine (unhide HFR).mono ?_
    rintro e w1 ⟨fo, cf, rfl, hownf, hb1⟩
    have r1 := ((unhide HR).below hb1 hbl).cell1
    clear hownf
    go_wp2
    go_ret2
    exact ⟨rfl, hb1⟩
  · simp only [if_neg hbig]
    have hd : decide ((150 : Int) < (L.length : Int) + (fr.length : Int)) = false := by rw [decide_eq_false_iff_not]; omega
    go_enter Tryz.func30, Tryz.ntmps30
    go_wp2_with fail
    refine (unhide HFR).mono ?_
    rintro e w1 ⟨fo, cf, rfl, hownf, hb1⟩
    have hR1 := (unhide HR).below hb1 hbl
    have r1 := hR1.cell1
    have HR1 := hide hR1; clear hR1
    have HOWN1 := hide (own_below (unhide HOWN) hb1)
    have hs1 := hb1.size
    have HFO : Hid (∀ k, (Value.slice fo fr.length cf).ownBlock = some k → w.heap.size ≤ k ∧ k < w1.heap.size) := hide (fun k hk => hownf.lt k hk)
    have HVL : Hid (∀ k, (Value.slice ao L.length ca).ownBlock = some k → k < w.heap.size) := hide (fun k hk => ((unhide HOWN).lt k hk).2)
    have HOF := hide hownf; clear hownf
    have HB1 := hide hb1; clear hb1
    go_wp2
    go_loopw [23] (fun i wr => ∃ k : Nat, ∃ v' : Value, k ≤ fr.length ∧ i = .int .i64 k ∧ Hid (RepAt wr b site v') ∧ Hid (wr.ownsRow 0 113 5 v' (joinAll L (fr.take k)).length (loCells (joinAll L (fr.take k)))) ∧ Hid (Keeps (Foot b (.slice ao L.length ca)) w1 wr) ∧ Hid (Moved w1 (.slice ao L.length ca) v') ∧ Hid (wr.ownsRow w.heap.size 113 5 (.slice fo fr.length cf) fr.length (loCells fr))) (fun i _ => fr.length - (intOf i).toNat)
    case atStart => exact ⟨0, _, Nat.zero_le _, rfl, HR1, HOWN1, hide (Keeps.refl _ _), hide (.inl rfl), HOF⟩
    case round =>
      obtain ⟨k, v', hk, rfl, HRr, HOr, HKr, HMr, HFr⟩ := hrel
      clear r1
      by_cases hlt : k < fr.length
      · obtain ⟨g, hao, hg, c0, c1, c2, c3, c4⟩ := lo_cells (row_of (unhide HFr)) (Below.refl wr.heap.size wr) (Nat.le_refl _) hlt
        have HG : Hid ((Value.slice fo fr.length cf).ownBlock = some g) := by apply hide; rw [hao]; rfl
        have HAO := hide hao
        rw [hao]
        clear hao
        have HJ := hide (joinAll_take L fr k hlt)
        have HJL : Hid ((joinAll L (fr.take k)).length ≤ 4000) := by apply hide; rw [joinAll_len, List.length_take]; omega
        have HSR : Hid (Sorted (joinAll L (fr.take k))) := hide (joinAll_sorted (unhide HSO) _ (newTo_take (unhide HNEW) k))
        generalize fr[k] = x at *
        have hbr := (unhide HRr).lt
        have hB2 : Below wr.heap.size wr (wr.alloc (.cells #[.int .i64 x.count, .int .i64 x.site, .int .i64 x.node.id, .int .i64 x.node.parent, .string (bs x.node.name)] 113)) := (Below.refl _ _).alloc (Nat.le_refl _) _
        have HI := hide (insert_any (joinAll L (fr.take k)) x b site v' (wr.alloc (.cells #[.int .i64 x.count, .int .i64 x.site, .int .i64 x.node.id, .int .i64 x.node.parent, .string (bs x.node.name)] 113)) ((unhide HRr).below hB2 hbr) (own_below (unhide HOr) hB2) (unhide HSR) (unhide HJL))
        have HB2 := hide hB2; clear hB2
        go_wp2_with fail
        refine (unhide HI).mono ?_
        rintro e w3 ⟨rfl, v3, hR3, hO3, hK3, hM3⟩
        have hw1r := (unhide HKr).size
        have HKK : Hid (Keeps (Foot b (.slice ao L.length ca)) w1 w3) := by
          apply hide
          refine ((unhide HKr).trans (Keeps.of_below (S := fun _ => False) (unhide HB2) (fun k h1 h2 => by omega)) (fun k _ h => h.elim)).trans hK3 (fun j hj h => ?_)
          rcases h with h | h
          · exact .inl h
          · rcases unhide HMr with hm | ⟨q, hm, hq⟩
            · exact .inr (hm ▸ h)
            · rw [hm] at h; cases h; omega
        have HMM : Hid (Moved w1 (.slice ao L.length ca) v3) := by
          apply hide
          rcases hM3 with h | ⟨q, h, hq⟩
          · rcases unhide HMr with hm | ⟨q, hm, hq⟩
            · exact .inl (h.trans hm)
            · exact .inr ⟨q, h.trans hm, hq⟩
          · exact .inr ⟨q, h, by have := (unhide HB2).size; omega⟩
        have HFF : Hid (w3.ownsRow w.heap.size 113 5 (.slice fo fr.length cf) fr.length (loCells fr)) := by
          apply hide
          refine own_kept (own_below (unhide HFr) (unhide HB2)) hK3 (fun j hj h => ?_)
          have h1 := unhide HFO j hj
          rcases h with h | h
          · omega
          · rcases unhide HMr with hm | ⟨q, hm, hq⟩
            · rw [hm] at h; have := unhide HVL j h; omega
            · rw [hm] at h; cases h; omega
        have HO3 : Hid (w3.ownsRow 0 113 5 v3 (joinAll L (fr.take (k + 1))).length (loCells (joinAll L (fr.take (k + 1))))) := by
          apply hide; rw [unhide HJ, ins_len]; exact hO3
        have HR3 := hide hR3
        clear hR3 hO3 hK3 hM3 c0 c1 c2 c3 c4
        go_wp2
        go_roundw
        case rel => exact ⟨k + 1, v3, by omega, by go_num, HR3, HO3, HKK, HMM, by have h := HFF; rw [unhide HAO] at h; exact h⟩
        case measure => simp [intOf]; omega
      · have HE : Hid (joinAll L fr = joinAll L (fr.take k)) := by apply hide; rw [List.take_of_length_le (by omega)]
        go_wp2
        go_ret2
        refine ⟨rfl, v', unhide HRr, by rw [unhide HE]; exact unhide HOr, ?_, ?_⟩
        · exact (Keeps.of_below (S := fun _ => False) (unhide HB1) (fun k h1 h2 => by omega) |>.mono (fun _ _ h => h.elim)).trans (unhide HKr) (fun _ _ h => h)
        · rcases unhide HMr with h | ⟨q, h, hq⟩
          · exact .inl h
          · exact .inr ⟨q, h, by omega⟩
end Go.Proofs.YtdcjimlhaklhfabGreatDoor

namespace Go.Proofs.YtdcjimlhaklhfabGreatDoor
open Go.RowKit
/-- A replica with its log. -/
structure Repl (w : World) (b : Nat) (site : Int) (v : Value) (L : List Lo) : Prop where
  at' : RepAt w b site v
  own : w.ownsRow 0 113 5 v L.length (loCells L)
  ok : LogOk L
theorem Repl.lt {w : World} {b : Nat} {site : Int} {v : Value} {L : List Lo} (h : Repl w b site v L) : b < w.heap.size := h.at'.lt
theorem Repl.kept {w w' : World} {b : Nat} {site : Int} {v : Value} {L : List Lo} {S : Nat → Prop} (h : Repl w b site v L) (hk : Keeps S w w') (hS : ∀ k, Foot b v k → ¬ S k) : Repl w' b site v L :=
  ⟨h.at'.kept hk (hS b (.inl rfl)), own_kept h.own hk (fun k e => hS k (.inr e)), h.ok⟩
theorem Repl.below {w w' : World} {b : Nat} {site : Int} {v : Value} {L : List Lo} (h : Repl w b site v L) (hb : Below w.heap.size w w') : Repl w' b site v L :=
  ⟨h.at'.below hb h.lt, own_below h.own hb, h.ok⟩
theorem deliverT_long {L : List Lo} {s : Str} (h : 4000 < s.length) : deliverT L s = (L, 0, 1) := by unfold deliverT; rw [if_pos h]
theorem deliverT_none {L : List Lo} {s : Str} (h : ¬ 4000 < s.length) (g : readOps (cut s) = none) : deliverT L s = (L, 0, 12) := by unfold deliverT; rw [if_neg h, g]
theorem deliverT_full {L list : List Lo} {s : Str} (h : ¬ 4000 < s.length) (g : readOps (cut s) = some list) (hb : 150 < L.length + (fresh L list).length) : deliverT L s = (L, 0, 13) := by unfold deliverT; rw [if_neg h, g]; simp only [if_pos hb]
theorem deliverT_ok {L list : List Lo} {s : Str} (h : ¬ 4000 < s.length) (g : readOps (cut s) = some list) (hb : ¬ 150 < L.length + (fresh L list).length) : deliverT L s = (joinAll L (fresh L list), (fresh L list).length, 0) := by unfold deliverT; rw [if_neg h, g]; simp only [if_neg hb]
set_option maxHeartbeats 2000000 in
set_option maxRecDepth 100000 in
theorem deliver_any (L : List Lo) (s : ByteArray) (b : Nat) (site : Int) (v : Value) (w : World) (hR : Repl w b site v L) :
    Calls Tryz.prog 12 #[.pointer (some ⟨b, 0, none⟩), .string s] w fun e w' =>
      e = .returned (.tuple #[.int .i64 (deliverT L (sl s)).2.1, .int .i64 (deliverT L (sl s)).2.2]) ∧ ∃ v', Repl w' b site v' (deliverT L (sl s)).1 ∧ Keeps (Foot b v) w w' ∧ Moved w v v' := by
  have hkeep : ∀ w', Below w.heap.size w w' → ∃ v', Repl w' b site v' L ∧ Keeps (Foot b v) w w' ∧ Moved w v v' := fun w' hb => ⟨v, hR.below hb, Keeps.of_below hb (fun k h1 h2 => by omega), .inl rfl⟩
  have HKP := hide hkeep; clear hkeep
  by_cases hlong : 4000 < s.size
  · rw [deliverT_long (show 4000 < (sl s).length by rw [sl_length]; exact hlong)]
    have hd : decide ((4000 : Int) < (s.size : Int)) = true := by rw [decide_eq_true_eq]; omega
    clear hR
    go_enter Tryz.func12, Tryz.ntmps12
    go_wp2
    go_ret2
    exact ⟨rfl, unhide HKP _ (Below.refl _ _)⟩
  · have hnl : ¬ 4000 < (sl s).length := by rw [sl_length]; exact hlong
    have hd : decide ((4000 : Int) < (s.size : Int)) = false := by rw [decide_eq_false_iff_not]; omega
    have HRD := hide (fun W => opsRead_any s W (by omega))
    cases hq : readOps (cut (sl s)) with
    | none =>
      rw [deliverT_none hnl hq]
      rw [hq] at HRD
      clear hq hR hnl
      go_enter Tryz.func12, Tryz.ntmps12
      go_wp2_with fail
      refine (unhide HRD _).mono ?_
      rintro e w1 ⟨rfl, hb1⟩
      go_wp2
      go_ret2
      exact ⟨rfl, unhide HKP _ hb1⟩
    | some list =>
      have hll := readOps_len _ _ hq
      have hcl := cut_length_le (sl s)
      rw [sl_length] at hcl
      have hlen : list.length ≤ 4000 := by omega
      clear hll hcl
      have HOK := hide (deliver_ok hR.ok (sl s))
      have HJ := hide (fun W (h : Repl W b site v L) bo cb hl => join_any L list b site v bo cb W h.at' h.own h.ok.1 h.ok.2.2 hl (by omega))
      rw [hq] at HRD
      have HR := hide hR; clear hR
      by_cases hbig : 150 < L.length + (fresh L list).length
      · rw [deliverT_full hnl hq hbig]
        simp only [if_pos hbig] at HJ
        clear hq hnl HOK
        go_enter Tryz.func12, Tryz.ntmps12
        go_wp2_with fail
        refine (unhide HRD _).mono ?_
        rintro e w1 ⟨⟨ao, cap, rfl, hrow⟩, hb1⟩
        have HR1 := hide ((unhide HR).below hb1)
        have HROW := hide hrow; clear hrow
        go_wp2_with fail
        refine (unhide HJ _ (by exact unhide HR1) _ _ (by exact unhide HROW)).mono ?_
        rintro e w2 ⟨rfl, hb2⟩
        have HB2 := hide (hb1.trans (hb2.mono hb1.size))
        clear hb2
        go_wp2
        go_ret2
        exact ⟨rfl, unhide HKP _ (unhide HB2)⟩
      · rw [deliverT_ok hnl hq hbig] at HOK ⊢
        simp only [if_neg hbig] at HJ
        clear hq hnl
        simp only at HOK
        go_enter Tryz.func12, Tryz.ntmps12
        go_wp2_with fail
        refine (unhide HRD _).mono ?_
        rintro e w1 ⟨⟨ao, cap, rfl, hrow⟩, hb1⟩
        have HR1 := hide ((unhide HR).below hb1)
        have HROW := hide hrow; clear hrow
        go_wp2_with fail
        refine (unhide HJ _ (by exact unhide HR1) _ _ (by exact unhide HROW)).mono ?_
        rintro e w2 ⟨rfl, v', h1, h2, h3, h4⟩
        have HF : Hid (∃ v', Repl w2 b site v' (joinAll L (fresh L list)) ∧ Keeps (Foot b v) w w2 ∧ Moved w v v') := by
          apply hide
          refine ⟨v', ⟨h1, h2, unhide HOK⟩, (Keeps.of_below (S := fun _ => False) hb1 (fun k h1 h2 => by omega) |>.mono (fun _ _ h => h.elim)).trans h3 (fun _ _ h => h), ?_⟩
          rcases h4 with h | ⟨q, h, hq⟩
          · exact .inl h
          · exact .inr ⟨q, h, by have := hb1.size; omega⟩
        clear h1 h2 h3 h4
        go_wp2
        go_ret2
        exact ⟨rfl, unhide HF⟩
set_option maxHeartbeats 1000000 in
theorem new_bad (site : Int) (w : World) (h : site < 1 ∨ 9 < site) :
    Calls Tryz.prog 40 #[.int .i64 site] w fun e w' => e = .returned (.tuple #[.pointer none, .int .i64 11]) ∧ Below w.heap.size w w' := by
  rcases h with h | h
  · have hd : decide (site < 1) = true := by simpa using h
    go_enter Tryz.func40, Tryz.ntmps40
    go_wp2
    go_ret2
    exact ⟨rfl, Below.refl _ _⟩
  · have hd : decide (site < 1) = false := by simp; omega
    have hd2 : decide (9 < site) = true := by simpa using h
    go_enter Tryz.func40, Tryz.ntmps40
    go_wp2
    go_ret2
    exact ⟨rfl, Below.refl _ _⟩
set_option maxHeartbeats 1000000 in
theorem new_ok (site : Int) (w : World) (h1 : 1 ≤ site) (h2 : site ≤ 9) :
    Calls Tryz.prog 40 #[.int .i64 site] w fun e w' => e = .returned (.tuple #[.pointer (some ⟨w.heap.size, 0, none⟩), .int .i64 0]) ∧ Repl w' w.heap.size site (.slice none 0 0) [] ∧ Below w.heap.size w w' := by
  have hd : decide (site < 1) = false := by simp; omega
  have hd2 : decide (9 < site) = false := by simp; omega
  go_enter Tryz.func40, Tryz.ntmps40
  go_wp2
  go_ret2
  exact ⟨rfl, ⟨heap_alloc_new w _, World.ownsRow_nil _ _ _ _, logOk_nil⟩, (Below.refl _ _).alloc (Nat.le_refl _) _⟩
end Go.Proofs.YtdcjimlhaklhfabGreatDoor

namespace Go.Proofs.YtdcjimlhaklhfabGreatDoor
open Go.RowKit
theorem shown_nd {t : Tr} (h : TrW t) {i : Nat} {n : Nd} (hn : t i = some n) : (shownNd t i).id = (i : Int) := (shown_id h hn).1
set_option maxHeartbeats 4000000 in
set_option maxRecDepth 100000 in
theorem view_any (L : List Lo) (b o : Nat) (ao : Option Addr) (cap : Nat) (w : World) (hlog : w.cell? ⟨b, o, none⟩ = some (.slice ao L.length cap)) (hb : b < w.heap.size) (hrow : Row w ao L.length 5 (loCells L)) (hx : ∀ x ∈ L, LoOk x) (hl : L.length ≤ 4000) :
    Calls Tryz.prog 31 #[.pointer (some ⟨b, o, none⟩)] w fun e w' => e = .returned (.agg (treeCells (viewT (places L))).toArray) ∧ Below w.heap.size w w' := by
  have hb0 := (Below.refl w.heap.size w).alloc (Nat.le_refl _) (.cells Tryz.zeroCells78 78)
  have HPL := hide (places_any L b o ao cap _ (by rw [hb0.cell (p := ⟨b, o, none⟩) hb]; exact hlog) (by simp; omega) (hrow.below hb0) hx hl)
  have HTW := hide (places_ok hx)
  have HN0 := hide (treeAt_new w)
  clear hlog hrow hx hb0
  generalize places L = T at *
  go_enter Tryz.func31, Tryz.ntmps31
  go_wp2_with fail
  refine (unhide HPL).mono ?_
  rintro e w1 ⟨rfl, hb1⟩
  have HB1 : Hid (Below w.heap.size w w1) := hide (((Below.refl _ _).alloc (Nat.le_refl _) _).trans (hb1.mono (by simp)))
  have HR1 := hide ((unhide HN0).below hb1)
  have hsz : w.heap.size < w1.heap.size := by have := hb1.size; simp at this; omega
  clear hb1
  have HN1 := hide (treeAt_new w1)
  have hbx := below_setCells ((Below.refl w1.heap.size w1).alloc (Nat.le_refl _) (.cells Tryz.zeroCells78 78)) (g := w1.heap.size) (Nat.le_refl _) (by simp) 0 (treeCells T)
  have HB2 : Hid (Below w.heap.size w ((w1.alloc (.cells Tryz.zeroCells78 78)).setCells w1.heap.size 0 (treeCells T))) := hide ((unhide HB1).trans (hbx.mono (by omega)))
  have HR2 := hide ((unhide HR1).below hbx)
  have HP2 := hide (treeAt_stored (unhide HN1) T)
  have hs2 : ((w1.alloc (.cells Tryz.zeroCells78 78)).setCells w1.heap.size 0 (treeCells T)).heap.size = w1.heap.size + 1 := by rw [(size_setCells _ _ _ _).1]; simp
  clear hbx
  go_upto_region 2 with (refine wpList_store_mid (by rfl) 78 (.tmp 3) (.tmp 8) (by rfl) w1.heap.size 0 (treeCells T).toArray (by rfl) (by rfl) (by exact treeAt_there (unhide HN1) T) (treeSize' T) (treeOne T) ?_)
  generalize Value.agg (treeCells T).toArray = vT
  generalize (w1.alloc (.cells Tryz.zeroCells78 78)).setCells w1.heap.size 0 (treeCells T) = w2 at *
  have hb3 := (Below.refl w2.heap.size w2).alloc (Nat.le_refl _) (.cells Tryz.zeroCells78 78)
  have HV3 := hide (treeAt_new w2)
  have HR3 := hide ((unhide HR2).below hb3)
  have HP3 := hide ((unhide HP2).below hb3)
  have HB3 := hide ((unhide HB2).trans (hb3.mono (by omega)))
  clear hb3
  have hV : w2.heap.size = w1.heap.size + 1 := hs2
  have HVS := hide hV; clear hV hs2
  have hPV : w1.heap.size < w2.heap.size := by have := unhide HVS; omega
  go_wp2
  generalize w2.alloc (.cells Tryz.zeroCells78 78) = w3 at *
  go_loopw [5] (fun i wr => ∃ k : Nat, k ≤ 99 ∧ i = .int .i64 ((k : Int) + 1) ∧ Hid (Below w.heap.size w wr) ∧ Hid (TreeAt ext0 wr w1.heap.size T) ∧ Hid (TreeAt ext0 wr w2.heap.size (viewTo T k)) ∧ Hid (TreeAt ext0 wr w.heap.size tr0)) (fun i _ => 101 - (intOf i).toNat)
  case atStart => exact ⟨0, by omega, rfl, HB3, HP3, by rw [viewTo_0]; exact HV3, HR3⟩
  case round =>
    obtain ⟨k, hk, rfl, HB, HP, HV, HR⟩ := hrel
    by_cases hlt : k < 99
    · have HME := hide (meets_w T w1.heap.size ((k : Int) + 1) 0 wr (unhide HTW) (by omega) (by omega) (unhide HP))
      have HYS : Hid (meetsT T ((k : Int) + 1) 0 = true → (∃ n, T (k + 1) = some n) ∧ viewTo T (k + 1) = trPut (viewTo T k) (shownNd T (k + 1))) := hide (fun h => ⟨meets_there (i := k + 1) (by omega) h, viewTo_yes (unhide HTW) hlt h⟩)
      have HNO : Hid (meetsT T ((k : Int) + 1) 0 = false → viewTo T (k + 1) = viewTo T k) := hide (fun h => viewTo_no h)
      generalize meetsT T ((k : Int) + 1) 0 = q at *
      have hk1 : (k : Int) + 1 ≤ 99 := by omega
      cases q with
      | false =>
        have HE := hide (unhide HNO rfl)
        go_wp2_with (go_at_call 61; refine (unhide HME).mono ?_; rintro e w' ⟨rfl, rfl⟩)
        go_roundw
        case rel => exact ⟨k + 1, by omega, by go_num, HB, HP, by rw [unhide HE]; exact HV, HR⟩
        case measure => simp [intOf]; omega
      | true =>
        obtain ⟨⟨n, hn⟩, hE⟩ := unhide HYS rfl
        have HE := hide hE; clear hE
        have HSH : Hid (∀ W, TreeAt ext0 W w1.heap.size T → Calls Tryz.prog 62 #[.pointer (some ⟨w1.heap.size, 0, none⟩), .int .i64 ((k : Int) + 1)] W fun e w' => e = .returned (.agg #[.int .i64 (shownNd T (k + 1)).id, .int .i64 (shownNd T (k + 1)).parent, .string (bs (shownNd T (k + 1)).name)]) ∧ Below W.heap.size W w') := hide (fun W h => shown_any T w1.heap.size (k + 1) n W (unhide HTW) (by omega) (by omega) hn h)
        have HID := hide (shown_nd (unhide HTW) hn)
        clear hn
        generalize shownNd T (k + 1) = nd at *
        go_wp2_with (go_at_call 61; refine (unhide HME).mono ?_; rintro e w' ⟨rfl, rfl⟩)
        refine (unhide HSH _ (by exact unhide HP)).mono ?_
        rintro e w4 ⟨rfl, hb4⟩
        have hsr := (unhide HB).size
        have hb5 := hb4.trans (((Below.refl w4.heap.size w4).alloc (Nat.le_refl _) (.cells #[.int .i64 nd.id, .int .i64 nd.parent, .string (bs nd.name)] 75)).mono hb4.size)
        have HB5 := hide ((unhide HB).trans (hb5.mono hsr))
        have HP5 := hide ((unhide HP).below hb5)
        have HV5 := hide ((unhide HV).below hb5)
        have HR5 := hide ((unhide HR).below hb5)
        clear hb5 hb4
        go_wp2_with fail
        refine (put_any _ _ nd _ (by rw [unhide HID]; omega) (by rw [unhide HID]; omega) (by exact unhide HV5)).mono ?_
        rintro e w6 ⟨rfl, hT6, hg6⟩
        have HB6 : Hid (Below w.heap.size w w6) := hide ((unhide HB5).grown hg6 (unhide HB5).size (fun k hk => by cases hk; omega))
        have HP6 := hide (treeAt_grown (unhide HP5) hg6 (by omega))
        have HR6 := hide (treeAt_grown (unhide HR5) hg6 (by omega))
        have HV6 : Hid (TreeAt ext0 w6 w2.heap.size (viewTo T (k + 1))) := by apply hide; rw [unhide HE]; exact hT6
        clear hT6 hg6
        go_wp2
        go_roundw
        case rel => exact ⟨k + 1, by omega, by go_num, HB6, HP6, HV6, HR6⟩
        case measure => simp [intOf]; omega
    · have hk9 : k = 99 := by omega
      subst hk9
      have HE := hide (viewTo_99 T)
      generalize viewTo T 99 = U at *
      have HRG := hide (treeAt_range (unhide HV))
      have HTH := hide (treeAt_there (unhide HR) U)
      have hsr := (unhide HB).size
      go_wp2_with (first
        | (refine wpList_load_mid (by rfl) 78 (.tmp 4) (by rfl) w2.heap.size 0 (by rfl) (treeCells U) _ (unhide HRG) Tryz.underlying78 (by rfl) (treeSize U) ?_)
        | (refine wpList_store_mid (by rfl) 78 (.tmp 2) (.tmp 19) (by rfl) w.heap.size 0 (treeCells U).toArray (by rfl) (by rfl) (unhide HTH) (treeSize' U) (treeOne U) ?_))
      have hr := World.rangeAt_setCells_same wr w.heap.size 0 (treeCells U) (by have := unhide HTH; rwa [List.size_toArray] at this)
      refine bodyPost_ret (v := .agg (treeCells U).toArray) (by simp [results, Tryz.results31, Act.put, asAddr, run_loadVar_mid _ _ _ _ _ _ hr Tryz.underlying78 rfl (treeSize U)]) rfl ⟨by rw [unhide HE], ?_⟩
      exact below_setCells (unhide HB) (Nat.le_refl _) hsr _ _
set_option maxHeartbeats 2000000 in
set_option maxRecDepth 100000 in
theorem export_any (L : List Lo) (b : Nat) (site : Int) (v : Value) (w : World) (hR : Repl w b site v L) :
    Calls Tryz.prog 13 #[.pointer (some ⟨b, 0, none⟩)] w fun e w' => e = .returned (.string (bs (textT (viewT (places L))))) ∧ Below w.heap.size w w' := by
  have hlt := hR.lt
  obtain ⟨ao, ca, rfl, hrow⟩ := row_of_owns hR.own
  have HV := hide (view_any L b 1 ao ca w hR.at'.cell1 hlt hrow hR.ok.2.1 (by have := hR.ok.2.2; omega))
  have HOK := hide (view_valid (places_ok hR.ok.2.1)).ok
  clear hR hrow
  generalize viewT (places L) = U at *
  go_enter Tryz.func13, Tryz.ntmps13
  go_wp2_with fail
  refine (unhide HV).mono ?_
  rintro e w1 ⟨rfl, hb1⟩
  have HN1 := hide (treeAt_new w1)
  have hbx := below_setCells ((Below.refl w1.heap.size w1).alloc (Nat.le_refl _) (.cells Tryz.zeroCells78 78)) (g := w1.heap.size) (Nat.le_refl _) (by simp) 0 (treeCells U)
  have HB2 : Hid (Below w.heap.size w ((w1.alloc (.cells Tryz.zeroCells78 78)).setCells w1.heap.size 0 (treeCells U))) := hide (hb1.trans (hbx.mono hb1.size))
  have HP2 := hide (treeAt_stored (unhide HN1) U)
  clear hbx hb1
  go_upto_region 2 with (refine wpList_store_mid (by rfl) 78 (.tmp 3) (.tmp 7) (by rfl) w1.heap.size 0 (treeCells U).toArray (by rfl) (by rfl) (by exact treeAt_there (unhide HN1) U) (treeSize' U) (treeOne U) ?_)
  generalize Value.agg (treeCells U).toArray = vT
  generalize (w1.alloc (.cells Tryz.zeroCells78 78)).setCells w1.heap.size 0 (treeCells U) = w2 at *
  go_wp2_with fail
  refine (text_any U w1.heap.size w2 (unhide HOK) (unhide HP2)).mono ?_
  rintro e w3 ⟨rfl, hb3⟩
  have HB3 := hide ((unhide HB2).trans (hb3.mono (unhide HB2).size))
  clear hb3
  go_wp2
  go_ret
  exact ⟨rfl, unhide HB3⟩
end Go.Proofs.YtdcjimlhaklhfabGreatDoor

namespace Go.Proofs.YtdcjimlhaklhfabGreatDoor
open Go.Shelf Go.RowKit
def itoaRen : Go.Shelf.Ren := ⟨fun | 171 => 100 | 243 => 128 | 246 => 144 | 283 => 157 | 284 => 158 | 285 => 159 | 286 => 160 | 129 => 165 | 317 => 164 | 318 => 166 | 319 => 167 | 320 => 168 | 337 => 170 | 338 => 171 | n => n, fun | 3 => 3 | 9 => 9 | 2 => 2 | 4 => 4 | 171 => 220 | 0 => 0 | 53 => 221 | 37 => 159 | 5 => 5 | 173 => 224 | 212 => 228 | 51 => 229 | 20 => 20 | 213 => 230 | 46 => 231 | 232 => 235 | 233 => 236 | n => n, fun | 17 => 0 | 18 => 1 | 19 => 2 | n => n⟩
theorem itoaLays : Go.Proofs.LaysM.n171 Tryz.prog itoaRen := {
  mixed := by kernel_rfl
  f129 := Tryz.func165.trans (congrArg some (by kernel_rfl))
  f171 := Tryz.func100.trans (congrArg some (by kernel_rfl))
  f243 := Tryz.func128.trans (congrArg some (by kernel_rfl))
  f246 := Tryz.func144.trans (congrArg some (by kernel_rfl))
  f283 := Tryz.func157.trans (congrArg some (by kernel_rfl))
  f284 := Tryz.func158.trans (congrArg some (by kernel_rfl))
  f285 := Tryz.func159.trans (congrArg some (by kernel_rfl))
  f286 := Tryz.func160.trans (congrArg some (by kernel_rfl))
  f317 := Tryz.func164.trans (congrArg some (by kernel_rfl))
  f318 := Tryz.func166.trans (congrArg some (by kernel_rfl))
  f319 := Tryz.func167.trans (congrArg some (by kernel_rfl))
  f320 := Tryz.func168.trans (congrArg some (by kernel_rfl))
  f337 := Tryz.func170.trans (congrArg some (by kernel_rfl))
  f338 := Tryz.func171.trans (congrArg some (by kernel_rfl))
  t0 := Tryz.underlying0
  a0 := Tryz.isAgg0
  z0 := Tryz.sizeOf0
  v0 := Tryz.zeroValue0
  t2 := Tryz.underlying2
  a2 := Tryz.isAgg2
  z2 := Tryz.sizeOf2
  v2 := Tryz.zeroValue2
  t3 := Tryz.underlying3
  a3 := Tryz.isAgg3
  z3 := Tryz.sizeOf3
  v3 := Tryz.zeroValue3
  t4 := Tryz.underlying4
  a4 := Tryz.isAgg4
  z4 := Tryz.sizeOf4
  v4 := Tryz.zeroValue4
  t5 := Tryz.underlying5
  a5 := Tryz.isAgg5
  z5 := Tryz.sizeOf5
  v5 := Tryz.zeroValue5
  t9 := Tryz.underlying9
  a9 := Tryz.isAgg9
  z9 := Tryz.sizeOf9
  v9 := Tryz.zeroValue9
  t20 := Tryz.underlying20
  a20 := Tryz.isAgg20
  z20 := Tryz.sizeOf20
  v20 := Tryz.zeroValue20
  t37 := Tryz.underlying159
  a37 := Tryz.isAgg159
  z37 := Tryz.sizeOf159
  v37 := Tryz.zeroValue159
  t46 := Tryz.underlying231
  a46 := Tryz.isAgg231
  z46 := Tryz.sizeOf231
  v46 := Tryz.zeroValue231
  t51 := Tryz.underlying229
  a51 := Tryz.isAgg229
  z51 := Tryz.sizeOf229
  v51 := Tryz.zeroValue229
  t53 := Tryz.underlying221
  a53 := Tryz.isAgg221
  z53 := Tryz.sizeOf221
  v53 := Tryz.zeroValue221
  t171 := Tryz.underlying220
  a171 := Tryz.isAgg220
  z171 := Tryz.sizeOf220
  v171 := Tryz.zeroValue220
  t173 := Tryz.underlying224
  a173 := Tryz.isAgg224
  z173 := Tryz.sizeOf224
  v173 := Tryz.zeroValue224
  t212 := Tryz.underlying228
  a212 := Tryz.isAgg228
  z212 := Tryz.sizeOf228
  v212 := Tryz.zeroValue228
  t213 := Tryz.underlying230
  a213 := Tryz.isAgg230
  z213 := Tryz.sizeOf230
  t232 := Tryz.underlying235
  a232 := Tryz.isAgg235
  z232 := Tryz.sizeOf235
  v232 := Tryz.zeroValue235
  t233 := Tryz.underlying236
  a233 := Tryz.isAgg236
  z233 := Tryz.sizeOf236
  v233 := Tryz.zeroValue236
  g17 := by kernel_rfl
  g18 := by kernel_rfl
  g19 := by kernel_rfl
  i0 := by kernel_rfl
  i2 := by kernel_rfl
  i3 := by kernel_rfl
  i4 := by kernel_rfl
  i5 := by kernel_rfl
  i9 := by kernel_rfl
  i20 := by kernel_rfl
  i37 := by kernel_rfl
  i46 := by kernel_rfl
  i51 := by kernel_rfl
  i53 := by kernel_rfl
  i171 := by kernel_rfl
  i173 := by kernel_rfl
  i212 := by kernel_rfl
  i232 := by kernel_rfl
  i233 := by kernel_rfl
  m17 := by kernel_rfl
  m18 := by kernel_rfl
  m19 := by kernel_rfl }
/-- The library's table of powers, as its initialiser lays it. -/
abbrev Tab (w : World) : Prop := Lib.TabIs Tryz.prog w "internal/strconv.uint64pow10" .u64 Lib.pow10Tab
theorem dec_lib : ∀ (f n : Nat), n ≤ f → Lib.decDigits n = dec n := by
  intro f
  induction f with
  | zero => intro n h; have : n = 0 := by omega
            subst this; rw [Lib.decDigits]; rfl
  | succ f ih =>
    intro n h
    by_cases hn : n < 10
    · rw [Lib.decDigits, dif_pos hn, dec_small hn, Nat.mod_eq_of_lt hn]
    · rw [Lib.decDigits, dif_neg hn, dec_big hn, ih (n / 10) (by omega)]
theorem tab_below {w w' : World} (h : Tab w) (hb : Below w.heap.size w w') : Tab w' := Lib.tabBelow_of_tabIs h w' hb
theorem itoa_dec (n : Int) (w : World) (h0 : 0 ≤ n) (h1 : n ≤ 99999) (htab : Tab w) :
    Calls Tryz.prog 100 #[.int .i64 n] w fun e w' => e = .returned (.string (bs (dec n.toNat))) ∧ Below w.heap.size w w' := by
  refine (Any.strconv_Itoa itoaLays n (by omega) (by omega) w htab).mono ?_
  rintro e w' ⟨rfl, k, os, rfl⟩
  refine ⟨?_, Lib.below_grow w.heap.size w (Nat.le_refl _) k os⟩
  unfold Lib.itoa
  rw [if_neg (by omega), dec_lib n.toNat n.toNat (Nat.le_refl _)]
  rfl
end Go.Proofs.YtdcjimlhaklhfabGreatDoor

namespace Go.Proofs.YtdcjimlhaklhfabGreatDoor
open Go.RowKit
def ndTextW (n : Nd) : Str := dec n.id.toNat ++ [32] ++ dec n.parent.toNat ++ [32] ++ n.name ++ [59]
theorem loText_nd (x : Lo) : loText x = dec x.count.toNat ++ [32] ++ dec x.site.toNat ++ [32] ++ ndTextW x.node := by unfold loText ndTextW; simp only [List.append_assoc]
theorem ndTextW_len {n : Nd} (h : NdW n) : (ndTextW n).length ≤ 22 := by
  have h3 := dec_len n.id.toNat (by have := h.2.1; omega)
  have h4 := dec_len n.parent.toNat (by have := h.2.2.2.1; omega)
  have h5 := ndW_name h
  simp only [ndTextW, List.length_append, List.length_cons, List.length_nil]; omega
set_option maxHeartbeats 1000000 in
theorem ndTextW_any (n : Nd) (w : World) (h : NdW n) (htab : Tab w) :
    Calls Tryz.prog 64 #[.agg #[.int .i64 n.id, .int .i64 n.parent, .string (bs n.name)]] w fun e w' => e = .returned (.string (bs (ndTextW n))) ∧ Below w.heap.size w w' := by
  have hb0 := (Below.refl w.heap.size w).alloc (Nat.le_refl _) (.cells #[.int .i64 n.id, .int .i64 n.parent, .string (bs n.name)] 75)
  have hn1 := h.1
  have hn2 := h.2.1
  have hp1 := h.2.2.1
  have hp2 := h.2.2.2.1
  have hnl := ndW_name h
  have HI := hide (itoa_dec n.id _ (by omega) (by omega) (tab_below htab hb0))
  have HP := hide (fun W (t : Tab W) => itoa_dec n.parent W (by omega) (by omega) t)
  have l1 := dec_len n.id.toNat (by omega)
  have l2 := dec_len n.parent.toNat (by omega)
  have HN : Hid (ndTextW n = dec n.id.toNat ++ [32] ++ dec n.parent.toNat ++ [32] ++ n.name ++ [59]) := hide rfl
  have HT := hide (tab_below htab hb0)
  have HB0 := hide hb0; clear hb0 htab h
  have c1 : (w.alloc (.cells #[.int .i64 n.id, .int .i64 n.parent, .string (bs n.name)] 75)).cell? ⟨w.heap.size, 1, none⟩ = some (.int .i64 n.parent) := news_three _ _ _ _ 1 _ rfl
  have c2 : (w.alloc (.cells #[.int .i64 n.id, .int .i64 n.parent, .string (bs n.name)] 75)).cell? ⟨w.heap.size, 2, none⟩ = some (.string (bs n.name)) := news_three _ _ _ _ 2 _ rfl
  have C1 := hide c1
  have C2 := hide c2
  clear c1 c2
  generalize dec n.id.toNat = a at *
  generalize dec n.parent.toNat = b at *
  have a1 := add_32 a (by omega)
  have a2 := add_bs (a ++ [32]) b (by simp; omega) (by omega)
  have a3 := add_32 (a ++ [32] ++ b) (by simp; omega)
  have a4 := add_bs (a ++ [32] ++ b ++ [32]) n.name (by simp; omega) (by omega)
  have a5 := add_59 (a ++ [32] ++ b ++ [32] ++ n.name) (by simp; omega)
  generalize a ++ [32] ++ b ++ [32] ++ n.name ++ [59] = r5 at *
  generalize a ++ [32] ++ b ++ [32] ++ n.name = r4 at *
  generalize a ++ [32] ++ b ++ [32] = r3 at *
  generalize a ++ [32] ++ b = r2 at *
  generalize a ++ [32] = r1 at *
  go_enter Tryz.func64, Tryz.ntmps64
  go_wp2_with fail
  refine (unhide HI).mono ?_
  rintro e w1 ⟨rfl, hb1⟩
  have d1 := (hb1.cell (p := ⟨w.heap.size, 1, none⟩) (by simp)).trans (unhide C1)
  have D2 := hide ((hb1.cell (p := ⟨w.heap.size, 2, none⟩) (by simp)).trans (unhide C2))
  have HT1 := hide (tab_below (unhide HT) hb1)
  have HB1 := hide ((unhide HB0).trans (hb1.mono (by simp)))
  have hs1 : w.heap.size < w1.heap.size := by have := hb1.size; simp at this; omega
  clear hb1
  go_wp2_with fail
  refine (unhide HP _ (by exact unhide HT1)).mono ?_
  rintro e w2 ⟨rfl, hb2⟩
  have d2 := (hb2.cell (p := ⟨w.heap.size, 2, none⟩) hs1).trans (unhide D2)
  have HB2 := hide ((unhide HB1).trans (hb2.mono (by omega)))
  clear hb2
  go_wp2
  go_ret
  exact ⟨ret_str (by rw [unhide HN]), unhide HB2⟩
set_option maxHeartbeats 2000000 in
theorem opText_any (x : Lo) (w : World) (h : LoOk x) (htab : Tab w) :
    Calls Tryz.prog 75 #[.agg #[.int .i64 x.count, .int .i64 x.site, .int .i64 x.node.id, .int .i64 x.node.parent, .string (bs x.node.name)]] w fun e w' => e = .returned (.string (bs (loText x))) ∧ Below w.heap.size w w' := by
  have hb0 := (Below.refl w.heap.size w).alloc (Nat.le_refl _) (.cells #[.int .i64 x.count, .int .i64 x.site, .int .i64 x.node.id, .int .i64 x.node.parent, .string (bs x.node.name)] 113)
  have h1 := h.1
  have h2 := h.2.1
  have h3 := h.2.2.1
  have h4 := h.2.2.2.1
  have HI := hide (itoa_dec x.count _ (by omega) (by omega) (tab_below htab hb0))
  have HP := hide (fun W (t : Tab W) => itoa_dec x.site W (by omega) (by omega) t)
  have HX := hide (fun W (t : Tab W) => ndTextW_any x.node W h.2.2.2.2 t)
  have l1 := dec_len x.count.toNat (by omega)
  have l2 := dec_len x.site.toNat (by omega)
  have l3 := ndTextW_len h.2.2.2.2
  have HN := hide (loText_nd x)
  have HT := hide (tab_below htab hb0)
  have HB0 := hide hb0
  have HO := hide (opAt_new w x 113)
  clear hb0 htab h
  generalize dec x.count.toNat = a at *
  generalize dec x.site.toNat = b at *
  generalize ndTextW x.node = c at *
  have a1 := add_32 a (by omega)
  have a2 := add_bs (a ++ [32]) b (by simp; omega) (by omega)
  have a3 := add_32 (a ++ [32] ++ b) (by simp; omega)
  have a4 := add_bs (a ++ [32] ++ b ++ [32]) c (by simp; omega) (by omega)
  generalize a ++ [32] ++ b ++ [32] ++ c = r4 at *
  generalize a ++ [32] ++ b ++ [32] = r3 at *
  generalize a ++ [32] ++ b = r2 at *
  generalize a ++ [32] = r1 at *
  go_enter Tryz.func75, Tryz.ntmps75
  go_wp2_with fail
  refine (unhide HI).mono ?_
  rintro e w1 ⟨rfl, hb1⟩
  have HO1 := hide ((unhide HO).below hb1 (by simp))
  obtain ⟨hs1, _, d1, _⟩ := unhide HO1
  have HT1 := hide (tab_below (unhide HT) hb1)
  have HB1 := hide ((unhide HB0).trans (hb1.mono (by simp)))
  clear hb1
  go_wp2_with fail
  refine (unhide HP _ (by exact unhide HT1)).mono ?_
  rintro e w2 ⟨rfl, hb2⟩
  have HO2 := hide ((unhide HO1).below hb2 hs1)
  clear d1
  obtain ⟨hs2, _, _, d2, d3, d4⟩ := unhide HO2
  have HT2 := hide (tab_below (unhide HT1) hb2)
  have HB2 := hide ((unhide HB1).trans (hb2.mono (by omega)))
  clear hb2
  go_wp2_with fail
  refine (unhide HX _ (by exact unhide HT2)).mono ?_
  rintro e w3 ⟨rfl, hb3⟩
  have HB3 := hide ((unhide HB2).trans (hb3.mono (by omega)))
  clear hb3
  go_wp2
  go_ret
  exact ⟨ret_str (by rw [unhide HN]), unhide HB3⟩
theorem logText_take (L : List Lo) (k : Nat) (h : k < L.length) : logText (L.take (k + 1)) = logText (L.take k) ++ loText L[k] := by
  rw [List.take_succ_eq_append_getElem h, logText_snoc]
set_option maxHeartbeats 2000000 in
theorem opsText_any (L : List Lo) (ao : Option Addr) (cap : Nat) (w : World) (hrow : Row w ao L.length 5 (loCells L)) (hx : ∀ x ∈ L, LoOk x) (hl : L.length ≤ 4000) (htab : Tab w) :
    Calls Tryz.prog 38 #[.slice ao L.length cap] w fun e w' => e = .returned (.string (bs (logText L))) ∧ Below w.heap.size w w' := by
  have HROW := hide hrow; clear hrow
  have HX := hide hx; clear hx
  have HT := hide htab; clear htab
  go_enter Tryz.func38, Tryz.ntmps38
  go_wp2
  go_loopw [3, 8] (fun s i wr => ∃ k : Nat, ∃ S : Str, k ≤ L.length ∧ i = .int .i64 k ∧ s = .string (bs S) ∧ Below w.heap.size w wr ∧ Hid (S = logText (L.take k))) (fun _ i _ => L.length - (intOf i).toNat)
  case atStart => exact ⟨0, [], Nat.zero_le _, rfl, rfl, Below.refl _ _, hide (by simp [logText])⟩
  case round =>
    obtain ⟨k, S, hk, rfl, rfl, hbel, HS⟩ := hrel
    by_cases hlt : k < L.length
    · obtain ⟨g, hao, hg, c0, c1, c2, c3, c4⟩ := lo_cells (unhide HROW) hbel (Nat.le_refl _) hlt
      rw [hao]
      clear hao
      have hxk := unhide HX _ (List.getElem_mem hlt)
      have HSN := hide (logText_take L k hlt)
      have hsl : S.length ≤ 32 * 4000 := by
        rw [unhide HS]
        have := logText_len (L.take k) (fun x h => unhide HX x (List.mem_of_mem_take h))
        rw [List.length_take] at this; omega
      have htl := loText_len hxk
      have hsz := hbel.size
      generalize L[k] = x at *
      have hB1 := (Below.refl wr.heap.size wr).alloc (Nat.le_refl _) (.cells #[.int .i64 x.count, .int .i64 x.site, .int .i64 x.node.id, .int .i64 x.node.parent, .string (bs x.node.name)] 113)
      have HTX := hide (opText_any x _ hxk (tab_below (unhide HT) (hbel.trans (hB1.mono hsz))))
      have HB1 := hide (hbel.trans (hB1.mono hsz))
      clear hB1 hxk
      have hadd := add_bs S (loText x) (by omega) (by omega)
      have HS2 : Hid (S ++ loText x = logText (L.take (k + 1))) := by apply hide; rw [unhide HSN, unhide HS]
      generalize loText x = tx at *
      go_wp2_with fail
      refine (unhide HTX).mono ?_
      rintro e w2 ⟨rfl, hb2⟩
      have HB2 := hide ((unhide HB1).trans (hb2.mono (unhide HB1).size))
      clear hb2 c0 c1 c2 c3 c4
      go_wp2
      go_roundw
      case rel => exact ⟨k + 1, _, by omega, by go_num, rfl, unhide HB2, HS2⟩
      case measure => simp [intOf]; omega
    · have HE : Hid (logText L = S) := by apply hide; rw [unhide HS, List.take_of_length_le (by omega)]
      go_wp2
      go_ret
      exact ⟨ret_str (by rw [unhide HE]), hbel⟩
set_option maxHeartbeats 1000000 in
theorem logText_any (L : List Lo) (b o : Nat) (ao : Option Addr) (cap : Nat) (w : World) (hlog : w.cell? ⟨b, o, none⟩ = some (.slice ao L.length cap)) (hrow : Row w ao L.length 5 (loCells L)) (hx : ∀ x ∈ L, LoOk x) (hl : L.length ≤ 4000) (htab : Tab w) :
    Calls Tryz.prog 28 #[.pointer (some ⟨b, o, none⟩)] w fun e w' => e = .returned (.string (bs (logText L))) ∧ Below w.heap.size w w' := by
  have HT := hide (opsText_any L ao cap w hrow hx hl htab)
  clear hrow hx htab
  go_enter Tryz.func28, Tryz.ntmps28
  go_wp2_with fail
  refine (unhide HT).mono ?_
  rintro e w1 ⟨rfl, hb1⟩
  go_wp2
  go_ret
  exact ⟨rfl, hb1⟩
set_option maxHeartbeats 1000000 in
theorem log_any (L : List Lo) (b : Nat) (site : Int) (v : Value) (w : World) (hR : Repl w b site v L) (htab : Tab w) :
    Calls Tryz.prog 11 #[.pointer (some ⟨b, 0, none⟩)] w fun e w' => e = .returned (.string (bs (logText L))) ∧ Below w.heap.size w w' := by
  obtain ⟨ao, ca, rfl, hrow⟩ := row_of_owns hR.own
  have HL := hide (logText_any L b 1 ao ca w hR.at'.cell1 hrow hR.ok.2.1 (by have := hR.ok.2.2; omega) htab)
  clear hR hrow htab
  go_enter Tryz.func11, Tryz.ntmps11
  go_wp2_with fail
  refine (unhide HL).mono ?_
  rintro e w1 ⟨rfl, hb1⟩
  go_wp2
  go_ret
  exact ⟨rfl, hb1⟩
end Go.Proofs.YtdcjimlhaklhfabGreatDoor

namespace Go.Proofs.YtdcjimlhaklhfabGreatDoor
open Go.RowKit
/-! Ops that arrive one by one. -/
theorem dec_no : ∀ (f n : Nat), n ≤ f → ∀ x ∈ dec n, x ≠ 59 ∧ x ≠ 32 := by
  intro f
  induction f with
  | zero => intro n h x hx; have : n = 0 := by omega
            subst this; rw [dec_small (by omega)] at hx; simp at hx; subst hx; decide
  | succ f ih =>
    intro n h x hx
    have hd : ∀ k : Nat, k < 10 → (UInt8.ofNat (48 + k % 10) ≠ 59 ∧ UInt8.ofNat (48 + k % 10) ≠ 32) := by decide
    by_cases hn : n < 10
    · rw [dec_small hn] at hx; simp only [List.mem_singleton] at hx; subst hx; exact hd n hn
    · rw [dec_big hn] at hx
      rcases List.mem_append.1 hx with hx | hx
      · exact ih (n / 10) (by omega) x hx
      · simp only [List.mem_singleton] at hx; subst hx
        have := hd (n % 10) (by omega)
        rwa [Nat.mod_mod] at this
theorem ndW_no {n : Nd} (h : NdW n) : ∀ x ∈ n.name, x ≠ 59 ∧ x ≠ 32 := by
  obtain ⟨h1, h2, _, _, hp⟩ := h
  unfold placeB at hp
  split at hp
  · rw [beq_iff_eq] at hp; rw [hp]; intro x hx; simp at hx; subst hx; decide
  · rw [Bool.and_eq_true] at hp
    exact name_no hp.2 (by omega) h2
def loBody (x : Lo) : Str := dec x.count.toNat ++ [32] ++ dec x.site.toNat ++ [32] ++ dec x.node.id.toNat ++ [32] ++ dec x.node.parent.toNat ++ [32] ++ x.node.name
theorem loText_body (x : Lo) : loText x = loBody x ++ [59] := by simp [loText, loBody]
theorem loBody_no {x : Lo} (h : LoOk x) : ∀ c ∈ loBody x, c ≠ 59 := by
  intro c hc
  unfold loBody at hc
  simp only [List.mem_append, List.mem_singleton] at hc
  have d := fun n => dec_no n n (Nat.le_refl _)
  rcases hc with (((((((hc | hc) | hc) | hc) | hc) | hc) | hc) | hc) | hc
  · exact (d _ c hc).1
  · subst hc; decide
  · exact (d _ c hc).1
  · subst hc; decide
  · exact (d _ c hc).1
  · subst hc; decide
  · exact (d _ c hc).1
  · subst hc; decide
  · exact (ndW_no h.2.2.2.2 c hc).1
theorem cut_log : ∀ (L : List Lo), (∀ x ∈ L, LoOk x) → cut (logText L) = L.map loText := by
  intro L
  induction L with
  | nil => intro _; rfl
  | cons x L ih =>
    intro h
    unfold logText
    rw [List.flatMap_cons, loText_body, cut_cons (loBody_no (h x (by simp)))]
    rw [List.map_cons, loText_body]
    congr 1
    exact ih (fun y hy => h y (by simp [hy]))
/-- A list in its order is told by its members. -/
theorem ahead_irrefl (x : Lo) : ahead x x = false := by
  cases h : ahead x x with
  | false => rfl
  | true => rw [ahead_iff] at h; omega
theorem sorted_eq : ∀ (a b : List Lo), Sorted a → Sorted b → (∀ x, x ∈ a ↔ x ∈ b) → a = b := by
  intro a
  induction a with
  | nil =>
    intro b _ _ h
    cases b with
    | nil => rfl
    | cons y b => exact absurd ((h y).2 (by simp)) (by simp)
  | cons x a ih =>
    intro b ha hb h
    cases b with
    | nil => exact absurd ((h x).1 (by simp)) (by simp)
    | cons y b =>
      have ha' := List.pairwise_cons.1 ha
      have hb' := List.pairwise_cons.1 hb
      have hxy : x = y := by
        rcases List.mem_cons.1 ((h x).1 (by simp)) with e | hx
        · exact e
        · rcases List.mem_cons.1 ((h y).2 (by simp)) with e | hy
          · exact e.symm
          · have := ahead_trans (hb'.1 x hx) (ha'.1 y hy)
            rw [ahead_irrefl] at this; cases this
      subst hxy
      congr 1
      refine ih b ha'.2 hb'.2 (fun z => ?_)
      have hz := h z
      simp only [List.mem_cons] at hz
      constructor
      · intro hza
        rcases hz.1 (.inr hza) with e | hzb
        · subst e; have := ha'.1 z hza; rw [ahead_irrefl] at this; cases this
        · exact hzb
      · intro hzb
        rcases hz.2 (.inr hzb) with e | hza
        · subst e; have := hb'.1 z hzb; rw [ahead_irrefl] at this; cases this
        · exact hza
theorem next_mem (L : List Lo) : ∀ (list : List Lo) (x : Lo), x ∈ list.foldl nextS L → x ∈ L ∨ x ∈ list := by
  refine list_snoc_ind (by simp) ?_
  intro list y ih x hx
  rw [List.foldl_append, List.foldl_cons, List.foldl_nil] at hx
  generalize list.foldl nextS L = N at *
  unfold nextS at hx
  split at hx
  · rcases ih x hx with h | h
    · exact .inl h
    · exact .inr (by simp [h])
  · rcases ins_mem.1 hx with h | h
    · exact .inr (by simp [h])
    · rcases ih x h with h | h
      · exact .inl h
      · exact .inr (by simp [h])
/-- No two with one stamp. -/
def Distinct (l : List Lo) : Prop := l.Pairwise (fun a b => sameStamp a b = false)
theorem hasStamp_next (L : List Lo) (y : Lo) (list : List Lo) : hasStamp (list.foldl nextS L) y = (hasStamp L y || hasStamp list y) := by
  rw [next_fresh, hasStamp_joinAll]
  rw [Bool.eq_iff_iff]
  refine list_snoc_ind (P := fun list => (hasStamp L y || hasStamp (fresh L list) y) = true ↔ (hasStamp L y || hasStamp list y) = true) (by simp [fresh]) ?_ list
  intro list x ih
  rw [fresh_snoc]
  have e : hasStamp (list ++ [x]) y = (hasStamp list y || sameStamp x y) := by simp [hasStamp]
  rw [e]
  unfold freshS
  split
  · rename_i hc
    rw [ih]
    constructor
    · intro h; rw [Bool.or_eq_true] at h ⊢; rcases h with h | h
      · exact .inl h
      · exact .inr (by rw [h]; simp)
    · intro h
      rw [Bool.or_eq_true, Bool.or_eq_true] at h
      rcases h with h | h | h
      · rw [h]; simp
      · rw [h]; simp
      · rw [← ih]
        rw [Bool.or_eq_true] at hc
        have tr : ∀ l : List Lo, hasStamp l x = true → hasStamp l y = true := by
          intro l hl
          unfold hasStamp at hl ⊢
          rw [List.any_eq_true] at hl ⊢
          obtain ⟨z, hz, hs⟩ := hl
          refine ⟨z, hz, ?_⟩
          unfold sameStamp at *
          simp only [Bool.and_eq_true, beq_iff_eq] at *
          omega
        rcases hc with hc | hc
        · rw [tr _ hc]; simp
        · rw [tr _ hc]; simp
  · have e2 : hasStamp (fresh L list ++ [x]) y = (hasStamp (fresh L list) y || sameStamp x y) := by simp [hasStamp]
    rw [e2]
    rw [← Bool.or_assoc, ← Bool.or_assoc, Bool.or_eq_true, Bool.or_eq_true (a := hasStamp L y || hasStamp list y), ih]
theorem distinct_next {list : List Lo} (h : Distinct list) : (list.foldl nextS []).length = list.length ∧ Sorted (list.foldl nextS []) ∧ ∀ x, x ∈ list.foldl nextS [] ↔ x ∈ list := by
  revert h
  refine list_snoc_ind (P := fun list => Distinct list → (list.foldl nextS []).length = list.length ∧ Sorted (list.foldl nextS []) ∧ ∀ x, x ∈ list.foldl nextS [] ↔ x ∈ list) (fun _ => ⟨rfl, List.Pairwise.nil, by simp⟩) ?_ list
  intro list x ih h
  have hp := List.pairwise_append.1 h
  obtain ⟨h1, h2, h3⟩ := ih hp.1
  have hno : hasStamp (list.foldl nextS []) x = false := by
    rw [hasStamp_next]
    cases hq : hasStamp list x with
    | false => simp [hasStamp]
    | true =>
      unfold hasStamp at hq
      rw [List.any_eq_true] at hq
      obtain ⟨y, hy, hs⟩ := hq
      rw [hp.2.2 y hy x (by simp)] at hs; cases hs
  rw [List.foldl_append, List.foldl_cons, List.foldl_nil]
  have e : ∀ N : List Lo, hasStamp N x = false → nextS N x = ins x N := fun N hN => by unfold nextS; rw [hN]; simp
  rw [e _ hno]
  refine ⟨by rw [ins_len, h1]; simp, ins_sorted h2 hno, fun y => ?_⟩
  rw [ins_mem, h3]
  simp only [List.mem_append, List.mem_singleton]
  exact Or.comm
/-- Whatever the order, if no two have one stamp: the same log. -/
theorem orders_meet {a b : List Lo} (ha : Distinct a) (hb : Distinct b) (h : ∀ x, x ∈ a ↔ x ∈ b) : a.foldl nextS [] = b.foldl nextS [] := by
  obtain ⟨_, a2, a3⟩ := distinct_next ha
  obtain ⟨_, b2, b3⟩ := distinct_next hb
  exact sorted_eq _ _ a2 b2 (fun x => by rw [a3, b3, h])
/-! A record by itself. -/
theorem cutTo_form (l : Str) : (∀ r ∈ (cutTo l).1, ∃ a : Str, (∀ x ∈ a, x ≠ 59) ∧ r = a ++ [59]) ∧ ∀ x ∈ (cutTo l).2, x ≠ 59 := by
  refine snoc_ind (P := fun l => (∀ r ∈ (cutTo l).1, ∃ a : Str, (∀ x ∈ a, x ≠ 59) ∧ r = a ++ [59]) ∧ ∀ x ∈ (cutTo l).2, x ≠ 59) (by simp [cutTo]) ?_ l
  rintro l c ⟨h1, h2⟩
  rw [cutTo_snoc]; unfold cutStep
  split
  · rename_i e
    refine ⟨fun r hr => ?_, by simp⟩
    rcases List.mem_append.1 hr with hr | hr
    · exact h1 r hr
    · simp only [List.mem_singleton] at hr; exact ⟨_, h2, by rw [hr, e]⟩
  · rename_i e
    refine ⟨h1, fun x hx => ?_⟩
    rcases List.mem_append.1 hx with hx | hx
    · exact h2 x hx
    · simp only [List.mem_singleton] at hx; rw [hx]; exact e
theorem cut_record {l r : Str} (hr : r ∈ cut l) (hb : bodyB r = true) : cut r = [r] := by
  have hf := cutTo_form l
  have key : ∃ a : Str, (∀ x ∈ a, x ≠ 59) ∧ r = a ++ [59] := by
    unfold cut at hr
    split at hr
    · exact hf.1 r hr
    · rcases List.mem_append.1 hr with hr | hr
      · exact hf.1 r hr
      · simp only [List.mem_singleton] at hr
        subst hr
        unfold bodyB at hb
        rw [beq_iff_eq] at hb
        exact absurd rfl (hf.2 59 (List.mem_of_getLast? hb))
  obtain ⟨a, ha, rfl⟩ := key
  have := cut_cons ha []
  rwa [List.append_nil] at this
theorem readOps_at : ∀ (rs : List Str) (list : List Lo), readOps rs = some list → ∀ k (h : k < rs.length) (h' : k < list.length), readOp rs[k] = some list[k] := by
  intro rs
  induction rs with
  | nil => intro list _ k h; simp at h
  | cons r rs ih =>
    intro list h k hk hk'
    rw [readOps] at h
    cases hr : readOp r with
    | none => rw [hr] at h; cases h
    | some x =>
      rw [hr] at h
      cases hl : readOps rs with
      | none => rw [hl] at h; cases h
      | some l' =>
        rw [hl] at h; cases h
        cases k with
        | zero => simpa using hr
        | succ k => simpa using ih l' hl k (by simpa using hk) (by simpa using hk')
theorem readOp_body {r : Str} {x : Lo} (h : readOp r = some x) : bodyB r = true := by
  unfold readOp at h
  cases hb : bodyB r with
  | true => rfl
  | false => rw [hb] at h; cases h
theorem deliver_one {l r : Str} {x : Lo} {Y : List Lo} (hr : r ∈ cut l) (hx : readOp r = some x) (hlen : r.length ≤ 4000) (hfit : (nextS Y x).length ≤ 150) : deliverT Y r = (nextS Y x, (if hasStamp Y x then 0 else 1), 0) := by
  have hc := cut_record hr (readOp_body hx)
  unfold deliverT
  rw [if_neg (by omega), hc]
  have e : readOps [r] = some [x] := by simp [readOps, hx]
  rw [e]
  have f : fresh Y [x] = if hasStamp Y x then [] else [x] := by
    unfold fresh freshS; simp [hasStamp]
  simp only
  unfold nextS at hfit ⊢
  cases hq : hasStamp Y x with
  | true =>
    rw [hq] at hfit f
    simp only [if_true] at hfit f
    rw [f, if_neg (by simp; omega)]; simp [joinAll]
  | false =>
    rw [hq] at hfit f
    simp only [Bool.false_eq_true, if_false] at hfit f
    rw [ins_len] at hfit
    rw [f, if_neg (by simp; omega)]; simp [joinAll]
theorem next_mono (Y : List Lo) (x : Lo) : Y.length ≤ (nextS Y x).length ∧ (nextS Y x).length = Y.length + (if hasStamp Y x then 0 else 1) := by
  unfold nextS
  cases hasStamp Y x <;> simp [ins_len]
theorem fold_mono (L : List Lo) : ∀ (list : List Lo), L.length ≤ (list.foldl nextS L).length := by
  intro list
  induction list generalizing L with
  | nil => exact Nat.le_refl _
  | cons x list ih => rw [List.foldl_cons]; have := ih (nextS L x); have := (next_mono L x).1; omega
/-! The orders. -/
def turnAt (n from' : Nat) (up : Bool) (i : Nat) : Nat := if up then (from' + i) % n else (from' + n - i) % n
def turned (list : List Lo) (from' : Nat) (up : Bool) : List Lo := (List.range list.length).map fun i => list.getD (turnAt list.length from' up i) lo0
theorem turnAt_lt {n from' : Nat} {up : Bool} {i : Nat} (h : 0 < n) : turnAt n from' up i < n := by
  unfold turnAt; split <;> exact Nat.mod_lt _ h
theorem turnAt_inj {n from' : Nat} {up : Bool} {i j : Nat} (hf : from' < n) (hi : i < n) (hj : j < n) (h : turnAt n from' up i = turnAt n from' up j) : i = j := by
  unfold turnAt at h
  cases up with
  | true =>
    simp only [if_true] at h
    by_cases h1 : from' + i < n
    · by_cases h2 : from' + j < n
      · rw [Nat.mod_eq_of_lt h1, Nat.mod_eq_of_lt h2] at h; omega
      · rw [Nat.mod_eq_of_lt h1, Nat.mod_eq_sub_mod (by omega), Nat.mod_eq_of_lt (by omega)] at h; omega
    · by_cases h2 : from' + j < n
      · rw [Nat.mod_eq_of_lt h2, Nat.mod_eq_sub_mod (by omega), Nat.mod_eq_of_lt (by omega)] at h; omega
      · rw [Nat.mod_eq_sub_mod (by omega), Nat.mod_eq_of_lt (by omega), Nat.mod_eq_sub_mod (a := from' + j) (by omega), Nat.mod_eq_of_lt (by omega)] at h; omega
  | false =>
    simp only [Bool.false_eq_true, if_false] at h
    by_cases h1 : from' + n - i < n
    · by_cases h2 : from' + n - j < n
      · rw [Nat.mod_eq_of_lt h1, Nat.mod_eq_of_lt h2] at h; omega
      · rw [Nat.mod_eq_of_lt h1, Nat.mod_eq_sub_mod (by omega), Nat.mod_eq_of_lt (by omega)] at h; omega
    · by_cases h2 : from' + n - j < n
      · rw [Nat.mod_eq_of_lt h2, Nat.mod_eq_sub_mod (by omega), Nat.mod_eq_of_lt (by omega)] at h; omega
      · rw [Nat.mod_eq_sub_mod (by omega), Nat.mod_eq_of_lt (by omega), Nat.mod_eq_sub_mod (a := from' + n - j) (by omega), Nat.mod_eq_of_lt (by omega)] at h; omega
theorem turnAt_surj {n from' : Nat} (up : Bool) {k : Nat} (hf : from' < n) (hk : k < n) : ∃ i, i < n ∧ turnAt n from' up i = k := by
  unfold turnAt
  cases up with
  | true =>
    simp only [if_true]
    by_cases h : from' ≤ k
    · exact ⟨k - from', by omega, by rw [Nat.mod_eq_of_lt (by omega)]; omega⟩
    · exact ⟨k + n - from', by omega, by rw [Nat.mod_eq_sub_mod (by omega), Nat.mod_eq_of_lt (by omega)]; omega⟩
  | false =>
    simp only [Bool.false_eq_true, if_false]
    by_cases h : k ≤ from'
    · exact ⟨from' - k, by omega, by rw [Nat.mod_eq_sub_mod (by omega), Nat.mod_eq_of_lt (by omega)]; omega⟩
    · exact ⟨from' + n - k, by omega, by rw [Nat.mod_eq_of_lt (by omega)]; omega⟩
theorem turned_length (list : List Lo) (from' : Nat) (up : Bool) : (turned list from' up).length = list.length := by simp [turned]
theorem turned_get {list : List Lo} {from' : Nat} {up : Bool} {i : Nat} (h : i < list.length) : (turned list from' up)[i]'(by rw [turned_length]; exact h) = list[turnAt list.length from' up i]'(turnAt_lt (by omega)) := by
  have ht : turnAt list.length from' up i < list.length := turnAt_lt (by omega)
  simp [turned, ht]
theorem turned_id (list : List Lo) : turned list 0 true = list := by
  apply List.ext_getElem (turned_length _ _ _)
  intro i h1 h2
  rw [turned_get h2]
  congr 1
  unfold turnAt; simp only [if_true, Nat.zero_add]; exact Nat.mod_eq_of_lt h2
theorem turned_mem {list : List Lo} {from' : Nat} (up : Bool) (hf : from' < list.length) (x : Lo) : x ∈ turned list from' up ↔ x ∈ list := by
  constructor
  · intro hx
    obtain ⟨i, hi, rfl⟩ := List.mem_iff_getElem.1 hx
    rw [turned_length] at hi
    rw [turned_get hi]; exact List.getElem_mem _
  · intro hx
    obtain ⟨k, hk, rfl⟩ := List.mem_iff_getElem.1 hx
    obtain ⟨i, hi, e⟩ := turnAt_surj up hf hk
    refine List.mem_iff_getElem.2 ⟨i, by rw [turned_length]; exact hi, ?_⟩
    rw [turned_get hi]
    congr 1
theorem sameStamp_comm (x y : Lo) : sameStamp x y = sameStamp y x := by unfold sameStamp; rw [Bool.eq_iff_iff]; simp only [Bool.and_eq_true, beq_iff_eq]; omega
theorem distinct_at {list : List Lo} (h : Distinct list) {i j : Nat} (hi : i < list.length) (hj : j < list.length) (hne : i ≠ j) : sameStamp list[i] list[j] = false := by
  rcases Nat.lt_or_gt_of_ne hne with h1 | h1
  · exact (List.pairwise_iff_getElem.1 h) i j hi hj h1
  · rw [sameStamp_comm]; exact (List.pairwise_iff_getElem.1 h) j i hj hi h1
theorem turned_distinct {list : List Lo} {from' : Nat} (up : Bool) (hf : from' < list.length) (h : Distinct list) : Distinct (turned list from' up) := by
  unfold Distinct
  rw [List.pairwise_iff_getElem]
  intro i j hi hj hij
  rw [turned_length] at hi hj
  rw [turned_get hi, turned_get hj]
  exact distinct_at h _ _ (fun e => by have := turnAt_inj hf hi hj e; omega)
/-- Where one by one leads. -/
theorem turned_end {list : List Lo} {from' : Nat} {up : Bool} (h : (from' = 0 ∧ up = true) ∨ (from' < list.length ∧ Distinct list)) : (turned list from' up).foldl nextS [] = list.foldl nextS [] := by
  rcases h with ⟨rfl, rfl⟩ | ⟨hf, hd⟩
  · rw [turned_id]
  · exact orders_meet (turned_distinct up hf hd) hd (turned_mem up hf)
/-- As many new as ops: no two have one stamp. -/
theorem fresh_all {list : List Lo} (h : (fresh [] list).length = list.length) : Distinct list := by
  have key : ∀ l : List Lo, (fresh [] l).length ≤ l.length ∧ ((fresh [] l).length = l.length → fresh [] l = l) := by
    refine list_snoc_ind ⟨by simp [fresh], fun _ => rfl⟩ ?_
    intro l x ih
    rw [fresh_snoc]
    unfold freshS
    split
    · refine ⟨by simp; have := ih.1; omega, fun e => ?_⟩
      have := ih.1; simp at e; omega
    · refine ⟨by simp; exact ih.1, fun e => ?_⟩
      simp at e; rw [ih.2 e]
  have e := (key list).2 h
  have := (fresh_new [] list).2
  rw [e] at this; exact this
/-- What has been delivered is not new. -/
theorem fresh_none {L list : List Lo} (h : ∀ x ∈ list, hasStamp L x = true) : fresh L list = [] := by
  revert h
  refine list_snoc_ind (P := fun list => (∀ x ∈ list, hasStamp L x = true) → fresh L list = []) (fun _ => rfl) ?_ list
  intro list x ih h
  rw [fresh_snoc, ih (fun y hy => h y (by simp [hy]))]
  unfold freshS; rw [h x (by simp)]; simp
theorem stamp_self (x : Lo) : sameStamp x x = true := by simp [sameStamp]
theorem fold_has (L list : List Lo) : ∀ x ∈ list, hasStamp (list.foldl nextS L) x = true := by
  intro x hx
  rw [hasStamp_next]
  have : hasStamp list x = true := by unfold hasStamp; rw [List.any_eq_true]; exact ⟨x, hx, stamp_self x⟩
  rw [this]; simp
end Go.Proofs.YtdcjimlhaklhfabGreatDoor
