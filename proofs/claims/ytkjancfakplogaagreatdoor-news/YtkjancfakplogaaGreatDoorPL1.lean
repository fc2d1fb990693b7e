import Derived.Test.YtkjancfakplogaaGreatDoorW6
import Derived.Test.YtkjancfakplogaaGreatDoorLPure3
namespace Go.Proofs.YtkjancfakplogaaGreatDoor
open Go.RowKit
def loC (x : Lo) : List Value := [.int .i64 x.count, .int .i64 x.site, .int .i64 x.node.id, .int .i64 x.node.parent, .string (bs x.node.name)]
def loCells (l : List Lo) : List Value := l.flatMap loC
def loAt (l : List Lo) (i : Nat) : Lo := l.getD i lo0
theorem loCells_length (l : List Lo) : (loCells l).length = l.length * 5 := by
  induction l with
  | nil => rfl
  | cons n l ih => simp only [loCells, List.flatMap_cons, List.length_append] at ih ⊢; simp [loC] at ih ⊢; omega
theorem loCells_snoc (l : List Lo) (n : Lo) : loCells (l ++ [n]) = loCells l ++ loC n := by simp [loCells]
theorem loCells_app (l m : List Lo) : loCells (l ++ m) = loCells l ++ loCells m := by simp [loCells]
theorem loCells_at (l : List Lo) (k j : Nat) (h : k < l.length) (hj : j < 5) : (loCells l)[k * 5 + j]? = (loC l[k])[j]? := by
  induction l generalizing k with
  | nil => simp at h
  | cons n l ih =>
    have e : loCells (n :: l) = loC n ++ loCells l := rfl
    have hl : (loC n).length = 5 := rfl
    cases k with
    | zero => rw [e, List.getElem?_append_left (by rw [hl]; omega)]; simp
    | succ k =>
      rw [e, show (k + 1) * 5 + j = 5 + (k * 5 + j) by omega, List.getElem?_append_right (by rw [hl]; omega), hl, show 5 + (k * 5 + j) - 5 = k * 5 + j by omega]
      rw [ih k (by simpa using h)]; rfl
theorem lo_cells {w wr : World} {ao : Option Addr} {l : List Lo} {B : Nat} (hrow : Row w ao l.length 5 (loCells l)) (hb : Below B w wr) (hB : w.heap.size ≤ B) {k : Nat} (hk : k < l.length) :
    ∃ g, ao = some ⟨g, 0, none⟩ ∧ g < w.heap.size ∧ wr.cell? ⟨g, k * 5, none⟩ = some (.int .i64 (l[k]).count) ∧ wr.cell? ⟨g, k * 5 + 1, none⟩ = some (.int .i64 (l[k]).site) ∧ wr.cell? ⟨g, k * 5 + 2, none⟩ = some (.int .i64 (l[k]).node.id) ∧ wr.cell? ⟨g, k * 5 + 3, none⟩ = some (.int .i64 (l[k]).node.parent) ∧ wr.cell? ⟨g, k * 5 + 4, none⟩ = some (.string (bs (l[k]).node.name)) := by
  obtain ⟨g, h1, h2, h3⟩ := hrow.2 (by omega)
  have key : ∀ j u, j < 5 → (loC l[k])[j]? = some u → wr.cell? ⟨g, k * 5 + j, none⟩ = some u := by
    intro j u hj hu
    rw [hb.cell (p := ⟨g, _, none⟩) (by show g < B; omega)]
    exact h3 _ _ (by rw [loCells_at l k j hk hj]; exact hu)
  exact ⟨g, h1, h2, key 0 _ (by omega) rfl, key 1 _ (by omega) rfl, key 2 _ (by omega) rfl, key 3 _ (by omega) rfl, key 4 _ (by omega) rfl⟩
set_option maxHeartbeats 1000000 in
theorem isAhead_any (a b c d : Int) (s : ByteArray) (a' b' c' d' : Int) (s' : ByteArray) (w : World) :
    Calls Tryz.prog 111 #[.agg #[.int .i64 a, .int .i64 b, .int .i64 c, .int .i64 d, .string s], .agg #[.int .i64 a', .int .i64 b', .int .i64 c', .int .i64 d', .string s']] w fun e w' => e = .returned (.bool (if a ≠ a' then decide (a < a') else decide (b < b'))) ∧ Below w.heap.size w w' := by
  by_cases h : a = a'
  · subst h
    go_enter Tryz.func111, Tryz.ntmps111
    go_wp2
    go_ret
    exact ⟨ret_bool (by simp), ((Below.refl _ _).alloc (Nat.le_refl _) _).alloc (by simp) _⟩
  · have hne : (a != a') = true := by simpa using h
    have H := hide h; clear h
    go_enter Tryz.func111, Tryz.ntmps111
    go_wp2
    go_ret
    exact ⟨ret_bool (by first | rfl | rw [if_pos (unhide H)]), ((Below.refl _ _).alloc (Nat.le_refl _) _).alloc (by simp) _⟩
theorem hasStamp_take {l : List Lo} {x : Lo} {k : Nat} (h : ∀ j (hj : j < l.length), j < k → sameStamp l[j] x = false) (hk : ¬ k < l.length) : hasStamp l x = false := by
  unfold hasStamp; rw [List.any_eq_false]
  intro y hy
  obtain ⟨j, hj, rfl⟩ := List.mem_iff_getElem.1 hy
  rw [h j hj (by omega)]; simp
set_option maxHeartbeats 2000000 in
theorem hasStamp_any (l : List Lo) (x : Lo) (ao : Option Addr) (cap : Nat) (w : World) (hrow : Row w ao l.length 5 (loCells l)) (hl : l.length ≤ 8000) :
    Calls Tryz.prog 110 #[.slice ao l.length cap, .agg #[.int .i64 x.count, .int .i64 x.site, .int .i64 x.node.id, .int .i64 x.node.parent, .string (bs x.node.name)]] w fun e w' => e = .returned (.bool (hasStamp l x)) ∧ Below w.heap.size w w' := by
  have HROW := hide hrow; clear hrow
  go_enter Tryz.func110, Tryz.ntmps110
  go_wp2
  go_loopw [9] (fun i wr => ∃ k : Nat, k ≤ l.length ∧ i = .int .i64 k ∧ Below w.heap.size w wr ∧ w.heap.size < wr.heap.size ∧ wr.cell? ⟨w.heap.size, 0, none⟩ = some (.int .i64 x.count) ∧ wr.cell? ⟨w.heap.size, 1, none⟩ = some (.int .i64 x.site) ∧ Hid (∀ j (hj : j < l.length), j < k → sameStamp l[j] x = false)) (fun i _ => l.length - (intOf i).toNat)
  case atStart =>
    refine ⟨0, Nat.zero_le _, rfl, (Below.refl _ _).alloc (Nat.le_refl _) _, by simp, ?_, ?_, hide (fun j hj h => by omega)⟩
    · simp [go_sem]
    · simp [go_sem]
  case round =>
    obtain ⟨k, hk, rfl, hbel, hsz, x0, x1, HN⟩ := hrel
    by_cases hlt : k < l.length
    · obtain ⟨g, hao, hg, c0, c1, c2, c3, c4⟩ := lo_cells (unhide HROW) hbel (Nat.le_refl _) hlt
      rw [hao]
      clear hao
      have HS : Hid (sameStamp l[k] x = ((l[k]).count == x.count && (l[k]).site == x.site)) := hide rfl
      have HB := hide (hbel.alloc (by omega) (.cells #[.int .i64 (l[k]).count, .int .i64 (l[k]).site, .int .i64 (l[k]).node.id, .int .i64 (l[k]).node.parent, .string (bs (l[k]).node.name)] 139))
      have HNX : Hid (sameStamp l[k] x = false → ∀ j (hj : j < l.length), j < k + 1 → sameStamp l[j] x = false) := by
        apply hide; intro hh j hj hjk
        by_cases e : j = k
        · subst e; exact hh
        · exact unhide HN j hj (by omega)
      have HYS : Hid (sameStamp l[k] x = true → hasStamp l x = true) := by
        apply hide; intro hh; unfold hasStamp; rw [List.any_eq_true]; exact ⟨l[k], List.getElem_mem hlt, hh⟩
      generalize l[k] = y at *
      cases h0 : (y.count == x.count)
      · have HF := hide (unhide HNX (by rw [unhide HS, h0]; rfl))
        go_wp2
        go_roundw
        case rel => exact ⟨k + 1, by omega, by go_num, unhide HB, by simp; omega, by simpa [go_sem, hsz] using x0, by simpa [go_sem, hsz] using x1, HF⟩
        case measure => simp [intOf]; omega
      · cases h1 : (y.site == x.site)
        · have HF := hide (unhide HNX (by rw [unhide HS, h0, h1]; rfl))
          go_wp2
          go_roundw
          case rel => exact ⟨k + 1, by omega, by go_num, unhide HB, by simp; omega, by simpa [go_sem, hsz] using x0, by simpa [go_sem, hsz] using x1, HF⟩
          case measure => simp [intOf]; omega
        · have HF := hide (unhide HYS (by rw [unhide HS, h0, h1]; rfl))
          go_wp2
          go_ret
          exact ⟨ret_bool (unhide HF).symm, unhide HB⟩
    · have HF := hide (hasStamp_take (unhide HN) hlt)
      go_wp2
      go_ret
      exact ⟨ret_bool (unhide HF).symm, hbel⟩
end Go.Proofs.YtkjancfakplogaaGreatDoor
