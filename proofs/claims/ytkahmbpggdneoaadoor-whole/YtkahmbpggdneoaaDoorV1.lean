import Derived.Test.YtkahmbpggdneoaaDoorW16
import Derived.Laws.StructEq
namespace Go.Proofs.YtkahmbpggdneoaaDoor
open Go.RowKit
/-! A tree that lies somewhere in a block. -/
def CellsAt (w : World) (b o : Nat) (t : Tr) : Prop := ∀ j, j < 400 → w.cell? ⟨b, o + j, none⟩ = (treeCells t)[j]?
theorem CellsAt.below {w w' : World} {b o : Nat} {t : Tr} (h : CellsAt w b o t) (hb : Below w.heap.size w w') (hlt : b < w.heap.size) : CellsAt w' b o t := by
  intro j hj
  rw [hb.cell (p := ⟨b, o + j, none⟩) hlt]; exact h j hj
theorem CellsAt.node {w : World} {b o : Nat} {t : Tr} (h : CellsAt w b o t) (m : Nat) (hm : m < 100) :
    w.cell? ⟨b, o + 100 + m * 3, none⟩ = some (.int .i64 ((t m).getD nd0).id) ∧ w.cell? ⟨b, o + 100 + m * 3 + 1, none⟩ = some (.int .i64 ((t m).getD nd0).parent) ∧ w.cell? ⟨b, o + 100 + m * 3 + 2, none⟩ = some (.string (bs ((t m).getD nd0).name)) := by
  obtain ⟨t1, t2, t3⟩ := treeCells_node t m hm
  refine ⟨?_, ?_, ?_⟩
  · rw [show o + 100 + m * 3 = o + (100 + m * 3) by omega, h _ (by omega), t1]
  · rw [show o + 100 + m * 3 + 1 = o + (100 + m * 3 + 1) by omega, h _ (by omega), t2]
  · rw [show o + 100 + m * 3 + 2 = o + (100 + m * 3 + 2) by omega, h _ (by omega), t3]
set_option maxHeartbeats 400000 in
theorem hasAt_nat (t : Tr) (b o m : Nat) (w : World) (ht : TrOk t) (hm : m ≤ 99) (hT : CellsAt w b o t) :
    Calls Tryd.prog 77 #[.pointer (some ⟨b, o, none⟩), .int .i64 m] w fun e w' => e = .returned (.bool (t m).isSome) ∧ w' = w := by
  have hcell := (hT m (by omega)).trans (treeCells_here t m (by omega))
  have HT0 := hide ht.1
  clear hT ht
  by_cases h1 : 1 ≤ m
  · go_enter Tryd.func77, Tryd.ntmps77
    go_wp2
    go_ret
    exact ⟨rfl, rfl⟩
  · have hm0 : m = 0 := by omega
    subst hm0
    go_enter Tryd.func77, Tryd.ntmps77
    go_wp2
    go_ret
    exact ⟨by rw [unhide HT0]; rfl, rfl⟩
def ndV (n : Nd) : Value := .agg #[.int .i64 n.id, .int .i64 n.parent, .string (bs n.name)]
set_option maxHeartbeats 400000 in
theorem get_nat (t : Tr) (b o m : Nat) (w : World) (ht : TrOk t) (hm : m ≤ 99) (hT : CellsAt w b o t) (hlt : b < w.heap.size) :
    Calls Tryd.prog 87 #[.pointer (some ⟨b, o, none⟩), .int .i64 m] w fun e w' => e = .returned (.agg #[.int .i64 ((t m).getD nd0).id, .int .i64 ((t m).getD nd0).parent, .string (bs ((t m).getD nd0).name)]) ∧ Below w.heap.size w w' := by
  have hb1 := (Below.refl w.heap.size w).alloc (Nat.le_refl _) (.cells #[.int .i64 0, .int .i64 0, .string ByteArray.empty] 56)
  have HH := hide (hasAt_nat t b o m _ ht hm (hT.below hb1 hlt))
  obtain ⟨c1, c2, c3⟩ := hT.node m (by omega)
  have hne : ¬ b = w.heap.size := by omega
  have hm0 : (0 : Int) ≤ m := by omega
  have HB := hide hb1
  clear hT ht hb1
  cases hq : t m with
  | none =>
    rw [hq] at HH c1 c2 c3
    clear hq
    go_enter Tryd.func87, Tryd.ntmps87
    go_wp2_with fail
    refine (unhide HH).mono ?_
    rintro e w1 ⟨rfl, rfl⟩
    go_wp2
    refine bodyPost_ret (v := .agg #[.int .i64 0, .int .i64 0, .string ByteArray.empty]) (by simp [results, Tryd.results87, go_sem]; rfl) rfl ⟨rfl, ?_⟩
    exact unhide HB
  | some n =>
    rw [hq] at HH c1 c2 c3
    clear hq
    go_enter Tryd.func87, Tryd.ntmps87
    go_wp2_with fail
    refine (unhide HH).mono ?_
    rintro e w1 ⟨rfl, rfl⟩
    go_wp2
    refine bodyPost_ret (v := .agg #[.int .i64 n.id, .int .i64 n.parent, .string (bs n.name)]) (by simp [results, Tryd.results87, go_sem]) rfl ⟨rfl, ?_⟩
    exact (Below.refl w.heap.size w).alloc (Nat.le_refl _) _
end Go.Proofs.YtkahmbpggdneoaaDoor
