import Derived.Test.YtkahmbpggdneoaaDoorV1
import Derived.Test.YtkahmbpggdneoaaDoorCPure3
namespace Go.Proofs.YtkahmbpggdneoaaDoor
open Go.RowKit
/-! The plan in memory: the tree as it is by now, the goal, the steps done. -/
def planX (g : Tr) (v : Value) : Ext := ⟨treeCells g ++ [v], 97⟩
theorem plan_now {x : Ext} {w : World} {b : Nat} {a : Tr} (h : TreeAt x w b a) : CellsAt w b 0 a := by
  intro j hj; rw [Nat.zero_add]; exact h.cell j hj
theorem plan_goal {w : World} {b : Nat} {a g : Tr} {v : Value} (h : TreeAt (planX g v) w b a) : CellsAt w b 400 g := by
  intro j hj
  rw [cell_of_row w b (400 + j) _ _ (0, 0) h]
  simp only [List.getElem?_toArray, planX]
  rw [List.getElem?_append_right (by rw [treeCells_length]; omega), treeCells_length, List.getElem?_append_left (by rw [treeCells_length]; omega), Nat.add_sub_cancel_left]
theorem plan_done {w : World} {b : Nat} {a g : Tr} {v : Value} (h : TreeAt (planX g v) w b a) : w.cell? ⟨b, 800, none⟩ = some v := by
  rw [cell_of_row w b 800 _ _ (0, 0) h]
  simp only [List.getElem?_toArray, planX]
  rw [List.getElem?_append_right (by rw [treeCells_length]; omega), treeCells_length, List.getElem?_append_right (by rw [treeCells_length]; omega), treeCells_length]; rfl
theorem nd_neq' (m n : Nd) : ((m.id == n.id) && ((m.parent == n.parent) && ((bs m.name).toList == (bs n.name).toList))) = ndEq m n := by
  unfold ndEq; rw [names_eq]
theorem Tryd.tnodeGuard : Tryd.prog.eqGuardType Tryd.prog.depth 56 = false := by kernel_rfl
theorem Tryd.tnodeHeld : Tryd.prog.stoodInHeld 56 = false := by kernel_rfl
theorem tnode_eq_run (m n : Nd) (W : World) : (Op.equalIn 10000 56 (.agg #[.int .i64 m.id, .int .i64 m.parent, .string (bs m.name)]) (.agg #[.int .i64 n.id, .int .i64 n.parent, .string (bs n.name)])).run Tryd.prog W = .ok (ndEq m n) W := by
  rw [run_equalIn_agg W 9999 56 _ _ (by simp [Program.fieldsOf, Tryd.underlying56]) Tryd.tnodeHeld]
  simp [Program.fieldsOf, Tryd.underlying56, Op.eqFields, go_sem]
  rw [← nd_neq']
  by_cases h1 : m.id = n.id <;> by_cases h2 : m.parent = n.parent <;> by_cases h3 : (bs m.name).toList = (bs n.name).toList <;> simp [h1, h2, h3]
def stV (s : St) : Value := .agg #[.int .u8 s.kind.toNat, .int .i64 s.node.id, .int .i64 s.node.parent, .string (bs s.node.name)]
def stZ : St := ⟨0, nd0⟩
def homeV (a g : Tr) (id : Int) : St := (homeS a g id).getD stZ
theorem home_split {a g : Tr} (ha : TrOk a) (hg : TrOk g) (m : Nat) :
    (ndEq ((a m).getD nd0) ((g m).getD nd0) = true ∧ homeS a g m = none) ∨
    (ndEq ((a m).getD nd0) ((g m).getD nd0) = false ∧ (g m).isSome = false ∧ homeS a g m = some ⟨45, ⟨m, 0, []⟩⟩) ∨
    (ndEq ((a m).getD nd0) ((g m).getD nd0) = false ∧ (g m).isSome = true ∧ (a m).isSome = false ∧ homeS a g m = some ⟨43, (g m).getD nd0⟩) ∨
    (ndEq ((a m).getD nd0) ((g m).getD nd0) = false ∧ (g m).isSome = true ∧ (a m).isSome = true ∧ homeS a g m = some ⟨61, (g m).getD nd0⟩) := by
  have hz : ∀ t : Tr, TrOk t → ∀ n, t m = some n → n ≠ nd0 := by
    intro t ht n hn e
    have := ht.2 m n hn
    rw [e] at this
    have h0 : nd0.id = 0 := rfl
    omega
  cases h1 : a m with
  | none =>
    cases h2 : g m with
    | none => exact .inl ⟨ndEq_iff.2 rfl, home_none.2 (by simp [h1, h2])⟩
    | some n =>
      refine .inr (.inr (.inl ⟨?_, rfl, rfl, home_new (by simpa using h1) (by simpa using h2)⟩))
      cases hq : ndEq ((none : Option Nd).getD nd0) ((some n).getD nd0)
      · rfl
      · exact absurd (ndEq_iff.1 hq).symm (hz g hg n h2)
  | some k =>
    cases h2 : g m with
    | none =>
      refine .inr (.inl ⟨?_, rfl, home_del (by simpa using h1) (by simpa using h2)⟩)
      cases hq : ndEq ((some k).getD nd0) ((none : Option Nd).getD nd0)
      · rfl
      · exact absurd (ndEq_iff.1 hq) (hz a ha k h1)
    | some n =>
      cases hq : ndEq k n
      · exact .inr (.inr (.inr ⟨hq, rfl, rfl, home_move (by simpa using h1) (by simpa using h2) (fun e => by have := ndEq_iff.2 e; rw [show ndEq k ((some n).getD nd0) = ndEq k n from rfl, hq] at this; cases this)⟩))
      · exact .inl ⟨hq, home_none.2 (by simp [h1, h2, ndEq_iff.1 hq])⟩
set_option maxHeartbeats 4000000 in
set_option maxRecDepth 100000 in
theorem home_nat (a g : Tr) (b m : Nat) (v : Value) (w : World) (ha : TrOk a) (hg : TrOk g) (hm : m ≤ 99) (hT : TreeAt (planX g v) w b a) :
    Calls Tryd.prog 70 #[.pointer (some ⟨b, 0, none⟩), .int .i64 m] w fun e w' => e = .returned (.tuple #[stV (homeV a g m), .bool (homeS a g m).isSome]) ∧ Below w.heap.size w w' := by
  have hlt := hT.lt
  have HC1 := hide (plan_now hT)
  have HC2 := hide (plan_goal hT)
  have HG1 := hide (fun W (h : Below w.heap.size w W) => get_nat a b 0 m W ha hm ((unhide HC1).below h hlt) (by have := h.size; omega))
  have HG2 := hide (fun W (h : Below w.heap.size w W) => get_nat g b 400 m W hg hm ((unhide HC2).below h hlt) (by have := h.size; omega))
  have HH1 := hide (fun W (h : Below w.heap.size w W) => hasAt_nat a b 0 m W ha hm ((unhide HC1).below h hlt))
  have HH2 := hide (fun W (h : Below w.heap.size w W) => hasAt_nat g b 400 m W hg hm ((unhide HC2).below h hlt))
  have hs := home_split ha hg m
  have HV : Hid (homeV a g m = (homeS a g m).getD stZ) := hide rfl
  clear hT ha hg HC1 HC2
  generalize homeV a g m = hv at *
  generalize homeS a g m = hS at *
  have hne := tnode_eq_run ((a m).getD nd0) ((g m).getD nd0)
  have hgd := Tryd.tnodeGuard
  rcases hs with ⟨q1, q2⟩ | ⟨q1, q3, q2⟩ | ⟨q1, q3, q4, q2⟩ | ⟨q1, q3, q4, q2⟩
  · rw [q1] at hne
    subst q2
    generalize (a m).getD nd0 = A0 at *
    generalize (g m).getD nd0 = G0 at *
    go_enter Tryd.func70, Tryd.ntmps70
    go_wp2_with fail
    have hb1 := (Below.refl w.heap.size w).alloc (Nat.le_refl _) (.cells #[.int .u8 0, .int .i64 0, .int .i64 0, .string ByteArray.empty] 83)
    refine (unhide HG1 _ hb1).mono ?_
    rintro e w1 ⟨rfl, hb2⟩
    have hz2 := hb2.size
    simp at hz2
    have hb3 : Below w.heap.size w w1 := hb1.trans (hb2.mono (by simp))
    have hb5 := hb3.alloc (by omega) (.cells #[.int .i64 A0.id, .int .i64 A0.parent, .string (bs A0.name)] 56)
    go_wp2_with fail
    refine (unhide HG2 _ hb5).mono ?_
    rintro e w2 ⟨rfl, hb4⟩
    have hz4 := hb4.size
    simp at hz4
    have hc1 : ∀ o, w2.cell? ⟨w1.heap.size, o, none⟩ = _ := fun o => hb4.cell (p := ⟨w1.heap.size, o, none⟩) (by simp)
    have hb6 := hb2.trans ((((Below.refl _ w1).alloc (Nat.le_refl _) _).trans (hb4.mono (by simp))).mono hb2.size)
    have hc2 : ∀ o, w2.cell? ⟨w.heap.size, o, none⟩ = _ := fun o => hb6.cell (p := ⟨w.heap.size, o, none⟩) (by simp)
    have hf2 : ∀ o, w2.frozen? ⟨w.heap.size, o, none⟩ = _ := fun o => hb6.frozen (p := ⟨w.heap.size, o, none⟩) (by simp)
    have hb7 : Below w.heap.size w w2 := hb5.trans (hb4.mono (by simp; omega))
    have hn1 : ¬ w.heap.size = w2.heap.size := by omega
    have hn2 : ¬ w1.heap.size = w2.heap.size := by omega
    have hn3 : w.heap.size < w2.heap.size := by omega
    have hn4 : w1.heap.size < w2.heap.size := by omega
    have HB7 := hide hb7
    clear hb1 hb2 hb3 hb4 hb5 hb6 hb7
    go_wp2
    refine bodyPost_ret (v := .tuple #[.agg #[.int .u8 0, .int .i64 0, .int .i64 0, .string ByteArray.empty], .bool false]) (by simp [results, Tryd.results70, go_sem, hc2, hn3]; rfl) rfl ⟨by rw [unhide HV]; rfl, ?_⟩
    exact (((((unhide HB7).setCell (Nat.le_refl _) _).setCell (Nat.le_refl _) _).setCell (Nat.le_refl _) _).setCell (Nat.le_refl _) _).alloc (by simp; omega) _
  · rw [q1] at hne
    rw [q3] at HH2
    subst q2
    generalize (a m).getD nd0 = A0 at *
    generalize (g m).getD nd0 = G0 at *
    go_enter Tryd.func70, Tryd.ntmps70
    go_wp2_with fail
    have hb1 := (Below.refl w.heap.size w).alloc (Nat.le_refl _) (.cells #[.int .u8 0, .int .i64 0, .int .i64 0, .string ByteArray.empty] 83)
    refine (unhide HG1 _ hb1).mono ?_
    rintro e w1 ⟨rfl, hb2⟩
    have hz2 := hb2.size
    simp at hz2
    have hb3 : Below w.heap.size w w1 := hb1.trans (hb2.mono (by simp))
    have hb5 := hb3.alloc (by omega) (.cells #[.int .i64 A0.id, .int .i64 A0.parent, .string (bs A0.name)] 56)
    go_wp2_with fail
    refine (unhide HG2 _ hb5).mono ?_
    rintro e w2 ⟨rfl, hb4⟩
    have hz4 := hb4.size
    simp at hz4
    have hc1 : ∀ o, w2.cell? ⟨w1.heap.size, o, none⟩ = _ := fun o => hb4.cell (p := ⟨w1.heap.size, o, none⟩) (by simp)
    have hb6 := hb2.trans ((((Below.refl _ w1).alloc (Nat.le_refl _) _).trans (hb4.mono (by simp))).mono hb2.size)
    have hc2 : ∀ o, w2.cell? ⟨w.heap.size, o, none⟩ = _ := fun o => hb6.cell (p := ⟨w.heap.size, o, none⟩) (by simp)
    have hf2 : ∀ o, w2.frozen? ⟨w.heap.size, o, none⟩ = _ := fun o => hb6.frozen (p := ⟨w.heap.size, o, none⟩) (by simp)
    have hb7 : Below w.heap.size w w2 := hb5.trans (hb4.mono (by simp; omega))
    have hn1 : ¬ w.heap.size = w2.heap.size := by omega
    have hn2 : ¬ w1.heap.size = w2.heap.size := by omega
    have hn3 : w.heap.size < w2.heap.size := by omega
    have hn4 : w1.heap.size < w2.heap.size := by omega
    have HB7 := hide hb7
    clear hb1 hb2 hb3 hb4 hb5 hb6 hb7
    go_wp2_with fail
    refine (unhide HH2 _ ((unhide HB7).alloc (by omega) _)).mono ?_
    rintro e w3 ⟨rfl, rfl⟩
    go_wp2
    refine bodyPost_ret (v := .tuple #[.agg #[.int .u8 45, .int .i64 m, .int .i64 0, .string ByteArray.empty], .bool true]) (by simp [results, Tryd.results70, go_sem, hc2, hn3]; rfl) rfl ⟨by rw [unhide HV]; rfl, ?_⟩
    exact (((((unhide HB7).setCell (Nat.le_refl _) _).setCell (Nat.le_refl _) _).setCell (Nat.le_refl _) _).setCell (Nat.le_refl _) _).alloc (by simp; omega) _
  · rw [q1] at hne
    rw [q3] at HH2
    rw [q4] at HH1
    subst q2
    generalize (a m).getD nd0 = A0 at *
    generalize (g m).getD nd0 = G0 at *
    go_enter Tryd.func70, Tryd.ntmps70
    go_wp2_with fail
    have hb1 := (Below.refl w.heap.size w).alloc (Nat.le_refl _) (.cells #[.int .u8 0, .int .i64 0, .int .i64 0, .string ByteArray.empty] 83)
    refine (unhide HG1 _ hb1).mono ?_
    rintro e w1 ⟨rfl, hb2⟩
    have hz2 := hb2.size
    simp at hz2
    have hb3 : Below w.heap.size w w1 := hb1.trans (hb2.mono (by simp))
    have hb5 := hb3.alloc (by omega) (.cells #[.int .i64 A0.id, .int .i64 A0.parent, .string (bs A0.name)] 56)
    go_wp2_with fail
    refine (unhide HG2 _ hb5).mono ?_
    rintro e w2 ⟨rfl, hb4⟩
    have hz4 := hb4.size
    simp at hz4
    have hc1 : ∀ o, w2.cell? ⟨w1.heap.size, o, none⟩ = _ := fun o => hb4.cell (p := ⟨w1.heap.size, o, none⟩) (by simp)
    have hb6 := hb2.trans ((((Below.refl _ w1).alloc (Nat.le_refl _) _).trans (hb4.mono (by simp))).mono hb2.size)
    have hc2 : ∀ o, w2.cell? ⟨w.heap.size, o, none⟩ = _ := fun o => hb6.cell (p := ⟨w.heap.size, o, none⟩) (by simp)
    have hf2 : ∀ o, w2.frozen? ⟨w.heap.size, o, none⟩ = _ := fun o => hb6.frozen (p := ⟨w.heap.size, o, none⟩) (by simp)
    have hb7 : Below w.heap.size w w2 := hb5.trans (hb4.mono (by simp; omega))
    have hn1 : ¬ w.heap.size = w2.heap.size := by omega
    have hn2 : ¬ w1.heap.size = w2.heap.size := by omega
    have hn3 : w.heap.size < w2.heap.size := by omega
    have hn4 : w1.heap.size < w2.heap.size := by omega
    have HB7 := hide hb7
    clear hb1 hb2 hb3 hb4 hb5 hb6 hb7
    go_wp2_with fail
    refine (unhide HH2 _ ((unhide HB7).alloc (by omega) _)).mono ?_
    rintro e w3 ⟨rfl, rfl⟩
    go_wp2_with fail
    refine (unhide HH1 _ ((unhide HB7).alloc (by omega) _)).mono ?_
    rintro e w3 ⟨rfl, rfl⟩
    go_wp2
    refine bodyPost_ret (v := .tuple #[.agg #[.int .u8 43, .int .i64 G0.id, .int .i64 G0.parent, .string (bs G0.name)], .bool true]) (by simp [results, Tryd.results70, go_sem, hc2, hn3]) rfl ⟨by rw [unhide HV]; rfl, ?_⟩
    exact (((((unhide HB7).setCell (Nat.le_refl _) _).setCell (Nat.le_refl _) _).setCell (Nat.le_refl _) _).setCell (Nat.le_refl _) _).alloc (by simp; omega) _
  · rw [q1] at hne
    rw [q3] at HH2
    rw [q4] at HH1
    subst q2
    generalize (a m).getD nd0 = A0 at *
    generalize (g m).getD nd0 = G0 at *
    go_enter Tryd.func70, Tryd.ntmps70
    go_wp2_with fail
    have hb1 := (Below.refl w.heap.size w).alloc (Nat.le_refl _) (.cells #[.int .u8 0, .int .i64 0, .int .i64 0, .string ByteArray.empty] 83)
    refine (unhide HG1 _ hb1).mono ?_
    rintro e w1 ⟨rfl, hb2⟩
    have hz2 := hb2.size
    simp at hz2
    have hb3 : Below w.heap.size w w1 := hb1.trans (hb2.mono (by simp))
    have hb5 := hb3.alloc (by omega) (.cells #[.int .i64 A0.id, .int .i64 A0.parent, .string (bs A0.name)] 56)
    go_wp2_with fail
    refine (unhide HG2 _ hb5).mono ?_
    rintro e w2 ⟨rfl, hb4⟩
    have hz4 := hb4.size
    simp at hz4
    have hc1 : ∀ o, w2.cell? ⟨w1.heap.size, o, none⟩ = _ := fun o => hb4.cell (p := ⟨w1.heap.size, o, none⟩) (by simp)
    have hb6 := hb2.trans ((((Below.refl _ w1).alloc (Nat.le_refl _) _).trans (hb4.mono (by simp))).mono hb2.size)
    have hc2 : ∀ o, w2.cell? ⟨w.heap.size, o, none⟩ = _ := fun o => hb6.cell (p := ⟨w.heap.size, o, none⟩) (by simp)
    have hf2 : ∀ o, w2.frozen? ⟨w.heap.size, o, none⟩ = _ := fun o => hb6.frozen (p := ⟨w.heap.size, o, none⟩) (by simp)
    have hb7 : Below w.heap.size w w2 := hb5.trans (hb4.mono (by simp; omega))
    have hn1 : ¬ w.heap.size = w2.heap.size := by omega
    have hn2 : ¬ w1.heap.size = w2.heap.size := by omega
    have hn3 : w.heap.size < w2.heap.size := by omega
    have hn4 : w1.heap.size < w2.heap.size := by omega
    have HB7 := hide hb7
    clear hb1 hb2 hb3 hb4 hb5 hb6 hb7
    go_wp2_with fail
    refine (unhide HH2 _ ((unhide HB7).alloc (by omega) _)).mono ?_
    rintro e w3 ⟨rfl, rfl⟩
    go_wp2_with fail
    refine (unhide HH1 _ ((unhide HB7).alloc (by omega) _)).mono ?_
    rintro e w3 ⟨rfl, rfl⟩
    go_wp2
    refine bodyPost_ret (v := .tuple #[.agg #[.int .u8 61, .int .i64 G0.id, .int .i64 G0.parent, .string (bs G0.name)], .bool true]) (by simp [results, Tryd.results70, go_sem, hc2, hn3]) rfl ⟨by rw [unhide HV]; rfl, ?_⟩
    exact (((((unhide HB7).setCell (Nat.le_refl _) _).setCell (Nat.le_refl _) _).setCell (Nat.le_refl _) _).setCell (Nat.le_refl _) _).alloc (by simp; omega) _
end Go.Proofs.YtkahmbpggdneoaaDoor
