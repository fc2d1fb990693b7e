import Derived.Test.YtkahmbpggdneoaaDoorM1
import Derived.RegionTactic
import Derived.BigRegion
import Derived.Deep.MidRow
import Derived.Deep.Upon
namespace Go.Proofs.YtkahmbpggdneoaaDoor
open Go.RowKit
/-- The first number from lo on, below n, that has p; else n. -/
def scan (p : Nat → Bool) (lo n : Nat) : Nat := ((List.range' lo (n - lo)).find? p).getD n
theorem scan_hit {p : Nat → Bool} {lo n k : Nat} (h1 : lo ≤ k) (h2 : k < n) (hp : p k = true) (hno : ∀ j, lo ≤ j → j < k → p j = false) : scan p lo n = k := by
  unfold scan
  have : (List.range' lo (n - lo)).find? p = some k := by
    rw [List.find?_range'_eq_some]
    exact ⟨hp, by rw [List.mem_range'_1]; omega, fun j hj hk => by simp [hno j hj hk]⟩
  rw [this]; rfl
theorem scan_none {p : Nat → Bool} {lo n : Nat} (hno : ∀ j, lo ≤ j → j < n → p j = false) : scan p lo n = n := by
  unfold scan
  have : (List.range' lo (n - lo)).find? p = none := by
    rw [List.find?_eq_none]
    intro x hx
    rw [List.mem_range'_1] at hx
    simp [hno x hx.1 (by omega)]
  rw [this]; rfl
theorem scan_le (p : Nat → Bool) (lo n : Nat) : scan p lo n ≤ n := by
  unfold scan
  cases h : (List.range' lo (n - lo)).find? p with
  | none => simp
  | some k => have := List.mem_of_find?_eq_some h; rw [List.mem_range'_1] at this; simp; omega
def ndAt (ns : List Nd) (i : Nat) : Nd := ns.getD i nd0
theorem ndAt_get (ns : List Nd) (i : Nat) (h : i < ns.length) : ndAt ns i = ns[i] := by simp [ndAt, h]
def unordered (ns : List Nd) (i : Nat) : Bool := decide ((ndAt ns i).id ≤ (ndAt ns (i - 1)).id)
abbrev Tr := Nat → Option Nd
def TrOk (t : Tr) : Prop := t 0 = none ∧ ∀ i n, t i = some n → n.id = i ∧ 1 ≤ i ∧ i ≤ 99 ∧ 0 ≤ n.parent ∧ n.parent ≤ 99 ∧ isName n.name n.id = true
def trPut (t : Tr) (n : Nd) : Tr := fun i => if (i : Int) = n.id then some n else t i
def tr0 : Tr := fun _ => none
def gather (ns : List Nd) : Tr := ns.foldl trPut tr0
theorem trOk_0 : TrOk tr0 := ⟨rfl, fun i n h => by cases h⟩
theorem trOk_put {t : Tr} (h : TrOk t) {n : Nd} (hn : 1 ≤ n.id ∧ n.id ≤ 99 ∧ 0 ≤ n.parent ∧ n.parent ≤ 99 ∧ isName n.name n.id = true) : TrOk (trPut t n) := by
  refine ⟨?_, fun i m hm => ?_⟩
  · unfold trPut; rw [if_neg (by omega)]; exact h.1
  · unfold trPut at hm
    split at hm
    · cases hm; rename_i e; exact ⟨e.symm, by omega, by omega, hn.2.2.1, hn.2.2.2.1, hn.2.2.2.2⟩
    · exact h.2 i m hm
def hasT (t : Tr) (id : Int) : Bool := (t id.toNat).isSome
def isParentT (t : Tr) (id : Int) : Bool := id == 0 || (id % 2 == 0 && hasT t id)
def meetsF (t : Tr) : Nat → Int → Int → Bool
  | 0, _, _ => false
  | f + 1, id, goal => if id = goal then true else match t id.toNat with
    | none => false
    | some n => meetsF t f n.parent goal
def meetsT (t : Tr) (id goal : Int) : Bool := meetsF t 100 id goal
def orphan (t : Tr) (ns : List Nd) (i : Nat) : Bool := !isParentT t (ndAt ns i).parent
def looped (t : Tr) (ns : List Nd) (i : Nat) : Bool := !meetsT t (ndAt ns i).id 0
def samePlace (ns : List Nd) (i j : Nat) : Bool := ((ndAt ns j).parent == (ndAt ns i).parent) && ((ndAt ns j).name == (ndAt ns i).name)
def twice (ns : List Nd) (i : Nat) : Bool := decide (∃ j, j < i ∧ samePlace ns i j = true)
/-- What Read answers: the error and the place. -/
def misplaced (t : Tr) (ns : List Nd) : Int × Nat :=
  if scan (orphan t ns) 0 ns.length < ns.length then (4, scan (orphan t ns) 0 ns.length)
  else if scan (looped t ns) 0 ns.length < ns.length then (5, scan (looped t ns) 0 ns.length)
  else if scan (twice ns) 0 ns.length < ns.length then (6, scan (twice ns) 0 ns.length)
  else (0, 0)
def checkT (l : Str) : Int × Nat :=
  if 4000 < l.length then (1, 0) else
  let rs := cut l
  let ns := readNodes rs
  if ns.length < rs.length then (2, ns.length) else
  if scan (unordered ns) 1 ns.length < ns.length then (3, scan (unordered ns) 1 ns.length) else
  misplaced (gather ns) ns
theorem gather_ok_aux : ∀ (ns : List Nd) (t : Tr), TrOk t → (∀ n ∈ ns, 1 ≤ n.id ∧ n.id ≤ 99 ∧ 0 ≤ n.parent ∧ n.parent ≤ 99 ∧ isName n.name n.id = true) → TrOk (ns.foldl trPut t) := by
  intro ns
  induction ns with
  | nil => intro t h _; exact h
  | cons n ns ih => intro t h hn; exact ih _ (trOk_put h (hn n (by simp))) (fun m hm => hn m (by simp [hm]))
theorem gather_ok (l : List Str) : TrOk (gather (readNodes l)) := gather_ok_aux _ _ trOk_0 (readNodes_bd l)
end Go.Proofs.YtkahmbpggdneoaaDoor

namespace Go.Proofs.YtkahmbpggdneoaaDoor
open Go.RowKit
/-! The tree in memory. -/
def treeCells (t : Tr) : List Value := (List.range 100).map (fun i => .bool (t i).isSome) ++ ndCells ((List.range 100).map fun i => (t i).getD nd0)
theorem treeCells_length (t : Tr) : (treeCells t).length = 400 := by simp [treeCells, ndCells_length]
theorem treeCells_here (t : Tr) (i : Nat) (h : i < 100) : (treeCells t)[i]? = some (.bool (t i).isSome) := by
  unfold treeCells; rw [List.getElem?_append_left (by simpa using h)]; simp [h]
theorem treeCells_node (t : Tr) (i : Nat) (h : i < 100) : (treeCells t)[100 + i * 3]? = some (.int .i64 ((t i).getD nd0).id) ∧ (treeCells t)[100 + i * 3 + 1]? = some (.int .i64 ((t i).getD nd0).parent) ∧ (treeCells t)[100 + i * 3 + 2]? = some (.string (bs ((t i).getD nd0).name)) := by
  have := ndCells_get ((List.range 100).map fun i => (t i).getD nd0) i (by simpa using h)
  simp only [List.getElem_map, List.getElem_range] at this
  unfold treeCells
  refine ⟨?_, ?_, ?_⟩
  · rw [List.getElem?_append_right (by rw [List.length_map, List.length_range]; omega)]; simpa [Nat.add_sub_cancel_left] using this.1
  · rw [List.getElem?_append_right (by rw [List.length_map, List.length_range]; omega)]; simpa [Nat.add_assoc, Nat.add_sub_cancel_left] using this.2.1
  · rw [List.getElem?_append_right (by rw [List.length_map, List.length_range]; omega)]; simpa [Nat.add_assoc, Nat.add_sub_cancel_left] using this.2.2
/-- What lies behind the tree in its block, and the block's type. -/
structure Ext where
  rest : List Value
  ty : TypeId
def ext0 : Ext := ⟨[], 59⟩
def TreeAt (x : Ext) (w : World) (b : Nat) (t : Tr) : Prop := w.heap[b]? = some (.cells (treeCells t ++ x.rest).toArray x.ty (0, 0))
theorem TreeAt.cell {x : Ext} {w : World} {b : Nat} {t : Tr} (h : TreeAt x w b t) (j : Nat) (hj : j < 400 := by omega) : w.cell? ⟨b, j, none⟩ = (treeCells t)[j]? := by
  rw [cell_of_row w b j _ _ (0, 0) h]; simp only [List.getElem?_toArray]; rw [List.getElem?_append_left (by rw [treeCells_length]; exact hj)]
theorem TreeAt.here {x : Ext} {w : World} {b : Nat} {t : Tr} (h : TreeAt x w b t) (i : Nat) (hi : i < 100) : w.cell? ⟨b, i, none⟩ = some (.bool (t i).isSome) := by rw [h.cell i, treeCells_here t i hi]
theorem TreeAt.lt {x : Ext} {w : World} {b : Nat} {t : Tr} (h : TreeAt x w b t) : b < w.heap.size := lt_of_block h
theorem TreeAt.below {x : Ext} {w w' : World} {b : Nat} {t : Tr} (h : TreeAt x w b t) (hb : Below w.heap.size w w') : TreeAt x w' b t := by
  unfold TreeAt; rw [hb.block b h.lt]; exact h
theorem TreeAt.drewN {x : Ext} {w : World} {b : Nat} {t : Tr} (h : TreeAt x w b t) (n : Nat) : TreeAt x (w.drewN n) b t := h
set_option maxHeartbeats 400000 in
theorem has_nat {x : Ext} (t : Tr) (b m : Nat) (w : World) (ht : TrOk t) (hm : m ≤ 99) (hT : TreeAt x w b t) :
    Calls Tryd.prog 77 #[.pointer (some ⟨b, 0, none⟩), .int .i64 m] w fun e w' => e = .returned (.bool (t m).isSome) ∧ w' = w := by
  have hcell := hT.here m (by omega)
  have HT0 := hide ht.1
  clear hT ht
  by_cases h1 : 1 ≤ m
  · go_enter Tryd.func77, Tryd.ntmps77
    go_wp2
    go_ret
    exact ⟨rfl, rfl⟩
  · have hm0 : m = 0 := by omega
    subst hm0
    go_enter Tryd.func77, Tryd.ntmps77
    go_wp2
    go_ret
    exact ⟨by rw [unhide HT0]; rfl, rfl⟩
theorem has_any {x : Ext} (t : Tr) (b : Nat) (id : Int) (w : World) (ht : TrOk t) (h0 : 0 ≤ id) (h1 : id ≤ 99) (hT : TreeAt x w b t) :
    Calls Tryd.prog 77 #[.pointer (some ⟨b, 0, none⟩), .int .i64 id] w fun e w' => e = .returned (.bool (hasT t id)) ∧ w' = w := by
  obtain ⟨m, rfl⟩ := Int.eq_ofNat_of_zero_le h0
  exact has_nat t b m w ht (by omega) hT
set_option maxHeartbeats 400000 in
theorem isParent_any {x : Ext} (t : Tr) (b : Nat) (id : Int) (w : World) (ht : TrOk t) (h0 : 0 ≤ id) (h1 : id ≤ 99) (hT : TreeAt x w b t) :
    Calls Tryd.prog 75 #[.pointer (some ⟨b, 0, none⟩), .int .i64 id] w fun e w' => e = .returned (.bool (isParentT t id)) ∧ w' = w := by
  have HH := hide (has_any t b id w ht h0 h1 hT)
  have HF := hide (isFolder_any id w h0 (by omega))
  have HP : Hid (isParentT t id = (id == 0 || (id % 2 == 0 && hasT t id))) := hide rfl
  clear ht hT
  generalize hasT t id = r at *
  by_cases hz : id = 0
  · subst hz
    go_enter Tryd.func75, Tryd.ntmps75
    go_wp2
    go_ret
    exact ⟨ret_bool (by rw [unhide HP]; rfl), rfl⟩
  · have hz' : (id == 0) = false := by simpa using hz
    by_cases he : id % 2 = 0
    · have he' : (id % 2 == 0) = true := by simpa using he
      have HE := hide he; clear he
      have HZ := hide hz'
      rw [he'] at HF
      go_enter Tryd.func75, Tryd.ntmps75
      go_wp2_with (first | (go_at_call 91; refine (unhide HF).mono ?_; rintro e w' ⟨rfl, rfl⟩) | (go_at_call 77; refine (unhide HH).mono ?_; rintro e w' ⟨rfl, rfl⟩))
      go_ret
      exact ⟨ret_bool (by rw [unhide HP, unhide HZ, show (id % 2 == 0) = true by simpa using unhide HE]; rfl), rfl⟩
    · have he' : (id % 2 == 0) = false := by simpa using he
      have HE := hide he; clear he
      have HZ := hide hz'
      rw [he'] at HF
      go_enter Tryd.func75, Tryd.ntmps75
      go_wp2_with (first | (go_at_call 91; refine (unhide HF).mono ?_; rintro e w' ⟨rfl, rfl⟩) | (go_at_call 77; refine (unhide HH).mono ?_; rintro e w' ⟨rfl, rfl⟩))
      go_ret
      exact ⟨ret_bool (by rw [unhide HP, unhide HZ, show (id % 2 == 0) = false by simpa using unhide HE]; rfl), rfl⟩
theorem meetsF_hit (t : Tr) (f : Nat) (id : Int) : meetsF t (f + 1) id id = true := by simp [meetsF]
theorem meetsF_none {t : Tr} {f : Nat} {id goal : Int} (h : ¬ id = goal) (hn : t id.toNat = none) : meetsF t (f + 1) id goal = false := by simp [meetsF, h, hn]
theorem meetsF_some {t : Tr} {f : Nat} {id goal : Int} {n : Nd} (h : ¬ id = goal) (hn : t id.toNat = some n) : meetsF t (f + 1) id goal = meetsF t f n.parent goal := by simp [meetsF, h, hn]
set_option maxHeartbeats 1000000 in
theorem meets_any {x : Ext} (t : Tr) (b : Nat) (id goal : Int) (w : World) (ht : TrOk t) (h0 : 0 ≤ id) (h1 : id ≤ 99) (hT : TreeAt x w b t) :
    Calls Tryd.prog 76 #[.pointer (some ⟨b, 0, none⟩), .int .i64 id, .int .i64 goal] w fun e w' => e = .returned (.bool (meetsT t id goal)) ∧ w' = w := by
  have HO := hide ht
  have HT := hide hT
  clear ht hT
  have HM : Hid (meetsT t id goal = meetsF t 100 id goal) := hide rfl
  generalize meetsT t id goal = M at *
  go_enter Tryd.func76, Tryd.ntmps76
  go_wp2
  go_loop [7, 8] (fun d i => ∃ k : Nat, ∃ m : Int, k ≤ 100 ∧ i = .int .i64 k ∧ d = .int .i64 m ∧ 0 ≤ m ∧ m ≤ 99 ∧ Hid (M = meetsF t (100 - k) m goal)) (fun _ i => 101 - (intOf i).toNat)
  case atStart => exact ⟨0, id, by omega, rfl, rfl, h0, h1, HM⟩
  case round =>
    obtain ⟨k, m, hk, rfl, rfl, hm0, hm1, HI⟩ := hrel
    by_cases hlt : k ≤ 99
    · have hf : 100 - k = (99 - k) + 1 := by omega
      have HI2 : Hid (M = meetsF t ((99 - k) + 1) m goal) := by apply hide; rw [← hf]; exact unhide HI
      clear hf HI HM
      by_cases hg : m = goal
      · subst hg
        have hM := unhide HI2
        rw [meetsF_hit] at hM
        have HMt := hide hM; clear hM
        go_wp2
        go_ret
        exact ⟨ret_bool (unhide HMt).symm, rfl⟩
      · have hg' : (m == goal) = false := by simpa using hg
        obtain ⟨mn, rfl⟩ := Int.eq_ofNat_of_zero_le hm0
        have HH := hide (has_nat t b mn w (unhide HO) (by omega) (unhide HT))
        cases hn : t mn with
        | none =>
          have HMf := hide ((unhide HI2).trans (meetsF_none hg (by simpa using hn)))
          rw [hn] at HH
          clear hn
          go_wp2_with (go_at_call 77; refine (unhide HH).mono ?_; rintro e w' ⟨rfl, rfl⟩)
          go_ret
          exact ⟨ret_bool (unhide HMf).symm, rfl⟩
        | some n =>
          have HMf := hide ((unhide HI2).trans (meetsF_some hg (by simpa using hn)))
          have hb := (unhide HO).2 mn n hn
          have hcell := (unhide HT).cell (100 + mn * 3 + 1)
          rw [(treeCells_node t mn (by omega)).2.1, hn] at hcell
          rw [hn] at HH
          have hp0 : 0 ≤ n.parent := hb.2.2.2.1
          have hp1 : n.parent ≤ 99 := hb.2.2.2.2.1
          clear hn hb
          go_wp2_with (go_at_call 77; refine (unhide HH).mono ?_; rintro e w' ⟨rfl, rfl⟩)
          go_round
          case rel => exact ⟨k + 1, n.parent, by omega, by go_num, rfl, hp0, hp1, by apply hide; rw [show 100 - (k + 1) = 99 - k by omega]; exact unhide HMf⟩
          case measure => simp [intOf]; omega
    · have HMf : Hid (M = false) := by apply hide; rw [unhide HI, show 100 - k = 0 by omega]; rfl
      go_wp2
      go_ret
      exact ⟨ret_bool (unhide HMf).symm, rfl⟩
/-- put -/
theorem treeCells_put (t : Tr) (n : Nd) (m : Nat) (hm : n.id = m) (h : m < 100) :
    ((((treeCells t).set m (.bool true)).set (100 + m * 3) (.int .i64 n.id)).set (100 + m * 3 + 1) (.int .i64 n.parent)).set (100 + m * 3 + 2) (.string (bs n.name)) = treeCells (trPut t n) := by
  apply List.ext_getElem?
  intro j
  simp only [List.getElem?_set, List.length_set, treeCells_length]
  by_cases hj : j < 100
  · rw [treeCells_here _ j hj, treeCells_here _ j hj]
    rw [if_neg (by omega), if_neg (by omega), if_neg (by omega)]
    unfold trPut
    by_cases e : m = j
    · subst e; rw [if_pos rfl, if_pos (by omega), if_pos (by omega)]; rfl
    · rw [if_neg e, if_neg (by omega)]
  · by_cases hj4 : j < 400
    · obtain ⟨i, r, hi, hr, rfl⟩ : ∃ i r, i < 100 ∧ r < 3 ∧ j = 100 + i * 3 + r := ⟨(j - 100) / 3, (j - 100) % 3, by omega, by omega, by omega⟩
      have ht := treeCells_node t i hi
      have hp := treeCells_node (trPut t n) i hi
      by_cases e : m = i
      · subst e
        have e1 : trPut t n m = some n := by unfold trPut; rw [if_pos hm.symm]
        rw [e1] at hp
        match r, hr with
        | 0, _ => rw [if_neg (by omega), if_neg (by omega), if_pos (by omega), if_pos (by omega)]; simpa using hp.1.symm
        | 1, _ => rw [if_neg (by omega), if_pos (by omega), if_pos (by omega)]; simpa using hp.2.1.symm
        | 2, _ => rw [if_pos (by omega), if_pos (by omega)]; simpa using hp.2.2.symm
      · have e1 : trPut t n i = t i := by unfold trPut; rw [if_neg (by omega)]
        rw [e1] at hp
        rw [if_neg (by omega), if_neg (by omega), if_neg (by omega), if_neg (by omega)]
        match r, hr with
        | 0, _ => exact ht.1.trans hp.1.symm
        | 1, _ => exact ht.2.1.trans hp.2.1.symm
        | 2, _ => exact ht.2.2.trans hp.2.2.symm
    · rw [if_neg (by omega), if_neg (by omega), if_neg (by omega), if_neg (by omega), List.getElem?_eq_none (by rw [treeCells_length]; omega), List.getElem?_eq_none (by rw [treeCells_length]; omega)]
end Go.Proofs.YtkahmbpggdneoaaDoor

namespace Go.Proofs.YtkahmbpggdneoaaDoor
open Go.RowKit
theorem TreeAt.free {x : Ext} {w : World} {b : Nat} {t : Tr} (h : TreeAt x w b t) (j : Nat) : w.frozen? ⟨b, j, none⟩ = false := by
  simp [World.frozen?, show w.heap[b]? = _ from h]
theorem TreeAt.set {w : World} {b : Nat} {cs r : List Value} {ty : TypeId} {j : Nat} {v : Value} (hj : j < cs.length) (h : w.heap[b]? = some (.cells (cs ++ r).toArray ty (0, 0))) : (w.setCell ⟨b, j, none⟩ v).heap[b]? = some (.cells (cs.set j v ++ r).toArray ty (0, 0)) := by
  rw [heap_setCell_same w b j _ _ v h, ← List.set_append_left _ _ hj]; simp
theorem put_world {x : Ext} {w : World} {t : Tr} {b m : Nat} {parent : Int} {name : Str} (hm : m ≤ 99) (hT : TreeAt x w b t) (o : Obj) :
    TreeAt x ((((((w.setCell ⟨b, m, none⟩ (.bool true)).setCell ⟨b, 100 + m * 3, none⟩ (.int .i64 m)).setCell ⟨b, 100 + m * 3 + 1, none⟩ (.int .i64 parent)).setCell ⟨b, 100 + m * 3 + 2, none⟩ (.string (bs name))).alloc o).drew.drew) b (trPut t ⟨m, parent, name⟩) ∧
    w.grownBy ((((((w.setCell ⟨b, m, none⟩ (.bool true)).setCell ⟨b, 100 + m * 3, none⟩ (.int .i64 m)).setCell ⟨b, 100 + m * 3 + 1, none⟩ (.int .i64 parent)).setCell ⟨b, 100 + m * 3 + 2, none⟩ (.string (bs name))).alloc o).drew.drew) (some b) := by
  have hlt := hT.lt
  constructor
  · unfold TreeAt
    rw [heap_drew, heap_drew, Below.heap_alloc _ _ _ (by simp; exact hlt), ← treeCells_put t ⟨m, parent, name⟩ m rfl (by omega)]
    have hl := treeCells_length t
    exact TreeAt.set (by simp only [List.length_set]; omega) (TreeAt.set (by simp only [List.length_set]; omega) (TreeAt.set (by simp only [List.length_set]; omega) (TreeAt.set (by omega) hT)))
  · refine ⟨rfl, rfl, rfl, by simp [heap_drew], fun k hk hne => ?_⟩
    have hne' : k ≠ b := fun e => hne (by rw [e])
    rw [heap_drew, heap_drew, Below.heap_alloc _ _ _ (by simp; exact hk)]
    rw [heap_setCell_other _ _ _ _ hne', heap_setCell_other _ _ _ _ hne', heap_setCell_other _ _ _ _ hne', heap_setCell_other _ _ _ _ hne']
set_option maxHeartbeats 1000000 in
theorem put_nat {x : Ext} (t : Tr) (b m : Nat) (parent : Int) (name : Str) (w : World) (hm1 : 1 ≤ m) (hm : m ≤ 99) (hT : TreeAt x w b t) :
    Calls Tryd.prog 56 #[.pointer (some ⟨b, 0, none⟩), .agg #[.int .i64 m, .int .i64 parent, .string (bs name)]] w fun e w' => e = .returned (.tuple #[]) ∧ TreeAt x w' b (trPut t ⟨m, parent, name⟩) ∧ w.grownBy w' (some b) := by
  have hlt := hT.lt
  have c0 : w.cell? ⟨b, m, none⟩ = some (.bool (t m).isSome) := hT.here m (by omega)
  have c1 := (hT.cell (100 + m * 3)).trans (treeCells_node t m (by omega)).1
  have c2 := (hT.cell (100 + m * 3 + 1)).trans (treeCells_node t m (by omega)).2.1
  have c3 := (hT.cell (100 + m * 3 + 2)).trans (treeCells_node t m (by omega)).2.2
  have f0 : ∀ j, w.frozen? ⟨b, j, none⟩ = false := hT.free
  have hne : ¬ b = w.heap.size := by omega
  have hm0 : (0 : Int) ≤ m := by omega
  have HT := hide hT
  clear hT
  go_enter Tryd.func56, Tryd.ntmps56
  go_wp2
  go_region
  all_goals go_wp2
  all_goals go_region
  all_goals go_end0
  exact ⟨rfl, put_world hm (unhide HT) _⟩
theorem put_any {x : Ext} (t : Tr) (b : Nat) (n : Nd) (w : World) (hn : 1 ≤ n.id) (hn' : n.id ≤ 99) (hT : TreeAt x w b t) :
    Calls Tryd.prog 56 #[.pointer (some ⟨b, 0, none⟩), .agg #[.int .i64 n.id, .int .i64 n.parent, .string (bs n.name)]] w fun e w' => e = .returned (.tuple #[]) ∧ TreeAt x w' b (trPut t n) ∧ w.grownBy w' (some b) := by
  obtain ⟨id, parent, name⟩ := n
  obtain ⟨m, hm⟩ := Int.eq_ofNat_of_zero_le (show 0 ≤ id by simp at hn; omega)
  simp only at hm hn hn' ⊢
  subst hm
  exact put_nat t b m parent name w (by omega) (by omega) hT
theorem zeroTree : Tryd.zeroCells59 = (treeCells tr0).toArray := by kernel_rfl
theorem nd_cells {w wr : World} {ao : Option Addr} {ns : List Nd} (hrow : Row w ao ns.length 3 (ndCells ns)) (hb : Below w.heap.size w wr) {k : Nat} (hk : k < ns.length) :
    ∃ g, ao = some ⟨g, 0, none⟩ ∧ g < w.heap.size ∧ wr.cell? ⟨g, k * 3, none⟩ = some (.int .i64 (ns[k]).id) ∧ wr.cell? ⟨g, k * 3 + 1, none⟩ = some (.int .i64 (ns[k]).parent) ∧ wr.cell? ⟨g, k * 3 + 2, none⟩ = some (.string (bs (ns[k]).name)) := by
  obtain ⟨g, h1, h2, h3⟩ := hrow.2 (by omega)
  have := ndCells_get ns k hk
  refine ⟨g, h1, h2, ?_, ?_, ?_⟩
  · rw [hb.cell (p := ⟨g, _, none⟩) h2]; exact h3 _ _ this.1
  · rw [hb.cell (p := ⟨g, _, none⟩) h2]; exact h3 _ _ this.2.1
  · rw [hb.cell (p := ⟨g, _, none⟩) h2]; exact h3 _ _ this.2.2
theorem treeAt_grown {x : Ext} {w w' : World} {b c : Nat} {t : Tr} (h : TreeAt x w b t) (hg : w.grownBy w' (some c)) (hne : b ≠ c) : TreeAt x w' b t := by
  unfold TreeAt; rw [hg.block b h.lt (fun e => hne (by cases e; rfl))]; exact h
theorem fold_snoc (ns : List Nd) (k : Nat) (h : k < ns.length) : (ns.take (k + 1)).foldl trPut tr0 = trPut ((ns.take k).foldl trPut tr0) ns[k] := by
  rw [List.take_succ_eq_append_getElem h, List.foldl_append]; rfl
theorem treeAt_range {x : Ext} {w : World} {b : Nat} {t : Tr} (h : TreeAt x w b t) : w.rangeAt b 0 (treeCells t) := by
  intro j v hv
  have hj : j < 400 := by
    rw [← treeCells_length t]
    rcases Nat.lt_or_ge j (treeCells t).length with hh | hh
    · exact hh
    · rw [List.getElem?_eq_none hh] at hv; cases hv
  rw [Nat.zero_add, h.cell j hj]; exact hv
theorem treeAt_there {x : Ext} {w : World} {b : Nat} {t : Tr} (h : TreeAt x w b t) (t' : Tr) : w.there b 0 (treeCells t').toArray.size := by
  intro j hj
  have hj' : j < 400 := by simpa [treeCells_length] using hj
  refine ⟨?_, h.free _⟩
  rw [Nat.zero_add, h.cell j hj', List.getElem?_eq_getElem (by rw [treeCells_length]; exact hj')]; rfl
theorem treeSize0 : (Tryd.prog.info? 59).map (·.size) = some 400 := by kernel_rfl
theorem treeSize (t : Tr) : (Tryd.prog.info? 59).map (·.size) = some (treeCells t).length := by rw [treeCells_length]; exact treeSize0
theorem treeSize' (t : Tr) : (Tryd.prog.info? 59).map (·.size) = some (treeCells t).toArray.size := by rw [List.size_toArray]; exact treeSize t
theorem treeOne (t : Tr) : (treeCells t).toArray.all (·.oneCell') = true := by
  apply all_oneCell_toArray
  intro v hv
  unfold treeCells at hv
  rcases List.mem_append.1 hv with hv | hv
  · obtain ⟨i, _, rfl⟩ := List.mem_map.1 hv; rfl
  · unfold ndCells at hv
    obtain ⟨n, _, hn⟩ := List.mem_flatMap.1 hv
    simp [ndC] at hn
    rcases hn with rfl | rfl | rfl <;> rfl
theorem size_setCells (b : Nat) : ∀ (vs : List Value) (o : Nat) (w : World), (w.setCells b o vs).heap.size = w.heap.size ∧ (w.setCells b o vs).tape = w.tape
  | [], _, _ => ⟨rfl, rfl⟩
  | v :: vs, o, w => by
    have := size_setCells b vs (o + 1) (w.setCell ⟨b, o, none⟩ v)
    exact ⟨this.1.trans (by simp), this.2⟩
theorem below_setCells {B : Nat} {w wr : World} (hb : Below B w wr) {g : Nat} (hg : B ≤ g) (hB : B ≤ wr.heap.size) (o : Nat) (vs : List Value) : Below B w (wr.setCells g o vs) :=
  hb.trans ⟨World.os_setCells _ _ _ _, (size_setCells g vs o wr).2, World.output_setCells _ _ _ _, by rw [(size_setCells g vs o wr).1]; omega, fun k hk => World.heap_setCells_other _ _ _ _ (by omega) (by omega)⟩
set_option maxHeartbeats 1000000 in
theorem gather_any (ns : List Nd) (ao : Option Addr) (cap : Nat) (w : World) (hrow : Row w ao ns.length 3 (ndCells ns)) (hb : ∀ n ∈ ns, 1 ≤ n.id ∧ n.id ≤ 99) (hl : ns.length ≤ 4000) :
    Calls Tryd.prog 40 #[.slice ao ns.length cap] w fun e w' => e = .returned (.agg (treeCells (gather ns)).toArray) ∧ Below w.heap.size w w' := by
  have HROW := hide hrow; clear hrow
  have HB := hide hb; clear hb
  have HZ := hide zeroTree
  go_enter Tryd.func40, Tryd.ntmps40
  go_wp2
  go_loopw [8] (fun i wr => ∃ k : Nat, k ≤ ns.length ∧ i = .int .i64 k ∧ Below w.heap.size w wr ∧ Hid (TreeAt ext0 wr (w.heap.size + 1) ((ns.take k).foldl trPut tr0)) ∧ Hid (TreeAt ext0 wr w.heap.size tr0)) (fun i _ => ns.length - (intOf i).toNat)
  case atStart =>
    refine ⟨0, Nat.zero_le _, rfl, ((Below.refl _ _).alloc (Nat.le_refl _) _).alloc (by simp) _, ?_, ?_⟩
    · apply hide; unfold TreeAt ext0; rw [unhide HZ]; simpa using heap_alloc_new (w.alloc (.cells (treeCells tr0).toArray 59)) (.cells (treeCells tr0).toArray 59)
    · apply hide; unfold TreeAt ext0; rw [unhide HZ, Below.heap_alloc _ _ _ (by simp)]; simpa using heap_alloc_new w (.cells (treeCells tr0).toArray 59)
  case round =>
    obtain ⟨k, hk, rfl, hbel, HT1, HT0⟩ := hrel
    by_cases hlt : k < ns.length
    · obtain ⟨g, hao, hg, c0, c1, c2⟩ := nd_cells (unhide HROW) hbel hlt
      rw [hao]
      have hn := unhide HB _ (List.getElem_mem hlt)
      have HS := hide (fold_snoc ns k hlt)
      have hsz := hbel.size
      clear hao
      generalize ns[k] = nd at *
      go_wp2_with fail
      refine (put_any _ _ nd _ hn.1 hn.2 ((unhide HT1).below ((Below.refl _ _).alloc (Nat.le_refl _) _))).mono ?_
      rintro e w2 ⟨rfl, hT2, hg2⟩
      have HT2 : Hid (TreeAt ext0 w2 (w.heap.size + 1) ((ns.take (k + 1)).foldl trPut tr0)) := by apply hide; rw [unhide HS]; exact hT2
      have HT02 : Hid (TreeAt ext0 w2 w.heap.size tr0) := hide (treeAt_grown ((unhide HT0).below ((Below.refl _ _).alloc (Nat.le_refl _) _)) hg2 (by omega))
      have hb2 : Below w.heap.size w w2 := (hbel.alloc hsz _).grown hg2 (by simp; omega) (fun k hk => by cases hk; omega)
      clear hT2 hg2 c0 c1 c2 hbel
      go_wp2
      go_roundw
      case rel => exact ⟨k + 1, by omega, by go_num, hb2, HT2, HT02⟩
      case measure => simp [intOf]; omega
    · have HE : Hid (gather ns = (ns.take k).foldl trPut tr0) := by apply hide; rw [List.take_of_length_le (by omega)]; rfl
      generalize (ns.take k).foldl trPut tr0 = T at *
      have hRange : wr.rangeAt (w.heap.size + 1) 0 (treeCells T) := treeAt_range (unhide HT1)
      have hThere : wr.there w.heap.size 0 (treeCells T).toArray.size := treeAt_there (unhide HT0) T
      have HR := hide hRange; clear hRange
      have HTH := hide hThere; clear hThere
      go_wp2_with (first
        | (refine wpList_load_mid (by rfl) 59 (.tmp 3) (by rfl) (w.heap.size + 1) 0 (by rfl) (treeCells T) _ (unhide HR) Tryd.underlying59 (by rfl) (treeSize T) ?_)
        | (refine wpList_store_mid (by rfl) 59 (.tmp 2) (.tmp 15) (by rfl) w.heap.size 0 (treeCells T).toArray (by rfl) (by rfl) (unhide HTH) (treeSize' T) (treeOne T) ?_))
      have hr := World.rangeAt_setCells_same wr w.heap.size 0 (treeCells T) (by have := unhide HTH; rwa [List.size_toArray] at this)
      refine bodyPost_ret (v := .agg (treeCells T).toArray) (by simp [results, Tryd.results40, Act.put, asAddr, run_loadVar_mid _ _ _ _ _ _ hr Tryd.underlying59 rfl (treeSize T)]) rfl ⟨by rw [unhide HE], ?_⟩
      exact below_setCells hbel (Nat.le_refl _) hbel.size _ _
end Go.Proofs.YtkahmbpggdneoaaDoor

namespace Go.Proofs.YtkahmbpggdneoaaDoor
open Go.RowKit
def NoIn (p : Nat → Bool) (lo k : Nat) : Prop := ∀ j, lo ≤ j → j < k → p j = false
theorem noIn_succ {p : Nat → Bool} {lo k : Nat} (h : NoIn p lo k) (hp : p k = false) : NoIn p lo (k + 1) := by
  intro j h1 h2
  by_cases e : j = k
  · subst e; exact hp
  · exact h j h1 (by omega)
theorem drew2 (w : World) (a b : Nat) : ∃ n, (w.drewN a).drewN b = w.drewN n := ⟨a + b, by simp [World.drewN, Nat.add_assoc]⟩
set_option maxHeartbeats 1000000 in
theorem unordered_any (ns : List Nd) (ao : Option Addr) (cap : Nat) (w : World) (hrow : Row w ao ns.length 3 (ndCells ns)) (hl : ns.length ≤ 4000) :
    Calls Tryd.prog 39 #[.slice ao ns.length cap] w fun e w' => e = .returned (.int .i64 (scan (unordered ns) 1 ns.length)) ∧ ∃ n, w' = w.drewN n := by
  have HROW := hide hrow; clear hrow
  go_enter Tryd.func39, Tryd.ntmps39
  go_wp2
  go_loopw [3] (fun i wr => ∃ k nq : Nat, 1 ≤ k ∧ (k ≤ ns.length ∨ k = 1) ∧ i = .int .i64 k ∧ wr = w.drewN nq ∧ Hid (NoIn (unordered ns) 1 k)) (fun i _ => ns.length - (intOf i).toNat)
  case atStart => exact ⟨1, 0, Nat.le_refl _, .inr rfl, rfl, rfl, hide (fun j h1 h2 => by omega)⟩
  case round =>
    obtain ⟨k, nq, hk1, hk, rfl, rfl, HN⟩ := hrel
    by_cases hlt : k < ns.length
    · obtain ⟨j, rfl⟩ : ∃ j, k = j + 1 := ⟨k - 1, by omega⟩
      have HB := hide (Below.refl w.heap.size w)
      obtain ⟨g, hao, hg, c0, _, _⟩ := nd_cells (unhide HROW) (unhide HB) hlt
      obtain ⟨g', hao', _, d0, _, _⟩ := nd_cells (unhide HROW) (unhide HB) (show j < ns.length by omega)
      rw [hao] at hao'
      have hgg : g = g' := by cases hao'; rfl
      subst hgg
      rw [hao]
      have HU : Hid (unordered ns (j + 1) = decide ((ns[j + 1]).id ≤ (ns[j]).id)) := by
        apply hide; unfold unordered; rw [ndAt_get _ _ hlt, show j + 1 - 1 = j from rfl, ndAt_get _ _ (by omega)]
      clear hao hao' HB
      have hj0 : (0 : Int) ≤ j := by omega
      have hj1 : (j : Int) + 1 < ns.length := by omega
      have hj2 : (j : Int) < ns.length := by omega
      have hj3 : (0 : Int) ≤ (j : Int) + 1 := by omega
      have hj4 : ((j : Int) + 1).toNat = j + 1 := by omega
      by_cases hle : (ns[j + 1]).id ≤ (ns[j]).id
      · have HS : Hid (scan (unordered ns) 1 ns.length = j + 1) := hide (scan_hit (by omega) hlt (by rw [unhide HU]; simpa using hle) (unhide HN))
        go_wp2
        go_quiet (fail)
        go_wp2
        go_ret
        exact ⟨ret_int (by rw [unhide HS]), drew2 _ _ _⟩
      · have HN2 := hide (noIn_succ (unhide HN) (by rw [unhide HU]; simpa using hle))
        go_wp2
        go_quiet (fail)
        go_wp2
        go_roundw
        case rel => exact ⟨j + 1 + 1, _, by omega, by omega, by go_num, rfl, HN2⟩
        case measure => simp [intOf]; omega
    · have HS : Hid (scan (unordered ns) 1 ns.length = ns.length) := hide (scan_none (fun j h1 h2 => unhide HN j h1 (by omega)))
      go_wp2
      go_ret
      exact ⟨ret_int (by rw [unhide HS]), _, rfl⟩
set_option maxHeartbeats 1000000 in
theorem orphan_any {x : Ext} (t : Tr) (b : Nat) (ns : List Nd) (ao : Option Addr) (cap : Nat) (w : World) (ht : TrOk t) (hT : TreeAt x w b t) (hrow : Row w ao ns.length 3 (ndCells ns)) (hn : ∀ n ∈ ns, 0 ≤ n.parent ∧ n.parent ≤ 99) (hl : ns.length ≤ 4000) :
    Calls Tryd.prog 57 #[.pointer (some ⟨b, 0, none⟩), .slice ao ns.length cap] w fun e w' => e = .returned (.int .i64 (scan (orphan t ns) 0 ns.length)) ∧ Below w.heap.size w w' := by
  have HROW := hide hrow; clear hrow
  have HT := hide hT; clear hT
  have HO := hide ht; clear ht
  have HNB := hide hn; clear hn
  go_enter Tryd.func57, Tryd.ntmps57
  go_wp2
  go_loopw [9] (fun i wr => ∃ k : Nat, k ≤ ns.length ∧ i = .int .i64 k ∧ Below w.heap.size w wr ∧ Hid (NoIn (orphan t ns) 0 k)) (fun i _ => ns.length - (intOf i).toNat)
  case atStart => exact ⟨0, Nat.zero_le _, rfl, Below.refl _ _, hide (fun j h1 h2 => by omega)⟩
  case round =>
    obtain ⟨k, hk, rfl, hbel, HN⟩ := hrel
    by_cases hlt : k < ns.length
    · obtain ⟨g, hao, hg, c0, c1, c2⟩ := nd_cells (unhide HROW) hbel hlt
      rw [hao]
      have hp := unhide HNB _ (List.getElem_mem hlt)
      have HU : Hid (orphan t ns k = !isParentT t (ns[k]).parent) := by apply hide; unfold orphan; rw [ndAt_get _ _ hlt]
      have hsz := hbel.size
      have HB1 := hide (hbel.alloc hsz (.cells #[.int .i64 (ns[k]).id, .int .i64 (ns[k]).parent, .string (bs (ns[k]).name)] 56))
      have HP := hide (isParent_any t b (ns[k]).parent _ (unhide HO) hp.1 hp.2 ((unhide HT).below (unhide HB1)))
      clear hao hbel
      generalize ns[k] = nd at *
      cases hq : isParentT t nd.parent
      · have HS : Hid (scan (orphan t ns) 0 ns.length = k) := hide (scan_hit (by omega) hlt (by rw [unhide HU, hq]; rfl) (unhide HN))
        rw [hq] at HP
        clear hq
        go_wp2_with fail
        refine (unhide HP).mono ?_
        rintro e w2 ⟨rfl, rfl⟩
        go_wp2
        go_ret
        exact ⟨ret_int (by rw [unhide HS]), unhide HB1⟩
      · have HN2 := hide (noIn_succ (unhide HN) (by rw [unhide HU, hq]; rfl))
        rw [hq] at HP
        clear hq
        go_wp2_with fail
        refine (unhide HP).mono ?_
        rintro e w2 ⟨rfl, rfl⟩
        go_wp2
        go_roundw
        case rel => exact ⟨k + 1, by omega, by go_num, unhide HB1, HN2⟩
        case measure => simp [intOf]; omega
    · have HS : Hid (scan (orphan t ns) 0 ns.length = ns.length) := hide (scan_none (fun j h1 h2 => unhide HN j h1 (by omega)))
      go_wp2
      go_ret
      exact ⟨ret_int (by rw [unhide HS]), hbel⟩
set_option maxHeartbeats 1000000 in
theorem looped_any {x : Ext} (t : Tr) (b : Nat) (ns : List Nd) (ao : Option Addr) (cap : Nat) (w : World) (ht : TrOk t) (hT : TreeAt x w b t) (hrow : Row w ao ns.length 3 (ndCells ns)) (hn : ∀ n ∈ ns, 0 ≤ n.id ∧ n.id ≤ 99) (hl : ns.length ≤ 4000) :
    Calls Tryd.prog 58 #[.pointer (some ⟨b, 0, none⟩), .slice ao ns.length cap] w fun e w' => e = .returned (.int .i64 (scan (looped t ns) 0 ns.length)) ∧ Below w.heap.size w w' := by
  have HROW := hide hrow; clear hrow
  have HT := hide hT; clear hT
  have HO := hide ht; clear ht
  have HNB := hide hn; clear hn
  go_enter Tryd.func58, Tryd.ntmps58
  go_wp2
  go_loopw [9] (fun i wr => ∃ k : Nat, k ≤ ns.length ∧ i = .int .i64 k ∧ Below w.heap.size w wr ∧ Hid (NoIn (looped t ns) 0 k)) (fun i _ => ns.length - (intOf i).toNat)
  case atStart => exact ⟨0, Nat.zero_le _, rfl, Below.refl _ _, hide (fun j h1 h2 => by omega)⟩
  case round =>
    obtain ⟨k, hk, rfl, hbel, HN⟩ := hrel
    by_cases hlt : k < ns.length
    · obtain ⟨g, hao, hg, c0, c1, c2⟩ := nd_cells (unhide HROW) hbel hlt
      rw [hao]
      have hp := unhide HNB _ (List.getElem_mem hlt)
      have HU : Hid (looped t ns k = !meetsT t (ns[k]).id 0) := by apply hide; unfold looped; rw [ndAt_get _ _ hlt]
      have hsz := hbel.size
      have HB1 := hide (hbel.alloc hsz (.cells #[.int .i64 (ns[k]).id, .int .i64 (ns[k]).parent, .string (bs (ns[k]).name)] 56))
      have HP := hide (meets_any t b (ns[k]).id 0 _ (unhide HO) hp.1 hp.2 ((unhide HT).below (unhide HB1)))
      clear hao hbel
      generalize ns[k] = nd at *
      cases hq : meetsT t nd.id 0
      · have HS : Hid (scan (looped t ns) 0 ns.length = k) := hide (scan_hit (by omega) hlt (by rw [unhide HU, hq]; rfl) (unhide HN))
        rw [hq] at HP
        clear hq
        go_wp2_with fail
        refine (unhide HP).mono ?_
        rintro e w2 ⟨rfl, rfl⟩
        go_wp2
        go_ret
        exact ⟨ret_int (by rw [unhide HS]), unhide HB1⟩
      · have HN2 := hide (noIn_succ (unhide HN) (by rw [unhide HU, hq]; rfl))
        rw [hq] at HP
        clear hq
        go_wp2_with fail
        refine (unhide HP).mono ?_
        rintro e w2 ⟨rfl, rfl⟩
        go_wp2
        go_roundw
        case rel => exact ⟨k + 1, by omega, by go_num, unhide HB1, HN2⟩
        case measure => simp [intOf]; omega
    · have HS : Hid (scan (looped t ns) 0 ns.length = ns.length) := hide (scan_none (fun j h1 h2 => unhide HN j h1 (by omega)))
      go_wp2
      go_ret
      exact ⟨ret_int (by rw [unhide HS]), hbel⟩
end Go.Proofs.YtkahmbpggdneoaaDoor

namespace Go.Proofs.YtkahmbpggdneoaaDoor
open Go.RowKit
theorem names_eq (a b : Str) : ((bs a).toList == (bs b).toList) = (a == b) := by rw [tl_sl, tl_sl, sl_bs, sl_bs]
theorem same_get (ns : List Nd) (i j : Nat) (hi : i < ns.length) (hj : j < ns.length) : samePlace ns i j = (((ns[j]).parent == (ns[i]).parent) && ((ns[j]).name == (ns[i]).name)) := by
  unfold samePlace; rw [ndAt_get _ _ hi, ndAt_get _ _ hj]
theorem twice_yes {ns : List Nd} {i j : Nat} (h : j < i) (hs : samePlace ns i j = true) : twice ns i = true := by unfold twice; exact decide_eq_true ⟨j, h, hs⟩
theorem twice_no {ns : List Nd} {i : Nat} (h : NoIn (samePlace ns i) 0 i) : twice ns i = false := by
  unfold twice
  apply decide_eq_false
  rintro ⟨j, h1, h2⟩
  rw [h j (by omega) h1] at h2
  cases h2
set_option maxHeartbeats 2000000 in
theorem twice_any (ns : List Nd) (ao : Option Addr) (cap : Nat) (w : World) (hrow : Row w ao ns.length 3 (ndCells ns)) (hl : ns.length ≤ 4000) :
    Calls Tryd.prog 59 #[.slice ao ns.length cap] w fun e w' => e = .returned (.int .i64 (scan (twice ns) 0 ns.length)) ∧ ∃ n, w' = w.drewN n := by
  have HROW := hide hrow; clear hrow
  go_enter Tryd.func59, Tryd.ntmps59
  go_wp2
  go_loopw [7] (fun x wr => ∃ i nq : Nat, i ≤ ns.length ∧ x = .int .i64 i ∧ wr = w.drewN nq ∧ Hid (NoIn (twice ns) 0 i)) (fun x _ => ns.length - (intOf x).toNat)
  case atStart => exact ⟨0, 0, Nat.zero_le _, rfl, rfl, hide (fun j h1 h2 => by omega)⟩
  case round =>
    obtain ⟨i, nq, hi, rfl, rfl, HN⟩ := hrel
    by_cases hlt : i < ns.length
    · have hi0 : (0 : Int) ≤ i := by omega
      have hi1 : (i : Int) < ns.length := by omega
      go_wp2
      go_loopw [4] (fun x wr => ∃ j nq' : Nat, j ≤ i ∧ x = .int .i64 j ∧ wr = w.drewN nq' ∧ Hid (NoIn (samePlace ns i) 0 j)) (fun x _ => i - (intOf x).toNat)
      case atStart => exact ⟨0, nq, Nat.zero_le _, rfl, rfl, hide (fun j h1 h2 => by omega)⟩
      case round =>
        obtain ⟨j, nq', hj, rfl, rfl, HM⟩ := hrel
        by_cases hjl : j < i
        · have HB := hide (Below.refl w.heap.size w)
          have hj0 : (0 : Int) ≤ j := by omega
          have hj1 : (j : Int) < ns.length := by omega
          obtain ⟨g, hao, hg, _, c1, c2⟩ := nd_cells (unhide HROW) (unhide HB) hlt
          obtain ⟨g', hao', _, _, d1, d2⟩ := nd_cells (unhide HROW) (unhide HB) (show j < ns.length by omega)
          rw [hao] at hao'
          have hgg : g = g' := by cases hao'; rfl
          subst hgg
          rw [hao]
          have HU := hide (same_get ns i j hlt (by omega))
          clear hao hao' HB
          cases hpe : ((ns[j]).parent == (ns[i]).parent)
          · have HM2 := hide (noIn_succ (unhide HM) (by rw [unhide HU, hpe]; rfl))
            go_wp2
            go_quiet (fail)
            go_wp2
            go_roundw
            case rel => exact ⟨j + 1, _, by omega, by go_num, rfl, HM2⟩
            case measure => simp [intOf]; omega
          · cases hne : ((ns[j]).name == (ns[i]).name)
            · have HM2 := hide (noIn_succ (unhide HM) (by rw [unhide HU, hpe, hne]; rfl))
              have hne2 : ((bs (ns[j]).name).toList == (bs (ns[i]).name).toList) = false := by rw [names_eq]; exact hne
              clear hne
              go_wp2
              go_quiet (fail)
              go_wp2
              go_roundw
              case rel => exact ⟨j + 1, _, by omega, by go_num, rfl, HM2⟩
              case measure => simp [intOf]; omega
            · have HS : Hid (scan (twice ns) 0 ns.length = i) := hide (scan_hit (by omega) hlt (twice_yes hjl (by rw [unhide HU, hpe, hne]; rfl)) (unhide HN))
              have hne2 : ((bs (ns[j]).name).toList == (bs (ns[i]).name).toList) = true := by rw [names_eq]; exact hne
              clear hne
              go_wp2
              go_quiet (fail)
              go_wp2
              go_ret
              exact ⟨ret_int (by rw [unhide HS]), drew2 _ _ _⟩
        · have hji : j = i := by omega
          subst hji
          have HN2 := hide (noIn_succ (unhide HN) (twice_no (unhide HM)))
          go_wp2
          go_roundw
          case rel => exact ⟨j + 1, _, by omega, by go_num, rfl, HN2⟩
          case measure => simp [intOf]; omega
    · have HS : Hid (scan (twice ns) 0 ns.length = ns.length) := hide (scan_none (fun j h1 h2 => unhide HN j h1 (by omega)))
      go_wp2
      go_ret
      exact ⟨ret_int (by rw [unhide HS]), _, rfl⟩
end Go.Proofs.YtkahmbpggdneoaaDoor

namespace Go.Proofs.YtkahmbpggdneoaaDoor
open Go.RowKit
theorem ret_ii {a b c d : Int} (h : a = c) (g : b = d) : Ending.returned (.tuple #[.int .i64 a, .int .i64 b]) = .returned (.tuple #[.int .i64 c, .int .i64 d]) := by rw [h, g]
set_option maxHeartbeats 2000000 in
theorem misplaced_any {x : Ext} (t : Tr) (b : Nat) (ns : List Nd) (ao : Option Addr) (cap : Nat) (w : World) (ht : TrOk t) (hT : TreeAt x w b t) (hrow : Row w ao ns.length 3 (ndCells ns)) (hn : ∀ n ∈ ns, 1 ≤ n.id ∧ n.id ≤ 99 ∧ 0 ≤ n.parent ∧ n.parent ≤ 99 ∧ isName n.name n.id = true) (hl : ns.length ≤ 4000) :
    Calls Tryd.prog 41 #[.pointer (some ⟨b, 0, none⟩), .slice ao ns.length cap] w fun e w' => e = .returned (.tuple #[.int .i64 (misplaced t ns).1, .int .i64 (misplaced t ns).2]) ∧ Below w.heap.size w w' := by
  have HO := hide (fun W (h1 : TreeAt x W b t) (h2 : Row W ao ns.length 3 (ndCells ns)) => orphan_any t b ns ao cap W ht h1 h2 (fun n hh => ⟨(hn n hh).2.2.1, (hn n hh).2.2.2.1⟩) hl)
  have HL := hide (fun W (h1 : TreeAt x W b t) (h2 : Row W ao ns.length 3 (ndCells ns)) => looped_any t b ns ao cap W ht h1 h2 (fun n hh => ⟨by have := (hn n hh).1; omega, (hn n hh).2.1⟩) hl)
  have HW := hide (fun W (h2 : Row W ao ns.length 3 (ndCells ns)) => twice_any ns ao cap W h2 hl)
  have HM : Hid (misplaced t ns = if scan (orphan t ns) 0 ns.length < ns.length then (4, scan (orphan t ns) 0 ns.length) else if scan (looped t ns) 0 ns.length < ns.length then (5, scan (looped t ns) 0 ns.length) else if scan (twice ns) 0 ns.length < ns.length then (6, scan (twice ns) 0 ns.length) else (0, 0)) := hide rfl
  have b1 := scan_le (orphan t ns) 0 ns.length
  have b2 := scan_le (looped t ns) 0 ns.length
  have b3 := scan_le (twice ns) 0 ns.length
  have HT := hide hT; clear hT
  have HR := hide hrow; clear hrow
  clear hn ht
  generalize scan (orphan t ns) 0 ns.length = x at *
  generalize scan (looped t ns) 0 ns.length = y at *
  generalize scan (twice ns) 0 ns.length = z at *
  generalize misplaced t ns = M at *
  by_cases hx : x < ns.length
  · have HM1 : Hid (M = (4, x)) := by apply hide; rw [unhide HM, if_pos hx]
    go_enter Tryd.func41, Tryd.ntmps41
    go_wp2_with fail
    refine (unhide HO _ (unhide HT) (unhide HR)).mono ?_
    rintro e w1 ⟨rfl, hb1⟩
    go_wp2
    go_ret2
    exact ⟨by rw [unhide HM1]; rfl, hb1⟩
  · by_cases hy : y < ns.length
    · have HM1 : Hid (M = (5, y)) := by apply hide; rw [unhide HM, if_neg hx, if_pos hy]
      go_enter Tryd.func41, Tryd.ntmps41
      go_wp2_with fail
      refine (unhide HO _ (unhide HT) (unhide HR)).mono ?_
      rintro e w1 ⟨rfl, hb1⟩
      go_wp2_with fail
      refine (unhide HL _ ((unhide HT).below hb1) ((unhide HR).below hb1)).mono ?_
      rintro e w2 ⟨rfl, hb2⟩
      go_wp2
      go_ret2
      exact ⟨by rw [unhide HM1]; rfl, hb1.trans (hb2.mono hb1.size)⟩
    · by_cases hz : z < ns.length
      · have HM1 : Hid (M = (6, z)) := by apply hide; rw [unhide HM, if_neg hx, if_neg hy, if_pos hz]
        go_enter Tryd.func41, Tryd.ntmps41
        go_wp2_with fail
        refine (unhide HO _ (unhide HT) (unhide HR)).mono ?_
        rintro e w1 ⟨rfl, hb1⟩
        go_wp2_with fail
        refine (unhide HL _ ((unhide HT).below hb1) ((unhide HR).below hb1)).mono ?_
        rintro e w2 ⟨rfl, hb2⟩
        have HB2 := hide (hb1.trans (hb2.mono hb1.size))
        go_wp2_with fail
        refine (unhide HW _ ((unhide HR).below (unhide HB2))).mono ?_
        rintro e w3 ⟨rfl, nq, rfl⟩
        go_wp2
        go_ret2
        exact ⟨by rw [unhide HM1]; rfl, below_drewN (unhide HB2) _⟩
      · have HM1 : Hid (M = (0, 0)) := by apply hide; rw [unhide HM, if_neg hx, if_neg hy, if_neg hz]
        go_enter Tryd.func41, Tryd.ntmps41
        go_wp2_with fail
        refine (unhide HO _ (unhide HT) (unhide HR)).mono ?_
        rintro e w1 ⟨rfl, hb1⟩
        go_wp2_with fail
        refine (unhide HL _ ((unhide HT).below hb1) ((unhide HR).below hb1)).mono ?_
        rintro e w2 ⟨rfl, hb2⟩
        have HB2 := hide (hb1.trans (hb2.mono hb1.size))
        go_wp2_with fail
        refine (unhide HW _ ((unhide HR).below (unhide HB2))).mono ?_
        rintro e w3 ⟨rfl, nq, rfl⟩
        go_wp2
        go_ret2
        exact ⟨by rw [unhide HM1]; rfl, below_drewN (unhide HB2) _⟩
/-! A whole block stored. -/
theorem heap_setCells_row (b : Nat) (t : TypeId) : ∀ (vs : List Value) (o : Nat) (w : World) (cs : List Value), w.heap[b]? = some (.cells cs.toArray t (0, 0)) → o + vs.length ≤ cs.length →
    (w.setCells b o vs).heap[b]? = some (.cells (cs.take o ++ vs ++ cs.drop (o + vs.length)).toArray t (0, 0))
  | [], o, w, cs, h, hl => by simpa [World.setCells] using h
  | v :: r, o, w, cs, h, hl => by
    simp at hl
    have h1 : (w.setCell ⟨b, o, none⟩ v).heap[b]? = some (.cells (cs.set o v).toArray t (0, 0)) := by rw [heap_setCell_same w b o _ _ v h]; simp
    have := heap_setCells_row b t r (o + 1) _ _ h1 (by simp; omega)
    rw [World.setCells, this]
    have e1 : (cs.set o v).take (o + 1) = cs.take o ++ [v] := by
      rw [List.take_succ_eq_append_getElem (by simp; omega), List.take_set]; simp
      rw [List.set_eq_of_length_le (by simp; omega)]
    have e2 : (cs.set o v).drop (o + 1 + r.length) = cs.drop (o + (v :: r).length) := by
      rw [List.drop_set_of_lt (by omega)]; congr 1; simp; omega
    rw [e1, e2]; simp
theorem treeAt_stored {x : Ext} {w : World} {b : Nat} {t : Tr} (h : TreeAt x w b t) (t' : Tr) : TreeAt x (w.setCells b 0 (treeCells t')) b t' := by
  have := heap_setCells_row b x.ty (treeCells t') 0 w (treeCells t ++ x.rest) h (by simp [treeCells_length])
  unfold TreeAt
  rw [this]
  have hd : (treeCells t ++ x.rest).drop 400 = x.rest := by rw [← treeCells_length t, List.drop_left]
  simp [treeCells_length, hd]
end Go.Proofs.YtkahmbpggdneoaaDoor

namespace Go.Proofs.YtkahmbpggdneoaaDoor
open Go.RowKit
def readT (l : Str) : Tr := if (checkT l).1 = 0 then gather (readNodes (cut l)) else tr0
theorem zeroSize : (Tryd.prog.info? 59).map (·.size) = some Tryd.zeroCells59.size := by rw [zeroTree]; exact treeSize' tr0
theorem zeroOne : Tryd.zeroCells59.all (·.oneCell') = true := by rw [zeroTree]; exact treeOne tr0
theorem treeAt_new (w : World) : TreeAt ext0 (w.alloc (.cells Tryd.zeroCells59 59)) w.heap.size tr0 := by
  unfold TreeAt ext0; rw [zeroTree]; simpa using heap_alloc_new w (.cells (treeCells tr0).toArray 59)
theorem treeAt_thereZ {w : World} {b : Nat} {t : Tr} (h : TreeAt ext0 w b t) : w.there b 0 Tryd.zeroCells59.size := by rw [zeroTree]; exact treeAt_there h tr0
theorem treeAt_storedZ {w : World} {b : Nat} {t : Tr} (h : TreeAt ext0 w b t) : TreeAt ext0 (w.setCells b 0 Tryd.zeroCells59.toList) b tr0 := by rw [zeroTree]; exact treeAt_stored h tr0
theorem treeAt_load {w : World} {b : Nat} {t : Tr} (h : TreeAt ext0 w b t) : (loadVar 59 ⟨b, 0, none⟩).run Tryd.prog w = .ok (.agg (treeCells t).toArray) w :=
  run_loadVar_mid w b 0 59 (treeCells t) _ (treeAt_range h) Tryd.underlying59 rfl (treeSize t)
set_option maxHeartbeats 1000000 in
theorem read_long (s : ByteArray) (w : World) (hs : 4000 < s.size) :
    Calls Tryd.prog 21 #[.string s] w fun e w' => e = .returned (.tuple #[.agg (treeCells tr0).toArray, .int .i64 1, .int .i64 0]) ∧ Below w.heap.size w w' := by
  have HT := hide (treeAt_new w)
  go_enter Tryd.func21, Tryd.ntmps21
  go_wp2_with (refine wpList_store_mid (by rfl) 59 (.tmp 2) (.tmp 13) (by rfl) w.heap.size 0 Tryd.zeroCells59 (by rfl) (by rfl) (treeAt_thereZ (unhide HT)) zeroSize zeroOne ?_)
  have hl := treeAt_load (treeAt_storedZ (unhide HT))
  refine bodyPost_ret (v := .tuple #[.agg (treeCells tr0).toArray, .int .i64 1, .int .i64 0]) (by simp [results, Tryd.results21, asAddr, hl]) rfl ⟨rfl, ?_⟩
  exact below_setCells ((Below.refl _ _).alloc (Nat.le_refl _) _) (Nat.le_refl _) (by simp) _ _
set_option maxHeartbeats 1000000 in
theorem read_form (s : ByteArray) (w : World) (hs : s.size ≤ 4000) (hB : (readNodes (cut (sl s))).length < (cut (sl s)).length) :
    Calls Tryd.prog 21 #[.string s] w fun e w' => e = .returned (.tuple #[.agg (treeCells tr0).toArray, .int .i64 2, .int .i64 (readNodes (cut (sl s))).length]) ∧ Below w.heap.size w w' := by
  have HC := hide (fun W => cut_any s W hs)
  have hrl : (cut (sl s)).length ≤ 4000 := by have := cut_length_le (sl s); rw [sl_length] at this; omega
  have hrm : ∀ r ∈ cut (sl s), r.length ≤ 4000 := fun r hr => by have := cut_mem_len (sl s) r hr; rw [sl_length] at this; omega
  have hnl := readNodes_length (cut (sl s))
  have HNB := hide (readNodes_bd (cut (sl s)))
  have HRN := hide (fun ao cap W (h : Row W ao (cut (sl s)).length 1 ((cut (sl s)).map strV)) => readNodes_any (cut (sl s)) ao cap W h hrm hrl)
  clear hrm
  have HT := hide (treeAt_new w)
  generalize readNodes (cut (sl s)) = ns at *
  generalize cut (sl s) = rs at *
  go_enter Tryd.func21, Tryd.ntmps21
  go_wp2_with fail
  refine (unhide HC _).mono ?_
  rintro e w1 ⟨ao, cap, rfl, hrow1, hb1⟩
  have HROW1 := hide hrow1; clear hrow1
  go_wp2_with fail
  refine (unhide HRN _ _ _ (unhide HROW1)).mono ?_
  rintro e w2 ⟨ao2, cap2, rfl, hrow2, hb2⟩
  have HROW2 := hide hrow2; clear hrow2
  have hb12 := hb1.trans (hb2.mono hb1.size)
  have HT2 := hide ((unhide HT).below hb12)
  have HB12 : Hid (Below w.heap.size w w2) := hide (((Below.refl _ _).alloc (Nat.le_refl _) _).trans (hb12.mono (by simp)))
  have hz2 : w.heap.size + 1 ≤ w2.heap.size := by have := hb12.size; simp at this; omega
  clear hb1 hb2 hb12
  go_wp2_with (refine wpList_store_mid (by rfl) 59 (.tmp 2) (.tmp 23) (by rfl) w.heap.size 0 Tryd.zeroCells59 (by rfl) (by rfl) (treeAt_thereZ (unhide HT2)) zeroSize zeroOne ?_)
  have hl := treeAt_load (treeAt_storedZ (unhide HT2))
  refine bodyPost_ret (v := .tuple #[.agg (treeCells tr0).toArray, .int .i64 2, .int .i64 ns.length]) (by simp [results, Tryd.results21, asAddr, hl]) rfl ⟨rfl, ?_⟩
  exact below_setCells (unhide HB12) (Nat.le_refl _) (by omega) _ _
set_option maxHeartbeats 1000000 in
theorem read_order (s : ByteArray) (w : World) (hs : s.size ≤ 4000) (hB : ¬ (readNodes (cut (sl s))).length < (cut (sl s)).length)
    (hU : scan (unordered (readNodes (cut (sl s)))) 1 (readNodes (cut (sl s))).length < (readNodes (cut (sl s))).length) :
    Calls Tryd.prog 21 #[.string s] w fun e w' => e = .returned (.tuple #[.agg (treeCells tr0).toArray, .int .i64 3, .int .i64 (scan (unordered (readNodes (cut (sl s)))) 1 (readNodes (cut (sl s))).length)]) ∧ Below w.heap.size w w' := by
  have HC := hide (fun W => cut_any s W hs)
  have hrl : (cut (sl s)).length ≤ 4000 := by have := cut_length_le (sl s); rw [sl_length] at this; omega
  have hrm : ∀ r ∈ cut (sl s), r.length ≤ 4000 := fun r hr => by have := cut_mem_len (sl s) r hr; rw [sl_length] at this; omega
  have hnl := readNodes_length (cut (sl s))
  have HNB := hide (readNodes_bd (cut (sl s)))
  have HRN := hide (fun ao cap W (h : Row W ao (cut (sl s)).length 1 ((cut (sl s)).map strV)) => readNodes_any (cut (sl s)) ao cap W h hrm hrl)
  clear hrm
  have HT := hide (treeAt_new w)
  have HUN := hide (fun ao cap W h => unordered_any (readNodes (cut (sl s))) ao cap W h (by omega))
  generalize readNodes (cut (sl s)) = ns at *
  generalize cut (sl s) = rs at *
  generalize scan (unordered ns) 1 ns.length = u at *
  go_enter Tryd.func21, Tryd.ntmps21
  go_wp2_with fail
  refine (unhide HC _).mono ?_
  rintro e w1 ⟨ao, cap, rfl, hrow1, hb1⟩
  have HROW1 := hide hrow1; clear hrow1
  go_wp2_with fail
  refine (unhide HRN _ _ _ (unhide HROW1)).mono ?_
  rintro e w2 ⟨ao2, cap2, rfl, hrow2, hb2⟩
  have HROW2 := hide hrow2; clear hrow2
  have hb12 := hb1.trans (hb2.mono hb1.size)
  have HT2 := hide ((unhide HT).below hb12)
  have HB12 : Hid (Below w.heap.size w w2) := hide (((Below.refl _ _).alloc (Nat.le_refl _) _).trans (hb12.mono (by simp)))
  have hz2 : w.heap.size + 1 ≤ w2.heap.size := by have := hb12.size; simp at this; omega
  clear hb1 hb2 hb12
  go_wp2_with fail
  refine (unhide HUN _ _ _ (unhide HROW2)).mono ?_
  rintro e w3 ⟨rfl, nq, rfl⟩
  have HT3 : Hid (TreeAt ext0 (w2.drewN nq) w.heap.size tr0) := hide ((unhide HT2).drewN nq)
  go_wp2_with (refine wpList_store_mid (by rfl) 59 (.tmp 2) (.tmp 32) (by rfl) w.heap.size 0 Tryd.zeroCells59 (by rfl) (by rfl) (treeAt_thereZ (unhide HT3)) zeroSize zeroOne ?_)
  have hl := treeAt_load (treeAt_storedZ (unhide HT3))
  refine bodyPost_ret (v := .tuple #[.agg (treeCells tr0).toArray, .int .i64 3, .int .i64 u]) (by simp [results, Tryd.results21, asAddr, hl]) rfl ⟨rfl, ?_⟩
  exact below_setCells (below_drewN (unhide HB12) _) (Nat.le_refl _) (show w.heap.size ≤ w2.heap.size by omega) _ _
set_option maxHeartbeats 1000000 in
theorem read_place (s : ByteArray) (w : World) (hs : s.size ≤ 4000) (hB : ¬ (readNodes (cut (sl s))).length < (cut (sl s)).length)
    (hU : ¬ scan (unordered (readNodes (cut (sl s)))) 1 (readNodes (cut (sl s))).length < (readNodes (cut (sl s))).length)
    (hM : ((misplaced (gather (readNodes (cut (sl s)))) (readNodes (cut (sl s)))).1 != 0) = true) :
    Calls Tryd.prog 21 #[.string s] w fun e w' => e = .returned (.tuple #[.agg (treeCells tr0).toArray, .int .i64 (misplaced (gather (readNodes (cut (sl s)))) (readNodes (cut (sl s)))).1, .int .i64 (misplaced (gather (readNodes (cut (sl s)))) (readNodes (cut (sl s)))).2]) ∧ Below w.heap.size w w' := by
  have HC := hide (fun W => cut_any s W hs)
  have hrl : (cut (sl s)).length ≤ 4000 := by have := cut_length_le (sl s); rw [sl_length] at this; omega
  have hrm : ∀ r ∈ cut (sl s), r.length ≤ 4000 := fun r hr => by have := cut_mem_len (sl s) r hr; rw [sl_length] at this; omega
  have hnl := readNodes_length (cut (sl s))
  have HNB := hide (readNodes_bd (cut (sl s)))
  have HRN := hide (fun ao cap W (h : Row W ao (cut (sl s)).length 1 ((cut (sl s)).map strV)) => readNodes_any (cut (sl s)) ao cap W h hrm hrl)
  clear hrm
  have HT := hide (treeAt_new w)
  have HUN := hide (fun ao cap W h => unordered_any (readNodes (cut (sl s))) ao cap W h (by omega))
  have HGA := hide (fun ao cap W h => gather_any (readNodes (cut (sl s))) ao cap W h (fun n hn => ⟨(unhide HNB n hn).1, (unhide HNB n hn).2.1⟩) (by omega))
  have HMI := hide (fun b ao cap W h1 h2 => misplaced_any (x := ext0) (gather (readNodes (cut (sl s)))) b (readNodes (cut (sl s))) ao cap W (gather_ok _) h1 h2 (unhide HNB) (by omega))
  generalize misplaced (gather (readNodes (cut (sl s)))) (readNodes (cut (sl s))) = M at *
  generalize gather (readNodes (cut (sl s))) = T at *
  generalize readNodes (cut (sl s)) = ns at *
  generalize cut (sl s) = rs at *
  generalize scan (unordered ns) 1 ns.length = u at *
  go_enter Tryd.func21, Tryd.ntmps21
  go_wp2_with fail
  refine (unhide HC _).mono ?_
  rintro e w1 ⟨ao, cap, rfl, hrow1, hb1⟩
  have HROW1 := hide hrow1; clear hrow1
  go_wp2_with fail
  refine (unhide HRN _ _ _ (unhide HROW1)).mono ?_
  rintro e w2 ⟨ao2, cap2, rfl, hrow2, hb2⟩
  have HROW2 := hide hrow2; clear hrow2
  have hb12 := hb1.trans (hb2.mono hb1.size)
  have HT2 := hide ((unhide HT).below hb12)
  have HB12 : Hid (Below w.heap.size w w2) := hide (((Below.refl _ _).alloc (Nat.le_refl _) _).trans (hb12.mono (by simp)))
  have hz2 : w.heap.size + 1 ≤ w2.heap.size := by have := hb12.size; simp at this; omega
  clear hb1 hb2 hb12
  go_wp2_with fail
  refine (unhide HUN _ _ _ (unhide HROW2)).mono ?_
  rintro e w3 ⟨rfl, nq, rfl⟩
  have HT3 : Hid (TreeAt ext0 (w2.drewN nq) w.heap.size tr0) := hide ((unhide HT2).drewN nq)
  have HROW3 : Hid (Row (w2.drewN nq) ao2 ns.length 3 (ndCells ns)) := hide ((unhide HROW2).below (below_drewN (Below.refl _ _) nq))
  have HB3 : Hid (Below w.heap.size w (w2.drewN nq)) := hide (below_drewN (unhide HB12) nq)
  have hz3 : w.heap.size + 1 ≤ (w2.drewN nq).heap.size := hz2
  clear hz2 HT2 HROW2 HB12
  obtain ⟨w3, hw3⟩ : ∃ x, w2.drewN nq = x := ⟨_, rfl⟩
  rw [hw3] at HT3 HROW3 HB3 hz3 ⊢
  clear hw3
  go_wp2_with fail
  refine (unhide HGA _ _ _ (unhide HROW3)).mono ?_
  rintro e w4 ⟨rfl, hb4⟩
  have HT4 := hide ((unhide HT3).below hb4)
  have HROW4 := hide ((unhide HROW3).below hb4)
  have HB4 := hide ((unhide HB3).trans (hb4.mono (by omega)))
  have hz4 : w.heap.size + 1 ≤ w4.heap.size := by have := hb4.size; omega
  clear hb4 HT3 HROW3 HB3
  have HN := hide (treeAt_new w4)
  have HBa := hide ((Below.refl w4.heap.size w4).alloc (Nat.le_refl _) (.cells Tryd.zeroCells59 59))
  have HB5 : Hid (Below w4.heap.size w4 ((w4.alloc (.cells Tryd.zeroCells59 59)).setCells w4.heap.size 0 (treeCells T))) := hide (below_setCells (unhide HBa) (Nat.le_refl _) (by simp) _ _)
  have HT5 : Hid (TreeAt ext0 ((w4.alloc (.cells Tryd.zeroCells59 59)).setCells w4.heap.size 0 (treeCells T)) w4.heap.size T) := hide (treeAt_stored (unhide HN) T)
  go_wp2_with (refine wpList_store_mid (by rfl) 59 (.tmp 8) (.tmp 35) (by rfl) w4.heap.size 0 (treeCells T).toArray (by rfl) (by rfl) (by exact treeAt_there (unhide HN) T) (treeSize' T) (treeOne T) ?_)
  refine (unhide HMI _ _ _ _ (unhide HT5) ((unhide HROW4).below (unhide HB5))).mono ?_
  rintro e w6 ⟨rfl, hb6⟩
  have HT6 := hide (((unhide HT4).below (unhide HB5)).below hb6)
  have HT6' := hide ((unhide HT5).below hb6)
  have hsz5 : w4.heap.size ≤ ((w4.alloc (.cells Tryd.zeroCells59 59)).setCells w4.heap.size 0 (treeCells T)).heap.size := (unhide HB5).size
  have HB6 := hide ((unhide HB4).trans (((unhide HB5).trans (hb6.mono hsz5)).mono (by omega)))
  have hz6 : w.heap.size + 1 ≤ w6.heap.size := by have := hb6.size; omega
  clear hb6 HB5 HT5 HBa HN hsz5
  go_wp2_with (refine wpList_store_mid (by rfl) 59 (.tmp 2) (.tmp 43) (by rfl) w.heap.size 0 Tryd.zeroCells59 (by rfl) (by rfl) (treeAt_thereZ (unhide HT6)) zeroSize zeroOne ?_)
  have hl := treeAt_load (treeAt_storedZ (unhide HT6))
  refine bodyPost_ret (v := .tuple #[.agg (treeCells tr0).toArray, .int .i64 M.1, .int .i64 M.2]) (by simp [results, Tryd.results21, asAddr, hl]) rfl ⟨rfl, ?_⟩
  exact below_setCells (unhide HB6) (Nat.le_refl _) (by omega) _ _
set_option maxHeartbeats 1000000 in
theorem read_ok (s : ByteArray) (w : World) (hs : s.size ≤ 4000) (hB : ¬ (readNodes (cut (sl s))).length < (cut (sl s)).length)
    (hU : ¬ scan (unordered (readNodes (cut (sl s)))) 1 (readNodes (cut (sl s))).length < (readNodes (cut (sl s))).length)
    (hM : ((misplaced (gather (readNodes (cut (sl s)))) (readNodes (cut (sl s)))).1 != 0) = false) :
    Calls Tryd.prog 21 #[.string s] w fun e w' => e = .returned (.tuple #[.agg (treeCells (gather (readNodes (cut (sl s))))).toArray, .int .i64 0, .int .i64 0]) ∧ Below w.heap.size w w' := by
  have HC := hide (fun W => cut_any s W hs)
  have hrl : (cut (sl s)).length ≤ 4000 := by have := cut_length_le (sl s); rw [sl_length] at this; omega
  have hrm : ∀ r ∈ cut (sl s), r.length ≤ 4000 := fun r hr => by have := cut_mem_len (sl s) r hr; rw [sl_length] at this; omega
  have hnl := readNodes_length (cut (sl s))
  have HNB := hide (readNodes_bd (cut (sl s)))
  have HRN := hide (fun ao cap W (h : Row W ao (cut (sl s)).length 1 ((cut (sl s)).map strV)) => readNodes_any (cut (sl s)) ao cap W h hrm hrl)
  clear hrm
  have HT := hide (treeAt_new w)
  have HUN := hide (fun ao cap W h => unordered_any (readNodes (cut (sl s))) ao cap W h (by omega))
  have HGA := hide (fun ao cap W h => gather_any (readNodes (cut (sl s))) ao cap W h (fun n hn => ⟨(unhide HNB n hn).1, (unhide HNB n hn).2.1⟩) (by omega))
  have HMI := hide (fun b ao cap W h1 h2 => misplaced_any (x := ext0) (gather (readNodes (cut (sl s)))) b (readNodes (cut (sl s))) ao cap W (gather_ok _) h1 h2 (unhide HNB) (by omega))
  generalize misplaced (gather (readNodes (cut (sl s)))) (readNodes (cut (sl s))) = M at *
  generalize gather (readNodes (cut (sl s))) = T at *
  generalize readNodes (cut (sl s)) = ns at *
  generalize cut (sl s) = rs at *
  generalize scan (unordered ns) 1 ns.length = u at *
  go_enter Tryd.func21, Tryd.ntmps21
  go_wp2_with fail
  refine (unhide HC _).mono ?_
  rintro e w1 ⟨ao, cap, rfl, hrow1, hb1⟩
  have HROW1 := hide hrow1; clear hrow1
  go_wp2_with fail
  refine (unhide HRN _ _ _ (unhide HROW1)).mono ?_
  rintro e w2 ⟨ao2, cap2, rfl, hrow2, hb2⟩
  have HROW2 := hide hrow2; clear hrow2
  have hb12 := hb1.trans (hb2.mono hb1.size)
  have HT2 := hide ((unhide HT).below hb12)
  have HB12 : Hid (Below w.heap.size w w2) := hide (((Below.refl _ _).alloc (Nat.le_refl _) _).trans (hb12.mono (by simp)))
  have hz2 : w.heap.size + 1 ≤ w2.heap.size := by have := hb12.size; simp at this; omega
  clear hb1 hb2 hb12
  go_wp2_with fail
  refine (unhide HUN _ _ _ (unhide HROW2)).mono ?_
  rintro e w3 ⟨rfl, nq, rfl⟩
  have HT3 : Hid (TreeAt ext0 (w2.drewN nq) w.heap.size tr0) := hide ((unhide HT2).drewN nq)
  have HROW3 : Hid (Row (w2.drewN nq) ao2 ns.length 3 (ndCells ns)) := hide ((unhide HROW2).below (below_drewN (Below.refl _ _) nq))
  have HB3 : Hid (Below w.heap.size w (w2.drewN nq)) := hide (below_drewN (unhide HB12) nq)
  have hz3 : w.heap.size + 1 ≤ (w2.drewN nq).heap.size := hz2
  clear hz2 HT2 HROW2 HB12
  obtain ⟨w3, hw3⟩ : ∃ x, w2.drewN nq = x := ⟨_, rfl⟩
  rw [hw3] at HT3 HROW3 HB3 hz3 ⊢
  clear hw3
  go_wp2_with fail
  refine (unhide HGA _ _ _ (unhide HROW3)).mono ?_
  rintro e w4 ⟨rfl, hb4⟩
  have HT4 := hide ((unhide HT3).below hb4)
  have HROW4 := hide ((unhide HROW3).below hb4)
  have HB4 := hide ((unhide HB3).trans (hb4.mono (by omega)))
  have hz4 : w.heap.size + 1 ≤ w4.heap.size := by have := hb4.size; omega
  clear hb4 HT3 HROW3 HB3
  have HN := hide (treeAt_new w4)
  have HBa := hide ((Below.refl w4.heap.size w4).alloc (Nat.le_refl _) (.cells Tryd.zeroCells59 59))
  have HB5 : Hid (Below w4.heap.size w4 ((w4.alloc (.cells Tryd.zeroCells59 59)).setCells w4.heap.size 0 (treeCells T))) := hide (below_setCells (unhide HBa) (Nat.le_refl _) (by simp) _ _)
  have HT5 : Hid (TreeAt ext0 ((w4.alloc (.cells Tryd.zeroCells59 59)).setCells w4.heap.size 0 (treeCells T)) w4.heap.size T) := hide (treeAt_stored (unhide HN) T)
  go_wp2_with (refine wpList_store_mid (by rfl) 59 (.tmp 8) (.tmp 35) (by rfl) w4.heap.size 0 (treeCells T).toArray (by rfl) (by rfl) (by exact treeAt_there (unhide HN) T) (treeSize' T) (treeOne T) ?_)
  refine (unhide HMI _ _ _ _ (unhide HT5) ((unhide HROW4).below (unhide HB5))).mono ?_
  rintro e w6 ⟨rfl, hb6⟩
  have HT6 := hide (((unhide HT4).below (unhide HB5)).below hb6)
  have HT6' := hide ((unhide HT5).below hb6)
  have hsz5 : w4.heap.size ≤ ((w4.alloc (.cells Tryd.zeroCells59 59)).setCells w4.heap.size 0 (treeCells T)).heap.size := (unhide HB5).size
  have HB6 := hide ((unhide HB4).trans (((unhide HB5).trans (hb6.mono hsz5)).mono (by omega)))
  have hz6 : w.heap.size + 1 ≤ w6.heap.size := by have := hb6.size; omega
  clear hb6 HB5 HT5 HBa HN hsz5
  go_wp2_with (first
    | (refine wpList_load_mid (by rfl) 59 (.tmp 8) (by rfl) w4.heap.size 0 (by rfl) (treeCells T) _ (treeAt_range (unhide HT6')) Tryd.underlying59 (by rfl) (treeSize T) ?_)
    | (refine wpList_store_mid (by rfl) 59 (.tmp 2) (.tmp 46) (by rfl) w.heap.size 0 (treeCells T).toArray (by rfl) (by rfl) (treeAt_there (unhide HT6) T) (treeSize' T) (treeOne T) ?_))
  have hl := treeAt_load (treeAt_stored (unhide HT6) T)
  refine bodyPost_ret (v := .tuple #[.agg (treeCells T).toArray, .int .i64 0, .int .i64 0]) (by simp [results, Tryd.results21, asAddr, hl]) rfl ⟨rfl, ?_⟩
  exact below_setCells (unhide HB6) (Nat.le_refl _) (by omega) _ _
theorem misplaced_zero {t : Tr} {ns : List Nd} (h : ((misplaced t ns).1 != 0) = false) : misplaced t ns = (0, 0) := by
  unfold misplaced at h ⊢
  split <;> (try split) <;> (try split) <;> simp_all
theorem read_any (s : ByteArray) (w : World) :
    Calls Tryd.prog 21 #[.string s] w fun e w' => e = .returned (.tuple #[.agg (treeCells (readT (sl s))).toArray, .int .i64 (checkT (sl s)).1, .int .i64 (checkT (sl s)).2]) ∧ Below w.heap.size w w' := by
  by_cases h1 : 4000 < s.size
  · have e : checkT (sl s) = (1, 0) := by unfold checkT; rw [sl_length, if_pos h1]
    rw [readT, e]; exact read_long s w h1
  · by_cases h2 : (readNodes (cut (sl s))).length < (cut (sl s)).length
    · have e : checkT (sl s) = (2, (readNodes (cut (sl s))).length) := by unfold checkT; rw [sl_length, if_neg h1]; simp only []; rw [if_pos h2]
      rw [readT, e]; exact read_form s w (by omega) h2
    · by_cases h3 : scan (unordered (readNodes (cut (sl s)))) 1 (readNodes (cut (sl s))).length < (readNodes (cut (sl s))).length
      · have e : checkT (sl s) = (3, scan (unordered (readNodes (cut (sl s)))) 1 (readNodes (cut (sl s))).length) := by unfold checkT; rw [sl_length, if_neg h1]; simp only []; rw [if_neg h2, if_pos h3]
        rw [readT, e]; exact read_order s w (by omega) h2 h3
      · have e : checkT (sl s) = misplaced (gather (readNodes (cut (sl s)))) (readNodes (cut (sl s))) := by unfold checkT; rw [sl_length, if_neg h1]; simp only []; rw [if_neg h2, if_neg h3]
        cases h4 : ((misplaced (gather (readNodes (cut (sl s)))) (readNodes (cut (sl s)))).1 != 0)
        · rw [readT, e, misplaced_zero h4]; exact read_ok s w (by omega) h2 h3 h4
        · rw [readT, e, if_neg (by simpa using h4)]; exact read_place s w (by omega) h2 h3 h4
set_option maxHeartbeats 1000000 in
theorem check_any (s : ByteArray) (w : World) :
    Calls Tryd.prog 10 #[.string s] w fun e w' => e = .returned (.tuple #[.int .i64 (checkT (sl s)).1, .int .i64 (checkT (sl s)).2]) ∧ Below w.heap.size w w' := by
  have HR := hide (fun W => read_any s W)
  generalize checkT (sl s) = c at *
  generalize readT (sl s) = T at *
  go_enter Tryd.func10, Tryd.ntmps10
  go_wp2_with fail
  refine (unhide HR _).mono ?_
  rintro e w1 ⟨rfl, hb1⟩
  have HN := hide (treeAt_new w1)
  go_wp2_with (refine wpList_store_mid (by rfl) 59 (.tmp 4) (.tmp 10) (by rfl) w1.heap.size 0 (treeCells T).toArray (by rfl) (by rfl) (treeAt_there (unhide HN) T) (treeSize' T) (treeOne T) ?_)
  go_ret2
  exact ⟨rfl, below_setCells (hb1.alloc hb1.size _) hb1.size (by have := hb1.size; simp; omega) _ _⟩
end Go.Proofs.YtkahmbpggdneoaaDoor
