import Derived.Test.YtkjancfakplogaaGreatDoorW5
import Derived.RegionTactic
import Derived.BigRegion
import Derived.Deep.MidRow
import Derived.Deep.Upon
namespace Go.Proofs.YtkjancfakplogaaGreatDoor
open Go.RowKit
theorem TreeAt.free {x : Ext} {w : World} {b : Nat} {t : Tr} (h : TreeAt x w b t) (j : Nat) : w.frozen? ⟨b, j, none⟩ = false := by
  simp [World.frozen?, show w.heap[b]? = _ from h]
theorem TreeAt.set {w : World} {b : Nat} {cs r : List Value} {ty : TypeId} {j : Nat} {v : Value} (hj : j < cs.length) (h : w.heap[b]? = some (.cells (cs ++ r).toArray ty (0, 0))) : (w.setCell ⟨b, j, none⟩ v).heap[b]? = some (.cells (cs.set j v ++ r).toArray ty (0, 0)) := by
  rw [heap_setCell_same w b j _ _ v h, ← List.set_append_left _ _ hj]; simp
theorem put_world {x : Ext} {w : World} {t : Tr} {b m : Nat} {parent : Int} {name : Str} (hm : m ≤ 99) (hT : TreeAt x w b t) (o : Obj) :
    TreeAt x ((((((w.setCell ⟨b, m, none⟩ (.bool true)).setCell ⟨b, 100 + m * 3, none⟩ (.int .i64 m)).setCell ⟨b, 100 + m * 3 + 1, none⟩ (.int .i64 parent)).setCell ⟨b, 100 + m * 3 + 2, none⟩ (.string (bs name))).alloc o).drew.drew) b (trPut t ⟨m, parent, name⟩) ∧
    w.grownBy ((((((w.setCell ⟨b, m, none⟩ (.bool true)).setCell ⟨b, 100 + m * 3, none⟩ (.int .i64 m)).setCell ⟨b, 100 + m * 3 + 1, none⟩ (.int .i64 parent)).setCell ⟨b, 100 + m * 3 + 2, none⟩ (.string (bs name))).alloc o).drew.drew) (some b) := by
  have hlt := hT.lt
  constructor
  · unfold TreeAt
    rw [heap_drew, heap_drew, Below.heap_alloc _ _ _ (by simp; exact hlt), ← treeCells_put t ⟨m, parent, name⟩ m rfl (by omega)]
    have hl := treeCells_length t
    exact TreeAt.set (by simp only [List.length_set]; omega) (TreeAt.set (by simp only [List.length_set]; omega) (TreeAt.set (by simp only [List.length_set]; omega) (TreeAt.set (by omega) hT)))
  · refine ⟨rfl, rfl, rfl, by simp [heap_drew], fun k hk hne => ?_⟩
    have hne' : k ≠ b := fun e => hne (by rw [e])
    rw [heap_drew, heap_drew, Below.heap_alloc _ _ _ (by simp; exact hk)]
    rw [heap_setCell_other _ _ _ _ hne', heap_setCell_other _ _ _ _ hne', heap_setCell_other _ _ _ _ hne', heap_setCell_other _ _ _ _ hne']
set_option maxHeartbeats 1000000 in
theorem put_nat {x : Ext} (t : Tr) (b m : Nat) (parent : Int) (name : Str) (w : World) (hm1 : 1 ≤ m) (hm : m ≤ 99) (hT : TreeAt x w b t) :
    Calls Tryz.prog 89 #[.pointer (some ⟨b, 0, none⟩), .agg #[.int .i64 m, .int .i64 parent, .string (bs name)]] w fun e w' => e = .returned (.tuple #[]) ∧ TreeAt x w' b (trPut t ⟨m, parent, name⟩) ∧ w.grownBy w' (some b) := by
  have hlt := hT.lt
  have c0 : w.cell? ⟨b, m, none⟩ = some (.bool (t m).isSome) := hT.here m (by omega)
  have c1 := (hT.cell (100 + m * 3)).trans (treeCells_node t m (by omega)).1
  have c2 := (hT.cell (100 + m * 3 + 1)).trans (treeCells_node t m (by omega)).2.1
  have c3 := (hT.cell (100 + m * 3 + 2)).trans (treeCells_node t m (by omega)).2.2
  have f0 : ∀ j, w.frozen? ⟨b, j, none⟩ = false := hT.free
  have hne : ¬ b = w.heap.size := by omega
  have hm0 : (0 : Int) ≤ m := by omega
  have HT := hide hT
  clear hT
  go_enter Tryz.func89, Tryz.ntmps89
  go_wp2
  go_region
  all_goals go_wp2
  all_goals go_region
  all_goals go_end0
  exact ⟨rfl, put_world hm (unhide HT) _⟩
theorem put_any {x : Ext} (t : Tr) (b : Nat) (n : Nd) (w : World) (hn : 1 ≤ n.id) (hn' : n.id ≤ 99) (hT : TreeAt x w b t) :
    Calls Tryz.prog 89 #[.pointer (some ⟨b, 0, none⟩), .agg #[.int .i64 n.id, .int .i64 n.parent, .string (bs n.name)]] w fun e w' => e = .returned (.tuple #[]) ∧ TreeAt x w' b (trPut t n) ∧ w.grownBy w' (some b) := by
  obtain ⟨id, parent, name⟩ := n
  obtain ⟨m, hm⟩ := Int.eq_ofNat_of_zero_le (show 0 ≤ id by simp at hn; omega)
  simp only at hm hn hn' ⊢
  subst hm
  exact put_nat t b m parent name w (by omega) (by omega) hT
theorem zeroTree : Tryz.zeroCells88 = (treeCells tr0).toArray := by kernel_rfl
theorem nd_cells {w wr : World} {ao : Option Addr} {ns : List Nd} (hrow : Row w ao ns.length 3 (ndCells ns)) (hb : Below w.heap.size w wr) {k : Nat} (hk : k < ns.length) :
    ∃ g, ao = some ⟨g, 0, none⟩ ∧ g < w.heap.size ∧ wr.cell? ⟨g, k * 3, none⟩ = some (.int .i64 (ns[k]).id) ∧ wr.cell? ⟨g, k * 3 + 1, none⟩ = some (.int .i64 (ns[k]).parent) ∧ wr.cell? ⟨g, k * 3 + 2, none⟩ = some (.string (bs (ns[k]).name)) := by
  obtain ⟨g, h1, h2, h3⟩ := hrow.2 (by omega)
  have := ndCells_get ns k hk
  refine ⟨g, h1, h2, ?_, ?_, ?_⟩
  · rw [hb.cell (p := ⟨g, _, none⟩) h2]; exact h3 _ _ this.1
  · rw [hb.cell (p := ⟨g, _, none⟩) h2]; exact h3 _ _ this.2.1
  · rw [hb.cell (p := ⟨g, _, none⟩) h2]; exact h3 _ _ this.2.2
theorem treeAt_grown {x : Ext} {w w' : World} {b c : Nat} {t : Tr} (h : TreeAt x w b t) (hg : w.grownBy w' (some c)) (hne : b ≠ c) : TreeAt x w' b t := by
  unfold TreeAt; rw [hg.block b h.lt (fun e => hne (by cases e; rfl))]; exact h
theorem fold_snoc (ns : List Nd) (k : Nat) (h : k < ns.length) : (ns.take (k + 1)).foldl trPut tr0 = trPut ((ns.take k).foldl trPut tr0) ns[k] := by
  rw [List.take_succ_eq_append_getElem h, List.foldl_append]; rfl
theorem treeAt_range {x : Ext} {w : World} {b : Nat} {t : Tr} (h : TreeAt x w b t) : w.rangeAt b 0 (treeCells t) := by
  intro j v hv
  have hj : j < 400 := by
    rw [← treeCells_length t]
    rcases Nat.lt_or_ge j (treeCells t).length with hh | hh
    · exact hh
    · rw [List.getElem?_eq_none hh] at hv; cases hv
  rw [Nat.zero_add, h.cell j hj]; exact hv
theorem treeAt_there {x : Ext} {w : World} {b : Nat} {t : Tr} (h : TreeAt x w b t) (t' : Tr) : w.there b 0 (treeCells t').toArray.size := by
  intro j hj
  have hj' : j < 400 := by simpa [treeCells_length] using hj
  refine ⟨?_, h.free _⟩
  rw [Nat.zero_add, h.cell j hj', List.getElem?_eq_getElem (by rw [treeCells_length]; exact hj')]; rfl
theorem treeSize0 : (Tryz.prog.info? 88).map (·.size) = some 400 := by kernel_rfl
theorem treeSize (t : Tr) : (Tryz.prog.info? 88).map (·.size) = some (treeCells t).length := by rw [treeCells_length]; exact treeSize0
theorem treeSize' (t : Tr) : (Tryz.prog.info? 88).map (·.size) = some (treeCells t).toArray.size := by rw [List.size_toArray]; exact treeSize t
theorem treeOne (t : Tr) : (treeCells t).toArray.all (·.oneCell') = true := by
  apply all_oneCell_toArray
  intro v hv
  unfold treeCells at hv
  rcases List.mem_append.1 hv with hv | hv
  · obtain ⟨i, _, rfl⟩ := List.mem_map.1 hv; rfl
  · unfold ndCells at hv
    obtain ⟨n, _, hn⟩ := List.mem_flatMap.1 hv
    simp [ndC] at hn
    rcases hn with rfl | rfl | rfl <;> rfl
theorem size_setCells (b : Nat) : ∀ (vs : List Value) (o : Nat) (w : World), (w.setCells b o vs).heap.size = w.heap.size ∧ (w.setCells b o vs).tape = w.tape
  | [], _, _ => ⟨rfl, rfl⟩
  | v :: vs, o, w => by
    have := size_setCells b vs (o + 1) (w.setCell ⟨b, o, none⟩ v)
    exact ⟨this.1.trans (by simp), this.2⟩
theorem below_setCells {B : Nat} {w wr : World} (hb : Below B w wr) {g : Nat} (hg : B ≤ g) (hB : B ≤ wr.heap.size) (o : Nat) (vs : List Value) : Below B w (wr.setCells g o vs) :=
  hb.trans ⟨World.os_setCells _ _ _ _, (size_setCells g vs o wr).2, World.output_setCells _ _ _ _, by rw [(size_setCells g vs o wr).1]; omega, fun k hk => World.heap_setCells_other _ _ _ _ (by omega) (by omega)⟩
set_option maxHeartbeats 1000000 in
theorem gather_any (ns : List Nd) (ao : Option Addr) (cap : Nat) (w : World) (hrow : Row w ao ns.length 3 (ndCells ns)) (hb : ∀ n ∈ ns, 1 ≤ n.id ∧ n.id ≤ 99) (hl : ns.length ≤ 4000) :
    Calls Tryz.prog 68 #[.slice ao ns.length cap] w fun e w' => e = .returned (.agg (treeCells (gather ns)).toArray) ∧ Below w.heap.size w w' := by
  have HROW := hide hrow; clear hrow
  have HB := hide hb; clear hb
  have HZ := hide zeroTree
  go_enter Tryz.func68, Tryz.ntmps68
  go_wp2
  go_loopw [8] (fun i wr => ∃ k : Nat, k ≤ ns.length ∧ i = .int .i64 k ∧ Below w.heap.size w wr ∧ Hid (TreeAt ext0 wr (w.heap.size + 1) ((ns.take k).foldl trPut tr0)) ∧ Hid (TreeAt ext0 wr w.heap.size tr0)) (fun i _ => ns.length - (intOf i).toNat)
  case atStart =>
    refine ⟨0, Nat.zero_le _, rfl, ((Below.refl _ _).alloc (Nat.le_refl _) _).alloc (by simp) _, ?_, ?_⟩
    · apply hide; unfold TreeAt ext0; rw [unhide HZ]; simpa using heap_alloc_new (w.alloc (.cells (treeCells tr0).toArray 88)) (.cells (treeCells tr0).toArray 88)
    · apply hide; unfold TreeAt ext0; rw [unhide HZ, Below.heap_alloc _ _ _ (by simp)]; simpa using heap_alloc_new w (.cells (treeCells tr0).toArray 88)
  case round =>
    obtain ⟨k, hk, rfl, hbel, HT1, HT0⟩ := hrel
    by_cases hlt : k < ns.length
    · obtain ⟨g, hao, hg, c0, c1, c2⟩ := nd_cells (unhide HROW) hbel hlt
      rw [hao]
      have hn := unhide HB _ (List.getElem_mem hlt)
      have HS := hide (fold_snoc ns k hlt)
      have hsz := hbel.size
      clear hao
      generalize ns[k] = nd at *
      go_wp2_with fail
      refine (put_any _ _ nd _ hn.1 hn.2 ((unhide HT1).below ((Below.refl _ _).alloc (Nat.le_refl _) _))).mono ?_
      rintro e w2 ⟨rfl, hT2, hg2⟩
      have HT2 : Hid (TreeAt ext0 w2 (w.heap.size + 1) ((ns.take (k + 1)).foldl trPut tr0)) := by apply hide; rw [unhide HS]; exact hT2
      have HT02 : Hid (TreeAt ext0 w2 w.heap.size tr0) := hide (treeAt_grown ((unhide HT0).below ((Below.refl _ _).alloc (Nat.le_refl _) _)) hg2 (by omega))
      have hb2 : Below w.heap.size w w2 := (hbel.alloc hsz _).grown hg2 (by simp; omega) (fun k hk => by cases hk; omega)
      clear hT2 hg2 c0 c1 c2 hbel
      go_wp2
      go_roundw
      case rel => exact ⟨k + 1, by omega, by go_num, hb2, HT2, HT02⟩
      case measure => simp [intOf]; omega
    · have HE : Hid (gather ns = (ns.take k).foldl trPut tr0) := by apply hide; rw [List.take_of_length_le (by omega)]; rfl
      generalize (ns.take k).foldl trPut tr0 = T at *
      have hRange : wr.rangeAt (w.heap.size + 1) 0 (treeCells T) := treeAt_range (unhide HT1)
      have hThere : wr.there w.heap.size 0 (treeCells T).toArray.size := treeAt_there (unhide HT0) T
      have HR := hide hRange; clear hRange
      have HTH := hide hThere; clear hThere
      go_wp2_with (first
        | (refine wpList_load_mid (by rfl) 88 (.tmp 3) (by rfl) (w.heap.size + 1) 0 (by rfl) (treeCells T) _ (unhide HR) Tryz.underlying88 (by rfl) (treeSize T) ?_)
        | (refine wpList_store_mid (by rfl) 88 (.tmp 2) (.tmp 15) (by rfl) w.heap.size 0 (treeCells T).toArray (by rfl) (by rfl) (unhide HTH) (treeSize' T) (treeOne T) ?_))
      have hr := World.rangeAt_setCells_same wr w.heap.size 0 (treeCells T) (by have := unhide HTH; rwa [List.size_toArray] at this)
      refine bodyPost_ret (v := .agg (treeCells T).toArray) (by simp [results, Tryz.results68, Act.put, asAddr, run_loadVar_mid _ _ _ _ _ _ hr Tryz.underlying88 rfl (treeSize T)]) rfl ⟨by rw [unhide HE], ?_⟩
      exact below_setCells hbel (Nat.le_refl _) hbel.size _ _
end Go.Proofs.YtkjancfakplogaaGreatDoor
