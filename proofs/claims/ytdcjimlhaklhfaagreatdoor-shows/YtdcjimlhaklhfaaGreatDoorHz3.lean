import Derived.Test.YtdcjimlhaklhfaaGreatDoorHz2
import Derived.RegionTactic
import Derived.BigRegion
import Derived.Deep.MidRow
import Derived.Deep.Upon
namespace Go.Proofs.YtdcjimlhaklhfaaGreatDoor
open Go.RowKit
theorem TreeAt.free {x : Ext} {w : World} {b : Nat} {t : Tr} (h : TreeAt x w b t) (j : Nat) : w.frozen? ⟨b, j, none⟩ = false := by
  simp [World.frozen?, show w.heap[b]? = _ from h]
theorem TreeAt.set {w : World} {b : Nat} {cs r : List Value} {ty : TypeId} {j : Nat} {v : Value} (hj : j < cs.length) (h : w.heap[b]? = some (.cells (cs ++ r).toArray ty (0, 0))) : (w.setCell ⟨b, j, none⟩ v).heap[b]? = some (.cells (cs.set j v ++ r).toArray ty (0, 0)) := by
  rw [heap_setCell_same w b j _ _ v h, ← List.set_append_left _ _ hj]; simp
theorem put_world {x : Ext} {w : World} {t : Tr} {b m : Nat} {parent : Int} {name : Str} (hm : m ≤ 99) (hT : TreeAt x w b t) (o : Obj) :
    TreeAt x ((((((w.setCell ⟨b, m, none⟩ (.bool true)).setCell ⟨b, 100 + m * 3, none⟩ (.int .i64 m)).setCell ⟨b, 100 + m * 3 + 1, none⟩ (.int .i64 parent)).setCell ⟨b, 100 + m * 3 + 2, none⟩ (.string (bs name))).alloc o).drew.drew) b (trPut t ⟨m, parent, name⟩) ∧
    w.grownBy ((((((w.setCell ⟨b, m, none⟩ (.bool true)).setCell ⟨b, 100 + m * 3, none⟩ (.int .i64 m)).setCell ⟨b, 100 + m * 3 + 1, none⟩ (.int .i64 parent)).setCell ⟨b, 100 + m * 3 + 2, none⟩ (.string (bs name))).alloc o).drew.drew) (some b) := by
  have hlt := hT.lt
  constructor
  · unfold TreeAt
    rw [heap_drew, heap_drew, Below.heap_alloc _ _ _ (by simp; exact hlt), ← treeCells_put t ⟨m, parent, name⟩ m rfl (by omega)]
    have hl := treeCells_length t
    exact TreeAt.set (by simp only [List.length_set]; omega) (TreeAt.set (by simp only [List.length_set]; omega) (TreeAt.set (by simp only [List.length_set]; omega) (TreeAt.set (by omega) hT)))
  · refine ⟨rfl, rfl, rfl, by simp [heap_drew], fun k hk hne => ?_⟩
    have hne' : k ≠ b := fun e => hne (by rw [e])
    rw [heap_drew, heap_drew, Below.heap_alloc _ _ _ (by simp; exact hk)]
    rw [heap_setCell_other _ _ _ _ hne', heap_setCell_other _ _ _ _ hne', heap_setCell_other _ _ _ _ hne', heap_setCell_other _ _ _ _ hne']
set_option maxHeartbeats 1000000 in
theorem put_nat {x : Ext} (t : Tr) (b m : Nat) (parent : Int) (name : Str) (w : World) (hm1 : 1 ≤ m) (hm : m ≤ 99) (hT : TreeAt x w b t) :
    Calls Tryz.prog 95 #[.pointer (some ⟨b, 0, none⟩), .agg #[.int .i64 m, .int .i64 parent, .string (bs name)]] w fun e w' => e = .returned (.tuple #[]) ∧ TreeAt x w' b (trPut t ⟨m, parent, name⟩) ∧ w.grownBy w' (some b) := by
  have hlt := hT.lt
  have c0 : w.cell? ⟨b, m, none⟩ = some (.bool (t m).isSome) := hT.here m (by omega)
  have c1 := (hT.cell (100 + m * 3)).trans (treeCells_node t m (by omega)).1
  have c2 := (hT.cell (100 + m * 3 + 1)).trans (treeCells_node t m (by omega)).2.1
  have c3 := (hT.cell (100 + m * 3 + 2)).trans (treeCells_node t m (by omega)).2.2
  have f0 : ∀ j, w.frozen? ⟨b, j, none⟩ = false := hT.free
  have hne : ¬ b = w.heap.size := by omega
  have hm0 : (0 : Int) ≤ m := by omega
  have HT := hide hT
  clear hT
  go_enter Tryz.func95, Tryz.ntmps95
  go_wp2
  go_region
  all_goals go_wp2
  all_goals go_region
  all_goals go_end0
  exact ⟨rfl, put_world hm (unhide HT) _⟩
theorem put_any {x : Ext} (t : Tr) (b : Nat) (n : Nd) (w : World) (hn : 1 ≤ n.id) (hn' : n.id ≤ 99) (hT : TreeAt x w b t) :
    Calls Tryz.prog 95 #[.pointer (some ⟨b, 0, none⟩), .agg #[.int .i64 n.id, .int .i64 n.parent, .string (bs n.name)]] w fun e w' => e = .returned (.tuple #[]) ∧ TreeAt x w' b (trPut t n) ∧ w.grownBy w' (some b) := by
  obtain ⟨id, parent, name⟩ := n
  obtain ⟨m, hm⟩ := Int.eq_ofNat_of_zero_le (show 0 ≤ id by simp at hn; omega)
  simp only at hm hn hn' ⊢
  subst hm
  exact put_nat t b m parent name w (by omega) (by omega) hT
theorem zeroTree : Tryz.zeroCells88 = (treeCells tr0).toArray := by kernel_rfl
theorem nd_cells {w wr : World} {ao : Option Addr} {ns : List Nd} (hrow : Row w ao ns.length 3 (ndCells ns)) (hb : Below w.heap.size w wr) {k : Nat} (hk : k < ns.length) :
    ∃ g, ao = some ⟨g, 0, none⟩ ∧ g < w.heap.size ∧ wr.cell? ⟨g, k * 3, none⟩ = some (.int .i64 (ns[k]).id) ∧ wr.cell? ⟨g, k * 3 + 1, none⟩ = some (.int .i64 (ns[k]).parent) ∧ wr.cell? ⟨g, k * 3 + 2, none⟩ = some (.string (bs (ns[k]).name)) := by
  obtain ⟨g, h1, h2, h3⟩ := hrow.2 (by omega)
  have := ndCells_get ns k hk
  refine ⟨g, h1, h2, ?_, ?_, ?_⟩
  · rw [hb.cell (p := ⟨g, _, none⟩) h2]; exact h3 _ _ this.1
  · rw [hb.cell (p := ⟨g, _, none⟩) h2]; exact h3 _ _ this.2.1
  · rw [hb.cell (p := ⟨g, _, none⟩) h2]; exact h3 _ _ this.2.2
theorem treeAt_grown {x : Ext} {w w' : World} {b c : Nat} {t : Tr} (h : TreeAt x w b t) (hg : w.grownBy w' (some c)) (hne : b ≠ c) : TreeAt x w' b t := by
  unfold TreeAt; rw [hg.block b h.lt (fun e => hne (by cases e; rfl))]; exact h
theorem fold_snoc (ns : List Nd) (k : Nat) (h : k < ns.length) : (ns.take (k + 1)).foldl trPut tr0 = trPut ((ns.take k).foldl trPut tr0) ns[k] := by
  rw [List.take_succ_eq_append_getElem h, List.foldl_append]; rfl
theorem treeAt_range {x : Ext} {w : World} {b : Nat} {t : Tr} (h : TreeAt x w b t) : w.rangeAt b 0 (treeCells t) := by
  intro j v hv
  have hj : j < 400 := by
    rw [← treeCells_length t]
    rcases Nat.lt_or_ge j (treeCells t).length with hh | hh
    · exact hh
    · rw [List.getElem?_eq_none hh] at hv; cases hv
  rw [Nat.zero_add, h.cell j hj]; exact hv
theorem treeAt_there {x : Ext} {w : World} {b : Nat} {t : Tr} (h : TreeAt x w b t) (t' : Tr) : w.there b 0 (treeCells t').toArray.size := by
  intro j hj
  have hj' : j < 400 := by simpa [treeCells_length] using hj
  refine ⟨?_, h.free _⟩
  rw [Nat.zero_add, h.cell j hj', List.getElem?_eq_getElem (by rw [treeCells_length]; exact hj')]; rfl
theorem treeSize0 : (Tryz.prog.info? 88).map (·.size) = some 400 := by kernel_rfl
theorem treeSize (t : Tr) : (Tryz.prog.info? 88).map (·.size) = some (treeCells t).length := by rw [treeCells_length]; exact treeSize0
theorem treeSize' (t : Tr) : (Tryz.prog.info? 88).map (·.size) = some (treeCells t).toArray.size := by rw [List.size_toArray]; exact treeSize t
theorem treeOne (t : Tr) : (treeCells t).toArray.all (·.oneCell') = true := by
  apply all_oneCell_toArray
  intro v hv
  unfold treeCells at hv
  rcases List.mem_append.1 hv with hv | hv
  · obtain ⟨i, _, rfl⟩ := List.mem_map.1 hv; rfl
  · unfold ndCells at hv
    obtain ⟨n, _, hn⟩ := List.mem_flatMap.1 hv
    simp [ndC] at hn
    rcases hn with rfl | rfl | rfl <;> rfl
theorem size_setCells (b : Nat) : ∀ (vs : List Value) (o : Nat) (w : World), (w.setCells b o vs).heap.size = w.heap.size ∧ (w.setCells b o vs).tape = w.tape
  | [], _, _ => ⟨rfl, rfl⟩
  | v :: vs, o, w => by
    have := size_setCells b vs (o + 1) (w.setCell ⟨b, o, none⟩ v)
    exact ⟨this.1.trans (by simp), this.2⟩
theorem below_setCells {B : Nat} {w wr : World} (hb : Below B w wr) {g : Nat} (hg : B ≤ g) (hB : B ≤ wr.heap.size) (o : Nat) (vs : List Value) : Below B w (wr.setCells g o vs) :=
  hb.trans ⟨World.os_setCells _ _ _ _, (size_setCells g vs o wr).2, World.output_setCells _ _ _ _, by rw [(size_setCells g vs o wr).1]; omega, fun k hk => World.heap_setCells_other _ _ _ _ (by omega) (by omega)⟩
set_option maxHeartbeats 1000000 in
theorem gather_any (ns : List Nd) (ao : Option Addr) (cap : Nat) (w : World) (hrow : Row w ao ns.length 3 (ndCells ns)) (hb : ∀ n ∈ ns, 1 ≤ n.id ∧ n.id ≤ 99) (hl : ns.length ≤ 4000) :
    Calls Tryz.prog 70 #[.slice ao ns.length cap] w fun e w' => e = .returned (.agg (treeCells (gather ns)).toArray) ∧ Below w.heap.size w w' := by
  have HROW := hide hrow; clear hrow
  have HB := hide hb; clear hb
  have HZ := hide zeroTree
  go_enter Tryz.func70, Tryz.ntmps70
  go_wp2
  go_loopw [8] (fun i wr => ∃ k : Nat, k ≤ ns.length ∧ i = .int .i64 k ∧ Below w.heap.size w wr ∧ Hid (TreeAt ext0 wr (w.heap.size + 1) ((ns.take k).foldl trPut tr0)) ∧ Hid (TreeAt ext0 wr w.heap.size tr0)) (fun i _ => ns.length - (intOf i).toNat)
  case atStart =>
    refine ⟨0, Nat.zero_le _, rfl, ((Below.refl _ _).alloc (Nat.le_refl _) _).alloc (by simp) _, ?_, ?_⟩
    · apply hide; unfold TreeAt ext0; rw [unhide HZ]; simpa using heap_alloc_new (w.alloc (.cells (treeCells tr0).toArray 88)) (.cells (treeCells tr0).toArray 88)
    · apply hide; unfold TreeAt ext0; rw [unhide HZ, Below.heap_alloc _ _ _ (by simp)]; simpa using heap_alloc_new w (.cells (treeCells tr0).toArray 88)
  case round =>
    obtain ⟨k, hk, rfl, hbel, HT1, HT0⟩ := hrel
    by_cases hlt : k < ns.length
    · obtain ⟨g, hao, hg, c0, c1, c2⟩ := nd_cells (unhide HROW) hbel hlt
      rw [hao]
      have hn := unhide HB _ (List.getElem_mem hlt)
      have HS := hide (fold_snoc ns k hlt)
      have hsz := hbel.size
      clear hao
      generalize ns[k] = nd at *
      go_wp2_with fail
      refine (put_any _ _ nd _ hn.1 hn.2 ((unhide HT1).below ((Below.refl _ _).alloc (Nat.le_refl _) _))).mono ?_
      rintro e w2 ⟨rfl, hT2, hg2⟩
      have HT2 : Hid (TreeAt ext0 w2 (w.heap.size + 1) ((ns.take (k + 1)).foldl trPut tr0)) := by apply hide; rw [unhide HS]; exact hT2
      have HT02 : Hid (TreeAt ext0 w2 w.heap.size tr0) := hide (treeAt_grown ((unhide HT0).below ((Below.refl _ _).alloc (Nat.le_refl _) _)) hg2 (by omega))
      have hb2 : Below w.heap.size w w2 := (hbel.alloc hsz _).grown hg2 (by simp; omega) (fun k hk => by cases hk; omega)
      clear hT2 hg2 c0 c1 c2 hbel
      go_wp2
      go_roundw
      case rel => exact ⟨k + 1, by omega, by go_num, hb2, HT2, HT02⟩
      case measure => simp [intOf]; omega
    · have HE : Hid (gather ns = (ns.take k).foldl trPut tr0) := by apply hide; rw [List.take_of_length_le (by omega)]; rfl
      generalize (ns.take k).foldl trPut tr0 = T at *
      have hRange : wr.rangeAt (w.heap.size + 1) 0 (treeCells T) := treeAt_range (unhide HT1)
      have hThere : wr.there w.heap.size 0 (treeCells T).toArray.size := treeAt_there (unhide HT0) T
      have HR := hide hRange; clear hRange
      have HTH := hide hThere; clear hThere
      go_wp2_with (first
        | (refine wpList_load_mid (by rfl) 88 (.tmp 3) (by rfl) (w.heap.size + 1) 0 (by rfl) (treeCells T) _ (unhide HR) Tryz.underlying88 (by rfl) (treeSize T) ?_)
        | (refine wpList_store_mid (by rfl) 88 (.tmp 2) (.tmp 15) (by rfl) w.heap.size 0 (treeCells T).toArray (by rfl) (by rfl) (unhide HTH) (treeSize' T) (treeOne T) ?_))
      have hr := World.rangeAt_setCells_same wr w.heap.size 0 (treeCells T) (by have := unhide HTH; rwa [List.size_toArray] at this)
      refine bodyPost_ret (v := .agg (treeCells T).toArray) (by simp [results, Tryz.results70, Act.put, asAddr, run_loadVar_mid _ _ _ _ _ _ hr Tryz.underlying88 rfl (treeSize T)]) rfl ⟨by rw [unhide HE], ?_⟩
      exact below_setCells hbel (Nat.le_refl _) hbel.size _ _
end Go.Proofs.YtdcjimlhaklhfaaGreatDoor

namespace Go.Proofs.YtdcjimlhaklhfaaGreatDoor
open Go.RowKit
def NoIn (p : Nat → Bool) (lo k : Nat) : Prop := ∀ j, lo ≤ j → j < k → p j = false
theorem noIn_succ {p : Nat → Bool} {lo k : Nat} (h : NoIn p lo k) (hp : p k = false) : NoIn p lo (k + 1) := by
  intro j h1 h2
  by_cases e : j = k
  · subst e; exact hp
  · exact h j h1 (by omega)
theorem drew2 (w : World) (a b : Nat) : ∃ n, (w.drewN a).drewN b = w.drewN n := ⟨a + b, by simp [World.drewN, Nat.add_assoc]⟩
set_option maxHeartbeats 1000000 in
theorem unordered_any (ns : List Nd) (ao : Option Addr) (cap : Nat) (w : World) (hrow : Row w ao ns.length 3 (ndCells ns)) (hl : ns.length ≤ 4000) :
    Calls Tryz.prog 69 #[.slice ao ns.length cap] w fun e w' => e = .returned (.int .i64 (scan (unordered ns) 1 ns.length)) ∧ ∃ n, w' = w.drewN n := by
  have HROW := hide hrow; clear hrow
  go_enter Tryz.func69, Tryz.ntmps69
  go_wp2
  go_loopw [3] (fun i wr => ∃ k nq : Nat, 1 ≤ k ∧ (k ≤ ns.length ∨ k = 1) ∧ i = .int .i64 k ∧ wr = w.drewN nq ∧ Hid (NoIn (unordered ns) 1 k)) (fun i _ => ns.length - (intOf i).toNat)
  case atStart => exact ⟨1, 0, Nat.le_refl _, .inr rfl, rfl, rfl, hide (fun j h1 h2 => by omega)⟩
  case round =>
    obtain ⟨k, nq, hk1, hk, rfl, rfl, HN⟩ := hrel
    by_cases hlt : k < ns.length
    · obtain ⟨j, rfl⟩ : ∃ j, k = j + 1 := ⟨k - 1, by omega⟩
      have HB := hide (Below.refl w.heap.size w)
      obtain ⟨g, hao, hg, c0, _, _⟩ := nd_cells (unhide HROW) (unhide HB) hlt
      obtain ⟨g', hao', _, d0, _, _⟩ := nd_cells (unhide HROW) (unhide HB) (show j < ns.length by omega)
      rw [hao] at hao'
      have hgg : g = g' := by cases hao'; rfl
      subst hgg
      rw [hao]
      have HU : Hid (unordered ns (j + 1) = decide ((ns[j + 1]).id ≤ (ns[j]).id)) := by
        apply hide; unfold unordered; rw [ndAt_get _ _ hlt, show j + 1 - 1 = j from rfl, ndAt_get _ _ (by omega)]
      clear hao hao' HB
      have hj0 : (0 : Int) ≤ j := by omega
      have hj1 : (j : Int) + 1 < ns.length := by omega
      have hj2 : (j : Int) < ns.length := by omega
      have hj3 : (0 : Int) ≤ (j : Int) + 1 := by omega
      have hj4 : ((j : Int) + 1).toNat = j + 1 := by omega
      by_cases hle : (ns[j + 1]).id ≤ (ns[j]).id
      · have HS : Hid (scan (unordered ns) 1 ns.length = j + 1) := hide (scan_hit (by omega) hlt (by rw [unhide HU]; simpa using hle) (unhide HN))
        go_wp2
        go_quiet (fail)
        go_wp2
        go_ret
        exact ⟨ret_int (by rw [unhide HS]), drew2 _ _ _⟩
      · have HN2 := hide (noIn_succ (unhide HN) (by rw [unhide HU]; simpa using hle))
        go_wp2
        go_quiet (fail)
        go_wp2
        go_roundw
        case rel => exact ⟨j + 1 + 1, _, by omega, by omega, by go_num, rfl, HN2⟩
        case measure => simp [intOf]; omega
    · have HS : Hid (scan (unordered ns) 1 ns.length = ns.length) := hide (scan_none (fun j h1 h2 => unhide HN j h1 (by omega)))
      go_wp2
      go_ret
      exact ⟨ret_int (by rw [unhide HS]), _, rfl⟩
set_option maxHeartbeats 1000000 in
theorem orphan_any {x : Ext} (t : Tr) (b : Nat) (ns : List Nd) (ao : Option Addr) (cap : Nat) (w : World) (ht : TrOk t) (hT : TreeAt x w b t) (hrow : Row w ao ns.length 3 (ndCells ns)) (hn : ∀ n ∈ ns, 0 ≤ n.parent ∧ n.parent ≤ 99) (hl : ns.length ≤ 4000) :
    Calls Tryz.prog 98 #[.pointer (some ⟨b, 0, none⟩), .slice ao ns.length cap] w fun e w' => e = .returned (.int .i64 (scan (orphan t ns) 0 ns.length)) ∧ Below w.heap.size w w' := by
  have HROW := hide hrow; clear hrow
  have HT := hide hT; clear hT
  have HO := hide ht; clear ht
  have HNB := hide hn; clear hn
  go_enter Tryz.func98, Tryz.ntmps98
  go_wp2
  go_loopw [9] (fun i wr => ∃ k : Nat, k ≤ ns.length ∧ i = .int .i64 k ∧ Below w.heap.size w wr ∧ Hid (NoIn (orphan t ns) 0 k)) (fun i _ => ns.length - (intOf i).toNat)
  case atStart => exact ⟨0, Nat.zero_le _, rfl, Below.refl _ _, hide (fun j h1 h2 => by omega)⟩
  case round =>
    obtain ⟨k, hk, rfl, hbel, HN⟩ := hrel
    by_cases hlt : k < ns.length
    · obtain ⟨g, hao, hg, c0, c1, c2⟩ := nd_cells (unhide HROW) hbel hlt
      rw [hao]
      have hp := unhide HNB _ (List.getElem_mem hlt)
      have HU : Hid (orphan t ns k = !isParentT t (ns[k]).parent) := by apply hide; unfold orphan; rw [ndAt_get _ _ hlt]
      have hsz := hbel.size
      have HB1 := hide (hbel.alloc hsz (.cells #[.int .i64 (ns[k]).id, .int .i64 (ns[k]).parent, .string (bs (ns[k]).name)] 85))
      have HP := hide (isParent_any t b (ns[k]).parent _ (unhide HO) hp.1 hp.2 ((unhide HT).below (unhide HB1)))
      clear hao hbel
      generalize ns[k] = nd at *
      cases hq : isParentT t nd.parent
      · have HS : Hid (scan (orphan t ns) 0 ns.length = k) := hide (scan_hit (by omega) hlt (by rw [unhide HU, hq]; rfl) (unhide HN))
        rw [hq] at HP
        clear hq
        go_wp2_with fail
        refine (unhide HP).mono ?_
        rintro e w2 ⟨rfl, rfl⟩
        go_wp2
        go_ret
        exact ⟨ret_int (by rw [unhide HS]), unhide HB1⟩
      · have HN2 := hide (noIn_succ (unhide HN) (by rw [unhide HU, hq]; rfl))
        rw [hq] at HP
        clear hq
        go_wp2_with fail
        refine (unhide HP).mono ?_
        rintro e w2 ⟨rfl, rfl⟩
        go_wp2
        go_roundw
        case rel => exact ⟨k + 1, by omega, by go_num, unhide HB1, HN2⟩
        case measure => simp [intOf]; omega
    · have HS : Hid (scan (orphan t ns) 0 ns.length = ns.length) := hide (scan_none (fun j h1 h2 => unhide HN j h1 (by omega)))
      go_wp2
      go_ret
      exact ⟨ret_int (by rw [unhide HS]), hbel⟩
set_option maxHeartbeats 1000000 in
theorem looped_any {x : Ext} (t : Tr) (b : Nat) (ns : List Nd) (ao : Option Addr) (cap : Nat) (w : World) (ht : TrOk t) (hT : TreeAt x w b t) (hrow : Row w ao ns.length 3 (ndCells ns)) (hn : ∀ n ∈ ns, 0 ≤ n.id ∧ n.id ≤ 99) (hl : ns.length ≤ 4000) :
    Calls Tryz.prog 99 #[.pointer (some ⟨b, 0, none⟩), .slice ao ns.length cap] w fun e w' => e = .returned (.int .i64 (scan (looped t ns) 0 ns.length)) ∧ Below w.heap.size w w' := by
  have HROW := hide hrow; clear hrow
  have HT := hide hT; clear hT
  have HO := hide ht; clear ht
  have HNB := hide hn; clear hn
  go_enter Tryz.func99, Tryz.ntmps99
  go_wp2
  go_loopw [9] (fun i wr => ∃ k : Nat, k ≤ ns.length ∧ i = .int .i64 k ∧ Below w.heap.size w wr ∧ Hid (NoIn (looped t ns) 0 k)) (fun i _ => ns.length - (intOf i).toNat)
  case atStart => exact ⟨0, Nat.zero_le _, rfl, Below.refl _ _, hide (fun j h1 h2 => by omega)⟩
  case round =>
    obtain ⟨k, hk, rfl, hbel, HN⟩ := hrel
    by_cases hlt : k < ns.length
    · obtain ⟨g, hao, hg, c0, c1, c2⟩ := nd_cells (unhide HROW) hbel hlt
      rw [hao]
      have hp := unhide HNB _ (List.getElem_mem hlt)
      have HU : Hid (looped t ns k = !meetsT t (ns[k]).id 0) := by apply hide; unfold looped; rw [ndAt_get _ _ hlt]
      have hsz := hbel.size
      have HB1 := hide (hbel.alloc hsz (.cells #[.int .i64 (ns[k]).id, .int .i64 (ns[k]).parent, .string (bs (ns[k]).name)] 85))
      have HP := hide (meets_any t b (ns[k]).id 0 _ (unhide HO) hp.1 hp.2 ((unhide HT).below (unhide HB1)))
      clear hao hbel
      generalize ns[k] = nd at *
      cases hq : meetsT t nd.id 0
      · have HS : Hid (scan (looped t ns) 0 ns.length = k) := hide (scan_hit (by omega) hlt (by rw [unhide HU, hq]; rfl) (unhide HN))
        rw [hq] at HP
        clear hq
        go_wp2_with fail
        refine (unhide HP).mono ?_
        rintro e w2 ⟨rfl, rfl⟩
        go_wp2
        go_ret
        exact ⟨ret_int (by rw [unhide HS]), unhide HB1⟩
      · have HN2 := hide (noIn_succ (unhide HN) (by rw [unhide HU, hq]; rfl))
        rw [hq] at HP
        clear hq
        go_wp2_with fail
        refine (unhide HP).mono ?_
        rintro e w2 ⟨rfl, rfl⟩
        go_wp2
        go_roundw
        case rel => exact ⟨k + 1, by omega, by go_num, unhide HB1, HN2⟩
        case measure => simp [intOf]; omega
    · have HS : Hid (scan (looped t ns) 0 ns.length = ns.length) := hide (scan_none (fun j h1 h2 => unhide HN j h1 (by omega)))
      go_wp2
      go_ret
      exact ⟨ret_int (by rw [unhide HS]), hbel⟩
end Go.Proofs.YtdcjimlhaklhfaaGreatDoor

namespace Go.Proofs.YtdcjimlhaklhfaaGreatDoor
open Go.RowKit
theorem names_eq (a b : Str) : ((bs a).toList == (bs b).toList) = (a == b) := by rw [tl_sl, tl_sl, sl_bs, sl_bs]
theorem same_get (ns : List Nd) (i j : Nat) (hi : i < ns.length) (hj : j < ns.length) : samePlace ns i j = (((ns[j]).parent == (ns[i]).parent) && ((ns[j]).name == (ns[i]).name)) := by
  unfold samePlace; rw [ndAt_get _ _ hi, ndAt_get _ _ hj]
theorem twice_yes {ns : List Nd} {i j : Nat} (h : j < i) (hs : samePlace ns i j = true) : twice ns i = true := by unfold twice; exact decide_eq_true ⟨j, h, hs⟩
theorem twice_no {ns : List Nd} {i : Nat} (h : NoIn (samePlace ns i) 0 i) : twice ns i = false := by
  unfold twice
  apply decide_eq_false
  rintro ⟨j, h1, h2⟩
  rw [h j (by omega) h1] at h2
  cases h2
set_option maxHeartbeats 2000000 in
theorem twice_any (ns : List Nd) (ao : Option Addr) (cap : Nat) (w : World) (hrow : Row w ao ns.length 3 (ndCells ns)) (hl : ns.length ≤ 4000) :
    Calls Tryz.prog 100 #[.slice ao ns.length cap] w fun e w' => e = .returned (.int .i64 (scan (twice ns) 0 ns.length)) ∧ ∃ n, w' = w.drewN n := by
  have HROW := hide hrow; clear hrow
  go_enter Tryz.func100, Tryz.ntmps100
  go_wp2
  go_loopw [7] (fun x wr => ∃ i nq : Nat, i ≤ ns.length ∧ x = .int .i64 i ∧ wr = w.drewN nq ∧ Hid (NoIn (twice ns) 0 i)) (fun x _ => ns.length - (intOf x).toNat)
  case atStart => exact ⟨0, 0, Nat.zero_le _, rfl, rfl, hide (fun j h1 h2 => by omega)⟩
  case round =>
    obtain ⟨i, nq, hi, rfl, rfl, HN⟩ := hrel
    by_cases hlt : i < ns.length
    · have hi0 : (0 : Int) ≤ i := by omega
      have hi1 : (i : Int) < ns.length := by omega
      go_wp2
      go_loopw [4] (fun x wr => ∃ j nq' : Nat, j ≤ i ∧ x = .int .i64 j ∧ wr = w.drewN nq' ∧ Hid (NoIn (samePlace ns i) 0 j)) (fun x _ => i - (intOf x).toNat)
      case atStart => exact ⟨0, nq, Nat.zero_le _, rfl, rfl, hide (fun j h1 h2 => by omega)⟩
      case round =>
        obtain ⟨j, nq', hj, rfl, rfl, HM⟩ := hrel
        by_cases hjl : j < i
        · have HB := hide (Below.refl w.heap.size w)
          have hj0 : (0 : Int) ≤ j := by omega
          have hj1 : (j : Int) < ns.length := by omega
          obtain ⟨g, hao, hg, _, c1, c2⟩ := nd_cells (unhide HROW) (unhide HB) hlt
          obtain ⟨g', hao', _, _, d1, d2⟩ := nd_cells (unhide HROW) (unhide HB) (show j < ns.length by omega)
          rw [hao] at hao'
          have hgg : g = g' := by cases hao'; rfl
          subst hgg
          rw [hao]
          have HU := hide (same_get ns i j hlt (by omega))
          clear hao hao' HB
          cases hpe : ((ns[j]).parent == (ns[i]).parent)
          · have HM2 := hide (noIn_succ (unhide HM) (by rw [unhide HU, hpe]; rfl))
            go_wp2
            go_quiet (fail)
            go_wp2
            go_roundw
            case rel => exact ⟨j + 1, _, by omega, by go_num, rfl, HM2⟩
            case measure => simp [intOf]; omega
          · cases hne : ((ns[j]).name == (ns[i]).name)
            · have HM2 := hide (noIn_succ (unhide HM) (by rw [unhide HU, hpe, hne]; rfl))
              have hne2 : ((bs (ns[j]).name).toList == (bs (ns[i]).name).toList) = false := by rw [names_eq]; exact hne
              clear hne
              go_wp2
              go_quiet (fail)
              go_wp2
              go_roundw
              case rel => exact ⟨j + 1, _, by omega, by go_num, rfl, HM2⟩
              case measure => simp [intOf]; omega
            · have HS : Hid (scan (twice ns) 0 ns.length = i) := hide (scan_hit (by omega) hlt (twice_yes hjl (by rw [unhide HU, hpe, hne]; rfl)) (unhide HN))
              have hne2 : ((bs (ns[j]).name).toList == (bs (ns[i]).name).toList) = true := by rw [names_eq]; exact hne
              clear hne
              go_wp2
              go_quiet (fail)
              go_wp2
              go_ret
              exact ⟨ret_int (by rw [unhide HS]), drew2 _ _ _⟩
        · have hji : j = i := by omega
          subst hji
          have HN2 := hide (noIn_succ (unhide HN) (twice_no (unhide HM)))
          go_wp2
          go_roundw
          case rel => exact ⟨j + 1, _, by omega, by go_num, rfl, HN2⟩
          case measure => simp [intOf]; omega
    · have HS : Hid (scan (twice ns) 0 ns.length = ns.length) := hide (scan_none (fun j h1 h2 => unhide HN j h1 (by omega)))
      go_wp2
      go_ret
      exact ⟨ret_int (by rw [unhide HS]), _, rfl⟩
end Go.Proofs.YtdcjimlhaklhfaaGreatDoor

namespace Go.Proofs.YtdcjimlhaklhfaaGreatDoor
open Go.RowKit
def idIs (ns : List Nd) (id : Int) (i : Nat) : Bool := (ndAt ns i).id == id
def findN (ns : List Nd) (id : Int) : Nat := scan (idIs ns id) 0 ns.length
def findR (ns : List Nd) (id : Int) : Int := if findN ns id < ns.length then (findN ns id : Int) else -1
def lookR (ns : List Nd) (id : Int) : Option Nd := if findN ns id < ns.length then some (ndAt ns (findN ns id)) else none
def folderR (ns : List Nd) (id : Int) : Bool := id == 0 || (id % 2 == 0 && (lookR ns id).isSome)
def belowF (look : Int → Option Nd) : Nat → Int → Int → Bool
  | 0, _, _ => false
  | f + 1, id, top => match look id with
    | none => false
    | some n => if n.parent = top then true else belowF look f n.parent top
def belowR (ns : List Nd) (id top : Int) : Bool := belowF (lookR ns) (ns.length + 1) id top
def placeIs (ns : List Nd) (parent : Int) (name : Str) (i : Nat) : Bool := ((ndAt ns i).parent == parent) && ((ndAt ns i).name == name)
def takenN (ns : List Nd) (parent : Int) (name : Str) : Nat := scan (placeIs ns parent name) 0 ns.length
def takenR (ns : List Nd) (parent : Int) (name : Str) : Int := if takenN ns parent name < ns.length then (ndAt ns (takenN ns parent name)).id else 0
/-- the rules behind the form -/
def rOrphan (ns : List Nd) (i : Nat) : Bool := !folderR ns (ndAt ns i).parent
def rLooped (ns : List Nd) (i : Nat) : Bool := !belowR ns (ndAt ns i).id 0
def rTwice (ns : List Nd) (i : Nat) : Bool := takenR (ns.take i) (ndAt ns i).parent (ndAt ns i).name != 0
def wrongR (ns : List Nd) : Int × Nat :=
  if scan (unordered ns) 1 ns.length < ns.length then (3, scan (unordered ns) 1 ns.length)
  else if scan (rOrphan ns) 0 ns.length < ns.length then (4, scan (rOrphan ns) 0 ns.length)
  else if scan (rLooped ns) 0 ns.length < ns.length then (5, scan (rLooped ns) 0 ns.length)
  else if scan (rTwice ns) 0 ns.length < ns.length then (6, scan (rTwice ns) 0 ns.length)
  else (0, 0)
def checkR (l : Str) : Int × Nat :=
  if 4000 < l.length then (1, 0) else
  if (readNodes (cut l)).length < (cut l).length then (2, (readNodes (cut l)).length) else
  wrongR (readNodes (cut l))
theorem lookR_none {ns : List Nd} {id : Int} (h : ¬ findN ns id < ns.length) : lookR ns id = none ∧ findR ns id = -1 := by
  unfold lookR findR; rw [if_neg h, if_neg h]; exact ⟨rfl, rfl⟩
theorem lookR_some {ns : List Nd} {id : Int} (h : findN ns id < ns.length) : lookR ns id = some ns[findN ns id] ∧ findR ns id = findN ns id := by
  unfold lookR findR; rw [if_pos h, if_pos h, ndAt_get _ _ h]; exact ⟨rfl, rfl⟩
end Go.Proofs.YtdcjimlhaklhfaaGreatDoor

namespace Go.Proofs.YtdcjimlhaklhfaaGreatDoor
open Go.RowKit
set_option maxHeartbeats 1000000 in
theorem find_any (ns : List Nd) (id : Int) (ao : Option Addr) (cap : Nat) (w : World) (hrow : Row w ao ns.length 3 (ndCells ns)) (hl : ns.length ≤ 4000) :
    Calls Tryz.prog 62 #[.slice ao ns.length cap, .int .i64 id] w fun e w' => e = .returned (.int .i64 (findR ns id)) ∧ w' = w := by
  have HROW := hide hrow; clear hrow
  have HB := hide (Below.refl w.heap.size w)
  go_enter Tryz.func62, Tryz.ntmps62
  go_wp2
  go_loop [5] (fun i => ∃ k : Nat, k ≤ ns.length ∧ i = .int .i64 k ∧ Hid (NoIn (idIs ns id) 0 k)) (fun i => ns.length - (intOf i).toNat)
  case atStart => exact ⟨0, Nat.zero_le _, rfl, hide (fun j h1 h2 => by omega)⟩
  case round =>
    obtain ⟨k, hk, rfl, HN⟩ := hrel
    by_cases hlt : k < ns.length
    · obtain ⟨g, hao, hg, c0, _, _⟩ := nd_cells (unhide HROW) (unhide HB) hlt
      rw [hao]
      have HU : Hid (idIs ns id k = ((ns[k]).id == id)) := by apply hide; unfold idIs; rw [ndAt_get _ _ hlt]
      clear hao
      cases hq : ((ns[k]).id == id)
      · have HN2 := hide (noIn_succ (unhide HN) (by rw [unhide HU]; exact hq))
        go_wp2
        go_round
        case rel => exact ⟨k + 1, by omega, by go_num, HN2⟩
        case measure => simp [intOf]; omega
      · have HS : Hid (findR ns id = k) := by
          apply hide
          have e : findN ns id = k := scan_hit (by omega) hlt (by rw [unhide HU]; exact hq) (unhide HN)
          rw [(lookR_some (by rw [e]; exact hlt)).2, e]
        go_wp2
        go_ret
        exact ⟨ret_int (unhide HS).symm, rfl⟩
    · have HS : Hid (findR ns id = -1) := by
        apply hide
        have e : findN ns id = ns.length := scan_none (fun j h1 h2 => unhide HN j h1 (by omega))
        exact (lookR_none (by rw [e]; omega)).2
      go_wp2
      go_ret
      exact ⟨ret_int (unhide HS).symm, rfl⟩
theorem findR_bd (ns : List Nd) (id : Int) : -1 ≤ findR ns id ∧ findR ns id < (ns.length : Int) + 1 ∧ ((lookR ns id).isSome = decide (0 ≤ findR ns id)) := by
  by_cases h : findN ns id < ns.length
  · obtain ⟨h1, h2⟩ := lookR_some h
    rw [h1, h2]; refine ⟨by omega, by omega, by simp⟩
  · obtain ⟨h1, h2⟩ := lookR_none h
    rw [h1, h2]; refine ⟨by omega, by omega, by simp⟩
set_option maxHeartbeats 1000000 in
theorem folder_any (ns : List Nd) (id : Int) (ao : Option Addr) (cap : Nat) (w : World) (hrow : Row w ao ns.length 3 (ndCells ns)) (hl : ns.length ≤ 4000) (h0 : 0 ≤ id) (h1 : id ≤ 1000) :
    Calls Tryz.prog 63 #[.slice ao ns.length cap, .int .i64 id] w fun e w' => e = .returned (.bool (folderR ns id)) ∧ w' = w := by
  have HF := hide (find_any ns id ao cap w hrow hl)
  have hbd := findR_bd ns id
  have HP : Hid (folderR ns id = (id == 0 || (id % 2 == 0 && decide (0 ≤ findR ns id)))) := by apply hide; unfold folderR; rw [hbd.2.2]
  obtain ⟨b1, b2, _⟩ := hbd
  clear hrow
  generalize findR ns id = f at *
  by_cases hz : id = 0
  · subst hz
    go_enter Tryz.func63, Tryz.ntmps63
    go_wp2_with fail
    refine (unhide HF).mono ?_
    rintro e w' ⟨rfl, rfl⟩
    go_wp2
    go_ret
    exact ⟨ret_bool (by rw [unhide HP]; rfl), rfl⟩
  · have hz' : (id == 0) = false := by simpa using hz
    by_cases he : id % 2 = 0
    · have he' : (id % 2 == 0) = true := by simpa using he
      have HE := hide he'
      have HZ := hide hz'
      clear he
      go_enter Tryz.func63, Tryz.ntmps63
      go_wp2_with fail
      refine (unhide HF).mono ?_
      rintro e w' ⟨rfl, rfl⟩
      go_wp2
      go_ret
      exact ⟨ret_bool (by rw [unhide HP, unhide HZ, unhide HE]; rfl), rfl⟩
    · have he' : (id % 2 == 0) = false := by simpa using he
      have HE := hide he'
      have HZ := hide hz'
      clear he
      go_enter Tryz.func63, Tryz.ntmps63
      go_wp2_with fail
      refine (unhide HF).mono ?_
      rintro e w' ⟨rfl, rfl⟩
      go_wp2
      go_ret
      exact ⟨ret_bool (by rw [unhide HP, unhide HZ, unhide HE]; rfl), rfl⟩
theorem belowF_none {look : Int → Option Nd} {f : Nat} {id top : Int} (h : look id = none) : belowF look (f + 1) id top = false := by simp [belowF, h]
theorem belowF_hit {look : Int → Option Nd} {f : Nat} {id : Int} {n : Nd} (h : look id = some n) : belowF look (f + 1) id n.parent = true := by simp [belowF, h]
theorem belowF_on {look : Int → Option Nd} {f : Nat} {id top : Int} {n : Nd} (h : look id = some n) (hne : ¬ n.parent = top) : belowF look (f + 1) id top = belowF look f n.parent top := by simp [belowF, h, hne]
set_option maxHeartbeats 1000000 in
theorem below_any (ns : List Nd) (id top : Int) (ao : Option Addr) (cap : Nat) (w : World) (hrow : Row w ao ns.length 3 (ndCells ns)) (hl : ns.length ≤ 4000) :
    Calls Tryz.prog 59 #[.slice ao ns.length cap, .int .i64 id, .int .i64 top] w fun e w' => e = .returned (.bool (belowR ns id top)) ∧ w' = w := by
  have HROW := hide hrow; clear hrow
  have HB := hide (Below.refl w.heap.size w)
  have HM : Hid (belowR ns id top = belowF (lookR ns) (ns.length + 1) id top) := hide rfl
  generalize belowR ns id top = M at *
  go_enter Tryz.func59, Tryz.ntmps59
  go_wp2
  go_loop [7, 8] (fun d i => ∃ k : Nat, ∃ m : Int, k ≤ ns.length + 1 ∧ i = .int .i64 k ∧ d = .int .i64 m ∧ Hid (M = belowF (lookR ns) (ns.length + 1 - k) m top)) (fun _ i => ns.length + 2 - (intOf i).toNat)
  case atStart => exact ⟨0, id, by omega, rfl, rfl, HM⟩
  case round =>
    obtain ⟨k, m, hk, rfl, rfl, HI⟩ := hrel
    have HF := hide (find_any ns m ao cap w (unhide HROW) hl)
    by_cases hle : k ≤ ns.length
    · have HI2 : Hid (M = belowF (lookR ns) ((ns.length - k) + 1) m top) := by apply hide; rw [show ns.length - k + 1 = ns.length + 1 - k by omega]; exact unhide HI
      clear HI HM
      by_cases hf : findN ns m < ns.length
      · obtain ⟨q1, q2⟩ := lookR_some hf
        obtain ⟨g, hao, hg, _, c1, _⟩ := nd_cells (unhide HROW) (unhide HB) hf
        rw [q2] at HF
        rw [hao] at HF ⊢
        have HQ := hide q1
        clear q1 q2 hao
        generalize hfn : findN ns m = fn at *
        have HFN := hide hfn
        clear hfn
        have hfn0 : (0 : Int) ≤ fn := by omega
        have hfn1 : (fn : Int) < ns.length := by omega
        generalize ns[fn] = nd at *
        by_cases hp : nd.parent = top
        · have HT : Hid (M = true) := by apply hide; rw [unhide HI2, ← hp]; exact belowF_hit (unhide HQ)
          have hp' : (nd.parent == top) = true := by simpa using hp
          clear hp
          go_wp2_with fail
          refine (unhide HF).mono ?_
          rintro e w' ⟨rfl, rfl⟩
          go_wp2
          go_ret
          exact ⟨ret_bool (unhide HT).symm, rfl⟩
        · have HT : Hid (M = belowF (lookR ns) (ns.length - k) nd.parent top) := by apply hide; rw [unhide HI2]; exact belowF_on (unhide HQ) hp
          have hp' : (nd.parent == top) = false := by simpa using hp
          clear hp
          go_wp2_with fail
          refine (unhide HF).mono ?_
          rintro e w' ⟨rfl, rfl⟩
          go_wp2
          go_round
          case rel => exact ⟨k + 1, nd.parent, by omega, by go_num, rfl, by apply hide; rw [show ns.length + 1 - (k + 1) = ns.length - k by omega]; exact unhide HT⟩
          case measure => simp [intOf]; omega
      · obtain ⟨q1, q2⟩ := lookR_none hf
        have HT : Hid (M = false) := by apply hide; rw [unhide HI2]; exact belowF_none q1
        rw [q2] at HF
        clear q1 q2 hf
        go_wp2_with fail
        refine (unhide HF).mono ?_
        rintro e w' ⟨rfl, rfl⟩
        go_wp2
        go_ret
        exact ⟨ret_bool (unhide HT).symm, rfl⟩
    · have HT : Hid (M = false) := by apply hide; rw [unhide HI, show ns.length + 1 - k = 0 by omega]; rfl
      go_wp2
      go_ret
      exact ⟨ret_bool (unhide HT).symm, rfl⟩
set_option maxHeartbeats 1000000 in
theorem taken_any (ns : List Nd) (parent : Int) (name : Str) (ao : Option Addr) (cap : Nat) (w : World) (hrow : Row w ao ns.length 3 (ndCells ns)) (hl : ns.length ≤ 4000) :
    Calls Tryz.prog 64 #[.slice ao ns.length cap, .int .i64 parent, .string (bs name)] w fun e w' => e = .returned (.int .i64 (takenR ns parent name)) ∧ w' = w := by
  have HROW := hide hrow; clear hrow
  have HB := hide (Below.refl w.heap.size w)
  go_enter Tryz.func64, Tryz.ntmps64
  go_wp2
  go_loop [7] (fun i => ∃ k : Nat, k ≤ ns.length ∧ i = .int .i64 k ∧ Hid (NoIn (placeIs ns parent name) 0 k)) (fun i => ns.length - (intOf i).toNat)
  case atStart => exact ⟨0, Nat.zero_le _, rfl, hide (fun j h1 h2 => by omega)⟩
  case round =>
    obtain ⟨k, hk, rfl, HN⟩ := hrel
    by_cases hlt : k < ns.length
    · obtain ⟨g, hao, hg, c0, c1, c2⟩ := nd_cells (unhide HROW) (unhide HB) hlt
      rw [hao]
      have HU : Hid (placeIs ns parent name k = (((ns[k]).parent == parent) && ((ns[k]).name == name))) := by apply hide; unfold placeIs; rw [ndAt_get _ _ hlt]
      clear hao
      cases hq : ((ns[k]).parent == parent)
      · have HN2 := hide (noIn_succ (unhide HN) (by rw [unhide HU, hq]; rfl))
        go_wp2
        go_round
        case rel => exact ⟨k + 1, by omega, by go_num, HN2⟩
        case measure => simp [intOf]; omega
      · cases hq2 : ((ns[k]).name == name)
        · have HN2 := hide (noIn_succ (unhide HN) (by rw [unhide HU, hq, hq2]; rfl))
          have hne2 : ((bs (ns[k]).name).toList == (bs name).toList) = false := by rw [names_eq]; exact hq2
          clear hq2
          go_wp2
          go_round
          case rel => exact ⟨k + 1, by omega, by go_num, HN2⟩
          case measure => simp [intOf]; omega
        · have HS : Hid (takenR ns parent name = (ns[k]).id) := by
            apply hide
            have e : takenN ns parent name = k := scan_hit (by omega) hlt (by rw [unhide HU, hq, hq2]; rfl) (unhide HN)
            unfold takenR; rw [e, if_pos hlt, ndAt_get _ _ hlt]
          have hne2 : ((bs (ns[k]).name).toList == (bs name).toList) = true := by rw [names_eq]; exact hq2
          clear hq2
          go_wp2
          go_ret
          exact ⟨ret_int (unhide HS).symm, rfl⟩
    · have HS : Hid (takenR ns parent name = 0) := by
        apply hide
        have e : takenN ns parent name = ns.length := scan_none (fun j h1 h2 => unhide HN j h1 (by omega))
        unfold takenR; rw [e, if_neg (by omega)]
      go_wp2
      go_ret
      exact ⟨ret_int (unhide HS).symm, rfl⟩
end Go.Proofs.YtdcjimlhaklhfaaGreatDoor

namespace Go.Proofs.YtdcjimlhaklhfaaGreatDoor
open Go.RowKit
theorem quiet_add {P : Program} {f : FuncId} {args : Array Value} {w : World} {a n : Nat} {v : Value}
    (h : Calls P f args (w.drewN (a + n)) fun e w' => e = .returned v ∧ w' = w.drewN (a + n)) : Calls P f args (w.drewN (a + n)) fun e w'' => e = .returned v ∧ ∃ m, w'' = w.drewN (a + m) :=
  h.mono fun _ _ ⟨he, hm⟩ => ⟨he, n, hm⟩
theorem row_drewN {w : World} {ao : Option Addr} {n size : Nat} {xs : List Value} (h : Row w ao n size xs) (k : Nat) : Row (w.drewN k) ao n size xs := h.below (below_drewN (Below.refl _ _) k)
theorem row_take {w : World} {ao : Option Addr} {ns : List Nd} (h : Row w ao ns.length 3 (ndCells ns)) (i : Nat) (hi : i ≤ ns.length) : Row w ao (ns.take i).length 3 (ndCells (ns.take i)) := by
  refine ⟨ndCells_length _, fun hn => ?_⟩
  have hlen : (ns.take i).length = i := by rw [List.length_take]; omega
  obtain ⟨g, h1, h2, h3⟩ := h.2 (by omega)
  refine ⟨g, h1, h2, fun j u hu => h3 j u ?_⟩
  have : ndCells ns = ndCells (ns.take i) ++ ndCells (ns.drop i) := by rw [ndCells, ndCells, ndCells, ← List.flatMap_append, List.take_append_drop]
  rw [this, List.getElem?_append_left (by rcases Nat.lt_or_ge j (ndCells (ns.take i)).length with hh | hh; exact hh; rw [List.getElem?_eq_none hh] at hu; cases hu)]
  exact hu
set_option maxHeartbeats 4000000 in
theorem wrong_any (ns : List Nd) (ao : Option Addr) (cap : Nat) (w : World) (hrow : Row w ao ns.length 3 (ndCells ns)) (hcap : ns.length ≤ cap) (hl : ns.length ≤ 4000) (hn : ∀ n ∈ ns, 0 ≤ n.parent ∧ n.parent ≤ 99) :
    Calls Tryz.prog 44 #[.slice ao ns.length cap] w fun e w' => e = .returned (.tuple #[.int .i64 (wrongR ns).1, .int .i64 (wrongR ns).2]) ∧ Below w.heap.size w w' := by
  have HROW := hide hrow; clear hrow
  have HNB := hide hn; clear hn
  have HW : Hid (wrongR ns = if scan (unordered ns) 1 ns.length < ns.length then (3, scan (unordered ns) 1 ns.length) else if scan (rOrphan ns) 0 ns.length < ns.length then (4, scan (rOrphan ns) 0 ns.length) else if scan (rLooped ns) 0 ns.length < ns.length then (5, scan (rLooped ns) 0 ns.length) else if scan (rTwice ns) 0 ns.length < ns.length then (6, scan (rTwice ns) 0 ns.length) else (0, 0)) := hide rfl
  generalize wrongR ns = WR at *
  go_enter Tryz.func44, Tryz.ntmps44
  go_wp2
  go_loopw [4] (fun i wr => ∃ k nq : Nat, 1 ≤ k ∧ (k ≤ ns.length ∨ k = 1) ∧ i = .int .i64 k ∧ wr = w.drewN nq ∧ Hid (NoIn (unordered ns) 1 k)) (fun i _ => ns.length - (intOf i).toNat)
  case atStart => exact ⟨1, 0, Nat.le_refl _, .inr rfl, rfl, rfl, hide (fun j h1 h2 => by omega)⟩
  case round =>
    obtain ⟨k, nq, hk1, hk, rfl, rfl, HN⟩ := hrel
    by_cases hlt : k < ns.length
    · obtain ⟨j, rfl⟩ : ∃ j, k = j + 1 := ⟨k - 1, by omega⟩
      have HB := hide (Below.refl w.heap.size w)
      obtain ⟨g, hao, hg, c0, _, _⟩ := nd_cells (unhide HROW) (unhide HB) hlt
      obtain ⟨g', hao', _, d0, _, _⟩ := nd_cells (unhide HROW) (unhide HB) (show j < ns.length by omega)
      rw [hao] at hao'
      have hgg : g = g' := by cases hao'; rfl
      subst hgg
      rw [hao]
      have HU : Hid (unordered ns (j + 1) = decide ((ns[j + 1]).id ≤ (ns[j]).id)) := by
        apply hide; unfold unordered; rw [ndAt_get _ _ hlt, show j + 1 - 1 = j from rfl, ndAt_get _ _ (by omega)]
      clear hao hao' HB
      have hj0 : (0 : Int) ≤ j := by omega
      have hj1 : (j : Int) + 1 < ns.length := by omega
      have hj2 : (j : Int) < ns.length := by omega
      have hj3 : (0 : Int) ≤ (j : Int) + 1 := by omega
      have hj4 : ((j : Int) + 1).toNat = j + 1 := by omega
      by_cases hle : (ns[j + 1]).id ≤ (ns[j]).id
      · have HS : Hid (WR = (3, j + 1)) := by
          apply hide
          have e : scan (unordered ns) 1 ns.length = j + 1 := scan_hit (by omega) hlt (by rw [unhide HU]; simpa using hle) (unhide HN)
          rw [unhide HW, e, if_pos hlt]
        go_wp2
        go_quiet (fail)
        go_wp2
        go_ret2
        exact ⟨by rw [unhide HS]; rfl, below_drewN (below_drewN (Below.refl _ _) _) _⟩
      · have HN2 := hide (noIn_succ (unhide HN) (by rw [unhide HU]; simpa using hle))
        go_wp2
        go_quiet (fail)
        go_wp2
        go_roundw
        case rel => exact ⟨j + 1 + 1, _, by omega, by omega, by go_num, rfl, HN2⟩
        case measure => simp [intOf]; omega
    · have HW2 : Hid (WR = if scan (rOrphan ns) 0 ns.length < ns.length then (4, scan (rOrphan ns) 0 ns.length) else if scan (rLooped ns) 0 ns.length < ns.length then (5, scan (rLooped ns) 0 ns.length) else if scan (rTwice ns) 0 ns.length < ns.length then (6, scan (rTwice ns) 0 ns.length) else (0, 0)) := by
        apply hide
        have e : scan (unordered ns) 1 ns.length = ns.length := scan_none (fun j h1 h2 => unhide HN j h1 (by omega))
        rw [unhide HW, e, if_neg (by omega)]
      clear HW HN hk hk1
      have HROW1 : Hid (Row (w.drewN nq) ao ns.length 3 (ndCells ns)) := hide (row_drewN (unhide HROW) nq)
      have HBW : Hid (Below w.heap.size w (w.drewN nq)) := hide (below_drewN (Below.refl _ _) nq)
      obtain ⟨w1, hw1⟩ : ∃ x, w.drewN nq = x := ⟨_, rfl⟩
      rw [hw1] at HROW1 HBW ⊢
      clear hw1
      have HB1 := hide (Below.refl w1.heap.size w1)
      go_wp2
      go_loop [5] (fun i => ∃ k : Nat, k ≤ ns.length ∧ i = .int .i64 k ∧ Hid (NoIn (rOrphan ns) 0 k)) (fun i => ns.length - (intOf i).toNat)
      case atStart => exact ⟨0, Nat.zero_le _, rfl, hide (fun j h1 h2 => by omega)⟩
      case round =>
        obtain ⟨k, hk, rfl, HN⟩ := hrel
        by_cases hlt : k < ns.length
        · obtain ⟨g, hao, hg, _, c1, _⟩ := nd_cells (unhide HROW1) (unhide HB1) hlt
          have hp := unhide HNB _ (List.getElem_mem hlt)
          have HFO := hide (folder_any ns (ns[k]).parent ao cap w1 (unhide HROW1) hl hp.1 (by omega))
          have HU : Hid (rOrphan ns k = !folderR ns (ns[k]).parent) := by apply hide; unfold rOrphan; rw [ndAt_get _ _ hlt]
          rw [hao] at HFO ⊢
          clear hao
          generalize ns[k] = nd at *
          cases hq : folderR ns nd.parent
          · have HS : Hid (WR = (4, k)) := by
              apply hide
              have e : scan (rOrphan ns) 0 ns.length = k := scan_hit (by omega) hlt (by rw [unhide HU, hq]; rfl) (unhide HN)
              rw [unhide HW2, e, if_pos hlt]
            rw [hq] at HFO
            clear hq
            go_wp2_with fail
            refine (unhide HFO).mono ?_
            rintro e w2 ⟨rfl, rfl⟩
            go_wp2
            go_ret2
            exact ⟨by rw [unhide HS]; rfl, unhide HBW⟩
          · have HN2 := hide (noIn_succ (unhide HN) (by rw [unhide HU, hq]; rfl))
            rw [hq] at HFO
            clear hq
            go_wp2_with fail
            refine (unhide HFO).mono ?_
            rintro e w2 ⟨rfl, rfl⟩
            go_wp2
            go_round
            case rel => exact ⟨k + 1, by omega, by go_num, HN2⟩
            case measure => simp [intOf]; omega
        · have HW3 : Hid (WR = if scan (rLooped ns) 0 ns.length < ns.length then (5, scan (rLooped ns) 0 ns.length) else if scan (rTwice ns) 0 ns.length < ns.length then (6, scan (rTwice ns) 0 ns.length) else (0, 0)) := by
            apply hide
            have e : scan (rOrphan ns) 0 ns.length = ns.length := scan_none (fun j h1 h2 => unhide HN j h1 (by omega))
            rw [unhide HW2, e, if_neg (by omega)]
          clear HW2 HN hk
          go_wp2
          go_loop [7] (fun i => ∃ k : Nat, k ≤ ns.length ∧ i = .int .i64 k ∧ Hid (NoIn (rLooped ns) 0 k)) (fun i => ns.length - (intOf i).toNat)
          case atStart => exact ⟨0, Nat.zero_le _, rfl, hide (fun j h1 h2 => by omega)⟩
          case round =>
            obtain ⟨k, hk, rfl, HN⟩ := hrel
            by_cases hlt : k < ns.length
            · obtain ⟨g, hao, hg, c0, _, _⟩ := nd_cells (unhide HROW1) (unhide HB1) hlt
              have HFO := hide (below_any ns (ns[k]).id 0 ao cap w1 (unhide HROW1) hl)
              have HU : Hid (rLooped ns k = !belowR ns (ns[k]).id 0) := by apply hide; unfold rLooped; rw [ndAt_get _ _ hlt]
              rw [hao] at HFO ⊢
              clear hao
              generalize ns[k] = nd at *
              cases hq : belowR ns nd.id 0
              · have HS : Hid (WR = (5, k)) := by
                  apply hide
                  have e : scan (rLooped ns) 0 ns.length = k := scan_hit (by omega) hlt (by rw [unhide HU, hq]; rfl) (unhide HN)
                  rw [unhide HW3, e, if_pos hlt]
                rw [hq] at HFO
                clear hq
                go_wp2_with fail
                refine (unhide HFO).mono ?_
                rintro e w2 ⟨rfl, rfl⟩
                go_wp2
                go_ret2
                exact ⟨by rw [unhide HS]; rfl, unhide HBW⟩
              · have HN2 := hide (noIn_succ (unhide HN) (by rw [unhide HU, hq]; rfl))
                rw [hq] at HFO
                clear hq
                go_wp2_with fail
                refine (unhide HFO).mono ?_
                rintro e w2 ⟨rfl, rfl⟩
                go_wp2
                go_round
                case rel => exact ⟨k + 1, by omega, by go_num, HN2⟩
                case measure => simp [intOf]; omega
            · have HW4 : Hid (WR = if scan (rTwice ns) 0 ns.length < ns.length then (6, scan (rTwice ns) 0 ns.length) else (0, 0)) := by
                apply hide
                have e : scan (rLooped ns) 0 ns.length = ns.length := scan_none (fun j h1 h2 => unhide HN j h1 (by omega))
                rw [unhide HW3, e, if_neg (by omega)]
              clear HW3 HN hk
              go_wp2
              go_loopw [9] (fun i wr => ∃ k nq : Nat, k ≤ ns.length ∧ i = .int .i64 k ∧ wr = w1.drewN nq ∧ Hid (NoIn (rTwice ns) 0 k)) (fun i _ => ns.length - (intOf i).toNat)
              case atStart => exact ⟨0, 0, Nat.zero_le _, rfl, rfl, hide (fun j h1 h2 => by omega)⟩
              case round =>
                obtain ⟨k, nq2, hk, rfl, rfl, HN⟩ := hrel
                by_cases hlt : k < ns.length
                · obtain ⟨g, hao, hg, _, c1, c2⟩ := nd_cells (unhide HROW1) (unhide HB1) hlt
                  have HTK := hide (fun m => taken_any (ns.take k) (ns[k]).parent (ns[k]).name ao cap (w1.drewN m) (row_drewN (row_take (unhide HROW1) k (by omega)) m) (by rw [List.length_take]; omega))
                  rw [show (ns.take k).length = k by rw [List.length_take]; omega] at HTK
                  have HU : Hid (rTwice ns k = (takenR (ns.take k) (ns[k]).parent (ns[k]).name != 0)) := by apply hide; unfold rTwice; rw [ndAt_get _ _ hlt]
                  rw [hao] at HTK ⊢
                  clear hao
                  have hk0 : (0 : Int) ≤ k := by omega
                  have hk1 : (k : Int) < ns.length := by omega
                  have hk2 : (k : Int) ≤ cap := by omega
                  generalize ns[k] = nd at *
                  generalize takenR (ns.take k) nd.parent nd.name = tk at *
                  cases hq : (tk != 0)
                  · have HN2 := hide (noIn_succ (unhide HN) (by rw [unhide HU]; exact hq))
                    go_wp2
                    go_quiet ((go_at_call 64; exact quiet_add (unhide HTK _)))
                    go_wp2
                    go_roundw
                    case rel => exact ⟨k + 1, _, by omega, by go_num, rfl, HN2⟩
                    case measure => simp [intOf]; omega
                  · have HS : Hid (WR = (6, k)) := by
                      apply hide
                      have e : scan (rTwice ns) 0 ns.length = k := scan_hit (by omega) hlt (by rw [unhide HU]; exact hq) (unhide HN)
                      rw [unhide HW4, e, if_pos hlt]
                    go_wp2
                    go_quiet ((go_at_call 64; exact quiet_add (unhide HTK _)))
                    go_wp2
                    go_ret2
                    exact ⟨by rw [unhide HS]; rfl, below_drewN (unhide HBW) _⟩
                · have HS : Hid (WR = (0, 0)) := by
                    apply hide
                    have e : scan (rTwice ns) 0 ns.length = ns.length := scan_none (fun j h1 h2 => unhide HN j h1 (by omega))
                    rw [unhide HW4, e, if_neg (by omega)]
                  go_wp2
                  go_ret2
                  exact ⟨by rw [unhide HS]; rfl, below_drewN (unhide HBW) _⟩
set_option maxHeartbeats 1000000 in
theorem rcheck_any (s : ByteArray) (w : World) :
    Calls Tryz.prog 22 #[.string s] w fun e w' => e = .returned (.tuple #[.int .i64 (checkR (sl s)).1, .int .i64 (checkR (sl s)).2]) ∧ Below w.heap.size w w' := by
  by_cases h1 : 4000 < s.size
  · have e : checkR (sl s) = (1, 0) := by unfold checkR; rw [sl_length, if_pos h1]
    rw [e]
    go_enter Tryz.func22, Tryz.ntmps22
    go_wp2
    go_ret2
    exact ⟨rfl, Below.refl _ _⟩
  · have HN := hide (fun W => nodes_any s W (by omega))
    have hrl : (cut (sl s)).length ≤ 4000 := by have := cut_length_le (sl s); rw [sl_length] at this; omega
    have hnl := readNodes_length (cut (sl s))
    have HNB := hide (readNodes_bd (cut (sl s)))
    by_cases h2 : (readNodes (cut (sl s))).length < (cut (sl s)).length
    · have e : checkR (sl s) = (2, (readNodes (cut (sl s))).length) := by unfold checkR; rw [sl_length, if_neg h1, if_pos h2]
      rw [e]
      generalize readNodes (cut (sl s)) = ns at *
      go_enter Tryz.func22, Tryz.ntmps22
      go_wp2_with fail
      refine (unhide HN _).mono ?_
      rintro e w1 ⟨⟨_, rfl⟩ | ⟨hno, _⟩, hb1⟩
      · go_wp2
        go_ret2
        exact ⟨rfl, hb1⟩
      · exact absurd h2 hno
    · have e : checkR (sl s) = wrongR (readNodes (cut (sl s))) := by unfold checkR; rw [sl_length, if_neg h1, if_neg h2]
      rw [e]
      have HWR := hide (fun ao cap W h1 h2 => wrong_any (readNodes (cut (sl s))) ao cap W h1 h2 (by omega) (fun n hn => ⟨(unhide HNB n hn).2.2.1, (unhide HNB n hn).2.2.2.1⟩))
      generalize readNodes (cut (sl s)) = ns at *
      go_enter Tryz.func22, Tryz.ntmps22
      go_wp2_with fail
      refine (unhide HN _).mono ?_
      rintro e w1 ⟨⟨hno, _⟩ | ⟨_, ao, cap, rfl, hrow, hcap⟩, hb1⟩
      · exact absurd hno h2
      · have HR := hide hrow
        clear hrow
        go_wp2_with fail
        refine (unhide HWR _ _ _ (unhide HR) hcap).mono ?_
        rintro e w2 ⟨rfl, hb2⟩
        go_wp2
        go_ret2
        exact ⟨rfl, hb1.trans (hb2.mono hb1.size)⟩
end Go.Proofs.YtdcjimlhaklhfaaGreatDoor

namespace Go.Proofs.YtdcjimlhaklhfaaGreatDoor
open Go.RowKit
theorem ret_ii {a b c d : Int} (h : a = c) (g : b = d) : Ending.returned (.tuple #[.int .i64 a, .int .i64 b]) = .returned (.tuple #[.int .i64 c, .int .i64 d]) := by rw [h, g]
set_option maxHeartbeats 2000000 in
theorem misplaced_any {x : Ext} (t : Tr) (b : Nat) (ns : List Nd) (ao : Option Addr) (cap : Nat) (w : World) (ht : TrOk t) (hT : TreeAt x w b t) (hrow : Row w ao ns.length 3 (ndCells ns)) (hn : ∀ n ∈ ns, 1 ≤ n.id ∧ n.id ≤ 99 ∧ 0 ≤ n.parent ∧ n.parent ≤ 99 ∧ isName n.name n.id = true) (hl : ns.length ≤ 4000) :
    Calls Tryz.prog 71 #[.pointer (some ⟨b, 0, none⟩), .slice ao ns.length cap] w fun e w' => e = .returned (.tuple #[.int .i64 (misplaced t ns).1, .int .i64 (misplaced t ns).2]) ∧ Below w.heap.size w w' := by
  have HO := hide (fun W (h1 : TreeAt x W b t) (h2 : Row W ao ns.length 3 (ndCells ns)) => orphan_any t b ns ao cap W ht h1 h2 (fun n hh => ⟨(hn n hh).2.2.1, (hn n hh).2.2.2.1⟩) hl)
  have HL := hide (fun W (h1 : TreeAt x W b t) (h2 : Row W ao ns.length 3 (ndCells ns)) => looped_any t b ns ao cap W ht h1 h2 (fun n hh => ⟨by have := (hn n hh).1; omega, (hn n hh).2.1⟩) hl)
  have HW := hide (fun W (h2 : Row W ao ns.length 3 (ndCells ns)) => twice_any ns ao cap W h2 hl)
  have HM : Hid (misplaced t ns = if scan (orphan t ns) 0 ns.length < ns.length then (4, scan (orphan t ns) 0 ns.length) else if scan (looped t ns) 0 ns.length < ns.length then (5, scan (looped t ns) 0 ns.length) else if scan (twice ns) 0 ns.length < ns.length then (6, scan (twice ns) 0 ns.length) else (0, 0)) := hide rfl
  have b1 := scan_le (orphan t ns) 0 ns.length
  have b2 := scan_le (looped t ns) 0 ns.length
  have b3 := scan_le (twice ns) 0 ns.length
  have HT := hide hT; clear hT
  have HR := hide hrow; clear hrow
  clear hn ht
  generalize scan (orphan t ns) 0 ns.length = x at *
  generalize scan (looped t ns) 0 ns.length = y at *
  generalize scan (twice ns) 0 ns.length = z at *
  generalize misplaced t ns = M at *
  by_cases hx : x < ns.length
  · have HM1 : Hid (M = (4, x)) := by apply hide; rw [unhide HM, if_pos hx]
    go_enter Tryz.func71, Tryz.ntmps71
    go_wp2_with fail
    refine (unhide HO _ (unhide HT) (unhide HR)).mono ?_
    rintro e w1 ⟨rfl, hb1⟩
    go_wp2
    go_ret2
    exact ⟨by rw [unhide HM1]; rfl, hb1⟩
  · by_cases hy : y < ns.length
    · have HM1 : Hid (M = (5, y)) := by apply hide; rw [unhide HM, if_neg hx, if_pos hy]
      go_enter Tryz.func71, Tryz.ntmps71
      go_wp2_with fail
      refine (unhide HO _ (unhide HT) (unhide HR)).mono ?_
      rintro e w1 ⟨rfl, hb1⟩
      go_wp2_with fail
      refine (unhide HL _ ((unhide HT).below hb1) ((unhide HR).below hb1)).mono ?_
      rintro e w2 ⟨rfl, hb2⟩
      go_wp2
      go_ret2
      exact ⟨by rw [unhide HM1]; rfl, hb1.trans (hb2.mono hb1.size)⟩
    · by_cases hz : z < ns.length
      · have HM1 : Hid (M = (6, z)) := by apply hide; rw [unhide HM, if_neg hx, if_neg hy, if_pos hz]
        go_enter Tryz.func71, Tryz.ntmps71
        go_wp2_with fail
        refine (unhide HO _ (unhide HT) (unhide HR)).mono ?_
        rintro e w1 ⟨rfl, hb1⟩
        go_wp2_with fail
        refine (unhide HL _ ((unhide HT).below hb1) ((unhide HR).below hb1)).mono ?_
        rintro e w2 ⟨rfl, hb2⟩
        have HB2 := hide (hb1.trans (hb2.mono hb1.size))
        go_wp2_with fail
        refine (unhide HW _ ((unhide HR).below (unhide HB2))).mono ?_
        rintro e w3 ⟨rfl, nq, rfl⟩
        go_wp2
        go_ret2
        exact ⟨by rw [unhide HM1]; rfl, below_drewN (unhide HB2) _⟩
      · have HM1 : Hid (M = (0, 0)) := by apply hide; rw [unhide HM, if_neg hx, if_neg hy, if_neg hz]
        go_enter Tryz.func71, Tryz.ntmps71
        go_wp2_with fail
        refine (unhide HO _ (unhide HT) (unhide HR)).mono ?_
        rintro e w1 ⟨rfl, hb1⟩
        go_wp2_with fail
        refine (unhide HL _ ((unhide HT).below hb1) ((unhide HR).below hb1)).mono ?_
        rintro e w2 ⟨rfl, hb2⟩
        have HB2 := hide (hb1.trans (hb2.mono hb1.size))
        go_wp2_with fail
        refine (unhide HW _ ((unhide HR).below (unhide HB2))).mono ?_
        rintro e w3 ⟨rfl, nq, rfl⟩
        go_wp2
        go_ret2
        exact ⟨by rw [unhide HM1]; rfl, below_drewN (unhide HB2) _⟩
/-! A whole block stored. -/
theorem heap_setCells_row (b : Nat) (t : TypeId) : ∀ (vs : List Value) (o : Nat) (w : World) (cs : List Value), w.heap[b]? = some (.cells cs.toArray t (0, 0)) → o + vs.length ≤ cs.length →
    (w.setCells b o vs).heap[b]? = some (.cells (cs.take o ++ vs ++ cs.drop (o + vs.length)).toArray t (0, 0))
  | [], o, w, cs, h, hl => by simpa [World.setCells] using h
  | v :: r, o, w, cs, h, hl => by
    simp at hl
    have h1 : (w.setCell ⟨b, o, none⟩ v).heap[b]? = some (.cells (cs.set o v).toArray t (0, 0)) := by rw [heap_setCell_same w b o _ _ v h]; simp
    have := heap_setCells_row b t r (o + 1) _ _ h1 (by simp; omega)
    rw [World.setCells, this]
    have e1 : (cs.set o v).take (o + 1) = cs.take o ++ [v] := by
      rw [List.take_succ_eq_append_getElem (by simp; omega), List.take_set]; simp
      rw [List.set_eq_of_length_le (by simp; omega)]
    have e2 : (cs.set o v).drop (o + 1 + r.length) = cs.drop (o + (v :: r).length) := by
      rw [List.drop_set_of_lt (by omega)]; congr 1; simp; omega
    rw [e1, e2]; simp
theorem treeAt_stored {x : Ext} {w : World} {b : Nat} {t : Tr} (h : TreeAt x w b t) (t' : Tr) : TreeAt x (w.setCells b 0 (treeCells t')) b t' := by
  have := heap_setCells_row b x.ty (treeCells t') 0 w (treeCells t ++ x.rest) h (by simp [treeCells_length])
  unfold TreeAt
  rw [this]
  have hd : (treeCells t ++ x.rest).drop 400 = x.rest := by rw [← treeCells_length t, List.drop_left]
  simp [treeCells_length, hd]
end Go.Proofs.YtdcjimlhaklhfaaGreatDoor

namespace Go.Proofs.YtdcjimlhaklhfaaGreatDoor
open Go.RowKit
def readT (l : Str) : Tr := if (checkT l).1 = 0 then gather (readNodes (cut l)) else tr0
theorem zeroSize : (Tryz.prog.info? 88).map (·.size) = some Tryz.zeroCells88.size := by rw [zeroTree]; exact treeSize' tr0
theorem zeroOne : Tryz.zeroCells88.all (·.oneCell') = true := by rw [zeroTree]; exact treeOne tr0
theorem treeAt_new (w : World) : TreeAt ext0 (w.alloc (.cells Tryz.zeroCells88 88)) w.heap.size tr0 := by
  unfold TreeAt ext0; rw [zeroTree]; simpa using heap_alloc_new w (.cells (treeCells tr0).toArray 88)
theorem treeAt_thereZ {w : World} {b : Nat} {t : Tr} (h : TreeAt ext0 w b t) : w.there b 0 Tryz.zeroCells88.size := by rw [zeroTree]; exact treeAt_there h tr0
theorem treeAt_storedZ {w : World} {b : Nat} {t : Tr} (h : TreeAt ext0 w b t) : TreeAt ext0 (w.setCells b 0 Tryz.zeroCells88.toList) b tr0 := by rw [zeroTree]; exact treeAt_stored h tr0
theorem treeAt_load {w : World} {b : Nat} {t : Tr} (h : TreeAt ext0 w b t) : (loadVar 88 ⟨b, 0, none⟩).run Tryz.prog w = .ok (.agg (treeCells t).toArray) w :=
  run_loadVar_mid w b 0 88 (treeCells t) _ (treeAt_range h) Tryz.underlying88 rfl (treeSize t)
set_option maxHeartbeats 1000000 in
theorem read_long (s : ByteArray) (w : World) (hs : 4000 < s.size) :
    Calls Tryz.prog 42 #[.string s] w fun e w' => e = .returned (.tuple #[.agg (treeCells tr0).toArray, .int .i64 1, .int .i64 0]) ∧ Below w.heap.size w w' := by
  have HT := hide (treeAt_new w)
  go_enter Tryz.func42, Tryz.ntmps42
  go_wp2_with (refine wpList_store_mid (by rfl) 88 (.tmp 2) (.tmp 13) (by rfl) w.heap.size 0 Tryz.zeroCells88 (by rfl) (by rfl) (treeAt_thereZ (unhide HT)) zeroSize zeroOne ?_)
  have hl := treeAt_load (treeAt_storedZ (unhide HT))
  refine bodyPost_ret (v := .tuple #[.agg (treeCells tr0).toArray, .int .i64 1, .int .i64 0]) (by simp [results, Tryz.results42, asAddr, hl]) rfl ⟨rfl, ?_⟩
  exact below_setCells ((Below.refl _ _).alloc (Nat.le_refl _) _) (Nat.le_refl _) (by simp) _ _
set_option maxHeartbeats 1000000 in
theorem read_form (s : ByteArray) (w : World) (hs : s.size ≤ 4000) (hB : (readNodes (cut (sl s))).length < (cut (sl s)).length) :
    Calls Tryz.prog 42 #[.string s] w fun e w' => e = .returned (.tuple #[.agg (treeCells tr0).toArray, .int .i64 2, .int .i64 (readNodes (cut (sl s))).length]) ∧ Below w.heap.size w w' := by
  have HC := hide (fun W => cut_any s W hs)
  have hrl : (cut (sl s)).length ≤ 4000 := by have := cut_length_le (sl s); rw [sl_length] at this; omega
  have hrm : ∀ r ∈ cut (sl s), r.length ≤ 4000 := fun r hr => by have := cut_mem_len (sl s) r hr; rw [sl_length] at this; omega
  have hnl := readNodes_length (cut (sl s))
  have HNB := hide (readNodes_bd (cut (sl s)))
  have HRN := hide (fun ao cap W (h : Row W ao (cut (sl s)).length 1 ((cut (sl s)).map strV)) => readNodes_any (cut (sl s)) ao cap W h hrm hrl)
  clear hrm
  have HT := hide (treeAt_new w)
  generalize readNodes (cut (sl s)) = ns at *
  generalize cut (sl s) = rs at *
  go_enter Tryz.func42, Tryz.ntmps42
  go_wp2_with fail
  refine (unhide HC _).mono ?_
  rintro e w1 ⟨ao, cap, rfl, hrow1, hb1⟩
  have HROW1 := hide hrow1; clear hrow1
  go_wp2_with fail
  refine (unhide HRN _ _ _ (unhide HROW1)).mono ?_
  rintro e w2 ⟨ao2, cap2, rfl, hrow2, hb2⟩
  have HROW2 := hide hrow2; clear hrow2
  have hb12 := hb1.trans (hb2.mono hb1.size)
  have HT2 := hide ((unhide HT).below hb12)
  have HB12 : Hid (Below w.heap.size w w2) := hide (((Below.refl _ _).alloc (Nat.le_refl _) _).trans (hb12.mono (by simp)))
  have hz2 : w.heap.size + 1 ≤ w2.heap.size := by have := hb12.size; simp at this; omega
  clear hb1 hb2 hb12
  go_wp2_with (refine wpList_store_mid (by rfl) 88 (.tmp 2) (.tmp 23) (by rfl) w.heap.size 0 Tryz.zeroCells88 (by rfl) (by rfl) (treeAt_thereZ (unhide HT2)) zeroSize zeroOne ?_)
  have hl := treeAt_load (treeAt_storedZ (unhide HT2))
  refine bodyPost_ret (v := .tuple #[.agg (treeCells tr0).toArray, .int .i64 2, .int .i64 ns.length]) (by simp [results, Tryz.results42, asAddr, hl]) rfl ⟨rfl, ?_⟩
  exact below_setCells (unhide HB12) (Nat.le_refl _) (by omega) _ _
set_option maxHeartbeats 1000000 in
theorem read_order (s : ByteArray) (w : World) (hs : s.size ≤ 4000) (hB : ¬ (readNodes (cut (sl s))).length < (cut (sl s)).length)
    (hU : scan (unordered (readNodes (cut (sl s)))) 1 (readNodes (cut (sl s))).length < (readNodes (cut (sl s))).length) :
    Calls Tryz.prog 42 #[.string s] w fun e w' => e = .returned (.tuple #[.agg (treeCells tr0).toArray, .int .i64 3, .int .i64 (scan (unordered (readNodes (cut (sl s)))) 1 (readNodes (cut (sl s))).length)]) ∧ Below w.heap.size w w' := by
  have HC := hide (fun W => cut_any s W hs)
  have hrl : (cut (sl s)).length ≤ 4000 := by have := cut_length_le (sl s); rw [sl_length] at this; omega
  have hrm : ∀ r ∈ cut (sl s), r.length ≤ 4000 := fun r hr => by have := cut_mem_len (sl s) r hr; rw [sl_length] at this; omega
  have hnl := readNodes_length (cut (sl s))
  have HNB := hide (readNodes_bd (cut (sl s)))
  have HRN := hide (fun ao cap W (h : Row W ao (cut (sl s)).length 1 ((cut (sl s)).map strV)) => readNodes_any (cut (sl s)) ao cap W h hrm hrl)
  clear hrm
  have HT := hide (treeAt_new w)
  have HUN := hide (fun ao cap W h => unordered_any (readNodes (cut (sl s))) ao cap W h (by omega))
  generalize readNodes (cut (sl s)) = ns at *
  generalize cut (sl s) = rs at *
  generalize scan (unordered ns) 1 ns.length = u at *
  go_enter Tryz.func42, Tryz.ntmps42
  go_wp2_with fail
  refine (unhide HC _).mono ?_
  rintro e w1 ⟨ao, cap, rfl, hrow1, hb1⟩
  have HROW1 := hide hrow1; clear hrow1
  go_wp2_with fail
  refine (unhide HRN _ _ _ (unhide HROW1)).mono ?_
  rintro e w2 ⟨ao2, cap2, rfl, hrow2, hb2⟩
  have HROW2 := hide hrow2; clear hrow2
  have hb12 := hb1.trans (hb2.mono hb1.size)
  have HT2 := hide ((unhide HT).below hb12)
  have HB12 : Hid (Below w.heap.size w w2) := hide (((Below.refl _ _).alloc (Nat.le_refl _) _).trans (hb12.mono (by simp)))
  have hz2 : w.heap.size + 1 ≤ w2.heap.size := by have := hb12.size; simp at this; omega
  clear hb1 hb2 hb12
  go_wp2_with fail
  refine (unhide HUN _ _ _ (unhide HROW2)).mono ?_
  rintro e w3 ⟨rfl, nq, rfl⟩
  have HT3 : Hid (TreeAt ext0 (w2.drewN nq) w.heap.size tr0) := hide ((unhide HT2).drewN nq)
  go_wp2_with (refine wpList_store_mid (by rfl) 88 (.tmp 2) (.tmp 32) (by rfl) w.heap.size 0 Tryz.zeroCells88 (by rfl) (by rfl) (treeAt_thereZ (unhide HT3)) zeroSize zeroOne ?_)
  have hl := treeAt_load (treeAt_storedZ (unhide HT3))
  refine bodyPost_ret (v := .tuple #[.agg (treeCells tr0).toArray, .int .i64 3, .int .i64 u]) (by simp [results, Tryz.results42, asAddr, hl]) rfl ⟨rfl, ?_⟩
  exact below_setCells (below_drewN (unhide HB12) _) (Nat.le_refl _) (show w.heap.size ≤ w2.heap.size by omega) _ _
set_option maxHeartbeats 1000000 in
theorem read_place (s : ByteArray) (w : World) (hs : s.size ≤ 4000) (hB : ¬ (readNodes (cut (sl s))).length < (cut (sl s)).length)
    (hU : ¬ scan (unordered (readNodes (cut (sl s)))) 1 (readNodes (cut (sl s))).length < (readNodes (cut (sl s))).length)
    (hM : ((misplaced (gather (readNodes (cut (sl s)))) (readNodes (cut (sl s)))).1 != 0) = true) :
    Calls Tryz.prog 42 #[.string s] w fun e w' => e = .returned (.tuple #[.agg (treeCells tr0).toArray, .int .i64 (misplaced (gather (readNodes (cut (sl s)))) (readNodes (cut (sl s)))).1, .int .i64 (misplaced (gather (readNodes (cut (sl s)))) (readNodes (cut (sl s)))).2]) ∧ Below w.heap.size w w' := by
  have HC := hide (fun W => cut_any s W hs)
  have hrl : (cut (sl s)).length ≤ 4000 := by have := cut_length_le (sl s); rw [sl_length] at this; omega
  have hrm : ∀ r ∈ cut (sl s), r.length ≤ 4000 := fun r hr => by have := cut_mem_len (sl s) r hr; rw [sl_length] at this; omega
  have hnl := readNodes_length (cut (sl s))
  have HNB := hide (readNodes_bd (cut (sl s)))
  have HRN := hide (fun ao cap W (h : Row W ao (cut (sl s)).length 1 ((cut (sl s)).map strV)) => readNodes_any (cut (sl s)) ao cap W h hrm hrl)
  clear hrm
  have HT := hide (treeAt_new w)
  have HUN := hide (fun ao cap W h => unordered_any (readNodes (cut (sl s))) ao cap W h (by omega))
  have HGA := hide (fun ao cap W h => gather_any (readNodes (cut (sl s))) ao cap W h (fun n hn => ⟨(unhide HNB n hn).1, (unhide HNB n hn).2.1⟩) (by omega))
  have HMI := hide (fun b ao cap W h1 h2 => misplaced_any (x := ext0) (gather (readNodes (cut (sl s)))) b (readNodes (cut (sl s))) ao cap W (gather_ok _) h1 h2 (unhide HNB) (by omega))
  generalize misplaced (gather (readNodes (cut (sl s)))) (readNodes (cut (sl s))) = M at *
  generalize gather (readNodes (cut (sl s))) = T at *
  generalize readNodes (cut (sl s)) = ns at *
  generalize cut (sl s) = rs at *
  generalize scan (unordered ns) 1 ns.length = u at *
  go_enter Tryz.func42, Tryz.ntmps42
  go_wp2_with fail
  refine (unhide HC _).mono ?_
  rintro e w1 ⟨ao, cap, rfl, hrow1, hb1⟩
  have HROW1 := hide hrow1; clear hrow1
  go_wp2_with fail
  refine (unhide HRN _ _ _ (unhide HROW1)).mono ?_
  rintro e w2 ⟨ao2, cap2, rfl, hrow2, hb2⟩
  have HROW2 := hide hrow2; clear hrow2
  have hb12 := hb1.trans (hb2.mono hb1.size)
  have HT2 := hide ((unhide HT).below hb12)
  have HB12 : Hid (Below w.heap.size w w2) := hide (((Below.refl _ _).alloc (Nat.le_refl _) _).trans (hb12.mono (by simp)))
  have hz2 : w.heap.size + 1 ≤ w2.heap.size := by have := hb12.size; simp at this; omega
  clear hb1 hb2 hb12
  go_wp2_with fail
  refine (unhide HUN _ _ _ (unhide HROW2)).mono ?_
  rintro e w3 ⟨rfl, nq, rfl⟩
  have HT3 : Hid (TreeAt ext0 (w2.drewN nq) w.heap.size tr0) := hide ((unhide HT2).drewN nq)
  have HROW3 : Hid (Row (w2.drewN nq) ao2 ns.length 3 (ndCells ns)) := hide ((unhide HROW2).below (below_drewN (Below.refl _ _) nq))
  have HB3 : Hid (Below w.heap.size w (w2.drewN nq)) := hide (below_drewN (unhide HB12) nq)
  have hz3 : w.heap.size + 1 ≤ (w2.drewN nq).heap.size := hz2
  clear hz2 HT2 HROW2 HB12
  obtain ⟨w3, hw3⟩ : ∃ x, w2.drewN nq = x := ⟨_, rfl⟩
  rw [hw3] at HT3 HROW3 HB3 hz3 ⊢
  clear hw3
  go_wp2_with fail
  refine (unhide HGA _ _ _ (unhide HROW3)).mono ?_
  rintro e w4 ⟨rfl, hb4⟩
  have HT4 := hide ((unhide HT3).below hb4)
  have HROW4 := hide ((unhide HROW3).below hb4)
  have HB4 := hide ((unhide HB3).trans (hb4.mono (by omega)))
  have hz4 : w.heap.size + 1 ≤ w4.heap.size := by have := hb4.size; omega
  clear hb4 HT3 HROW3 HB3
  have HN := hide (treeAt_new w4)
  have HBa := hide ((Below.refl w4.heap.size w4).alloc (Nat.le_refl _) (.cells Tryz.zeroCells88 88))
  have HB5 : Hid (Below w4.heap.size w4 ((w4.alloc (.cells Tryz.zeroCells88 88)).setCells w4.heap.size 0 (treeCells T))) := hide (below_setCells (unhide HBa) (Nat.le_refl _) (by simp) _ _)
  have HT5 : Hid (TreeAt ext0 ((w4.alloc (.cells Tryz.zeroCells88 88)).setCells w4.heap.size 0 (treeCells T)) w4.heap.size T) := hide (treeAt_stored (unhide HN) T)
  go_wp2_with (refine wpList_store_mid (by rfl) 88 (.tmp 8) (.tmp 35) (by rfl) w4.heap.size 0 (treeCells T).toArray (by rfl) (by rfl) (by exact treeAt_there (unhide HN) T) (treeSize' T) (treeOne T) ?_)
  refine (unhide HMI _ _ _ _ (unhide HT5) ((unhide HROW4).below (unhide HB5))).mono ?_
  rintro e w6 ⟨rfl, hb6⟩
  have HT6 := hide (((unhide HT4).below (unhide HB5)).below hb6)
  have HT6' := hide ((unhide HT5).below hb6)
  have hsz5 : w4.heap.size ≤ ((w4.alloc (.cells Tryz.zeroCells88 88)).setCells w4.heap.size 0 (treeCells T)).heap.size := (unhide HB5).size
  have HB6 := hide ((unhide HB4).trans (((unhide HB5).trans (hb6.mono hsz5)).mono (by omega)))
  have hz6 : w.heap.size + 1 ≤ w6.heap.size := by have := hb6.size; omega
  clear hb6 HB5 HT5 HBa HN hsz5
  go_wp2_with (refine wpList_store_mid (by rfl) 88 (.tmp 2) (.tmp 43) (by rfl) w.heap.size 0 Tryz.zeroCells88 (by rfl) (by rfl) (treeAt_thereZ (unhide HT6)) zeroSize zeroOne ?_)
  have hl := treeAt_load (treeAt_storedZ (unhide HT6))
  refine bodyPost_ret (v := .tuple #[.agg (treeCells tr0).toArray, .int .i64 M.1, .int .i64 M.2]) (by simp [results, Tryz.results42, asAddr, hl]) rfl ⟨rfl, ?_⟩
  exact below_setCells (unhide HB6) (Nat.le_refl _) (by omega) _ _
set_option maxHeartbeats 1000000 in
theorem read_ok (s : ByteArray) (w : World) (hs : s.size ≤ 4000) (hB : ¬ (readNodes (cut (sl s))).length < (cut (sl s)).length)
    (hU : ¬ scan (unordered (readNodes (cut (sl s)))) 1 (readNodes (cut (sl s))).length < (readNodes (cut (sl s))).length)
    (hM : ((misplaced (gather (readNodes (cut (sl s)))) (readNodes (cut (sl s)))).1 != 0) = false) :
    Calls Tryz.prog 42 #[.string s] w fun e w' => e = .returned (.tuple #[.agg (treeCells (gather (readNodes (cut (sl s))))).toArray, .int .i64 0, .int .i64 0]) ∧ Below w.heap.size w w' := by
  have HC := hide (fun W => cut_any s W hs)
  have hrl : (cut (sl s)).length ≤ 4000 := by have := cut_length_le (sl s); rw [sl_length] at this; omega
  have hrm : ∀ r ∈ cut (sl s), r.length ≤ 4000 := fun r hr => by have := cut_mem_len (sl s) r hr; rw [sl_length] at this; omega
  have hnl := readNodes_length (cut (sl s))
  have HNB := hide (readNodes_bd (cut (sl s)))
  have HRN := hide (fun ao cap W (h : Row W ao (cut (sl s)).length 1 ((cut (sl s)).map strV)) => readNodes_any (cut (sl s)) ao cap W h hrm hrl)
  clear hrm
  have HT := hide (treeAt_new w)
  have HUN := hide (fun ao cap W h => unordered_any (readNodes (cut (sl s))) ao cap W h (by omega))
  have HGA := hide (fun ao cap W h => gather_any (readNodes (cut (sl s))) ao cap W h (fun n hn => ⟨(unhide HNB n hn).1, (unhide HNB n hn).2.1⟩) (by omega))
  have HMI := hide (fun b ao cap W h1 h2 => misplaced_any (x := ext0) (gather (readNodes (cut (sl s)))) b (readNodes (cut (sl s))) ao cap W (gather_ok _) h1 h2 (unhide HNB) (by omega))
  generalize misplaced (gather (readNodes (cut (sl s)))) (readNodes (cut (sl s))) = M at *
  generalize gather (readNodes (cut (sl s))) = T at *
  generalize readNodes (cut (sl s)) = ns at *
  generalize cut (sl s) = rs at *
  generalize scan (unordered ns) 1 ns.length = u at *
  go_enter Tryz.func42, Tryz.ntmps42
  go_wp2_with fail
  refine (unhide HC _).mono ?_
  rintro e w1 ⟨ao, cap, rfl, hrow1, hb1⟩
  have HROW1 := hide hrow1; clear hrow1
  go_wp2_with fail
  refine (unhide HRN _ _ _ (unhide HROW1)).mono ?_
  rintro e w2 ⟨ao2, cap2, rfl, hrow2, hb2⟩
  have HROW2 := hide hrow2; clear hrow2
  have hb12 := hb1.trans (hb2.mono hb1.size)
  have HT2 := hide ((unhide HT).below hb12)
  have HB12 : Hid (Below w.heap.size w w2) := hide (((Below.refl _ _).alloc (Nat.le_refl _) _).trans (hb12.mono (by simp)))
  have hz2 : w.heap.size + 1 ≤ w2.heap.size := by have := hb12.size; simp at this; omega
  clear hb1 hb2 hb12
  go_wp2_with fail
  refine (unhide HUN _ _ _ (unhide HROW2)).mono ?_
  rintro e w3 ⟨rfl, nq, rfl⟩
  have HT3 : Hid (TreeAt ext0 (w2.drewN nq) w.heap.size tr0) := hide ((unhide HT2).drewN nq)
  have HROW3 : Hid (Row (w2.drewN nq) ao2 ns.length 3 (ndCells ns)) := hide ((unhide HROW2).below (below_drewN (Below.refl _ _) nq))
  have HB3 : Hid (Below w.heap.size w (w2.drewN nq)) := hide (below_drewN (unhide HB12) nq)
  have hz3 : w.heap.size + 1 ≤ (w2.drewN nq).heap.size := hz2
  clear hz2 HT2 HROW2 HB12
  obtain ⟨w3, hw3⟩ : ∃ x, w2.drewN nq = x := ⟨_, rfl⟩
  rw [hw3] at HT3 HROW3 HB3 hz3 ⊢
  clear hw3
  go_wp2_with fail
  refine (unhide HGA _ _ _ (unhide HROW3)).mono ?_
  rintro e w4 ⟨rfl, hb4⟩
  have HT4 := hide ((unhide HT3).below hb4)
  have HROW4 := hide ((unhide HROW3).below hb4)
  have HB4 := hide ((unhide HB3).trans (hb4.mono (by omega)))
  have hz4 : w.heap.size + 1 ≤ w4.heap.size := by have := hb4.size; omega
  clear hb4 HT3 HROW3 HB3
  have HN := hide (treeAt_new w4)
  have HBa := hide ((Below.refl w4.heap.size w4).alloc (Nat.le_refl _) (.cells Tryz.zeroCells88 88))
  have HB5 : Hid (Below w4.heap.size w4 ((w4.alloc (.cells Tryz.zeroCells88 88)).setCells w4.heap.size 0 (treeCells T))) := hide (below_setCells (unhide HBa) (Nat.le_refl _) (by simp) _ _)
  have HT5 : Hid (TreeAt ext0 ((w4.alloc (.cells Tryz.zeroCells88 88)).setCells w4.heap.size 0 (treeCells T)) w4.heap.size T) := hide (treeAt_stored (unhide HN) T)
  go_wp2_with (refine wpList_store_mid (by rfl) 88 (.tmp 8) (.tmp 35) (by rfl) w4.heap.size 0 (treeCells T).toArray (by rfl) (by rfl) (by exact treeAt_there (unhide HN) T) (treeSize' T) (treeOne T) ?_)
  refine (unhide HMI _ _ _ _ (unhide HT5) ((unhide HROW4).below (unhide HB5))).mono ?_
  rintro e w6 ⟨rfl, hb6⟩
  have HT6 := hide (((unhide HT4).below (unhide HB5)).below hb6)
  have HT6' := hide ((unhide HT5).below hb6)
  have hsz5 : w4.heap.size ≤ ((w4.alloc (.cells Tryz.zeroCells88 88)).setCells w4.heap.size 0 (treeCells T)).heap.size := (unhide HB5).size
  have HB6 := hide ((unhide HB4).trans (((unhide HB5).trans (hb6.mono hsz5)).mono (by omega)))
  have hz6 : w.heap.size + 1 ≤ w6.heap.size := by have := hb6.size; omega
  clear hb6 HB5 HT5 HBa HN hsz5
  go_wp2_with (first
    | (refine wpList_load_mid (by rfl) 88 (.tmp 8) (by rfl) w4.heap.size 0 (by rfl) (treeCells T) _ (treeAt_range (unhide HT6')) Tryz.underlying88 (by rfl) (treeSize T) ?_)
    | (refine wpList_store_mid (by rfl) 88 (.tmp 2) (.tmp 46) (by rfl) w.heap.size 0 (treeCells T).toArray (by rfl) (by rfl) (treeAt_there (unhide HT6) T) (treeSize' T) (treeOne T) ?_))
  have hl := treeAt_load (treeAt_stored (unhide HT6) T)
  refine bodyPost_ret (v := .tuple #[.agg (treeCells T).toArray, .int .i64 0, .int .i64 0]) (by simp [results, Tryz.results42, asAddr, hl]) rfl ⟨rfl, ?_⟩
  exact below_setCells (unhide HB6) (Nat.le_refl _) (by omega) _ _
theorem misplaced_zero {t : Tr} {ns : List Nd} (h : ((misplaced t ns).1 != 0) = false) : misplaced t ns = (0, 0) := by
  unfold misplaced at h ⊢
  split <;> (try split) <;> (try split) <;> simp_all
theorem read_any (s : ByteArray) (w : World) :
    Calls Tryz.prog 42 #[.string s] w fun e w' => e = .returned (.tuple #[.agg (treeCells (readT (sl s))).toArray, .int .i64 (checkT (sl s)).1, .int .i64 (checkT (sl s)).2]) ∧ Below w.heap.size w w' := by
  by_cases h1 : 4000 < s.size
  · have e : checkT (sl s) = (1, 0) := by unfold checkT; rw [sl_length, if_pos h1]
    rw [readT, e]; exact read_long s w h1
  · by_cases h2 : (readNodes (cut (sl s))).length < (cut (sl s)).length
    · have e : checkT (sl s) = (2, (readNodes (cut (sl s))).length) := by unfold checkT; rw [sl_length, if_neg h1]; simp only []; rw [if_pos h2]
      rw [readT, e]; exact read_form s w (by omega) h2
    · by_cases h3 : scan (unordered (readNodes (cut (sl s)))) 1 (readNodes (cut (sl s))).length < (readNodes (cut (sl s))).length
      · have e : checkT (sl s) = (3, scan (unordered (readNodes (cut (sl s)))) 1 (readNodes (cut (sl s))).length) := by unfold checkT; rw [sl_length, if_neg h1]; simp only []; rw [if_neg h2, if_pos h3]
        rw [readT, e]; exact read_order s w (by omega) h2 h3
      · have e : checkT (sl s) = misplaced (gather (readNodes (cut (sl s)))) (readNodes (cut (sl s))) := by unfold checkT; rw [sl_length, if_neg h1]; simp only []; rw [if_neg h2, if_neg h3]
        cases h4 : ((misplaced (gather (readNodes (cut (sl s)))) (readNodes (cut (sl s)))).1 != 0)
        · rw [readT, e, misplaced_zero h4]; exact read_ok s w (by omega) h2 h3 h4
        · rw [readT, e, if_neg (by simpa using h4)]; exact read_place s w (by omega) h2 h3 h4
set_option maxHeartbeats 1000000 in
theorem check_any (s : ByteArray) (w : World) :
    Calls Tryz.prog 21 #[.string s] w fun e w' => e = .returned (.tuple #[.int .i64 (checkT (sl s)).1, .int .i64 (checkT (sl s)).2]) ∧ Below w.heap.size w w' := by
  have HR := hide (fun W => read_any s W)
  generalize checkT (sl s) = c at *
  generalize readT (sl s) = T at *
  go_enter Tryz.func21, Tryz.ntmps21
  go_wp2_with fail
  refine (unhide HR _).mono ?_
  rintro e w1 ⟨rfl, hb1⟩
  have HN := hide (treeAt_new w1)
  go_wp2_with (refine wpList_store_mid (by rfl) 88 (.tmp 4) (.tmp 10) (by rfl) w1.heap.size 0 (treeCells T).toArray (by rfl) (by rfl) (treeAt_there (unhide HN) T) (treeSize' T) (treeOne T) ?_)
  go_ret2
  exact ⟨rfl, below_setCells (hb1.alloc hb1.size _) hb1.size (by have := hb1.size; simp; omega) _ _⟩
end Go.Proofs.YtdcjimlhaklhfaaGreatDoor
