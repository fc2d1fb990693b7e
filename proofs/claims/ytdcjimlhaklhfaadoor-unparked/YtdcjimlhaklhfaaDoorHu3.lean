import Derived.Test.YtdcjimlhaklhfaaDoorHu2
import Derived.RegionTactic
import Derived.BigRegion
import Derived.Deep.MidRow
import Derived.Deep.Upon
import Derived.Test.YtdcjimlhaklhfaaDoorHu1
namespace Go.Proofs.YtdcjimlhaklhfaaDoor
open Go.RowKit
theorem TreeAt.free {x : Ext} {w : World} {b : Nat} {t : Tr} (h : TreeAt x w b t) (j : Nat) : w.frozen? ⟨b, j, none⟩ = false := by
  simp [World.frozen?, show w.heap[b]? = _ from h]
theorem TreeAt.set {w : World} {b : Nat} {cs r : List Value} {ty : TypeId} {j : Nat} {v : Value} (hj : j < cs.length) (h : w.heap[b]? = some (.cells (cs ++ r).toArray ty (0, 0))) : (w.setCell ⟨b, j, none⟩ v).heap[b]? = some (.cells (cs.set j v ++ r).toArray ty (0, 0)) := by
  rw [heap_setCell_same w b j _ _ v h, ← List.set_append_left _ _ hj]; simp
theorem put_world {x : Ext} {w : World} {t : Tr} {b m : Nat} {parent : Int} {name : Str} (hm : m ≤ 99) (hT : TreeAt x w b t) (o : Obj) :
    TreeAt x ((((((w.setCell ⟨b, m, none⟩ (.bool true)).setCell ⟨b, 100 + m * 3, none⟩ (.int .i64 m)).setCell ⟨b, 100 + m * 3 + 1, none⟩ (.int .i64 parent)).setCell ⟨b, 100 + m * 3 + 2, none⟩ (.string (bs name))).alloc o).drew.drew) b (trPut t ⟨m, parent, name⟩) ∧
    w.grownBy ((((((w.setCell ⟨b, m, none⟩ (.bool true)).setCell ⟨b, 100 + m * 3, none⟩ (.int .i64 m)).setCell ⟨b, 100 + m * 3 + 1, none⟩ (.int .i64 parent)).setCell ⟨b, 100 + m * 3 + 2, none⟩ (.string (bs name))).alloc o).drew.drew) (some b) := by
  have hlt := hT.lt
  constructor
  · unfold TreeAt
    rw [heap_drew, heap_drew, Below.heap_alloc _ _ _ (by simp; exact hlt), ← treeCells_put t ⟨m, parent, name⟩ m rfl (by omega)]
    have hl := treeCells_length t
    exact TreeAt.set (by simp only [List.length_set]; omega) (TreeAt.set (by simp only [List.length_set]; omega) (TreeAt.set (by simp only [List.length_set]; omega) (TreeAt.set (by omega) hT)))
  · refine ⟨rfl, rfl, rfl, by simp [heap_drew], fun k hk hne => ?_⟩
    have hne' : k ≠ b := fun e => hne (by rw [e])
    rw [heap_drew, heap_drew, Below.heap_alloc _ _ _ (by simp; exact hk)]
    rw [heap_setCell_other _ _ _ _ hne', heap_setCell_other _ _ _ _ hne', heap_setCell_other _ _ _ _ hne', heap_setCell_other _ _ _ _ hne']
set_option maxHeartbeats 1000000 in
theorem put_nat {x : Ext} (t : Tr) (b m : Nat) (parent : Int) (name : Str) (w : World) (hm1 : 1 ≤ m) (hm : m ≤ 99) (hT : TreeAt x w b t) :
    Calls Tryd.prog 56 #[.pointer (some ⟨b, 0, none⟩), .agg #[.int .i64 m, .int .i64 parent, .string (bs name)]] w fun e w' => e = .returned (.tuple #[]) ∧ TreeAt x w' b (trPut t ⟨m, parent, name⟩) ∧ w.grownBy w' (some b) := by
  have hlt := hT.lt
  have c0 : w.cell? ⟨b, m, none⟩ = some (.bool (t m).isSome) := hT.here m (by omega)
  have c1 := (hT.cell (100 + m * 3)).trans (treeCells_node t m (by omega)).1
  have c2 := (hT.cell (100 + m * 3 + 1)).trans (treeCells_node t m (by omega)).2.1
  have c3 := (hT.cell (100 + m * 3 + 2)).trans (treeCells_node t m (by omega)).2.2
  have f0 : ∀ j, w.frozen? ⟨b, j, none⟩ = false := hT.free
  have hne : ¬ b = w.heap.size := by omega
  have hm0 : (0 : Int) ≤ m := by omega
  have HT := hide hT
  clear hT
  go_enter Tryd.func56, Tryd.ntmps56
  go_wp2
  go_region
  all_goals go_wp2
  all_goals go_region
  all_goals go_end0
  exact ⟨rfl, put_world hm (unhide HT) _⟩
theorem put_any {x : Ext} (t : Tr) (b : Nat) (n : Nd) (w : World) (hn : 1 ≤ n.id) (hn' : n.id ≤ 99) (hT : TreeAt x w b t) :
    Calls Tryd.prog 56 #[.pointer (some ⟨b, 0, none⟩), .agg #[.int .i64 n.id, .int .i64 n.parent, .string (bs n.name)]] w fun e w' => e = .returned (.tuple #[]) ∧ TreeAt x w' b (trPut t n) ∧ w.grownBy w' (some b) := by
  obtain ⟨id, parent, name⟩ := n
  obtain ⟨m, hm⟩ := Int.eq_ofNat_of_zero_le (show 0 ≤ id by simp at hn; omega)
  simp only at hm hn hn' ⊢
  subst hm
  exact put_nat t b m parent name w (by omega) (by omega) hT
theorem zeroTree : Tryd.zeroCells59 = (treeCells tr0).toArray := by kernel_rfl
theorem nd_cells {w wr : World} {ao : Option Addr} {ns : List Nd} (hrow : Row w ao ns.length 3 (ndCells ns)) (hb : Below w.heap.size w wr) {k : Nat} (hk : k < ns.length) :
    ∃ g, ao = some ⟨g, 0, none⟩ ∧ g < w.heap.size ∧ wr.cell? ⟨g, k * 3, none⟩ = some (.int .i64 (ns[k]).id) ∧ wr.cell? ⟨g, k * 3 + 1, none⟩ = some (.int .i64 (ns[k]).parent) ∧ wr.cell? ⟨g, k * 3 + 2, none⟩ = some (.string (bs (ns[k]).name)) := by
  obtain ⟨g, h1, h2, h3⟩ := hrow.2 (by omega)
  have := ndCells_get ns k hk
  refine ⟨g, h1, h2, ?_, ?_, ?_⟩
  · rw [hb.cell (p := ⟨g, _, none⟩) h2]; exact h3 _ _ this.1
  · rw [hb.cell (p := ⟨g, _, none⟩) h2]; exact h3 _ _ this.2.1
  · rw [hb.cell (p := ⟨g, _, none⟩) h2]; exact h3 _ _ this.2.2
theorem treeAt_grown {x : Ext} {w w' : World} {b c : Nat} {t : Tr} (h : TreeAt x w b t) (hg : w.grownBy w' (some c)) (hne : b ≠ c) : TreeAt x w' b t := by
  unfold TreeAt; rw [hg.block b h.lt (fun e => hne (by cases e; rfl))]; exact h
theorem fold_snoc (ns : List Nd) (k : Nat) (h : k < ns.length) : (ns.take (k + 1)).foldl trPut tr0 = trPut ((ns.take k).foldl trPut tr0) ns[k] := by
  rw [List.take_succ_eq_append_getElem h, List.foldl_append]; rfl
theorem treeAt_range {x : Ext} {w : World} {b : Nat} {t : Tr} (h : TreeAt x w b t) : w.rangeAt b 0 (treeCells t) := by
  intro j v hv
  have hj : j < 400 := by
    rw [← treeCells_length t]
    rcases Nat.lt_or_ge j (treeCells t).length with hh | hh
    · exact hh
    · rw [List.getElem?_eq_none hh] at hv; cases hv
  rw [Nat.zero_add, h.cell j hj]; exact hv
theorem treeAt_there {x : Ext} {w : World} {b : Nat} {t : Tr} (h : TreeAt x w b t) (t' : Tr) : w.there b 0 (treeCells t').toArray.size := by
  intro j hj
  have hj' : j < 400 := by simpa [treeCells_length] using hj
  refine ⟨?_, h.free _⟩
  rw [Nat.zero_add, h.cell j hj', List.getElem?_eq_getElem (by rw [treeCells_length]; exact hj')]; rfl
theorem treeSize0 : (Tryd.prog.info? 59).map (·.size) = some 400 := by kernel_rfl
theorem treeSize (t : Tr) : (Tryd.prog.info? 59).map (·.size) = some (treeCells t).length := by rw [treeCells_length]; exact treeSize0
theorem treeSize' (t : Tr) : (Tryd.prog.info? 59).map (·.size) = some (treeCells t).toArray.size := by rw [List.size_toArray]; exact treeSize t
theorem treeOne (t : Tr) : (treeCells t).toArray.all (·.oneCell') = true := by
  apply all_oneCell_toArray
  intro v hv
  unfold treeCells at hv
  rcases List.mem_append.1 hv with hv | hv
  · obtain ⟨i, _, rfl⟩ := List.mem_map.1 hv; rfl
  · unfold ndCells at hv
    obtain ⟨n, _, hn⟩ := List.mem_flatMap.1 hv
    simp [ndC] at hn
    rcases hn with rfl | rfl | rfl <;> rfl
theorem size_setCells (b : Nat) : ∀ (vs : List Value) (o : Nat) (w : World), (w.setCells b o vs).heap.size = w.heap.size ∧ (w.setCells b o vs).tape = w.tape
  | [], _, _ => ⟨rfl, rfl⟩
  | v :: vs, o, w => by
    have := size_setCells b vs (o + 1) (w.setCell ⟨b, o, none⟩ v)
    exact ⟨this.1.trans (by simp), this.2⟩
theorem below_setCells {B : Nat} {w wr : World} (hb : Below B w wr) {g : Nat} (hg : B ≤ g) (hB : B ≤ wr.heap.size) (o : Nat) (vs : List Value) : Below B w (wr.setCells g o vs) :=
  hb.trans ⟨World.os_setCells _ _ _ _, (size_setCells g vs o wr).2, World.output_setCells _ _ _ _, by rw [(size_setCells g vs o wr).1]; omega, fun k hk => World.heap_setCells_other _ _ _ _ (by omega) (by omega)⟩
set_option maxHeartbeats 1000000 in
theorem gather_any (ns : List Nd) (ao : Option Addr) (cap : Nat) (w : World) (hrow : Row w ao ns.length 3 (ndCells ns)) (hb : ∀ n ∈ ns, 1 ≤ n.id ∧ n.id ≤ 99) (hl : ns.length ≤ 4000) :
    Calls Tryd.prog 40 #[.slice ao ns.length cap] w fun e w' => e = .returned (.agg (treeCells (gather ns)).toArray) ∧ Below w.heap.size w w' := by
  have HROW := hide hrow; clear hrow
  have HB := hide hb; clear hb
  have HZ := hide zeroTree
  go_enter Tryd.func40, Tryd.ntmps40
  go_wp2
  go_loopw [8] (fun i wr => ∃ k : Nat, k ≤ ns.length ∧ i = .int .i64 k ∧ Below w.heap.size w wr ∧ Hid (TreeAt ext0 wr (w.heap.size + 1) ((ns.take k).foldl trPut tr0)) ∧ Hid (TreeAt ext0 wr w.heap.size tr0)) (fun i _ => ns.length - (intOf i).toNat)
  case atStart =>
    refine ⟨0, Nat.zero_le _, rfl, ((Below.refl _ _).alloc (Nat.le_refl _) _).alloc (by simp) _, ?_, ?_⟩
    · apply hide; unfold TreeAt ext0; rw [unhide HZ]; simpa using heap_alloc_new (w.alloc (.cells (treeCells tr0).toArray 59)) (.cells (treeCells tr0).toArray 59)
    · apply hide; unfold TreeAt ext0; rw [unhide HZ, Below.heap_alloc _ _ _ (by simp)]; simpa using heap_alloc_new w (.cells (treeCells tr0).toArray 59)
  case round =>
    obtain ⟨k, hk, rfl, hbel, HT1, HT0⟩ := hrel
    by_cases hlt : k < ns.length
    · obtain ⟨g, hao, hg, c0, c1, c2⟩ := nd_cells (unhide HROW) hbel hlt
      rw [hao]
      have hn := unhide HB _ (List.getElem_mem hlt)
      have HS := hide (fold_snoc ns k hlt)
      have hsz := hbel.size
      clear hao
      generalize ns[k] = nd at *
      go_wp2_with fail
      refine (put_any _ _ nd _ hn.1 hn.2 ((unhide HT1).below ((Below.refl _ _).alloc (Nat.le_refl _) _))).mono ?_
      rintro e w2 ⟨rfl, hT2, hg2⟩
      have HT2 : Hid (TreeAt ext0 w2 (w.heap.size + 1) ((ns.take (k + 1)).foldl trPut tr0)) := by apply hide; rw [unhide HS]; exact hT2
      have HT02 : Hid (TreeAt ext0 w2 w.heap.size tr0) := hide (treeAt_grown ((unhide HT0).below ((Below.refl _ _).alloc (Nat.le_refl _) _)) hg2 (by omega))
      have hb2 : Below w.heap.size w w2 := (hbel.alloc hsz _).grown hg2 (by simp; omega) (fun k hk => by cases hk; omega)
      clear hT2 hg2 c0 c1 c2 hbel
      go_wp2
      go_roundw
      case rel => exact ⟨k + 1, by omega, by go_num, hb2, HT2, HT02⟩
      case measure => simp [intOf]; omega
    · have HE : Hid (gather ns = (ns.take k).foldl trPut tr0) := by apply hide; rw [List.take_of_length_le (by omega)]; rfl
      generalize (ns.take k).foldl trPut tr0 = T at *
      have hRange : wr.rangeAt (w.heap.size + 1) 0 (treeCells T) := treeAt_range (unhide HT1)
      have hThere : wr.there w.heap.size 0 (treeCells T).toArray.size := treeAt_there (unhide HT0) T
      have HR := hide hRange; clear hRange
      have HTH := hide hThere; clear hThere
      go_wp2_with (first
        | (refine wpList_load_mid (by rfl) 59 (.tmp 3) (by rfl) (w.heap.size + 1) 0 (by rfl) (treeCells T) _ (unhide HR) Tryd.underlying59 (by rfl) (treeSize T) ?_)
        | (refine wpList_store_mid (by rfl) 59 (.tmp 2) (.tmp 15) (by rfl) w.heap.size 0 (treeCells T).toArray (by rfl) (by rfl) (unhide HTH) (treeSize' T) (treeOne T) ?_))
      have hr := World.rangeAt_setCells_same wr w.heap.size 0 (treeCells T) (by have := unhide HTH; rwa [List.size_toArray] at this)
      refine bodyPost_ret (v := .agg (treeCells T).toArray) (by simp [results, Tryd.results40, Act.put, asAddr, run_loadVar_mid _ _ _ _ _ _ hr Tryd.underlying59 rfl (treeSize T)]) rfl ⟨by rw [unhide HE], ?_⟩
      exact below_setCells hbel (Nat.le_refl _) hbel.size _ _
end Go.Proofs.YtdcjimlhaklhfaaDoor

namespace Go.Proofs.YtdcjimlhaklhfaaDoor
open Go.RowKit
def NoIn (p : Nat → Bool) (lo k : Nat) : Prop := ∀ j, lo ≤ j → j < k → p j = false
theorem noIn_succ {p : Nat → Bool} {lo k : Nat} (h : NoIn p lo k) (hp : p k = false) : NoIn p lo (k + 1) := by
  intro j h1 h2
  by_cases e : j = k
  · subst e; exact hp
  · exact h j h1 (by omega)
theorem drew2 (w : World) (a b : Nat) : ∃ n, (w.drewN a).drewN b = w.drewN n := ⟨a + b, by simp [World.drewN, Nat.add_assoc]⟩
set_option maxHeartbeats 1000000 in
theorem unordered_any (ns : List Nd) (ao : Option Addr) (cap : Nat) (w : World) (hrow : Row w ao ns.length 3 (ndCells ns)) (hl : ns.length ≤ 4000) :
    Calls Tryd.prog 39 #[.slice ao ns.length cap] w fun e w' => e = .returned (.int .i64 (scan (unordered ns) 1 ns.length)) ∧ ∃ n, w' = w.drewN n := by
  have HROW := hide hrow; clear hrow
  go_enter Tryd.func39, Tryd.ntmps39
  go_wp2
  go_loopw [3] (fun i wr => ∃ k nq : Nat, 1 ≤ k ∧ (k ≤ ns.length ∨ k = 1) ∧ i = .int .i64 k ∧ wr = w.drewN nq ∧ Hid (NoIn (unordered ns) 1 k)) (fun i _ => ns.length - (intOf i).toNat)
  case atStart => exact ⟨1, 0, Nat.le_refl _, .inr rfl, rfl, rfl, hide (fun j h1 h2 => by omega)⟩
  case round =>
    obtain ⟨k, nq, hk1, hk, rfl, rfl, HN⟩ := hrel
    by_cases hlt : k < ns.length
    · obtain ⟨j, rfl⟩ : ∃ j, k = j + 1 := ⟨k - 1, by omega⟩
      have HB := hide (Below.refl w.heap.size w)
      obtain ⟨g, hao, hg, c0, _, _⟩ := nd_cells (unhide HROW) (unhide HB) hlt
      obtain ⟨g', hao', _, d0, _, _⟩ := nd_cells (unhide HROW) (unhide HB) (show j < ns.length by omega)
      rw [hao] at hao'
      have hgg : g = g' := by cases hao'; rfl
      subst hgg
      rw [hao]
      have HU : Hid (unordered ns (j + 1) = decide ((ns[j + 1]).id ≤ (ns[j]).id)) := by
        apply hide; unfold unordered; rw [ndAt_get _ _ hlt, show j + 1 - 1 = j from rfl, ndAt_get _ _ (by omega)]
      clear hao hao' HB
      have hj0 : (0 : Int) ≤ j := by omega
      have hj1 : (j : Int) + 1 < ns.length := by omega
      have hj2 : (j : Int) < ns.length := by omega
      have hj3 : (0 : Int) ≤ (j : Int) + 1 := by omega
      have hj4 : ((j : Int) + 1).toNat = j + 1 := by omega
      by_cases hle : (ns[j + 1]).id ≤ (ns[j]).id
      · have HS : Hid (scan (unordered ns) 1 ns.length = j + 1) := hide (scan_hit (by omega) hlt (by rw [unhide HU]; simpa using hle) (unhide HN))
        go_wp2
        go_quiet (fail)
        go_wp2
        go_ret
        exact ⟨ret_int (by rw [unhide HS]), drew2 _ _ _⟩
      · have HN2 := hide (noIn_succ (unhide HN) (by rw [unhide HU]; simpa using hle))
        go_wp2
        go_quiet (fail)
        go_wp2
        go_roundw
        case rel => exact ⟨j + 1 + 1, _, by omega, by omega, by go_num, rfl, HN2⟩
        case measure => simp [intOf]; omega
    · have HS : Hid (scan (unordered ns) 1 ns.length = ns.length) := hide (scan_none (fun j h1 h2 => unhide HN j h1 (by omega)))
      go_wp2
      go_ret
      exact ⟨ret_int (by rw [unhide HS]), _, rfl⟩
set_option maxHeartbeats 1000000 in
theorem orphan_any {x : Ext} (t : Tr) (b : Nat) (ns : List Nd) (ao : Option Addr) (cap : Nat) (w : World) (ht : TrOk t) (hT : TreeAt x w b t) (hrow : Row w ao ns.length 3 (ndCells ns)) (hn : ∀ n ∈ ns, 0 ≤ n.parent ∧ n.parent ≤ 99) (hl : ns.length ≤ 4000) :
    Calls Tryd.prog 57 #[.pointer (some ⟨b, 0, none⟩), .slice ao ns.length cap] w fun e w' => e = .returned (.int .i64 (scan (orphan t ns) 0 ns.length)) ∧ Below w.heap.size w w' := by
  have HROW := hide hrow; clear hrow
  have HT := hide hT; clear hT
  have HO := hide ht; clear ht
  have HNB := hide hn; clear hn
  go_enter Tryd.func57, Tryd.ntmps57
  go_wp2
  go_loopw [9] (fun i wr => ∃ k : Nat, k ≤ ns.length ∧ i = .int .i64 k ∧ Below w.heap.size w wr ∧ Hid (NoIn (orphan t ns) 0 k)) (fun i _ => ns.length - (intOf i).toNat)
  case atStart => exact ⟨0, Nat.zero_le _, rfl, Below.refl _ _, hide (fun j h1 h2 => by omega)⟩
  case round =>
    obtain ⟨k, hk, rfl, hbel, HN⟩ := hrel
    by_cases hlt : k < ns.length
    · obtain ⟨g, hao, hg, c0, c1, c2⟩ := nd_cells (unhide HROW) hbel hlt
      rw [hao]
      have hp := unhide HNB _ (List.getElem_mem hlt)
      have HU : Hid (orphan t ns k = !isParentT t (ns[k]).parent) := by apply hide; unfold orphan; rw [ndAt_get _ _ hlt]
      have hsz := hbel.size
      have HB1 := hide (hbel.alloc hsz (.cells #[.int .i64 (ns[k]).id, .int .i64 (ns[k]).parent, .string (bs (ns[k]).name)] 56))
      have HP := hide (isParent_any t b (ns[k]).parent _ (unhide HO) hp.1 hp.2 ((unhide HT).below (unhide HB1)))
      clear hao hbel
      generalize ns[k] = nd at *
      cases hq : isParentT t nd.parent
      · have HS : Hid (scan (orphan t ns) 0 ns.length = k) := hide (scan_hit (by omega) hlt (by rw [unhide HU, hq]; rfl) (unhide HN))
        rw [hq] at HP
        clear hq
        go_wp2_with fail
        refine (unhide HP).mono ?_
        rintro e w2 ⟨rfl, rfl⟩
        go_wp2
        go_ret
        exact ⟨ret_int (by rw [unhide HS]), unhide HB1⟩
      · have HN2 := hide (noIn_succ (unhide HN) (by rw [unhide HU, hq]; rfl))
        rw [hq] at HP
        clear hq
        go_wp2_with fail
        refine (unhide HP).mono ?_
        rintro e w2 ⟨rfl, rfl⟩
        go_wp2
        go_roundw
        case rel => exact ⟨k + 1, by omega, by go_num, unhide HB1, HN2⟩
        case measure => simp [intOf]; omega
    · have HS : Hid (scan (orphan t ns) 0 ns.length = ns.length) := hide (scan_none (fun j h1 h2 => unhide HN j h1 (by omega)))
      go_wp2
      go_ret
      exact ⟨ret_int (by rw [unhide HS]), hbel⟩
set_option maxHeartbeats 1000000 in
theorem looped_any {x : Ext} (t : Tr) (b : Nat) (ns : List Nd) (ao : Option Addr) (cap : Nat) (w : World) (ht : TrOk t) (hT : TreeAt x w b t) (hrow : Row w ao ns.length 3 (ndCells ns)) (hn : ∀ n ∈ ns, 0 ≤ n.id ∧ n.id ≤ 99) (hl : ns.length ≤ 4000) :
    Calls Tryd.prog 58 #[.pointer (some ⟨b, 0, none⟩), .slice ao ns.length cap] w fun e w' => e = .returned (.int .i64 (scan (looped t ns) 0 ns.length)) ∧ Below w.heap.size w w' := by
  have HROW := hide hrow; clear hrow
  have HT := hide hT; clear hT
  have HO := hide ht; clear ht
  have HNB := hide hn; clear hn
  go_enter Tryd.func58, Tryd.ntmps58
  go_wp2
  go_loopw [9] (fun i wr => ∃ k : Nat, k ≤ ns.length ∧ i = .int .i64 k ∧ Below w.heap.size w wr ∧ Hid (NoIn (looped t ns) 0 k)) (fun i _ => ns.length - (intOf i).toNat)
  case atStart => exact ⟨0, Nat.zero_le _, rfl, Below.refl _ _, hide (fun j h1 h2 => by omega)⟩
  case round =>
    obtain ⟨k, hk, rfl, hbel, HN⟩ := hrel
    by_cases hlt : k < ns.length
    · obtain ⟨g, hao, hg, c0, c1, c2⟩ := nd_cells (unhide HROW) hbel hlt
      rw [hao]
      have hp := unhide HNB _ (List.getElem_mem hlt)
      have HU : Hid (looped t ns k = !meetsT t (ns[k]).id 0) := by apply hide; unfold looped; rw [ndAt_get _ _ hlt]
      have hsz := hbel.size
      have HB1 := hide (hbel.alloc hsz (.cells #[.int .i64 (ns[k]).id, .int .i64 (ns[k]).parent, .string (bs (ns[k]).name)] 56))
      have HP := hide (meets_any t b (ns[k]).id 0 _ (unhide HO) hp.1 hp.2 ((unhide HT).below (unhide HB1)))
      clear hao hbel
      generalize ns[k] = nd at *
      cases hq : meetsT t nd.id 0
      · have HS : Hid (scan (looped t ns) 0 ns.length = k) := hide (scan_hit (by omega) hlt (by rw [unhide HU, hq]; rfl) (unhide HN))
        rw [hq] at HP
        clear hq
        go_wp2_with fail
        refine (unhide HP).mono ?_
        rintro e w2 ⟨rfl, rfl⟩
        go_wp2
        go_ret
        exact ⟨ret_int (by rw [unhide HS]), unhide HB1⟩
      · have HN2 := hide (noIn_succ (unhide HN) (by rw [unhide HU, hq]; rfl))
        rw [hq] at HP
        clear hq
        go_wp2_with fail
        refine (unhide HP).mono ?_
        rintro e w2 ⟨rfl, rfl⟩
        go_wp2
        go_roundw
        case rel => exact ⟨k + 1, by omega, by go_num, unhide HB1, HN2⟩
        case measure => simp [intOf]; omega
    · have HS : Hid (scan (looped t ns) 0 ns.length = ns.length) := hide (scan_none (fun j h1 h2 => unhide HN j h1 (by omega)))
      go_wp2
      go_ret
      exact ⟨ret_int (by rw [unhide HS]), hbel⟩
end Go.Proofs.YtdcjimlhaklhfaaDoor

namespace Go.Proofs.YtdcjimlhaklhfaaDoor
open Go.RowKit
theorem names_eq (a b : Str) : ((bs a).toList == (bs b).toList) = (a == b) := by rw [tl_sl, tl_sl, sl_bs, sl_bs]
theorem same_get (ns : List Nd) (i j : Nat) (hi : i < ns.length) (hj : j < ns.length) : samePlace ns i j = (((ns[j]).parent == (ns[i]).parent) && ((ns[j]).name == (ns[i]).name)) := by
  unfold samePlace; rw [ndAt_get _ _ hi, ndAt_get _ _ hj]
theorem twice_yes {ns : List Nd} {i j : Nat} (h : j < i) (hs : samePlace ns i j = true) : twice ns i = true := by unfold twice; exact decide_eq_true ⟨j, h, hs⟩
theorem twice_no {ns : List Nd} {i : Nat} (h : NoIn (samePlace ns i) 0 i) : twice ns i = false := by
  unfold twice
  apply decide_eq_false
  rintro ⟨j, h1, h2⟩
  rw [h j (by omega) h1] at h2
  cases h2
set_option maxHeartbeats 2000000 in
theorem twice_any (ns : List Nd) (ao : Option Addr) (cap : Nat) (w : World) (hrow : Row w ao ns.length 3 (ndCells ns)) (hl : ns.length ≤ 4000) :
    Calls Tryd.prog 59 #[.slice ao ns.length cap] w fun e w' => e = .returned (.int .i64 (scan (twice ns) 0 ns.length)) ∧ ∃ n, w' = w.drewN n := by
  have HROW := hide hrow; clear hrow
  go_enter Tryd.func59, Tryd.ntmps59
  go_wp2
  go_loopw [7] (fun x wr => ∃ i nq : Nat, i ≤ ns.length ∧ x = .int .i64 i ∧ wr = w.drewN nq ∧ Hid (NoIn (twice ns) 0 i)) (fun x _ => ns.length - (intOf x).toNat)
  case atStart => exact ⟨0, 0, Nat.zero_le _, rfl, rfl, hide (fun j h1 h2 => by omega)⟩
  case round =>
    obtain ⟨i, nq, hi, rfl, rfl, HN⟩ := hrel
    by_cases hlt : i < ns.length
    · have hi0 : (0 : Int) ≤ i := by omega
      have hi1 : (i : Int) < ns.length := by omega
      go_wp2
      go_loopw [4] (fun x wr => ∃ j nq' : Nat, j ≤ i ∧ x = .int .i64 j ∧ wr = w.drewN nq' ∧ Hid (NoIn (samePlace ns i) 0 j)) (fun x _ => i - (intOf x).toNat)
      case atStart => exact ⟨0, nq, Nat.zero_le _, rfl, rfl, hide (fun j h1 h2 => by omega)⟩
      case round =>
        obtain ⟨j, nq', hj, rfl, rfl, HM⟩ := hrel
        by_cases hjl : j < i
        · have HB := hide (Below.refl w.heap.size w)
          have hj0 : (0 : Int) ≤ j := by omega
          have hj1 : (j : Int) < ns.length := by omega
          obtain ⟨g, hao, hg, _, c1, c2⟩ := nd_cells (unhide HROW) (unhide HB) hlt
          obtain ⟨g', hao', _, _, d1, d2⟩ := nd_cells (unhide HROW) (unhide HB) (show j < ns.length by omega)
          rw [hao] at hao'
          have hgg : g = g' := by cases hao'; rfl
          subst hgg
          rw [hao]
          have HU := hide (same_get ns i j hlt (by omega))
          clear hao hao' HB
          cases hpe : ((ns[j]).parent == (ns[i]).parent)
          · have HM2 := hide (noIn_succ (unhide HM) (by rw [unhide HU, hpe]; rfl))
            go_wp2
            go_quiet (fail)
            go_wp2
            go_roundw
            case rel => exact ⟨j + 1, _, by omega, by go_num, rfl, HM2⟩
            case measure => simp [intOf]; omega
          · cases hne : ((ns[j]).name == (ns[i]).name)
            · have HM2 := hide (noIn_succ (unhide HM) (by rw [unhide HU, hpe, hne]; rfl))
              have hne2 : ((bs (ns[j]).name).toList == (bs (ns[i]).name).toList) = false := by rw [names_eq]; exact hne
              clear hne
              go_wp2
              go_quiet (fail)
              go_wp2
              go_roundw
              case rel => exact ⟨j + 1, _, by omega, by go_num, rfl, HM2⟩
              case measure => simp [intOf]; omega
            · have HS : Hid (scan (twice ns) 0 ns.length = i) := hide (scan_hit (by omega) hlt (twice_yes hjl (by rw [unhide HU, hpe, hne]; rfl)) (unhide HN))
              have hne2 : ((bs (ns[j]).name).toList == (bs (ns[i]).name).toList) = true := by rw [names_eq]; exact hne
              clear hne
              go_wp2
              go_quiet (fail)
              go_wp2
              go_ret
              exact ⟨ret_int (by rw [unhide HS]), drew2 _ _ _⟩
        · have hji : j = i := by omega
          subst hji
          have HN2 := hide (noIn_succ (unhide HN) (twice_no (unhide HM)))
          go_wp2
          go_roundw
          case rel => exact ⟨j + 1, _, by omega, by go_num, rfl, HN2⟩
          case measure => simp [intOf]; omega
    · have HS : Hid (scan (twice ns) 0 ns.length = ns.length) := hide (scan_none (fun j h1 h2 => unhide HN j h1 (by omega)))
      go_wp2
      go_ret
      exact ⟨ret_int (by rw [unhide HS]), _, rfl⟩
end Go.Proofs.YtdcjimlhaklhfaaDoor

namespace Go.Proofs.YtdcjimlhaklhfaaDoor
open Go.RowKit
def idIs (ns : List Nd) (id : Int) (i : Nat) : Bool := (ndAt ns i).id == id
def findN (ns : List Nd) (id : Int) : Nat := scan (idIs ns id) 0 ns.length
def findR (ns : List Nd) (id : Int) : Int := if findN ns id < ns.length then (findN ns id : Int) else -1
def lookR (ns : List Nd) (id : Int) : Option Nd := if findN ns id < ns.length then some (ndAt ns (findN ns id)) else none
def folderR (ns : List Nd) (id : Int) : Bool := id == 0 || (id % 2 == 0 && (lookR ns id).isSome)
def belowF (look : Int → Option Nd) : Nat → Int → Int → Bool
  | 0, _, _ => false
  | f + 1, id, top => match look id with
    | none => false
    | some n => if n.parent = top then true else belowF look f n.parent top
def belowR (ns : List Nd) (id top : Int) : Bool := belowF (lookR ns) (ns.length + 1) id top
def placeIs (ns : List Nd) (parent : Int) (name : Str) (i : Nat) : Bool := ((ndAt ns i).parent == parent) && ((ndAt ns i).name == name)
def takenN (ns : List Nd) (parent : Int) (name : Str) : Nat := scan (placeIs ns parent name) 0 ns.length
def takenR (ns : List Nd) (parent : Int) (name : Str) : Int := if takenN ns parent name < ns.length then (ndAt ns (takenN ns parent name)).id else 0
/-- the rules behind the form -/
def rOrphan (ns : List Nd) (i : Nat) : Bool := !folderR ns (ndAt ns i).parent
def rLooped (ns : List Nd) (i : Nat) : Bool := !belowR ns (ndAt ns i).id 0
def rTwice (ns : List Nd) (i : Nat) : Bool := takenR (ns.take i) (ndAt ns i).parent (ndAt ns i).name != 0
def wrongR (ns : List Nd) : Int × Nat :=
  if scan (unordered ns) 1 ns.length < ns.length then (3, scan (unordered ns) 1 ns.length)
  else if scan (rOrphan ns) 0 ns.length < ns.length then (4, scan (rOrphan ns) 0 ns.length)
  else if scan (rLooped ns) 0 ns.length < ns.length then (5, scan (rLooped ns) 0 ns.length)
  else if scan (rTwice ns) 0 ns.length < ns.length then (6, scan (rTwice ns) 0 ns.length)
  else (0, 0)
def checkR (l : Str) : Int × Nat :=
  if 4000 < l.length then (1, 0) else
  if (readNodes (cut l)).length < (cut l).length then (2, (readNodes (cut l)).length) else
  wrongR (readNodes (cut l))
theorem lookR_none {ns : List Nd} {id : Int} (h : ¬ findN ns id < ns.length) : lookR ns id = none ∧ findR ns id = -1 := by
  unfold lookR findR; rw [if_neg h, if_neg h]; exact ⟨rfl, rfl⟩
theorem lookR_some {ns : List Nd} {id : Int} (h : findN ns id < ns.length) : lookR ns id = some ns[findN ns id] ∧ findR ns id = findN ns id := by
  unfold lookR findR; rw [if_pos h, if_pos h, ndAt_get _ _ h]; exact ⟨rfl, rfl⟩
end Go.Proofs.YtdcjimlhaklhfaaDoor

namespace Go.Proofs.YtdcjimlhaklhfaaDoor
open Go.RowKit
set_option maxHeartbeats 1000000 in
theorem find_any (ns : List Nd) (id : Int) (ao : Option Addr) (cap : Nat) (w : World) (hrow : Row w ao ns.length 3 (ndCells ns)) (hl : ns.length ≤ 4000) :
    Calls Tryd.prog 68 #[.slice ao ns.length cap, .int .i64 id] w fun e w' => e = .returned (.int .i64 (findR ns id)) ∧ w' = w := by
  have HROW := hide hrow; clear hrow
  have HB := hide (Below.refl w.heap.size w)
  go_enter Tryd.func68, Tryd.ntmps68
  go_wp2
  go_loop [5] (fun i => ∃ k : Nat, k ≤ ns.length ∧ i = .int .i64 k ∧ Hid (NoIn (idIs ns id) 0 k)) (fun i => ns.length - (intOf i).toNat)
  case atStart => exact ⟨0, Nat.zero_le _, rfl, hide (fun j h1 h2 => by omega)⟩
  case round =>
    obtain ⟨k, hk, rfl, HN⟩ := hrel
    by_cases hlt : k < ns.length
    · obtain ⟨g, hao, hg, c0, _, _⟩ := nd_cells (unhide HROW) (unhide HB) hlt
      rw [hao]
      have HU : Hid (idIs ns id k = ((ns[k]).id == id)) := by apply hide; unfold idIs; rw [ndAt_get _ _ hlt]
      clear hao
      cases hq : ((ns[k]).id == id)
      · have HN2 := hide (noIn_succ (unhide HN) (by rw [unhide HU]; exact hq))
        go_wp2
        go_round
        case rel => exact ⟨k + 1, by omega, by go_num, HN2⟩
        case measure => simp [intOf]; omega
      · have HS : Hid (findR ns id = k) := by
          apply hide
          have e : findN ns id = k := scan_hit (by omega) hlt (by rw [unhide HU]; exact hq) (unhide HN)
          rw [(lookR_some (by rw [e]; exact hlt)).2, e]
        go_wp2
        go_ret
        exact ⟨ret_int (unhide HS).symm, rfl⟩
    · have HS : Hid (findR ns id = -1) := by
        apply hide
        have e : findN ns id = ns.length := scan_none (fun j h1 h2 => unhide HN j h1 (by omega))
        exact (lookR_none (by rw [e]; omega)).2
      go_wp2
      go_ret
      exact ⟨ret_int (unhide HS).symm, rfl⟩
theorem findR_bd (ns : List Nd) (id : Int) : -1 ≤ findR ns id ∧ findR ns id < (ns.length : Int) + 1 ∧ ((lookR ns id).isSome = decide (0 ≤ findR ns id)) := by
  by_cases h : findN ns id < ns.length
  · obtain ⟨h1, h2⟩ := lookR_some h
    rw [h1, h2]; refine ⟨by omega, by omega, by simp⟩
  · obtain ⟨h1, h2⟩ := lookR_none h
    rw [h1, h2]; refine ⟨by omega, by omega, by simp⟩
set_option maxHeartbeats 1000000 in
theorem folder_any (ns : List Nd) (id : Int) (ao : Option Addr) (cap : Nat) (w : World) (hrow : Row w ao ns.length 3 (ndCells ns)) (hl : ns.length ≤ 4000) (h0 : 0 ≤ id) (h1 : id ≤ 1000) :
    Calls Tryd.prog 82 #[.slice ao ns.length cap, .int .i64 id] w fun e w' => e = .returned (.bool (folderR ns id)) ∧ w' = w := by
  have HF := hide (find_any ns id ao cap w hrow hl)
  have hbd := findR_bd ns id
  have HP : Hid (folderR ns id = (id == 0 || (id % 2 == 0 && decide (0 ≤ findR ns id)))) := by apply hide; unfold folderR; rw [hbd.2.2]
  obtain ⟨b1, b2, _⟩ := hbd
  clear hrow
  generalize findR ns id = f at *
  by_cases hz : id = 0
  · subst hz
    go_enter Tryd.func82, Tryd.ntmps82
    go_wp2_with fail
    refine (unhide HF).mono ?_
    rintro e w' ⟨rfl, rfl⟩
    go_wp2
    go_ret
    exact ⟨ret_bool (by rw [unhide HP]; rfl), rfl⟩
  · have hz' : (id == 0) = false := by simpa using hz
    by_cases he : id % 2 = 0
    · have he' : (id % 2 == 0) = true := by simpa using he
      have HE := hide he'
      have HZ := hide hz'
      clear he
      go_enter Tryd.func82, Tryd.ntmps82
      go_wp2_with fail
      refine (unhide HF).mono ?_
      rintro e w' ⟨rfl, rfl⟩
      go_wp2
      go_ret
      exact ⟨ret_bool (by rw [unhide HP, unhide HZ, unhide HE]; rfl), rfl⟩
    · have he' : (id % 2 == 0) = false := by simpa using he
      have HE := hide he'
      have HZ := hide hz'
      clear he
      go_enter Tryd.func82, Tryd.ntmps82
      go_wp2_with fail
      refine (unhide HF).mono ?_
      rintro e w' ⟨rfl, rfl⟩
      go_wp2
      go_ret
      exact ⟨ret_bool (by rw [unhide HP, unhide HZ, unhide HE]; rfl), rfl⟩
theorem belowF_none {look : Int → Option Nd} {f : Nat} {id top : Int} (h : look id = none) : belowF look (f + 1) id top = false := by simp [belowF, h]
theorem belowF_hit {look : Int → Option Nd} {f : Nat} {id : Int} {n : Nd} (h : look id = some n) : belowF look (f + 1) id n.parent = true := by simp [belowF, h]
theorem belowF_on {look : Int → Option Nd} {f : Nat} {id top : Int} {n : Nd} (h : look id = some n) (hne : ¬ n.parent = top) : belowF look (f + 1) id top = belowF look f n.parent top := by simp [belowF, h, hne]
set_option maxHeartbeats 1000000 in
theorem below_any (ns : List Nd) (id top : Int) (ao : Option Addr) (cap : Nat) (w : World) (hrow : Row w ao ns.length 3 (ndCells ns)) (hl : ns.length ≤ 4000) :
    Calls Tryd.prog 83 #[.slice ao ns.length cap, .int .i64 id, .int .i64 top] w fun e w' => e = .returned (.bool (belowR ns id top)) ∧ w' = w := by
  have HROW := hide hrow; clear hrow
  have HB := hide (Below.refl w.heap.size w)
  have HM : Hid (belowR ns id top = belowF (lookR ns) (ns.length + 1) id top) := hide rfl
  generalize belowR ns id top = M at *
  go_enter Tryd.func83, Tryd.ntmps83
  go_wp2
  go_loop [7, 8] (fun d i => ∃ k : Nat, ∃ m : Int, k ≤ ns.length + 1 ∧ i = .int .i64 k ∧ d = .int .i64 m ∧ Hid (M = belowF (lookR ns) (ns.length + 1 - k) m top)) (fun _ i => ns.length + 2 - (intOf i).toNat)
  case atStart => exact ⟨0, id, by omega, rfl, rfl, HM⟩
  case round =>
    obtain ⟨k, m, hk, rfl, rfl, HI⟩ := hrel
    have HF := hide (find_any ns m ao cap w (unhide HROW) hl)
    by_cases hle : k ≤ ns.length
    · have HI2 : Hid (M = belowF (lookR ns) ((ns.length - k) + 1) m top) := by apply hide; rw [show ns.length - k + 1 = ns.length + 1 - k by omega]; exact unhide HI
      clear HI HM
      by_cases hf : findN ns m < ns.length
      · obtain ⟨q1, q2⟩ := lookR_some hf
        obtain ⟨g, hao, hg, _, c1, _⟩ := nd_cells (unhide HROW) (unhide HB) hf
        rw [q2] at HF
        rw [hao] at HF ⊢
        have HQ := hide q1
        clear q1 q2 hao
        generalize hfn : findN ns m = fn at *
        have HFN := hide hfn
        clear hfn
        have hfn0 : (0 : Int) ≤ fn := by omega
        have hfn1 : (fn : Int) < ns.length := by omega
        generalize ns[fn] = nd at *
        by_cases hp : nd.parent = top
        · have HT : Hid (M = true) := by apply hide; rw [unhide HI2, ← hp]; exact belowF_hit (unhide HQ)
          have hp' : (nd.parent == top) = true := by simpa using hp
          clear hp
          go_wp2_with fail
          refine (unhide HF).mono ?_
          rintro e w' ⟨rfl, rfl⟩
          go_wp2
          go_ret
          exact ⟨ret_bool (unhide HT).symm, rfl⟩
        · have HT : Hid (M = belowF (lookR ns) (ns.length - k) nd.parent top) := by apply hide; rw [unhide HI2]; exact belowF_on (unhide HQ) hp
          have hp' : (nd.parent == top) = false := by simpa using hp
          clear hp
          go_wp2_with fail
          refine (unhide HF).mono ?_
          rintro e w' ⟨rfl, rfl⟩
          go_wp2
          go_round
          case rel => exact ⟨k + 1, nd.parent, by omega, by go_num, rfl, by apply hide; rw [show ns.length + 1 - (k + 1) = ns.length - k by omega]; exact unhide HT⟩
          case measure => simp [intOf]; omega
      · obtain ⟨q1, q2⟩ := lookR_none hf
        have HT : Hid (M = false) := by apply hide; rw [unhide HI2]; exact belowF_none q1
        rw [q2] at HF
        clear q1 q2 hf
        go_wp2_with fail
        refine (unhide HF).mono ?_
        rintro e w' ⟨rfl, rfl⟩
        go_wp2
        go_ret
        exact ⟨ret_bool (unhide HT).symm, rfl⟩
    · have HT : Hid (M = false) := by apply hide; rw [unhide HI, show ns.length + 1 - k = 0 by omega]; rfl
      go_wp2
      go_ret
      exact ⟨ret_bool (unhide HT).symm, rfl⟩
set_option maxHeartbeats 1000000 in
theorem taken_any (ns : List Nd) (parent : Int) (name : Str) (ao : Option Addr) (cap : Nat) (w : World) (hrow : Row w ao ns.length 3 (ndCells ns)) (hl : ns.length ≤ 4000) :
    Calls Tryd.prog 84 #[.slice ao ns.length cap, .int .i64 parent, .string (bs name)] w fun e w' => e = .returned (.int .i64 (takenR ns parent name)) ∧ w' = w := by
  have HROW := hide hrow; clear hrow
  have HB := hide (Below.refl w.heap.size w)
  go_enter Tryd.func84, Tryd.ntmps84
  go_wp2
  go_loop [7] (fun i => ∃ k : Nat, k ≤ ns.length ∧ i = .int .i64 k ∧ Hid (NoIn (placeIs ns parent name) 0 k)) (fun i => ns.length - (intOf i).toNat)
  case atStart => exact ⟨0, Nat.zero_le _, rfl, hide (fun j h1 h2 => by omega)⟩
  case round =>
    obtain ⟨k, hk, rfl, HN⟩ := hrel
    by_cases hlt : k < ns.length
    · obtain ⟨g, hao, hg, c0, c1, c2⟩ := nd_cells (unhide HROW) (unhide HB) hlt
      rw [hao]
      have HU : Hid (placeIs ns parent name k = (((ns[k]).parent == parent) && ((ns[k]).name == name))) := by apply hide; unfold placeIs; rw [ndAt_get _ _ hlt]
      clear hao
      cases hq : ((ns[k]).parent == parent)
      · have HN2 := hide (noIn_succ (unhide HN) (by rw [unhide HU, hq]; rfl))
        go_wp2
        go_round
        case rel => exact ⟨k + 1, by omega, by go_num, HN2⟩
        case measure => simp [intOf]; omega
      · cases hq2 : ((ns[k]).name == name)
        · have HN2 := hide (noIn_succ (unhide HN) (by rw [unhide HU, hq, hq2]; rfl))
          have hne2 : ((bs (ns[k]).name).toList == (bs name).toList) = false := by rw [names_eq]; exact hq2
          clear hq2
          go_wp2
          go_round
          case rel => exact ⟨k + 1, by omega, by go_num, HN2⟩
          case measure => simp [intOf]; omega
        · have HS : Hid (takenR ns parent name = (ns[k]).id) := by
            apply hide
            have e : takenN ns parent name = k := scan_hit (by omega) hlt (by rw [unhide HU, hq, hq2]; rfl) (unhide HN)
            unfold takenR; rw [e, if_pos hlt, ndAt_get _ _ hlt]
          have hne2 : ((bs (ns[k]).name).toList == (bs name).toList) = true := by rw [names_eq]; exact hq2
          clear hq2
          go_wp2
          go_ret
          exact ⟨ret_int (unhide HS).symm, rfl⟩
    · have HS : Hid (takenR ns parent name = 0) := by
        apply hide
        have e : takenN ns parent name = ns.length := scan_none (fun j h1 h2 => unhide HN j h1 (by omega))
        unfold takenR; rw [e, if_neg (by omega)]
      go_wp2
      go_ret
      exact ⟨ret_int (unhide HS).symm, rfl⟩
end Go.Proofs.YtdcjimlhaklhfaaDoor

namespace Go.Proofs.YtdcjimlhaklhfaaDoor
open Go.RowKit
theorem quiet_add {P : Program} {f : FuncId} {args : Array Value} {w : World} {a n : Nat} {v : Value}
    (h : Calls P f args (w.drewN (a + n)) fun e w' => e = .returned v ∧ w' = w.drewN (a + n)) : Calls P f args (w.drewN (a + n)) fun e w'' => e = .returned v ∧ ∃ m, w'' = w.drewN (a + m) :=
  h.mono fun _ _ ⟨he, hm⟩ => ⟨he, n, hm⟩
theorem row_drewN {w : World} {ao : Option Addr} {n size : Nat} {xs : List Value} (h : Row w ao n size xs) (k : Nat) : Row (w.drewN k) ao n size xs := h.below (below_drewN (Below.refl _ _) k)
theorem row_take {w : World} {ao : Option Addr} {ns : List Nd} (h : Row w ao ns.length 3 (ndCells ns)) (i : Nat) (hi : i ≤ ns.length) : Row w ao (ns.take i).length 3 (ndCells (ns.take i)) := by
  refine ⟨ndCells_length _, fun hn => ?_⟩
  have hlen : (ns.take i).length = i := by rw [List.length_take]; omega
  obtain ⟨g, h1, h2, h3⟩ := h.2 (by omega)
  refine ⟨g, h1, h2, fun j u hu => h3 j u ?_⟩
  have : ndCells ns = ndCells (ns.take i) ++ ndCells (ns.drop i) := by rw [ndCells, ndCells, ndCells, ← List.flatMap_append, List.take_append_drop]
  rw [this, List.getElem?_append_left (by rcases Nat.lt_or_ge j (ndCells (ns.take i)).length with hh | hh; exact hh; rw [List.getElem?_eq_none hh] at hu; cases hu)]
  exact hu
set_option maxHeartbeats 4000000 in
theorem wrong_any (ns : List Nd) (ao : Option Addr) (cap : Nat) (w : World) (hrow : Row w ao ns.length 3 (ndCells ns)) (hcap : ns.length ≤ cap) (hl : ns.length ≤ 4000) (hn : ∀ n ∈ ns, 0 ≤ n.parent ∧ n.parent ≤ 99) :
    Calls Tryd.prog 65 #[.slice ao ns.length cap] w fun e w' => e = .returned (.tuple #[.int .i64 (wrongR ns).1, .int .i64 (wrongR ns).2]) ∧ Below w.heap.size w w' := by
  have HROW := hide hrow; clear hrow
  have HNB := hide hn; clear hn
  have HW : Hid (wrongR ns = if scan (unordered ns) 1 ns.length < ns.length then (3, scan (unordered ns) 1 ns.length) else if scan (rOrphan ns) 0 ns.length < ns.length then (4, scan (rOrphan ns) 0 ns.length) else if scan (rLooped ns) 0 ns.length < ns.length then (5, scan (rLooped ns) 0 ns.length) else if scan (rTwice ns) 0 ns.length < ns.length then (6, scan (rTwice ns) 0 ns.length) else (0, 0)) := hide rfl
  generalize wrongR ns = WR at *
  go_enter Tryd.func65, Tryd.ntmps65
  go_wp2
  go_loopw [4] (fun i wr => ∃ k nq : Nat, 1 ≤ k ∧ (k ≤ ns.length ∨ k = 1) ∧ i = .int .i64 k ∧ wr = w.drewN nq ∧ Hid (NoIn (unordered ns) 1 k)) (fun i _ => ns.length - (intOf i).toNat)
  case atStart => exact ⟨1, 0, Nat.le_refl _, .inr rfl, rfl, rfl, hide (fun j h1 h2 => by omega)⟩
  case round =>
    obtain ⟨k, nq, hk1, hk, rfl, rfl, HN⟩ := hrel
    by_cases hlt : k < ns.length
    · obtain ⟨j, rfl⟩ : ∃ j, k = j + 1 := ⟨k - 1, by omega⟩
      have HB := hide (Below.refl w.heap.size w)
      obtain ⟨g, hao, hg, c0, _, _⟩ := nd_cells (unhide HROW) (unhide HB) hlt
      obtain ⟨g', hao', _, d0, _, _⟩ := nd_cells (unhide HROW) (unhide HB) (show j < ns.length by omega)
      rw [hao] at hao'
      have hgg : g = g' := by cases hao'; rfl
      subst hgg
      rw [hao]
      have HU : Hid (unordered ns (j + 1) = decide ((ns[j + 1]).id ≤ (ns[j]).id)) := by
        apply hide; unfold unordered; rw [ndAt_get _ _ hlt, show j + 1 - 1 = j from rfl, ndAt_get _ _ (by omega)]
      clear hao hao' HB
      have hj0 : (0 : Int) ≤ j := by omega
      have hj1 : (j : Int) + 1 < ns.length := by omega
      have hj2 : (j : Int) < ns.length := by omega
      have hj3 : (0 : Int) ≤ (j : Int) + 1 := by omega
      have hj4 : ((j : Int) + 1).toNat = j + 1 := by omega
      by_cases hle : (ns[j + 1]).id ≤ (ns[j]).id
      · have HS : Hid (WR = (3, j + 1)) := by
          apply hide
          have e : scan (unordered ns) 1 ns.length = j + 1 := scan_hit (by omega) hlt (by rw [unhide HU]; simpa using hle) (unhide HN)
          rw [unhide HW, e, if_pos hlt]
        go_wp2
        go_quiet (fail)
        go_wp2
        go_ret2
        exact ⟨by rw [unhide HS]; rfl, below_drewN (below_drewN (Below.refl _ _) _) _⟩
      · have HN2 := hide (noIn_succ (unhide HN) (by rw [unhide HU]; simpa using hle))
        go_wp2
        go_quiet (fail)
        go_wp2
        go_roundw
        case rel => exact ⟨j + 1 + 1, _, by omega, by omega, by go_num, rfl, HN2⟩
        case measure => simp [intOf]; omega
    · have HW2 : Hid (WR = if scan (rOrphan ns) 0 ns.length < ns.length then (4, scan (rOrphan ns) 0 ns.length) else if scan (rLooped ns) 0 ns.length < ns.length then (5, scan (rLooped ns) 0 ns.length) else if scan (rTwice ns) 0 ns.length < ns.length then (6, scan (rTwice ns) 0 ns.length) else (0, 0)) := by
        apply hide
        have e : scan (unordered ns) 1 ns.length = ns.length := scan_none (fun j h1 h2 => unhide HN j h1 (by omega))
        rw [unhide HW, e, if_neg (by omega)]
      clear HW HN hk hk1
      have HROW1 : Hid (Row (w.drewN nq) ao ns.length 3 (ndCells ns)) := hide (row_drewN (unhide HROW) nq)
      have HBW : Hid (Below w.heap.size w (w.drewN nq)) := hide (below_drewN (Below.refl _ _) nq)
      obtain ⟨w1, hw1⟩ : ∃ x, w.drewN nq = x := ⟨_, rfl⟩
      rw [hw1] at HROW1 HBW ⊢
      clear hw1
      have HB1 := hide (Below.refl w1.heap.size w1)
      go_wp2
      go_loop [5] (fun i => ∃ k : Nat, k ≤ ns.length ∧ i = .int .i64 k ∧ Hid (NoIn (rOrphan ns) 0 k)) (fun i => ns.length - (intOf i).toNat)
      case atStart => exact ⟨0, Nat.zero_le _, rfl, hide (fun j h1 h2 => by omega)⟩
      case round =>
        obtain ⟨k, hk, rfl, HN⟩ := hrel
        by_cases hlt : k < ns.length
        · obtain ⟨g, hao, hg, _, c1, _⟩ := nd_cells (unhide HROW1) (unhide HB1) hlt
          have hp := unhide HNB _ (List.getElem_mem hlt)
          have HFO := hide (folder_any ns (ns[k]).parent ao cap w1 (unhide HROW1) hl hp.1 (by omega))
          have HU : Hid (rOrphan ns k = !folderR ns (ns[k]).parent) := by apply hide; unfold rOrphan; rw [ndAt_get _ _ hlt]
          rw [hao] at HFO ⊢
          clear hao
          generalize ns[k] = nd at *
          cases hq : folderR ns nd.parent
          · have HS : Hid (WR = (4, k)) := by
              apply hide
              have e : scan (rOrphan ns) 0 ns.length = k := scan_hit (by omega) hlt (by rw [unhide HU, hq]; rfl) (unhide HN)
              rw [unhide HW2, e, if_pos hlt]
            rw [hq] at HFO
            clear hq
            go_wp2_with fail
            refine (unhide HFO).mono ?_
            rintro e w2 ⟨rfl, rfl⟩
            go_wp2
            go_ret2
            exact ⟨by rw [unhide HS]; rfl, unhide HBW⟩
          · have HN2 := hide (noIn_succ (unhide HN) (by rw [unhide HU, hq]; rfl))
            rw [hq] at HFO
            clear hq
            go_wp2_with fail
            refine (unhide HFO).mono ?_
            rintro e w2 ⟨rfl, rfl⟩
            go_wp2
            go_round
            case rel => exact ⟨k + 1, by omega, by go_num, HN2⟩
            case measure => simp [intOf]; omega
        · have HW3 : Hid (WR = if scan (rLooped ns) 0 ns.length < ns.length then (5, scan (rLooped ns) 0 ns.length) else if scan (rTwice ns) 0 ns.length < ns.length then (6, scan (rTwice ns) 0 ns.length) else (0, 0)) := by
            apply hide
            have e : scan (rOrphan ns) 0 ns.length = ns.length := scan_none (fun j h1 h2 => unhide HN j h1 (by omega))
            rw [unhide HW2, e, if_neg (by omega)]
          clear HW2 HN hk
          go_wp2
          go_loop [7] (fun i => ∃ k : Nat, k ≤ ns.length ∧ i = .int .i64 k ∧ Hid (NoIn (rLooped ns) 0 k)) (fun i => ns.length - (intOf i).toNat)
          case atStart => exact ⟨0, Nat.zero_le _, rfl, hide (fun j h1 h2 => by omega)⟩
          case round =>
            obtain ⟨k, hk, rfl, HN⟩ := hrel
            by_cases hlt : k < ns.length
            · obtain ⟨g, hao, hg, c0, _, _⟩ := nd_cells (unhide HROW1) (unhide HB1) hlt
              have HFO := hide (below_any ns (ns[k]).id 0 ao cap w1 (unhide HROW1) hl)
              have HU : Hid (rLooped ns k = !belowR ns (ns[k]).id 0) := by apply hide; unfold rLooped; rw [ndAt_get _ _ hlt]
              rw [hao] at HFO ⊢
              clear hao
              generalize ns[k] = nd at *
              cases hq : belowR ns nd.id 0
              · have HS : Hid (WR = (5, k)) := by
                  apply hide
                  have e : scan (rLooped ns) 0 ns.length = k := scan_hit (by omega) hlt (by rw [unhide HU, hq]; rfl) (unhide HN)
                  rw [unhide HW3, e, if_pos hlt]
                rw [hq] at HFO
                clear hq
                go_wp2_with fail
                refine (unhide HFO).mono ?_
                rintro e w2 ⟨rfl, rfl⟩
                go_wp2
                go_ret2
                exact ⟨by rw [unhide HS]; rfl, unhide HBW⟩
              · have HN2 := hide (noIn_succ (unhide HN) (by rw [unhide HU, hq]; rfl))
                rw [hq] at HFO
                clear hq
                go_wp2_with fail
                refine (unhide HFO).mono ?_
                rintro e w2 ⟨rfl, rfl⟩
                go_wp2
                go_round
                case rel => exact ⟨k + 1, by omega, by go_num, HN2⟩
                case measure => simp [intOf]; omega
            · have HW4 : Hid (WR = if scan (rTwice ns) 0 ns.length < ns.length then (6, scan (rTwice ns) 0 ns.length) else (0, 0)) := by
                apply hide
                have e : scan (rLooped ns) 0 ns.length = ns.length := scan_none (fun j h1 h2 => unhide HN j h1 (by omega))
                rw [unhide HW3, e, if_neg (by omega)]
              clear HW3 HN hk
              go_wp2
              go_loopw [9] (fun i wr => ∃ k nq : Nat, k ≤ ns.length ∧ i = .int .i64 k ∧ wr = w1.drewN nq ∧ Hid (NoIn (rTwice ns) 0 k)) (fun i _ => ns.length - (intOf i).toNat)
              case atStart => exact ⟨0, 0, Nat.zero_le _, rfl, rfl, hide (fun j h1 h2 => by omega)⟩
              case round =>
                obtain ⟨k, nq2, hk, rfl, rfl, HN⟩ := hrel
                by_cases hlt : k < ns.length
                · obtain ⟨g, hao, hg, _, c1, c2⟩ := nd_cells (unhide HROW1) (unhide HB1) hlt
                  have HTK := hide (fun m => taken_any (ns.take k) (ns[k]).parent (ns[k]).name ao cap (w1.drewN m) (row_drewN (row_take (unhide HROW1) k (by omega)) m) (by rw [List.length_take]; omega))
                  rw [show (ns.take k).length = k by rw [List.length_take]; omega] at HTK
                  have HU : Hid (rTwice ns k = (takenR (ns.take k) (ns[k]).parent (ns[k]).name != 0)) := by apply hide; unfold rTwice; rw [ndAt_get _ _ hlt]
                  rw [hao] at HTK ⊢
                  clear hao
                  have hk0 : (0 : Int) ≤ k := by omega
                  have hk1 : (k : Int) < ns.length := by omega
                  have hk2 : (k : Int) ≤ cap := by omega
                  generalize ns[k] = nd at *
                  generalize takenR (ns.take k) nd.parent nd.name = tk at *
                  cases hq : (tk != 0)
                  · have HN2 := hide (noIn_succ (unhide HN) (by rw [unhide HU]; exact hq))
                    go_wp2
                    go_quiet ((go_at_call 84; exact quiet_add (unhide HTK _)))
                    go_wp2
                    go_roundw
                    case rel => exact ⟨k + 1, _, by omega, by go_num, rfl, HN2⟩
                    case measure => simp [intOf]; omega
                  · have HS : Hid (WR = (6, k)) := by
                      apply hide
                      have e : scan (rTwice ns) 0 ns.length = k := scan_hit (by omega) hlt (by rw [unhide HU]; exact hq) (unhide HN)
                      rw [unhide HW4, e, if_pos hlt]
                    go_wp2
                    go_quiet ((go_at_call 84; exact quiet_add (unhide HTK _)))
                    go_wp2
                    go_ret2
                    exact ⟨by rw [unhide HS]; rfl, below_drewN (unhide HBW) _⟩
                · have HS : Hid (WR = (0, 0)) := by
                    apply hide
                    have e : scan (rTwice ns) 0 ns.length = ns.length := scan_none (fun j h1 h2 => unhide HN j h1 (by omega))
                    rw [unhide HW4, e, if_neg (by omega)]
                  go_wp2
                  go_ret2
                  exact ⟨by rw [unhide HS]; rfl, below_drewN (unhide HBW) _⟩
set_option maxHeartbeats 1000000 in
theorem rcheck_any (s : ByteArray) (w : World) :
    Calls Tryd.prog 45 #[.string s] w fun e w' => e = .returned (.tuple #[.int .i64 (checkR (sl s)).1, .int .i64 (checkR (sl s)).2]) ∧ Below w.heap.size w w' := by
  by_cases h1 : 4000 < s.size
  · have e : checkR (sl s) = (1, 0) := by unfold checkR; rw [sl_length, if_pos h1]
    rw [e]
    go_enter Tryd.func45, Tryd.ntmps45
    go_wp2
    go_ret2
    exact ⟨rfl, Below.refl _ _⟩
  · have HN := hide (fun W => nodes_any s W (by omega))
    have hrl : (cut (sl s)).length ≤ 4000 := by have := cut_length_le (sl s); rw [sl_length] at this; omega
    have hnl := readNodes_length (cut (sl s))
    have HNB := hide (readNodes_bd (cut (sl s)))
    by_cases h2 : (readNodes (cut (sl s))).length < (cut (sl s)).length
    · have e : checkR (sl s) = (2, (readNodes (cut (sl s))).length) := by unfold checkR; rw [sl_length, if_neg h1, if_pos h2]
      rw [e]
      generalize readNodes (cut (sl s)) = ns at *
      go_enter Tryd.func45, Tryd.ntmps45
      go_wp2_with fail
      refine (unhide HN _).mono ?_
      rintro e w1 ⟨⟨_, rfl⟩ | ⟨hno, _⟩, hb1⟩
      · go_wp2
        go_ret2
        exact ⟨rfl, hb1⟩
      · exact absurd h2 hno
    · have e : checkR (sl s) = wrongR (readNodes (cut (sl s))) := by unfold checkR; rw [sl_length, if_neg h1, if_neg h2]
      rw [e]
      have HWR := hide (fun ao cap W h1 h2 => wrong_any (readNodes (cut (sl s))) ao cap W h1 h2 (by omega) (fun n hn => ⟨(unhide HNB n hn).2.2.1, (unhide HNB n hn).2.2.2.1⟩))
      generalize readNodes (cut (sl s)) = ns at *
      go_enter Tryd.func45, Tryd.ntmps45
      go_wp2_with fail
      refine (unhide HN _).mono ?_
      rintro e w1 ⟨⟨hno, _⟩ | ⟨_, ao, cap, rfl, hrow, hcap⟩, hb1⟩
      · exact absurd hno h2
      · have HR := hide hrow
        clear hrow
        go_wp2_with fail
        refine (unhide HWR _ _ _ (unhide HR) hcap).mono ?_
        rintro e w2 ⟨rfl, hb2⟩
        go_wp2
        go_ret2
        exact ⟨rfl, hb1.trans (hb2.mono hb1.size)⟩
end Go.Proofs.YtdcjimlhaklhfaaDoor

namespace Go.Proofs.YtdcjimlhaklhfaaDoor
open Go.RowKit
theorem find_congr' {p q : Nat → Bool} : ∀ (l : List Nat), (∀ x ∈ l, p x = q x) → l.find? p = l.find? q := by
  intro l
  induction l with
  | nil => intro _; rfl
  | cons a l ih =>
    intro h
    rw [List.find?_cons, List.find?_cons, h a (by simp), ih (fun x hx => h x (by simp [hx]))]
theorem scan_congr {p q : Nat → Bool} {lo n : Nat} (h : ∀ j, lo ≤ j → j < n → p j = q j) : scan p lo n = scan q lo n := by
  unfold scan
  rw [find_congr' (p := p) (q := q) _ (fun x hx => by rw [List.mem_range'_1] at hx; exact h x hx.1 (by omega))]
theorem scan_cases (p : Nat → Bool) (lo n : Nat) : (scan p lo n < n ∧ lo ≤ scan p lo n ∧ p (scan p lo n) = true ∧ ∀ j, lo ≤ j → j < scan p lo n → p j = false) ∨ (scan p lo n = n ∧ ∀ j, lo ≤ j → j < n → p j = false) := by
  by_cases h : ∃ k, lo ≤ k ∧ k < n ∧ p k = true
  · -- the least such
    have key : ∀ m, (∃ k, lo ≤ k ∧ k < n ∧ p k = true ∧ k ≤ m) → ∃ k, lo ≤ k ∧ k < n ∧ p k = true ∧ ∀ j, lo ≤ j → j < k → p j = false := by
      intro m
      induction m with
      | zero => rintro ⟨k, h1, h2, h3, h4⟩; exact ⟨k, h1, h2, h3, fun j _ hj => by omega⟩
      | succ m ih =>
        rintro ⟨k, h1, h2, h3, h4⟩
        by_cases hm : ∃ k, lo ≤ k ∧ k < n ∧ p k = true ∧ k ≤ m
        · exact ih hm
        · refine ⟨k, h1, h2, h3, fun j hj hk => ?_⟩
          cases hp : p j
          · rfl
          · exact absurd ⟨j, hj, by omega, hp, by omega⟩ hm
    obtain ⟨k, h1, h2, h3⟩ := h
    obtain ⟨k, h1, h2, h3, h4⟩ := key k ⟨k, h1, h2, h3, Nat.le_refl _⟩
    have e := scan_hit h1 h2 h3 h4
    left; rw [e]; exact ⟨h2, h1, h3, h4⟩
  · have hno : ∀ j, lo ≤ j → j < n → p j = false := by
      intro j h1 h2
      cases hp : p j
      · rfl
      · exact absurd ⟨j, h1, h2, hp⟩ h
    right; exact ⟨scan_none hno, hno⟩
/-! Ordered lists of nodes. -/
def Ordered (ns : List Nd) : Prop := ∀ i j, i < j → j < ns.length → (ndAt ns i).id < (ndAt ns j).id
theorem ordered_of {ns : List Nd} (h : ¬ scan (unordered ns) 1 ns.length < ns.length) : Ordered ns := by
  have hno : ∀ j, 1 ≤ j → j < ns.length → unordered ns j = false := by
    rcases scan_cases (unordered ns) 1 ns.length with ⟨h1, _⟩ | ⟨_, h2⟩
    · exact absurd h1 h
    · exact h2
  have step : ∀ j, 1 ≤ j → j < ns.length → (ndAt ns (j - 1)).id < (ndAt ns j).id := by
    intro j h1 h2
    have := hno j h1 h2
    unfold unordered at this
    simp at this; exact this
  intro i j hij
  induction j with
  | zero => omega
  | succ j ih =>
    intro hj
    have h1 := step (j + 1) (by omega) hj
    rw [show j + 1 - 1 = j from rfl] at h1
    by_cases e : i = j
    · subst e; exact h1
    · have := ih (by omega) (by omega); omega
theorem mem_ndAt {ns : List Nd} {n : Nd} (h : n ∈ ns) : ∃ i, i < ns.length ∧ ndAt ns i = n := by
  obtain ⟨i, hi, e⟩ := List.getElem_of_mem h
  exact ⟨i, hi, by rw [ndAt_get _ _ hi, e]⟩
theorem ndAt_mem {ns : List Nd} {i : Nat} (h : i < ns.length) : ndAt ns i ∈ ns := by rw [ndAt_get _ _ h]; exact List.getElem_mem h
def Unique (ns : List Nd) : Prop := ∀ n m, n ∈ ns → m ∈ ns → n.id = m.id → n = m
theorem ordered_unique {ns : List Nd} (h : Ordered ns) : Unique ns := by
  intro n m hn hm e
  obtain ⟨i, hi, rfl⟩ := mem_ndAt hn
  obtain ⟨j, hj, rfl⟩ := mem_ndAt hm
  rcases Nat.lt_trichotomy i j with hlt | rfl | hlt
  · have := h i j hlt hj; omega
  · rfl
  · have := h j i hlt hi; omega
theorem lookR_mem {ns : List Nd} {id : Int} {n : Nd} (h : lookR ns id = some n) : n ∈ ns ∧ n.id = id := by
  rcases scan_cases (idIs ns id) 0 ns.length with ⟨h1, _, h3, _⟩ | ⟨h1, _⟩
  · have h1' : findN ns id < ns.length := h1
    unfold lookR at h; rw [if_pos h1'] at h; cases h
    exact ⟨ndAt_mem h1', by have : idIs ns id (findN ns id) = true := h3; unfold idIs at this; simpa using this⟩
  · unfold lookR at h; rw [if_neg (by unfold findN; omega)] at h; cases h
theorem lookR_no {ns : List Nd} {id : Int} (h : lookR ns id = none) : ∀ n ∈ ns, n.id ≠ id := by
  rcases scan_cases (idIs ns id) 0 ns.length with ⟨h1, _, _, _⟩ | ⟨_, h2⟩
  · unfold lookR at h; rw [if_pos (show findN ns id < ns.length from h1)] at h; cases h
  · intro n hn e
    obtain ⟨i, hi, rfl⟩ := mem_ndAt hn
    have := h2 i (by omega) hi
    unfold idIs at this; simp at this; exact this e
theorem lookR_of {ns : List Nd} (hu : Unique ns) {n : Nd} (hn : n ∈ ns) : lookR ns n.id = some n := by
  cases h : lookR ns n.id with
  | none => exact absurd rfl (lookR_no h n hn)
  | some m => obtain ⟨h1, h2⟩ := lookR_mem h; rw [hu m n h1 hn h2]
theorem fold_some : ∀ (ns : List Nd) (t : Tr) (i : Nat) (n : Nd), (ns.foldl trPut t) i = some n → (n ∈ ns ∧ n.id = i) ∨ t i = some n := by
  intro ns
  induction ns with
  | nil => intro t i n h; exact .inr h
  | cons a ns ih =>
    intro t i n h
    rcases ih (trPut t a) i n h with ⟨h1, h2⟩ | h1
    · exact .inl ⟨by simp [h1], h2⟩
    · unfold trPut at h1
      split at h1
      · cases h1; rename_i e; exact .inl ⟨by simp, e.symm⟩
      · exact .inr h1
theorem fold_none : ∀ (ns : List Nd) (t : Tr) (i : Nat), (ns.foldl trPut t) i = none → (∀ n ∈ ns, n.id ≠ i) ∧ t i = none := by
  intro ns
  induction ns with
  | nil => intro t i h; exact ⟨by simp, h⟩
  | cons a ns ih =>
    intro t i h
    obtain ⟨h1, h2⟩ := ih (trPut t a) i h
    unfold trPut at h2
    split at h2
    · cases h2
    · rename_i e
      refine ⟨fun n hn => ?_, h2⟩
      rcases List.mem_cons.1 hn with rfl | hn
      · exact fun hh => e hh.symm
      · exact h1 n hn
theorem gather_look {ns : List Nd} (hu : Unique ns) (hb : ∀ n ∈ ns, 1 ≤ n.id) (id : Int) : gather ns id.toNat = lookR ns id := by
  cases h : lookR ns id with
  | some n =>
    obtain ⟨h1, h2⟩ := lookR_mem h
    have hid := hb n h1
    cases hg : gather ns id.toNat with
    | none => exact absurd (by omega) ((fold_none ns tr0 _ hg).1 n h1)
    | some m =>
      rcases fold_some ns tr0 _ m hg with ⟨h3, h4⟩ | h3
      · rw [hu m n h3 h1 (by omega)]
      · cases h3
  | none =>
    cases hg : gather ns id.toNat with
    | none => rfl
    | some m =>
      rcases fold_some ns tr0 _ m hg with ⟨h3, h4⟩ | h3
      · have := hb m h3
        exact absurd (by omega) (lookR_no h m h3)
      · cases h3
/-! The way up. -/
theorem below_mono {look : Int → Option Nd} {top : Int} : ∀ (f : Nat) (id : Int), belowF look f id top = true → belowF look (f + 1) id top = true := by
  intro f
  induction f with
  | zero => intro id h; simp [belowF] at h
  | succ f ih =>
    intro id h
    rw [belowF] at h ⊢
    cases hl : look id with
    | none => rw [hl] at h; simp at h
    | some n =>
      rw [hl] at h
      simp only at h ⊢
      by_cases hp : n.parent = top
      · rw [if_pos hp]
      · rw [if_neg hp] at h ⊢; exact ih _ h
theorem below_le {look : Int → Option Nd} {top : Int} {f g : Nat} (hfg : f ≤ g) (id : Int) (h : belowF look f id top = true) : belowF look g id top = true := by
  induction g with
  | zero => have : f = 0 := by omega
            subst this; exact h
  | succ g ih =>
    by_cases e : f = g + 1
    · subst e; exact h
    · exact below_mono g id (ih (by omega))
theorem way_list {look : Int → Option Nd} {top : Int} : ∀ (f : Nat) (id : Int), belowF look (f + 1) id top = true → belowF look f id top = false →
    ∃ l : List Int, l.length = f + 1 ∧ l.Nodup ∧ (∀ x ∈ l, (look x).isSome = true) ∧ ∀ x ∈ l, ∃ g, g ≤ f ∧ belowF look (g + 1) x top = true := by
  intro f
  induction f with
  | zero =>
    intro id h _
    refine ⟨[id], rfl, by simp, ?_, ?_⟩
    · intro x hx; simp at hx; subst hx
      rw [belowF] at h
      cases hl : look x with
      | none => rw [hl] at h; simp at h
      | some n => rfl
    · intro x hx; simp at hx; subst hx; exact ⟨0, Nat.le_refl _, h⟩
  | succ f ih =>
    intro id h hno
    have h' := h
    rw [belowF] at h'
    cases hl : look id with
    | none => rw [hl] at h'; simp at h'
    | some n =>
      rw [hl] at h'
      simp only at h'
      have hp : ¬ n.parent = top := by
        intro hp
        have : belowF look 1 id top = true := by rw [belowF, hl]; simp [hp]
        rw [below_le (show 1 ≤ f + 1 by omega) id this] at hno
        cases hno
      rw [if_neg hp] at h'
      have hno' : belowF look f n.parent top = false := by
        rw [belowF, hl] at hno
        simp only [if_neg hp] at hno
        exact hno
      obtain ⟨l, l1, l2, l3, l4⟩ := ih n.parent h' hno'
      refine ⟨id :: l, by simp [l1], ?_, ?_, ?_⟩
      · rw [List.nodup_cons]
        refine ⟨fun hm => ?_, l2⟩
        obtain ⟨g, hg, hb⟩ := l4 id hm
        rw [below_le (show g + 1 ≤ f + 1 by omega) id hb] at hno
        cases hno
      · intro x hx
        rcases List.mem_cons.1 hx with rfl | hx
        · rw [hl]; rfl
        · exact l3 x hx
      · intro x hx
        rcases List.mem_cons.1 hx with rfl | hx
        · exact ⟨f + 1, Nat.le_refl _, h⟩
        · obtain ⟨g, hg, hb⟩ := l4 x hx; exact ⟨g, by omega, hb⟩
theorem pigeon : ∀ (l m : List Int), l.Nodup → (∀ x ∈ l, x ∈ m) → l.length ≤ m.length := by
  intro l
  induction l with
  | nil => intro m _ _; simp
  | cons a l ih =>
    intro m hn hs
    rw [List.nodup_cons] at hn
    have ha := hs a (by simp)
    have := ih (m.erase a) hn.2 (fun x hx => by
      have hxa : x ≠ a := fun e => hn.1 (e ▸ hx)
      exact (List.mem_erase_of_ne hxa).2 (hs x (by simp [hx])))
    rw [List.length_erase_of_mem ha] at this
    have hpos : 0 < m.length := List.length_pos_of_mem ha
    simp; omega
theorem below_stop {ns : List Nd} {look : Int → Option Nd} (hlook : ∀ x n, look x = some n → n ∈ ns ∧ n.id = x) {top : Int} (f : Nat) (id : Int) (h : belowF look f id top = true) : belowF look ns.length id top = true := by
  induction f with
  | zero => simp [belowF] at h
  | succ f ih =>
    cases hf : belowF look f id top
    · obtain ⟨l, l1, l2, l3, _⟩ := way_list f id h hf
      have hle : l.length ≤ (ns.map (·.id)).length := pigeon l _ l2 (fun x hx => by
        obtain ⟨n, hn⟩ := Option.isSome_iff_exists.1 (l3 x hx)
        obtain ⟨h1, h2⟩ := hlook x n hn
        exact List.mem_map.2 ⟨n, h1, h2⟩)
      rw [List.length_map] at hle
      exact below_le (by omega) id h
    · exact ih hf
theorem below_same {ns : List Nd} {look : Int → Option Nd} (hlook : ∀ x n, look x = some n → n ∈ ns ∧ n.id = x) {top : Int} {f g : Nat} (hf : ns.length ≤ f) (hg : ns.length ≤ g) (id : Int) : belowF look f id top = belowF look g id top := by
  cases h1 : belowF look f id top
  · cases h2 : belowF look g id top
    · rfl
    · rw [below_le hf id (below_stop hlook g id h2)] at h1; cases h1
  · rw [below_le hg id (below_stop hlook f id h1)]
theorem meets_below (t : Tr) (goal : Int) : ∀ (f : Nat) (id : Int), meetsF t (f + 1) id goal = (decide (id = goal) || belowF (fun x => t x.toNat) f id goal) := by
  intro f
  induction f with
  | zero =>
    intro id
    by_cases h : id = goal
    · simp [meetsF, h]
    · rw [meetsF, if_neg h]
      cases hl : t id.toNat with
      | none => simp [belowF, h]
      | some n => simp [belowF, h, meetsF]
  | succ f ih =>
    intro id
    by_cases h : id = goal
    · simp [meetsF, h]
    · rw [meetsF, if_neg h, belowF]
      cases hl : t id.toNat with
      | none => simp [h]
      | some n =>
        simp only
        rw [ih]
        by_cases hp : n.parent = goal
        · simp [hp]
        · simp [h, hp]
theorem ordered_short {ns : List Nd} (ho : Ordered ns) (hb : ∀ n ∈ ns, 1 ≤ n.id ∧ n.id ≤ 99) : ns.length ≤ 99 := by
  have : ∀ i, i < ns.length → (i : Int) + 1 ≤ (ndAt ns i).id := by
    intro i
    induction i with
    | zero => intro h; have := (hb _ (ndAt_mem h)).1; omega
    | succ i ih => intro h; have h1 := ih (by omega); have h2 := ho i (i + 1) (by omega) h; omega
  rcases Nat.lt_or_ge 99 ns.length with h | h
  · have h1 := this 99 h
    have h2 := (hb _ (ndAt_mem h)).2
    omega
  · exact h
theorem meets_R {ns : List Nd} (ho : Ordered ns) (hb : ∀ n ∈ ns, 1 ≤ n.id ∧ n.id ≤ 99) (id goal : Int) : meetsT (gather ns) id goal = (decide (id = goal) || belowR ns id goal) := by
  have hfun : (fun x : Int => gather ns x.toNat) = lookR ns := funext fun x => gather_look (ordered_unique ho) (fun n hn => (hb n hn).1) x
  unfold meetsT belowR
  rw [meets_below, hfun, below_same (ns := ns) (look := lookR ns) (fun x n h => lookR_mem h) (ordered_short ho hb) (show ns.length ≤ ns.length + 1 by omega) id]
theorem isParent_R {ns : List Nd} (ho : Ordered ns) (hb : ∀ n ∈ ns, 1 ≤ n.id ∧ n.id ≤ 99) (id : Int) : isParentT (gather ns) id = folderR ns id := by
  unfold isParentT folderR hasT
  rw [gather_look (ordered_unique ho) (fun n hn => (hb n hn).1) id]
theorem ndAt_take {ns : List Nd} {i j : Nat} (h : j < i) (hi : i ≤ ns.length) : ndAt (ns.take i) j = ndAt ns j := by
  rw [ndAt_get _ _ (by rw [List.length_take]; omega), ndAt_get _ _ (by omega)]; simp
theorem twice_R {ns : List Nd} (hb : ∀ n ∈ ns, 1 ≤ n.id) {i : Nat} (hi : i < ns.length) : twice ns i = rTwice ns i := by
  have hlen : (ns.take i).length = i := by rw [List.length_take]; omega
  unfold rTwice takenR takenN
  rw [hlen]
  rcases scan_cases (placeIs (ns.take i) (ndAt ns i).parent (ndAt ns i).name) 0 i with ⟨h1, _, h3, _⟩ | ⟨h1, h2⟩
  · rw [if_pos h1]
    generalize scan (placeIs (ns.take i) (ndAt ns i).parent (ndAt ns i).name) 0 i = k at *
    have hm := hb _ (ndAt_mem (ns := ns) (i := k) (by omega))
    rw [ndAt_take h1 (by omega)]
    have e1 : twice ns i = true := by
      unfold twice
      refine decide_eq_true ⟨_, h1, ?_⟩
      unfold placeIs at h3; rw [ndAt_take h1 (by omega)] at h3
      exact h3
    rw [e1]
    symm; rw [bne_iff_ne]; omega
  · rw [if_neg (by omega)]
    have e1 : twice ns i = false := by
      unfold twice
      apply decide_eq_false
      rintro ⟨j, hj, hs⟩
      have := h2 j (by omega) hj
      unfold placeIs at this; rw [ndAt_take hj (by omega)] at this
      unfold samePlace at hs
      rw [this] at hs; cases hs
    rw [e1]; rfl
theorem check_same (l : Str) : checkR l = checkT l := by
  unfold checkR checkT
  split
  · rfl
  · simp only []
    split
    · rfl
    · unfold wrongR
      split
      · rfl
      · rename_i _ _ hu
        have ho := ordered_of hu
        have hb := readNodes_bd (cut l)
        generalize readNodes (cut l) = ns at *
        have hb2 : ∀ n ∈ ns, 1 ≤ n.id ∧ n.id ≤ 99 := fun n hn => ⟨(hb n hn).1, (hb n hn).2.1⟩
        unfold misplaced
        have e1 : scan (orphan (gather ns) ns) 0 ns.length = scan (rOrphan ns) 0 ns.length := scan_congr (fun j _ _ => by unfold orphan rOrphan; rw [isParent_R ho hb2])
        have e2 : scan (looped (gather ns) ns) 0 ns.length = scan (rLooped ns) 0 ns.length := scan_congr (fun j _ hj => by
          unfold looped rLooped; rw [meets_R ho hb2]
          have := (hb2 _ (ndAt_mem hj)).1
          have e : decide ((ndAt ns j).id = 0) = false := by simp; omega
          rw [e]; rfl)
        have e3 : scan (twice ns) 0 ns.length = scan (rTwice ns) 0 ns.length := scan_congr (fun j _ hj => twice_R (fun n hn => (hb2 n hn).1) hj)
        rw [e1, e2, e3]
end Go.Proofs.YtdcjimlhaklhfaaDoor

namespace Go.Proofs.YtdcjimlhaklhfaaDoor
open Go.RowKit
theorem Tryd.infoRStep : (Tryd.prog.info? 115).map (fun i => (i.zero, i.size, i.bytes)) = some (some (.agg #[.int .u8 0, .int .i64 0, .int .i64 0, .string ByteArray.empty]), 4, 40) := by kernel_rfl
end Go.Proofs.YtdcjimlhaklhfaaDoor
