import Derived.Test.YtdcjimlhaklhfabGreatDoorHi14
import Derived.Test.YtdcjimlhaklhfabGreatDoorHi9
import Derived.Deep.RegionHeld3
import Derived.Test.YtdcjimlhaklhfabGreatDoorHi11
import Derived.Test.YtdcjimlhaklhfabGreatDoorHi10
import Derived.Test.YtdcjimlhaklhfabGreatDoorHi12
import Derived.Test.YtdcjimlhaklhfabGreatDoorHi13
import Derived.Deep.DrawnRows
import Derived.Deep.Cut
namespace Go.Proofs.YtdcjimlhaklhfabGreatDoor
open Go.RowKit
theorem ingestT_no {L : List Lo} {site : Int} {s : Str} (h : (checkT s).1 ≠ 0) : ingestT L site s = ([], (checkT s).1) := by unfold ingestT; rw [if_pos h]
theorem ingestT_yes {L : List Lo} {site : Int} {s : Str} (h : (checkT s).1 = 0) : ingestT L site s = reachT L site (readT s) := by
  unfold ingestT readT; rw [if_neg (by simpa using h), if_pos h]
theorem readT_valid {s : Str} (h : (checkT s).1 = 0) : Valid (readT s) := by unfold readT; rw [if_pos h]; exact valid_of_check h
theorem range_drew {w : World} {b o : Nat} {cs : List Value} (h : w.rangeAt b o cs) : w.drew.rangeAt b o cs := h
theorem range_kept {w w' : World} {b o : Nat} {cs : List Value} {S : Nat → Prop} (h : w.rangeAt b o cs) (hk : Keeps S w w') (hS : ¬ S b) (hb : b < w.heap.size) : w'.rangeAt b o cs := by
  intro j v hv
  rw [World.cell?_of_block (a := ⟨b, o + j, none⟩) (hk.block b hb hS)]; exact h j v hv
set_option maxHeartbeats 8000000 in
set_option maxRecDepth 100000 in
theorem ingest_any (L : List Lo) (s : ByteArray) (b : Nat) (site : Int) (v : Value) (w : World) (hR : Repl w b site v L) (s1 : 1 ≤ site) (s2 : site ≤ 9) (htab : ∀ w', Keeps (Foot b v) w w' → Tab w') :
    Calls Tryz.prog 16 #[.pointer (some ⟨b, 0, none⟩), .string s] w fun e w' => e = .returned (.tuple #[.string (bs (logText (ingestT L site (sl s)).1)), .int .i64 (ingestT L site (sl s)).2]) ∧ ∃ v', Repl w' b site v' (L ++ (ingestT L site (sl s)).1) ∧ Keeps (Foot b v) w w' ∧ Moved w v v' := by
  have hlt := hR.lt
  have HRD := hide (fun W => read_any s W)
  have HTB := hide htab
  have HR := hide hR
  have hokx := (ingest_ok hR.ok s1 s2 (sl s)).2
  have hil : (ingestT L site (sl s)).1.length ≤ 150 := by
    have := (ingest_ok hR.ok s1 s2 (sl s)).1.2.2
    rw [List.length_append] at this; omega
  clear hR htab
  by_cases hC : (checkT (sl s)).1 ≠ 0
  · rw [ingestT_no hC]
    have hC' : ((checkT (sl s)).1 != 0) = true := by rw [bne_iff_ne]; exact hC
    clear hC hokx hil
    generalize checkT (sl s) = c at *
    generalize readT (sl s) = T at *
    have HF := hide (fun w' (hb : Below w.heap.size w w') => show ∃ v', Repl w' b site v' (L ++ []) ∧ Keeps (Foot b v) w w' ∧ Moved w v v' from ⟨v, by rw [List.append_nil]; exact (unhide HR).below hb, Keeps.of_below hb (fun k h1 h2 => by omega), .inl rfl⟩)
    go_enter Tryz.func16, Tryz.ntmps16
    go_wp2_with fail
    refine (unhide HRD _).mono ?_
    rintro e w1 ⟨rfl, hb1⟩
    have HN := hide (treeAt_new w1)
    have HB1 := hide hb1; clear hb1
    go_wp2_with (refine wpList_store_mid (by rfl) 78 (.tmp 6) (.tmp 13) (by rfl) w1.heap.size 0 (treeCells T).toArray (by rfl) (by rfl) (by exact treeAt_there (unhide HN) T) (treeSize' T) (treeOne T) ?_)
    go_ret2
    exact ⟨rfl, unhide HF _ (below_setCells ((unhide HB1).alloc (unhide HB1).size _) (unhide HB1).size (by have := (unhide HB1).size; simp; omega) _ _)⟩
  · have hc0 : (checkT (sl s)).1 = 0 := Classical.not_not.1 hC
    have HVG := hide (readT_valid hc0)
    rw [ingestT_yes hc0] at hokx hil ⊢
    rw [hc0] at HRD
    clear hC hc0
    have HRE := hide (fun W (h : Repl W b site v L) => reach_any L (readT (sl s)) b site v W h (unhide HVG) s1 s2)
    have HNO := hide (@reach_none L site (readT (sl s)))
    generalize (checkT (sl s)).2 = c2 at *
    generalize readT (sl s) = T at *
    generalize reachT L site T = rt at *
    obtain ⟨M, er⟩ := rt
    simp only at HRE hokx hil HNO ⊢
    have HTX := hide (fun uo uc W (h : Row W uo M.length 5 (loCells M)) (ht : Tab W) => opsText_any M uo uc W h hokx (by omega) ht)
    clear hokx
    go_enter Tryz.func16, Tryz.ntmps16
    go_wp2_with fail
    refine (unhide HRD _).mono ?_
    rintro e w1 ⟨rfl, hb1⟩
    have HN := hide (treeAt_new w1)
    have hbx := below_setCells ((Below.refl w1.heap.size w1).alloc (Nat.le_refl _) (.cells Tryz.zeroCells78 78)) (g := w1.heap.size) (Nat.le_refl _) (by simp) 0 (treeCells T)
    have HB2 : Hid (Below w.heap.size w ((w1.alloc (.cells Tryz.zeroCells78 78)).setCells w1.heap.size 0 (treeCells T))) := hide (hb1.trans (hbx.mono hb1.size))
    have HRG := hide (treeAt_range (treeAt_stored (unhide HN) T))
    have hs1 := hb1.size
    clear hbx hb1
    go_upto_region 2 with (refine wpList_store_mid (by rfl) 78 (.tmp 6) (.tmp 13) (by rfl) w1.heap.size 0 (treeCells T).toArray (by rfl) (by rfl) (by exact treeAt_there (unhide HN) T) (treeSize' T) (treeOne T) ?_)
    have hltr : w1.heap.size < ((w1.alloc (.cells Tryz.zeroCells78 78)).setCells w1.heap.size 0 (treeCells T)).heap.size := by rw [(size_setCells _ _ _ _).1]; simp
    have HVT : Hid (Value.agg (treeCells T).toArray = .agg (treeCells T).toArray) := hide rfl
    revert HVT
    generalize hvt : Value.agg (treeCells T).toArray = vT at *
    intro _
    have HVT : Hid (Value.agg (treeCells T).toArray = vT) := hide hvt
    clear hvt
    generalize (w1.alloc (.cells Tryz.zeroCells78 78)).setCells w1.heap.size 0 (treeCells T) = w2 at *
    have hR2 := ((unhide HR).below (unhide HB2)).below (Below.refl w2.heap.size w2).drew
    have r0 := hR2.at'.cell0
    have hs2 := (unhide HB2).size
    have HR2 := hide hR2
    have HB2d : Hid (Below w.heap.size w w2.drew) := hide ((unhide HB2).trans ((Below.refl w2.heap.size w2).drew.mono hs2))
    have HAF : Hid (∀ u w3, MadePost L M er b site v w2.drew u w3 → w3.cell? ⟨b, 0, none⟩ = some (.int .i64 site) ∧ w3.rangeAt w1.heap.size 0 (treeCells T)) := by
      apply hide
      rintro u w3 ⟨_, v', hr, hk, _⟩
      refine ⟨hr.at'.cell0, range_kept (range_drew (unhide HRG)) hk ?_ hltr⟩
      rintro (e | e)
      · have e' : w1.heap.size = b := e
        omega
      · have := ((unhide HR).own.lt _ e).2; omega
    have HS0 : Hid (w2.drew.cell? ⟨b, 0, none⟩ = some (.int .i64 site) ∧ w2.drew.rangeAt w1.heap.size 0 (treeCells T)) := hide ⟨r0, range_drew (unhide HRG)⟩
    clear hR2 HN HRD r0
    go_upto_region 4 with fail
    refine wp_region_held_drew (S := fun W => W.cell? ⟨b, 0, none⟩ = some (.int .i64 site) ∧ W.rangeAt w1.heap.size 0 (treeCells T)) (by kernel_rfl) (by exact unhide HS0) (fun hHeld => ?_)
    refine wpAnyH_take (i := 0) (v := .pointer (some ⟨b, 0, none⟩)) rfl (by kernel_rfl) (by kernel_rfl) (by kernel_rfl) (fun _ _ _ h => h) (Or.inl ⟨by rfl, ?_⟩) (by assumption) ?_
    · intro W hSw
      go_simp
    simp only [Act.put, List.setIfInBounds_toArray]
    refine wpAnyH_take (i := 1) (v := .pointer (some ⟨b, 0, none⟩)) rfl (by kernel_rfl) (by kernel_rfl) (by kernel_rfl) (fun _ _ _ h => h) (Or.inl ⟨by rfl, ?_⟩) (by assumption) ?_
    · intro W hSw
      go_simp
    simp only [Act.put]
    refine wpAnyH_take (i := 2) (v := .pointer (some ⟨b, 1, none⟩)) rfl (by kernel_rfl) (by kernel_rfl) (by kernel_rfl) (fun _ _ _ h => h) (Or.inl ⟨by rfl, ?_⟩) (by assumption) ?_
    · intro W hSw
      go_simp
    simp only [Act.put]
    refine wpAnyH_take (i := 3) (v := vT) rfl (by kernel_rfl) (by kernel_rfl) (by kernel_rfl) (fun _ _ _ h => h) (by rw [← unhide HVT]; exact yieldsIf_load_mid (by rfl) _ _ rfl w1.heap.size 0 rfl (treeCells T) _ (fun W h => h.2) Tryz.underlying78 rfl (treeSize T)) (by assumption) ?_
    simp only [Act.put]
    refine wpAnyH_take (i := 4) (v := .pointer (some ⟨b, 0, none⟩)) rfl (by kernel_rfl) (by kernel_rfl) (by kernel_rfl) (fun _ _ _ h => h) (Or.inl ⟨by rfl, ?_⟩) (by assumption) ?_
    · intro W hSw
      go_simp
    simp only [Act.put]
    refine wpAnyH_take (i := 5) (v := .pointer (some ⟨b, 0, none⟩)) rfl (by kernel_rfl) (by kernel_rfl) (by kernel_rfl) (fun _ _ _ h => h) (Or.inl ⟨by rfl, ?_⟩) (by assumption) ?_
    · intro W hSw
      go_simp
    simp only [Act.put]
    refine wpAnyH_take (i := 6) (v := .pointer (some ⟨b, 0, none⟩)) rfl (by kernel_rfl) (by kernel_rfl) (by kernel_rfl) (fun _ _ _ h => h) (Or.inl ⟨by rfl, ?_⟩) (by assumption) ?_
    · intro W hSw
      go_simp
    simp only [Act.put]
    refine wpAnyH_take (i := 7) (v := .int .i64 site) rfl (by kernel_rfl) (by kernel_rfl) (by kernel_rfl) (fun _ _ _ h => h) (Or.inl ⟨by rfl, ?_⟩) (by assumption) ?_
    · intro W hSw
      go_simp
    simp only [Act.put]
    refine wpAnyH_ready (rs := [8]) (by kernel_rfl) (by simp) ?_
    refine AllReadyH.cons rfl (fun K hK => ?_) AllReadyH.nil
    go_simp
    refine (unhide HRE _ (by exact unhide HR2)).mono ?_
    rintro e w3 ⟨u, rfl, hmp⟩
    have hs3 := unhide HAF u w3 hmp
    obtain ⟨hou, v', hR3, hK3, hM3⟩ := hmp
    obtain ⟨uo, uc, rfl, hru⟩ := row_of_owns hou
    go_wp2_with fail
    refine hK.out _ _ hs3 (fun hHeld => ?_)
    clear hK
    refine wpAnyH_take (i := 9) (v := .tuple #[.slice uo M.length uc, .int .i64 er]) rfl (by kernel_rfl) (by kernel_rfl) (by kernel_rfl) (fun _ _ _ h => h) (Or.inl ⟨by rfl, ?_⟩) hHeld ?_
    · intro W hSw
      go_simp
    simp only [Act.put, List.setIfInBounds_toArray]
    refine wpAnyH_take (i := 10) (v := .slice uo M.length uc) rfl (by kernel_rfl) (by kernel_rfl) (by kernel_rfl) (fun _ _ _ h => h) (Or.inl ⟨by rfl, ?_⟩) hHeld ?_
    · intro W hSw
      go_simp
    simp only [Act.put]
    refine wpAnyH_take (i := 11) (v := .int .i64 er) rfl (by kernel_rfl) (by kernel_rfl) (by kernel_rfl) (fun _ _ _ h => h) (Or.inl ⟨by rfl, ?_⟩) hHeld ?_
    · intro W hSw
      go_simp
    simp only [Act.put]
    refine wpAnyH_take (i := 12) (v := .slice uo M.length uc) rfl (by kernel_rfl) (by kernel_rfl) (by kernel_rfl) (fun _ _ _ h => h) (Or.inl ⟨by rfl, ?_⟩) hHeld ?_
    · intro W hSw
      go_simp
    simp only [Act.put]
    refine wpAnyH_take (i := 13) (v := .int .i64 er) rfl (by kernel_rfl) (by kernel_rfl) (by kernel_rfl) (fun _ _ _ h => h) (Or.inl ⟨by rfl, ?_⟩) hHeld ?_
    · intro W hSw
      go_simp
    simp only [Act.put]
    refine wpAnyH_done (by kernel_rfl) ?_ _
    have HF : Hid (∀ w', Below w3.heap.size w3 w' → ∃ v', Repl w' b site v' (L ++ M) ∧ Keeps (Foot b v) w w' ∧ Moved w v v') := by
      apply hide
      intro w' hb
      refine ⟨v', hR3.below hb, ?_, ?_⟩
      · exact ((Keeps.of_below (S := fun _ => False) (unhide HB2d) (fun k h1 h2 => by omega) |>.mono (fun _ _ h => h.elim)).trans hK3 (fun _ _ h => h)).trans (Keeps.of_below (S := fun _ => False) hb (fun k h1 h2 => by omega)) (fun _ _ h => h.elim)
      · rcases hM3 with h | ⟨q, h, hq⟩
        · exact .inl h
        · exact .inr ⟨q, h, by have := (unhide HB2d).size; omega⟩
    have HTB3 : Hid (Tab w3) := hide (unhide HTB _ ((Keeps.of_below (S := fun _ => False) (unhide HB2d) (fun k h1 h2 => by omega) |>.mono (fun _ _ h => h.elim)).trans hK3 (fun _ _ h => h)))
    have HRU := hide hru
    clear hou hR3 hK3 hM3 hru hs3 hHeld
    by_cases her : er = 0
    · subst her
      go_wp2_with fail
      refine (unhide HTX _ _ _ (by exact unhide HRU) (by exact unhide HTB3)).mono ?_
      rintro e w4 ⟨rfl, hb4⟩
      have HF4 := hide (unhide HF _ hb4)
      clear hb4
      go_wp2
      go_ret2
      exact ⟨rfl, unhide HF4⟩
    · have hE : (er != 0) = true := by rw [bne_iff_ne]; exact her
      have hM0 : M = [] := unhide HNO her
      have HF4 := hide (unhide HF _ (Below.refl _ _))
      subst hM0
      rw [List.append_nil] at HF4
      clear her
      go_wp2
      go_ret2
      exact ⟨rfl, unhide HF4⟩
end Go.Proofs.YtdcjimlhaklhfabGreatDoor

namespace Go.Proofs.YtdcjimlhaklhfabGreatDoor
open Go.RowKit
theorem compileE_valid {a g : Tr} (ha : Valid a) (hg : Valid g) : compileE (textT a) (textT g) = 0 := by
  have h1 := (check_text ha).1
  have h2 := (check_text hg).1
  have l1 := textTo_len ha.ok 99
  have l2 := textTo_len hg.ok 99
  unfold compileE textT at *
  rw [if_neg (by omega), h1, h2]; rfl
theorem compileT_valid {a g : Tr} (ha : Valid a) (hg : Valid g) : compileT (textT a) (textT g) = scriptText (makeT a g) := by
  unfold compileT
  rw [if_pos (compileE_valid ha hg), (check_text ha).2, (check_text hg).2]
theorem compile_tree {a : Tr} (ha : Valid a) {s : Str} (h : (checkT s).1 = 0) : compileT (textT a) s = scriptText (makeT a (gather (readNodes (cut s)))) := by
  have hg := valid_of_check h
  have e := compileT_valid ha hg
  rwa [text_check h] at e
end Go.Proofs.YtdcjimlhaklhfabGreatDoor

namespace Go.Proofs.YtdcjimlhaklhfabGreatDoor
open Go.RowKit
set_option maxHeartbeats 1000000 in
theorem pview_log (pb : Nat) (u : Value) (L : List Lo) (w : World) (c2 : w.cell? ⟨pb, 2, none⟩ = some u) (hlog : w.ownsRow 0 146 5 u L.length (loCells L)) (hok : LogOk L) :
    Calls Tryz.prog 50 #[.pointer (some ⟨pb, 0, none⟩)] w fun e w' => e = .returned (.string (bs (textT (viewT (places L))))) ∧ Below w.heap.size w w' := by
  obtain ⟨ao, ca, hu, hrow⟩ := row_of_owns hlog
  rw [hu] at c2
  have hll := hok.2.2
  have HV := hide (rview_any L ao ca w hrow hok.2.1 (by omega))
  have HTX := hide (viewR_text hok.2.1)
  have HOK := hide (view_valid (places_ok hok.2.1)).ok
  have hvl := rep_len (viewR_rep hok.2.1)
  have HPR : Hid (∀ fo cf W, Row W fo (viewR L).length 3 (ndCells (viewR L)) → Calls Tryz.prog 89 #[.slice fo (viewR L).length cf] W fun e w' => e = .returned (.string (bs (textT (viewT (places L))))) ∧ Below W.heap.size W w') := by
    apply hide; intro fo cf W hr
    have := print_any (viewR L) fo cf W hr (by omega) (by rw [unhide HTX]; exact unhide HOK)
    rw [unhide HTX] at this; exact this
  clear hlog hrow hu hok
  generalize viewR L = vr at *
  generalize textT (viewT (places L)) = tx at *
  go_enter Tryz.func50, Tryz.ntmps50
  go_wp2_with fail
  refine (unhide HV).mono ?_
  rintro e w1 ⟨fo, cf, rfl, hr1, hb1⟩
  have HR1 := hide hr1; clear hr1
  go_wp2_with fail
  refine (unhide HPR _ _ _ (by exact unhide HR1)).mono ?_
  rintro e w2 ⟨rfl, hb2⟩
  have HB2 := hide (hb1.trans (hb2.mono hb1.size))
  clear hb2
  go_wp2
  go_ret
  exact ⟨rfl, unhide HB2⟩
/-- Made, whatever the tree: the document's ops are the program's. -/
theorem rmade_any (L : List Lo) (site : Int) (s sc : ByteArray) (ao : Option Addr) (ca : Nat) (w : World) (hrow : Row w ao L.length 5 (loCells L)) (hx : LogOk L) (hsc : (checkT (sl s)).1 = 0 → sc = bs (compileT (textT (viewT (places L))) (sl s))) :
    Calls Tryz.prog 82 #[.slice ao L.length ca, .int .i64 site, .string s, .string sc] w fun e w' => ∃ v, e = .returned (.tuple #[v, .int .i64 (ingestT L site (sl s)).2]) ∧ w'.ownsRow w.heap.size 146 5 v (ingestT L site (sl s)).1.length (loCells (ingestT L site (sl s)).1) ∧ Below w.heap.size w w' := by
  have hm := made_same hx.2.1 site (sl s)
  have hv := view_valid (places_ok hx.2.1)
  rw [← hm]
  by_cases hc : (checkT (sl s)).1 = 0
  · have hg := valid_of_check hc
    rw [hsc hc, compile_tree hv hc]
    exact rmade_yes L site s _ ao ca w hrow hx hc (seg_can (makeT_seg hv hg) hg.ok) (make_len hv hg) (make_text_len hv hg)
  · exact rmade_no L site s sc _ _ w hc
/-- The pair's block. -/
def PBlk (w : World) (pb rb : Nat) (site : Int) (u : Value) : Prop := w.heap[pb]? = some (.cells #[.pointer (some ⟨rb, 0, none⟩), .int .i64 site, u] 101 (0, 0))
theorem PBlk.lt {w : World} {pb rb : Nat} {site : Int} {u : Value} (h : PBlk w pb rb site u) : pb < w.heap.size := lt_of_block h
theorem PBlk.cell0 {w : World} {pb rb : Nat} {site : Int} {u : Value} (h : PBlk w pb rb site u) : w.cell? ⟨pb, 0, none⟩ = some (.pointer (some ⟨rb, 0, none⟩)) := by rw [cell_of_row w pb 0 _ _ _ h]; rfl
theorem PBlk.cell1 {w : World} {pb rb : Nat} {site : Int} {u : Value} (h : PBlk w pb rb site u) : w.cell? ⟨pb, 1, none⟩ = some (.int .i64 site) := by rw [cell_of_row w pb 1 _ _ _ h]; rfl
theorem PBlk.cell2 {w : World} {pb rb : Nat} {site : Int} {u : Value} (h : PBlk w pb rb site u) : w.cell? ⟨pb, 2, none⟩ = some u := by rw [cell_of_row w pb 2 _ _ _ h]; rfl
theorem PBlk.free {w : World} {pb rb : Nat} {site : Int} {u : Value} (h : PBlk w pb rb site u) (j : Nat) : w.frozen? ⟨pb, j, none⟩ = false := by simp [World.frozen?, show w.heap[pb]? = _ from h]
theorem PBlk.kept {w w' : World} {pb rb : Nat} {site : Int} {u : Value} {S : Nat → Prop} (h : PBlk w pb rb site u) (hk : Keeps S w w') (hS : ¬ S pb) : PBlk w' pb rb site u := by
  unfold PBlk; rw [hk.block pb h.lt hS]; exact h
theorem PBlk.below {w w' : World} {pb rb : Nat} {site : Int} {u : Value} (h : PBlk w pb rb site u) (hb : Below w.heap.size w w') : PBlk w' pb rb site u :=
  h.kept (Keeps.of_below (S := fun _ => False) hb (fun k h1 h2 => by omega)) (fun e => e)
theorem PBlk.set {w : World} {pb rb : Nat} {site : Int} {u : Value} (h : PBlk w pb rb site u) (u' : Value) : PBlk (w.setCell ⟨pb, 2, none⟩ u') pb rb site u' := by
  unfold PBlk; rw [heap_setCell_same w pb 2 _ _ u' h]; rfl
theorem PBlk.ty {w : World} {pb rb : Nat} {site : Int} {u : Value} (h : PBlk w pb rb site u) : tyAt w pb 101 := ⟨_, _, h⟩
theorem keeps_below {S : Nat → Prop} {w w' : World} (hb : Below w.heap.size w w') : Keeps S w w' := Keeps.of_below hb (fun k h1 h2 => by omega)
end Go.Proofs.YtdcjimlhaklhfabGreatDoor

namespace Go.Proofs.YtdcjimlhaklhfabGreatDoor
open Go.RowKit
/-- While the ops are laid behind the document's log. -/
structure InLoop (p : PS) (L M : List Lo) (v' : Value) (fo : Option Addr) (cf : Nat) (w0 wr : World) (k : Nat) (u : Value) : Prop where
  apart : ∀ j, (Value.slice fo M.length cf).ownBlock = some j → p.u.ownBlock ≠ some j ∧ j < w0.heap.size
  blk : PBlk wr p.pb p.rb p.site u
  log : wr.ownsRow 0 146 5 u (L ++ M.take k).length (loCells (L ++ M.take k))
  made : wr.ownsRow 0 146 5 (.slice fo M.length cf) M.length (loCells M)
  rep : Repl wr p.rb p.site v' (L ++ M)
  keeps : Keeps (fun j => j = p.pb ∨ p.u.ownBlock = some j) w0 wr
  moved : p.u.ownBlock = u.ownBlock ∨ ∃ g, u.ownBlock = some g ∧ w0.heap.size ≤ g
theorem pairPost_of {p : PS} {w wr : World} {N : List Lo} {v' u : Value} (h : PairOk w p) (blk : PBlk wr p.pb p.rb p.site u) (log : wr.ownsRow 0 146 5 u N.length (loCells N)) (rep : Repl wr p.rb p.site v' N) (hk : Keeps (PFoot p) w wr) (hv : Moved w p.v v') (hu : p.u.ownBlock = u.ownBlock ∨ ∃ g, u.ownBlock = some g ∧ w.heap.size ≤ g) :
    ∃ p' : PS, p'.pb = p.pb ∧ PairOk wr p' ∧ Keeps (PFoot p) w wr ∧ ∀ k, PFoot p' k → PFoot p k ∨ w.heap.size ≤ k := by
  refine ⟨⟨p.pb, p.rb, p.site, v', u, N⟩, rfl, ⟨blk, rep, log, h.site⟩, hk, ?_⟩
  intro k hf
  rcases hf with hf | hf | hf | hf
  · exact .inl (.inl hf)
  · exact .inl (.inr (.inl hf))
  · have hf' : v'.ownBlock = some k := hf
    rcases hv with hm | ⟨q, hm, hq⟩
    · rw [hm] at hf'; exact .inl (.inr (.inr (.inl hf')))
    · rw [hm] at hf'; cases hf'; exact .inr hq
  · have hf' : u.ownBlock = some k := hf
    rcases hu with hm | ⟨q, hm, hq⟩
    · rw [← hm] at hf'; exact .inl (.inr (.inr (.inr hf')))
    · rw [hm] at hf'; cases hf'; exact .inr hq
theorem take_snoc' (L M : List Lo) (k : Nat) (h : k < M.length) : L ++ M.take (k + 1) = L ++ M.take k ++ [M[k]] := by rw [List.take_succ_eq_append_getElem h, List.append_assoc]
theorem in_step {p : PS} {L M : List Lo} {v' : Value} {fo : Option Addr} {cf : Nat} {w0 wr W w5 : World} {k : Nat} {u : Value} {g cap : Nat} (hi : InLoop p L M v' fo cf w0 wr k u) (hk : k < M.length) (hW : Below wr.heap.size wr W) (hgrow : W.grownBy w5 u.ownBlock) (hgg : u.ownBlock = some g ∨ W.heap.size ≤ g) (hown : w5.ownsRow 0 146 5 (.slice (some ⟨g, 0, none⟩) ((L ++ M.take k).length + 1) cap) ((L ++ M.take k).length + 1) (loCells (L ++ M.take k) ++ loC M[k])) :
    PBlk w5 p.pb p.rb p.site u ∧ InLoop p L M v' fo cf w0 (w5.setCell ⟨p.pb, 2, none⟩ (.slice (some ⟨g, 0, none⟩) ((L ++ M.take k).length + 1) cap)) (k + 1) (.slice (some ⟨g, 0, none⟩) ((L ++ M.take k).length + 1) cap) := by
  have hs0 := hi.keeps.size
  have hsW := hW.size
  have hkg := Keeps.of_grown hgrow
  have blkW := hi.blk.below hW
  have hub : u.ownBlock ≠ some p.pb := fun e => absurd (tyAt_inj (tyAt_own hi.log _ e) hi.blk.ty) (by decide)
  have blk5 := blkW.kept hkg hub
  have hgp : g ≠ p.pb := fun e => by
    have h1 := tyAt_own hown g rfl
    rw [e] at h1
    exact absurd (tyAt_inj h1 blk5.ty) (by decide)
  have hks := Keeps.set w5 p.pb 2 (.slice (some ⟨g, 0, none⟩) ((L ++ M.take k).length + 1) cap)
  have madeW := own_below hi.made hW
  have hmu : ∀ j, (Value.slice fo M.length cf).ownBlock = some j → u.ownBlock ≠ some j := by
    intro j hj e
    obtain ⟨a1, a2⟩ := hi.apart j hj
    rcases hi.moved with hm | ⟨q, hm, hq⟩
    · exact a1 (hm.trans e)
    · rw [hm] at e; cases e; omega
  have hmp : ∀ j, (Value.slice fo M.length cf).ownBlock = some j → j ≠ p.pb := by
    intro j hj e
    have h1 := tyAt_own hi.made j hj
    rw [e] at h1
    exact absurd (tyAt_inj h1 hi.blk.ty) (by decide)
  refine ⟨blk5, ⟨hi.apart, blk5.set _, ?_, ?_, ?_, ?_, ?_⟩⟩
  · have e1 : (L ++ M.take (k + 1)).length = (L ++ M.take k).length + 1 := by rw [take_snoc' L M k hk, List.length_append]; rfl
    have key := own_kept hown hks (fun j hj e => by
      have hj' : g = j := by simpa [Value.ownBlock] using hj
      exact hgp (hj'.trans e))
    rw [e1, take_snoc' L M k hk, loCells_snoc]; exact key
  · exact own_kept (own_kept madeW hkg (fun j hj e => hmu j hj e)) hks (fun j hj e => hmp j hj e)
  · have repW := hi.rep.below hW
    refine (repW.kept hkg (fun j hf e => ?_)).kept hks (fun j hf e => ?_)
    · have hte : tyAt W j 146 := tyAt_own (own_below hi.log hW) j e
      rcases hf with hf | hf
      · have h2 : tyAt W p.rb 69 := ⟨_, _, repW.at'⟩
        rw [show j = p.rb from hf] at hte
        exact absurd (tyAt_inj hte h2) (by decide)
      · exact absurd (tyAt_inj hte (tyAt_own repW.own j hf)) (by decide)
    · have e' : j = p.pb := e
      subst e'
      rcases hf with hf | hf
      · have h2 : tyAt W p.rb 69 := ⟨_, _, repW.at'⟩
        rw [← (show p.pb = p.rb from hf)] at h2
        exact absurd (tyAt_inj blkW.ty h2) (by decide)
      · exact absurd (tyAt_inj blkW.ty (tyAt_own repW.own _ hf)) (by decide)
  · refine ((hi.keeps.trans (Keeps.of_below (S := fun _ => False) hW (fun k h1 h2 => by omega)) (fun _ _ h => h.elim)).trans hkg (fun j hj e => ?_)).trans hks (fun j _ e => .inl e)
    rcases hi.moved with hm | ⟨q, hm, hq⟩
    · exact .inr (hm.trans e)
    · rw [hm] at e; cases e; omega
  · rcases hgg with h | h
    · rcases hi.moved with hm | ⟨q, hm, hq⟩
      · exact .inl (hm.trans h)
      · rw [hm] at h; cases h; exact .inr ⟨_, rfl, hq⟩
    · exact .inr ⟨g, rfl, by omega⟩
theorem in_post {p : PS} {w w1 w0 wr : World} {L M : List Lo} {v' u : Value} {fo : Option Addr} {cf k : Nat} (h : PairOk w p) (hK1 : Keeps (Foot p.rb p.v) w w1) (hM1 : Moved w p.v v') (hb : Below w1.heap.size w1 w0) (hi : InLoop p L M v' fo cf w0 wr k u) (hk : M.take k = M) :
    ∃ p' : PS, p'.pb = p.pb ∧ PairOk wr p' ∧ Keeps (PFoot p) w wr ∧ ∀ k, PFoot p' k → PFoot p k ∨ w.heap.size ≤ k := by
  have hlog := hi.log
  rw [hk] at hlog
  have hs1 := hK1.size
  have hs0 := hb.size
  refine pairPost_of h hi.blk hlog hi.rep ?_ hM1 ?_
  · refine ((hK1.mono (T := PFoot p) (fun k _ hf => ?_)).trans (Keeps.of_below (S := fun _ => False) hb (fun k h1 h2 => by omega)) (fun _ _ h => h.elim)).trans hi.keeps (fun k _ e => ?_)
    · rcases hf with hf | hf
      · exact .inr (.inl hf)
      · exact .inr (.inr (.inl hf))
    · rcases e with e | e
      · exact .inl e
      · exact .inr (.inr (.inr e))
  · rcases hi.moved with hm | ⟨q, hm, hq⟩
    · exact .inl hm
    · exact .inr ⟨q, hm, by omega⟩
set_option maxHeartbeats 8000000 in
set_option maxRecDepth 100000 in
theorem pingested_any (p : PS) (s : ByteArray) (w : World) (h : PairOk w p) (htab : ∀ w', Keeps (PFoot p) w w' → Tab w') :
    Calls Tryz.prog 47 #[.pointer (some ⟨p.pb, 0, none⟩), .string s] w (PairPost p w) := by
  obtain ⟨i0, hi, hz0, hz1, hz2⟩ := info_parts Tryz.infoEntry
  have c0 := h.cell0
  have hfoot : ∀ k, Foot p.rb p.v k → PFoot p k := fun k hf => by
    rcases hf with hf | hf
    · exact .inr (.inl hf)
    · exact .inr (.inr (.inl hf))
  have HI := hide (ingest_any p.L s p.rb p.site p.v w h.rep h.site.1 h.site.2 (fun w' hk => htab w' (hk.mono (fun k _ hf => hfoot k hf))))
  have HCK := hide (fun W => rcheck_any s W)
  rw [check_same] at HCK
  have HVL := hide (fun W c2 hl => pview_log p.pb p.u p.L W c2 hl h.rep.ok)
  have HCO := hide (fun W => compiled_any (bs (textT (viewT (places p.L)))) s W)
  rw [sl_bs] at HCO
  have HMD := hide (fun W ao ca (hr : Row W ao p.L.length 5 (loCells p.L)) sc hsc => rmade_any p.L p.site s sc ao ca W hr h.rep.ok hsc)
  have hmok := (ingest_ok h.rep.ok h.site.1 h.site.2 (sl s)).2
  have hML : (ingestT p.L p.site (sl s)).1.length ≤ 150 := by
    have := (ingest_ok h.rep.ok h.site.1 h.site.2 (sl s)).1.2.2
    rw [List.length_append] at this; omega
  have hLL := h.rep.ok.2.2
  have HNO := hide (@ingest_none p.L p.site (sl s))
  have hpl : p.pb < w.heap.size := lt_of_block h.at'
  have HH := hide h
  clear h htab
  generalize ingestT p.L p.site (sl s) = rt at *
  obtain ⟨M, er⟩ := rt
  simp only at HI HMD hmok hML HNO
  have HMOK := hide hmok; clear hmok
  go_enter Tryz.func47, Tryz.ntmps47
  go_wp2_with fail
  refine (unhide HI).mono ?_
  rintro e1 w1 ⟨rfl, v', hR1, hK1, hM1⟩
  have HBLK1 : Hid (PBlk w1 p.pb p.rb p.site p.u) := hide (PBlk.kept (w := w) (unhide HH).at' hK1 (unhide HH).sep1)
  have HLG1 := hide (own_kept (unhide HH).log hK1 (unhide HH).sep2)
  have HR1 := hide hR1
  have HK1 := hide hK1
  have HM1 := hide hM1
  clear hR1 hK1 hM1 c0
  go_wp2_with fail
  refine (unhide HCK _).mono ?_
  rintro e2 w2 ⟨rfl, hb2⟩
  have HBLK2 := hide ((unhide HBLK1).below hb2)
  have HLG2 := hide (own_below (unhide HLG1) hb2)
  have HB2 := hide hb2
  clear hb2
  have HSCB : Hid (∀ sc : ByteArray, ((checkT (sl s)).1 = 0 → sc = bs (compileT (textT (viewT (places p.L))) (sl s))) → (checkT (sl s)).1 = 0 → sc = bs (compileT (textT (viewT (places p.L))) (sl s))) := hide (fun sc h => h)
  generalize compileT (textT (viewT (places p.L))) (sl s) = scr at *
  generalize textT (viewT (places p.L)) = tv at *
  generalize checkT (sl s) = ck at *
  obtain ⟨c, cat⟩ := ck
  simp only at HMD HSCB
  go_upto_if 32 with fail
  go_cut [7, 10, 11, 12] from 33 to 43 (fun a _ _ _ wx => ∃ sc, a = .string sc ∧ (c = 0 → sc = bs scr) ∧ Below w2.heap.size w2 wx)
  case first =>
    by_cases hc : c = 0
    · subst hc
      have c2 := (unhide HBLK2).cell2
      go_wp2_with fail
      refine (unhide HVL _ (by exact c2) (by exact unhide HLG2)).mono ?_
      rintro e3 w3 ⟨rfl, hb3⟩
      have HB3 := hide hb3
      clear hb3 c2
      go_wp2_with fail
      refine (unhide HCO _).mono ?_
      rintro e4 w4 ⟨rfl, hb4⟩
      have HB4 := hide ((unhide HB3).trans (hb4.mono (unhide HB3).size))
      clear hb4
      go_wp2
      go_meet
      exact ⟨bs scr, rfl, fun _ => rfl, unhide HB4⟩
    · have hcc : (c == 0) = false := by simpa using hc
      have HC := hide hc
      clear hc
      go_wp2
      go_meet
      exact ⟨_, rfl, fun e => absurd e (unhide HC), Below.refl _ _⟩
  case rest =>
    obtain ⟨sc, rfl, hsc, hb3⟩ := hcut
    have HBLK3 := hide ((unhide HBLK2).below hb3)
    have HLG3 := hide (own_below (unhide HLG2) hb3)
    have HB3 := hide ((unhide HB2).trans (hb3.mono (unhide HB2).size))
    have HSC := hide hsc
    clear hb3 hsc HBLK1 HBLK2 HLG1 HLG2 HVL HCO HSCB
    obtain ⟨ao, ca, hu, hrow⟩ := row_of_owns (unhide HLG3)
    have d1 := (unhide HBLK3).cell1
    have d2 := (unhide HBLK3).cell2
    rw [hu] at d2
    have hplc := (unhide HBLK3).lt
    have HS0 : Hid (wc.drew.cell? ⟨p.pb, 1, none⟩ = some (.int .i64 p.site) ∧ wc.drew.cell? ⟨p.pb, 2, none⟩ = some (.slice ao p.L.length ca) ∧ Below wc.heap.size wc wc.drew) := hide ⟨d1, d2, (Below.refl _ _).drew⟩
    have HAF : Hid (∀ W, Below wc.drew.heap.size wc.drew W → W.cell? ⟨p.pb, 1, none⟩ = some (.int .i64 p.site) ∧ W.cell? ⟨p.pb, 2, none⟩ = some (.slice ao p.L.length ca) ∧ Below wc.heap.size wc W) := by
      apply hide
      intro W hb
      exact ⟨(hb.cell (p := ⟨p.pb, 1, none⟩) hplc).trans (unhide HS0).1, (hb.cell (p := ⟨p.pb, 2, none⟩) hplc).trans (unhide HS0).2.1, (unhide HS0).2.2.trans (hb.mono (Nat.le_refl _))⟩
    have HMD2 := hide (unhide HMD wc.drew ao ca (hrow.below (Below.refl _ _).drew) sc (unhide HSC))
    clear d1 d2 hrow HMD
    go_upto_region 10 with fail
    go_region_held3 (fun W => W.cell? ⟨p.pb, 1, none⟩ = some (.int .i64 p.site) ∧ W.cell? ⟨p.pb, 2, none⟩ = some (.slice ao p.L.length ca) ∧ Below wc.heap.size wc W) (first | exact unhide HS0 | assumption) ((go_at_call 82; refine (unhide HMD2).mono ?_; rintro e4 w4 ⟨mv, rfl, hom, hb4⟩; have hs4 := unhide HAF w4 hb4; have HOM := hide hom; clear hom hb4; obtain ⟨fo, cf, rfl, _⟩ := row_of_owns (unhide HOM)))
    have hb4 := hs4.2.2
    have HBLK4 := hide ((unhide HBLK3).below hb4)
    have HLG4 := hide (own_below (unhide HLG3) hb4)
    have HB4 := hide ((unhide HB3).trans (hb4.mono (unhide HB3).size))
    have HR4 := hide ((unhide HR1).below (unhide HB4))
    have HAPT : Hid (∀ j, (Value.slice fo M.length cf).ownBlock = some j → p.u.ownBlock ≠ some j ∧ j < w4.heap.size) := by
      apply hide
      intro j hj
      have h1 := (unhide HOM).lt j hj
      refine ⟨fun e => ?_, h1.2⟩
      have h2 := ((unhide HLG3).lt j e).2
      have h3 : wc.heap.size ≤ j := h1.1
      omega
    have HIN : Hid (InLoop p p.L M v' fo cf w4 w4 0 p.u) := hide ⟨unhide HAPT, unhide HBLK4, by rw [List.take_zero, List.append_nil]; exact unhide HLG4, own_low (unhide HOM) (Nat.zero_le _), unhide HR4, Keeps.refl _ _, .inl rfl⟩
    have HMR := hide (row_of (unhide HOM))
    clear hs4 hb4 HOM HBLK3 HLG3 HBLK4 HLG4 HS0 HAF HMD2 hu HSC
    by_cases her : er = 0
    · subst her
      clear HNO
      go_wp2_with go_in
      go_loopw [15] (fun i wr => ∃ k : Nat, ∃ u : Value, k ≤ M.length ∧ i = .int .i64 k ∧ Hid (InLoop p p.L M v' fo cf w4 wr k u)) (fun i _ => M.length - (intOf i).toNat)
      case atStart => exact ⟨0, _, Nat.zero_le _, rfl, HIN⟩
      case round =>
        obtain ⟨k, u, hk, rfl, HL⟩ := hrel
        by_cases hlt : k < M.length
        · obtain ⟨gm, hao, hgm, c0, c1, c2, c3, c4⟩ := lo_cells (row_of (unhide HL).made) (Below.refl wr.heap.size wr) (Nat.le_refl _) hlt
          have HAO := hide hao
          have hgn : ¬ gm = wr.heap.size := by omega
          obtain ⟨uo, uc, hu, _⟩ := row_of_owns (unhide HL).log
          have r2 := (unhide HL).blk.cell2
          have rf := (unhide HL).blk.free
          have hpr := (unhide HL).blk.lt
          have hpn : ¬ p.pb = wr.heap.size := by omega
          have hnl : (p.L ++ M.take k).length ≤ 400 := by rw [List.length_append, List.length_take]; omega
          have HSTEP := hide (fun W w5 g cap hW hg1 hg2 hg3 => in_step (g := g) (cap := cap) (W := W) (w5 := w5) (unhide HL) hlt hW hg1 hg2 hg3)
          have hB1 : Below wr.heap.size wr (wr.alloc (.cells #[.int .i64 (M[k]).count, .int .i64 (M[k]).site, .int .i64 (M[k]).node.id, .int .i64 (M[k]).node.parent, .string (bs (M[k]).node.name)] 146)).drew := ((Below.refl wr.heap.size wr).alloc (Nat.le_refl _) _).drew
          have HOW3 := hide (own_below (unhide HL).log hB1)
          have HNEW : Hid (∀ j y, (loC M[k])[j]? = some y → (World.drew (wr.alloc (.cells #[.int .i64 (M[k]).count, .int .i64 (M[k]).site, .int .i64 (M[k]).node.id, .int .i64 (M[k]).node.parent, .string (bs (M[k]).node.name)] 146))).cell? ((⟨wr.heap.size, 0, none⟩ : Addr).add j) = some y) := hide (news_five (w := wr) _ _ _ _ _ _)
          have HBW := hide hB1
          rw [hu] at r2
          rw [hao]
          clear hao hB1
          generalize M[k] = x at *
          generalize p.L ++ M.take k = N at *
          subst hu
          go_wp2
          go_region_law (refine step_append_lies _ rfl (.tmp 76) (.tmp 81) 99 rfl 0 146 i0 (.agg #[.int .i64 0, .int .i64 0, .int .i64 0, .int .i64 0, .string ByteArray.empty]) 5 48 Tryz.underlying99 hi hz0 hz1 hz2 rfl (by decide) (.slice uo N.length uc) N.length (loCells N) (by simp [Act.eval]) (unhide HOW3) ⟨wr.heap.size, 0, none⟩ 1 1 (loC x) (by simp [Act.eval]) rfl (unhide HNEW) (by simp [Value.oneCell', loC]) (by decide) (by unfold maxLen; omega) (by omega) (by simp) (wr.heap.size + 1) (by simp [heap_drew]) ?_; intro g cap w5 hown5 hgrow hgg hgl; have hst := unhide HSTEP _ w5 g cap (unhide HBW) hgrow (by rcases hgg with h | h; exact .inl h; exact .inr (by simp [heap_drew] at h ⊢; omega)) hown5; have q2 := hst.1.cell2; have qf := hst.1.free; have HST := hide hst.2; clear hst hown5 hgrow hgg)
          all_goals
            clear q2 qf r2 rf c0 c1 c2 c3 c4
            go_wp2
            go_roundw
            case rel =>
              refine ⟨.int .i64 ((k : Int) + 1), _, _, _, _, _, _, _, _, _, _, _, _, _, _, _, _, _, _, _, ⟨k + 1, _, by omega, by go_num, by have h := HST; rw [unhide HAO] at h; exact h⟩, rfl⟩
            case measure => simp [intOf]; omega
        · have hkl : M.take k = M := List.take_of_length_le (by omega)
          have HF := hide (in_post (unhide HH) (unhide HK1) (unhide HM1) (unhide HB4) (unhide HL) hkl)
          have HWR := hide (written_any M fo cf wr (row_of (unhide HL).made) (unhide HMOK) (by omega))
          clear hkl
          go_wp2_with fail
          refine (unhide HWR).mono ?_
          rintro e5 w5 ⟨rfl, hb5⟩
          have HF5 := hide (show ∃ p' : PS, p'.pb = p.pb ∧ PairOk w5 p' ∧ Keeps (PFoot p) w w5 ∧ ∀ k, PFoot p' k → PFoot p k ∨ w.heap.size ≤ k from by
            obtain ⟨p', a1, a2, a3, a4⟩ := unhide HF
            exact ⟨p', a1, a2.kept (Keeps.of_below (S := fun _ => False) hb5 (fun k h1 h2 => by omega)) (fun _ _ e => e), a3.trans (Keeps.of_below (S := fun _ => False) hb5 (fun k h1 h2 => by omega)) (fun _ _ h => h.elim), a4⟩)
          clear hb5
          go_wp2
          go_ret
          exact ⟨by simp, unhide HF5⟩
    · have hE : (er != 0) = true := by rw [bne_iff_ne]; exact her
      have hM0 : M = [] := unhide HNO her
      have HF := hide (in_post (unhide HH) (unhide HK1) (unhide HM1) (unhide HB4) (unhide HIN) (by rw [hM0]; rfl))
      subst hM0
      clear her
      go_wp2_with go_in
      go_ret
      exact ⟨by simp [logText, bs], unhide HF⟩
end Go.Proofs.YtdcjimlhaklhfabGreatDoor

namespace Go.Proofs.YtdcjimlhaklhfabGreatDoor
open Go.RowKit
set_option maxHeartbeats 2000000 in
theorem rnumber_u (s : ByteArray) (lo hi : Int) (w : World) (hs : s.size ≤ 1048576) (hb : 0 ≤ hi) (hb' : hi ≤ 9999) :
    Calls Tryz.prog 142 #[.string s, .int .i64 lo, .int .i64 hi] w fun e w' => e = .returned (.int .i64 (numR (sl s) lo hi)) ∧ Below w.heap.size w w' := by
  by_cases h1 : s.size < 1
  · have HF : Hid (numR (sl s) lo hi = -1) := hide (numR_empty (by rw [sl_length]; exact h1))
    go_enter Tryz.func142, Tryz.ntmps142
    go_wp2
    go_ret
    exact ⟨ret_int (unhide HF).symm, Below.refl _ _⟩
  · by_cases h4 : 4 < s.size
    · have HF : Hid (numR (sl s) lo hi = -1) := hide (numR_long hb hb' (by rw [sl_length]; exact h4))
      go_enter Tryz.func142, Tryz.ntmps142
      go_wp2
      go_ret
      exact ⟨ret_int (unhide HF).symm, Below.refl _ _⟩
    · go_enter Tryz.func142, Tryz.ntmps142
      go_wp2
      go_loop [7, 8] (fun n i => ∃ k m : Nat, k ≤ s.size ∧ i = .int .i64 k ∧ n = .int .i64 m ∧ m ≤ 9999 ∧ Hid (m = val ((sl s).take k) ∧ ((sl s).take k).all digB = true)) (fun _ i => s.size - (intOf i).toNat)
      case atStart => exact ⟨0, 0, Nat.zero_le _, rfl, rfl, by omega, hide ⟨by simp [val, valF], by simp⟩⟩
      case round =>
        obtain ⟨k, m, hk, rfl, rfl, hm, HI⟩ := hrel
        by_cases hlt : k < s.size
        · by_cases hd : 48 ≤ s[k].toNat ∧ s[k].toNat ≤ 57
          · have HA := hide (all_take hlt (unhide HI).2 hd)
            have HV : Hid (m * 10 + (s[k].toNat - 48) = val ((sl s).take (k + 1))) := by
              apply hide; rw [take_snoc s k hlt, val_snoc, ← (unhide HI).1]
            have hb4 : m * 10 + (s[k].toNat - 48) ≤ 9999 := by
              rw [unhide HV]; exact val_le4 _ (unhide HA) (by rw [List.length_take]; omega)
            obtain ⟨hd1, hd2⟩ := hd
            go_wp2
            go_round
            case rel => exact ⟨k + 1, m * 10 + (s[k].toNat - 48), by omega, by go_num, by go_num, hb4, hide ⟨unhide HV, unhide HA⟩⟩
            case measure => simp [intOf]; omega
          · have HF : Hid (numR (sl s) lo hi = -1) := hide (numR_nodig (all_not hlt hd))
            have hd' : s[k].toNat < 48 ∨ 57 < s[k].toNat := by omega
            clear hd
            rcases hd' with hd | hd
            all_goals
              go_wp2
              go_ret
              exact ⟨ret_int (unhide HF).symm, Below.refl _ _⟩
        · have hks : k = s.size := by omega
          subst hks
          have hI := unhide HI
          rw [List.take_of_length_le (by rw [sl_length]; omega)] at hI
          have HI2 := hide hI; clear hI HI
          by_cases hlo : (m : Int) < lo
          · have HF : Hid (numR (sl s) lo hi = -1) := hide (numR_out (unhide HI2).2 hb (by rw [← (unhide HI2).1]; exact .inl hlo))
            go_wp2
            go_ret
            exact ⟨ret_int (unhide HF).symm, Below.refl _ _⟩
          · by_cases hhi : hi < (m : Int)
            · have HF : Hid (numR (sl s) lo hi = -1) := hide (numR_out (unhide HI2).2 hb (by rw [← (unhide HI2).1]; exact .inr hhi))
              go_wp2
              go_ret
              exact ⟨ret_int (unhide HF).symm, Below.refl _ _⟩
            · have HD := hide (fun W => digits_nat m W (by omega))
              by_cases he : dec m = sl s
              · have HF : Hid (numR (sl s) lo hi = m) := by
                  apply hide; rw [numR_eq (unhide HI2).2 hb (by rw [← (unhide HI2).1]; exact he), ← (unhide HI2).1, if_pos (by omega)]
                have hne : ((bs (dec m)).toList == s.toList) = true := by rw [tl_sl, tl_sl, sl_bs, he]; simp
                have HE := hide he; clear he
                go_wp2_with fail
                refine (unhide HD _).mono ?_
                rintro e w1 ⟨rfl, hb1⟩
                go_wp2
                go_ret
                exact ⟨ret_int (unhide HF).symm, hb1⟩
              · have HF : Hid (numR (sl s) lo hi = -1) := hide (numR_ne (unhide HI2).2 (by rw [← (unhide HI2).1]; exact he))
                have hne : ((bs (dec m)).toList == s.toList) = false := by rw [tl_sl, tl_sl, sl_bs]; simpa using he
                have HE := hide he; clear he
                go_wp2_with fail
                refine (unhide HD _).mono ?_
                rintro e w1 ⟨rfl, hb1⟩
                go_wp2
                go_ret
                exact ⟨ret_int (unhide HF).symm, hb1⟩
set_option maxHeartbeats 2000000 in
theorem named_u (s : ByteArray) (id : Int) (w : World) (hs : s.size ≤ 1048576) (h0 : 0 ≤ id) (h1 : id ≤ 99) :
    Calls Tryz.prog 150 #[.int .i64 id, .string s] w fun e w' => e = .returned (.bool (isName (sl s) id)) ∧ Below w.heap.size w w' := by
  have HD := hide (fun W => digits_any id W h0 (by omega))
  have HDD : Hid (dec id.toNat = digs id) := by apply hide; rw [← digs_dec id.toNat (by omega), Int.toNat_of_nonneg h0]
  rw [unhide HDD] at HD
  go_enter Tryz.func150, Tryz.ntmps150
  go_wp2
  go_loop [5] (fun i => ∃ k : Nat, k ≤ s.size ∧ i = .int .i64 k ∧ Hid (((sl s).take k).all plainB = true)) (fun i => s.size - (intOf i).toNat)
  case atStart => exact ⟨0, Nat.zero_le _, rfl, hide (by simp)⟩
  case round =>
    obtain ⟨k, hk, rfl, HA⟩ := hrel
    by_cases hgo : ∃ h : k < s.size, plainB s[k] = true
    · obtain ⟨hlt, hp⟩ := hgo
      have HA2 : Hid (((sl s).take (k + 1)).all plainB = true) := by apply hide; rw [take_snoc s k hlt]; simp [hp]; simpa using unhide HA
      have key : ((s[k].toNat : Int) != 126) = true ∧ ((97 ≤ s[k].toNat ∧ s[k].toNat ≤ 122) ∨ (48 ≤ s[k].toNat ∧ s[k].toNat ≤ 57) ∨ s[k].toNat = 46) := by
        simp [plainB] at hp
        refine ⟨by rw [bne_iff_ne]; omega, by omega⟩
      obtain ⟨ht, hc⟩ := key
      clear hp
      rcases hc with ⟨c1, c2⟩ | ⟨c1, c2⟩ | c1
      · go_wp2
        go_round
        case rel => exact ⟨k + 1, by omega, by go_num, HA2⟩
        case measure => simp [intOf]; omega
      · go_wp2
        go_round
        case rel => exact ⟨k + 1, by omega, by go_num, HA2⟩
        case measure => simp [intOf]; omega
      · have c3 : ((s[k].toNat : Int) != 46) = false := by rw [bne_eq_false_iff_eq]; omega
        have c4 : (s[k].toNat : Int) < 48 := by omega
        have c5 : (s[k].toNat : Int) < 97 := by omega
        clear c1
        go_wp2
        go_round
        case rel => exact ⟨k + 1, by omega, by go_num, HA2⟩
        case measure => simp [intOf]; omega
    · have HPL : Hid (plainLen (sl s) = k) := by
        apply hide
        refine plainLen_stop (sl s) k (by rw [sl_length]; exact hk) (unhide HA) (fun c r h => ?_)
        by_cases hlt : k < s.size
        · rw [drop_cons s k hlt] at h; cases h
          cases hq : plainB s[k]
          · rfl
          · exact absurd ⟨hlt, hq⟩ hgo
        · rw [List.drop_eq_nil_of_le (by rw [sl_length]; omega)] at h; cases h
      have HN := hide (isName_at (id := id) (unhide HPL))
      by_cases hlt : k < s.size
      · by_cases ht : s[k] = 126
        · have ht' : ((s[k].toNat : Int) != 126) = false := by rw [bne_eq_false_iff_eq, ht]; rfl
          have hke : ((k : Int) == (s.size : Int)) = false := by rw [beq_eq_false_iff_ne]; omega
          have HKE : Hid ((k == s.size) = false) := hide (by rw [beq_eq_false_iff_ne]; omega)
          clear ht hgo
          by_cases hk1 : 1 ≤ k
          · by_cases hk8 : k ≤ 8
            · have HF : Hid (isName (sl s) id = ((sl s).drop k == 126 :: digs id)) := by apply hide; rw [unhide HN, unhide HKE]; simp [hk1, hk8]
              have hadd : ∀ W : World, (Op.stringOp .add ⟨#[126]⟩ (bs (digs id))).run Tryz.prog W = .ok (.string (⟨#[126]⟩ ++ bs (digs id))) W := fun W => run_string_add_sum (P := Tryz.prog) W _ _ (by rw [bs_size]; have := digs_len id; show 1 + _ ≤ _; omega)
              have hk0 : (0 : Int) ≤ (k : Int) := by omega
              have hks : (k : Int) ≤ (s.size : Int) := by omega
              have hd1 : decide (1 ≤ (k : Int)) = true := by simp; omega
              have hd8 : decide ((k : Int) ≤ 8) = true := by simp; omega
              go_wp2
              go_region_held3 (fun _ => True) (trivial) ((go_at_call 81; refine (unhide HD _).mono ?_; rintro e w1 ⟨rfl, hb1⟩))
              go_wp2
              go_ret
              exact ⟨ret_bool (by rw [tail_eq, unhide HF]), (Below.refl w.heap.size w).drew.trans hb1⟩
            · have HF : Hid (isName (sl s) id = false) := by apply hide; rw [unhide HN]; simp [hk8]
              have hd8 : decide ((k : Int) ≤ 8) = false := by simp; omega
              have hd1 : decide (1 ≤ (k : Int)) = true := by simp; omega
              go_wp2
              go_quiet (fail)
              go_wp2
              go_ret
              exact ⟨ret_bool (unhide HF).symm, below_drewN (Below.refl _ _) _⟩
          · have HF : Hid (isName (sl s) id = false) := by apply hide; rw [unhide HN]; simp [hk1]
            have hd1 : decide (1 ≤ (k : Int)) = false := by simp; omega
            go_wp2
            go_quiet (fail)
            go_wp2
            go_ret
            exact ⟨ret_bool (unhide HF).symm, below_drewN (Below.refl _ _) _⟩
        · have HF : Hid (isName (sl s) id = false) := by
            apply hide; rw [unhide HN]
            have e1 : (k == s.size) = false := by rw [beq_eq_false_iff_ne]; omega
            have e2 : ((sl s).drop k == 126 :: digs id) = false := by rw [drop_cons s k hlt, beq_eq_false_iff_ne]; intro h; injection h with h _; exact ht h
            rw [e1, e2]; simp
          have ht' : ((s[k].toNat : Int) != 126) = true := by
            rw [bne_iff_ne]; intro h; exact ht (UInt8.toNat_inj.1 (by simpa using (by omega : (s[k]).toNat = 126)))
          have hcc : (s[k].toNat < 48 ∧ ((s[k].toNat : Int) != 46) = true) ∨ (57 < s[k].toNat ∧ s[k].toNat < 97 ∧ ((s[k].toNat : Int) != 46) = true) ∨ (122 < s[k].toNat ∧ ((s[k].toNat : Int) != 46) = true) := by
            have hq : plainB s[k] = false := by
              cases hq : plainB s[k]
              · rfl
              · exact absurd ⟨hlt, hq⟩ hgo
            simp [plainB] at hq
            have : ((s[k].toNat : Int) != 46) = true := by rw [bne_iff_ne]; omega
            simp only [this, and_true]
            omega
          clear ht hgo
          rcases hcc with ⟨c1, c2⟩ | ⟨c1, c2, c3⟩ | ⟨c1, c2⟩
          all_goals
            go_wp2
            go_ret
            exact ⟨ret_bool (unhide HF).symm, Below.refl _ _⟩
      · have hke : k = s.size := by omega
        clear hgo
        have hke' : ((k : Int) == (s.size : Int)) = true := by rw [beq_iff_eq]; omega
        by_cases hk1 : 1 ≤ k
        · by_cases hk8 : k ≤ 8
          · have HF : Hid (isName (sl s) id = true) := by apply hide; rw [unhide HN]; simp [hk1, hk8, hke.symm]
            have hd1 : decide (1 ≤ (k : Int)) = true := by simp; omega
            have hd8 : decide ((k : Int) ≤ 8) = true := by simp; omega
            clear hke
            go_wp2
            go_quiet (fail)
            go_wp2
            go_ret
            exact ⟨ret_bool (unhide HF).symm, below_drewN (Below.refl _ _) _⟩
          · have HF : Hid (isName (sl s) id = false) := by apply hide; rw [unhide HN]; simp [hk8]
            have hd8 : decide ((k : Int) ≤ 8) = false := by simp; omega
            have hd1 : decide (1 ≤ (k : Int)) = true := by simp; omega
            clear hke
            go_wp2
            go_quiet (fail)
            go_wp2
            go_ret
            exact ⟨ret_bool (unhide HF).symm, below_drewN (Below.refl _ _) _⟩
        · have HF : Hid (isName (sl s) id = false) := by apply hide; rw [unhide HN]; simp [hk1]
          have hd1 : decide (1 ≤ (k : Int)) = false := by simp; omega
          clear hke
          go_wp2
          go_quiet (fail)
          go_wp2
          go_ret
          exact ⟨ret_bool (unhide HF).symm, below_drewN (Below.refl _ _) _⟩
set_option maxHeartbeats 1000000 in
theorem rcut_u (s : ByteArray) (w : World) (hs : s.size ≤ 1048576) :
    Calls Tryz.prog 86 #[.string s] w fun e w' => ∃ ao cap, e = .returned (.slice ao (cut (sl s)).length cap) ∧ Row w' ao (cut (sl s)).length 1 ((cut (sl s)).map strV) ∧ Below w.heap.size w w' := by
  obtain ⟨i0, hi, hz0, hz1, hz2⟩ := info_parts Tryz.infoStr
  have hsz : (0 : Int) ≤ s.size := by omega
  go_enter Tryz.func86, Tryz.ntmps86
  go_wp2
  go_loopw [3, 4, 5] (fun v st i wr => ∃ k t n : Nat, ∃ xs : List Value, k ≤ s.size ∧ t ≤ k ∧ n ≤ k ∧ i = .int .i64 k ∧ st = .int .i64 t ∧ wr.ownsRow w.heap.size 9 1 v n xs ∧ Below w.heap.size w wr ∧ Hid (CutInv s k t n xs)) (fun _ _ i _ => s.size - (intOf i).toNat)
  case atStart => exact ⟨0, 0, 0, [], Nat.zero_le _, Nat.le_refl _, Nat.le_refl _, rfl, rfl, World.ownsRow_nil _ _ _ _, Below.refl _ _, hide ⟨by simp [cutTo], by simp [cutTo], by simp [cutTo]⟩⟩
  case round =>
    obtain ⟨k, t, n, xs, hk, ht, hn, rfl, rfl, hown, hbel, HI⟩ := hrel
    by_cases hlt : k < s.size
    · by_cases hc : s[k] = 59
      · have HN := hide (cutInv_hit (unhide HI) hlt hc)
        go_wp2_with (first
          | (at_builtin; refine wpList_append_own _ rfl _ _ 42 rfl w.heap.size 9 i0 (.string ByteArray.empty) 1 16 Tryz.underlying42 hi hz0 hz1 hz2 rfl (by decide) _ _ _ rfl (hown.alloc _) ⟨wr.heap.size, 0, none⟩ 1 1 [.string (s.extract t (k + 1))] rfl rfl (news_one _ _) (by simp [Value.oneCell']) (by unfold maxLen; omega) (by omega) (by have := hbel.size; simp; omega) ?_)
          | go_in)
        intro v' w1 hown' hgrow _
        have hb1 := below_app hbel (by have := hbel.size; omega) hown hgrow
        clear hgrow hown hbel
        go_wp2
        go_roundw
        case rel => exact ⟨k + 1, k + 1, n + 1, _, by omega, by omega, by omega, by go_num, by go_num, hown', hb1, HN⟩
        case measure => simp [intOf]; omega
      · have HN := hide (cutInv_miss (unhide HI) hlt hc)
        have hc' : (((s[k]).toNat : Int) == 59) = false := by
          rw [beq_eq_false_iff_ne]; intro h; exact hc (UInt8.toNat_inj.1 (by simpa using (by omega : (s[k]).toNat = 59)))
        have HC := hide hc; clear hc
        go_wp2
        go_roundw
        case rel => exact ⟨k + 1, t, n, _, by omega, by omega, by omega, by go_num, rfl, hown, hbel, HN⟩
        case measure => simp [intOf]; omega
    · have hks : k = s.size := by omega
      subst hks
      by_cases hts : t < s.size
      · have HN := hide (cutInv_last (unhide HI) hts)
        go_wp2_with (first
          | (at_builtin; refine wpList_append_own _ rfl _ _ 42 rfl w.heap.size 9 i0 (.string ByteArray.empty) 1 16 Tryz.underlying42 hi hz0 hz1 hz2 rfl (by decide) _ _ _ rfl (hown.alloc _) ⟨wr.heap.size, 0, none⟩ 1 1 [.string (s.extract t s.size)] rfl rfl (news_one _ _) (by simp [Value.oneCell']) (by unfold maxLen; omega) (by omega) (by have := hbel.size; simp; omega) ?_)
          | go_in)
        intro v' w1 hown' hgrow _
        have hb1 := below_app hbel (by have := hbel.size; omega) hown hgrow
        clear hgrow hown hbel
        go_wp2
        go_ret
        obtain ⟨e1, e2⟩ := unhide HN
        obtain ⟨ao, cap, rfl, hr⟩ := row_of_owns hown'
        rw [e1, e2] at hr
        exact ⟨ao, cap, by rw [← e1]; rfl, hr, hb1⟩
      · have HN := hide (cutInv_end (unhide HI) hts)
        go_wp2
        go_ret
        obtain ⟨e1, e2⟩ := unhide HN
        obtain ⟨ao, cap, rfl, hr⟩ := row_of_owns hown
        rw [e1, e2] at hr
        exact ⟨ao, cap, by rw [← e1]; rfl, hr, hbel⟩

set_option maxHeartbeats 2000000 in
theorem rparts_u (s : ByteArray) (w : World) (hs : s.size ≤ 1048576) :
    Calls Tryz.prog 135 #[.string s] w fun e w' => ∃ ao cap, e = .returned (.slice ao (rparts (sl s)).length cap) ∧ Row w' ao (rparts (sl s)).length 1 ((rparts (sl s)).map strV) ∧ Below w.heap.size w w' := by
  obtain ⟨i0, hi, hz0, hz1, hz2⟩ := info_parts Tryz.infoStr
  have hsz : (0 : Int) ≤ s.size := by omega
  by_cases h0 : 0 < s.size
  · have HB := hide (bodyB_at s h0)
    by_cases hc : s[s.size - 1] = 59
    · have HBT : Hid (bodyB (sl s) = true) := by apply hide; rw [unhide HB, hc]; rfl
      have h0' : ((s.size : Int) == 0) = false := by rw [beq_eq_false_iff_ne]; omega
      go_enter Tryz.func135, Tryz.ntmps135
      go_wp2
      go_loopw [4, 5, 6] (fun v st i wr => (∃ k t n : Nat, ∃ xs : List Value, k < s.size ∧ t ≤ k ∧ n ≤ k ∧ i = .int .i64 k ∧ st = .int .i64 t ∧ wr.ownsRow w.heap.size 9 1 v n xs ∧ Below w.heap.size w wr ∧ Hid (PartInv s k t n xs)) ∨ (i = .int .i64 s.size ∧ ∃ t : Int, st = .int .i64 t ∧ wr.ownsRow w.heap.size 9 1 v (rparts (sl s)).length ((rparts (sl s)).map strV) ∧ Below w.heap.size w wr)) (fun _ _ i _ => s.size - (intOf i).toNat)
      case atStart => exact .inl ⟨0, 0, 0, [], h0, Nat.le_refl _, Nat.le_refl _, rfl, rfl, World.ownsRow_nil _ _ _ _, Below.refl _ _, hide ⟨by simp [partTo], by simp [partTo], by simp [partTo]⟩⟩
      case round =>
        rcases hrel with ⟨k, t, n, xs, hk, ht, hn, rfl, rfl, hown, hbel, HI⟩ | ⟨rfl, t, rfl, hown, hbel⟩
        · by_cases hl : k = s.size - 1
          · have HL : Hid (n + 1 = (rparts (sl s)).length ∧ xs ++ [.string (s.extract t k)] = (rparts (sl s)).map strV) := by
              apply hide; rw [hl]; rw [hl] at HI; exact rpart_last h0 (unhide HI) (unhide HBT)
            have h59 : s[k].toNat = 59 := by
              have : s[k] = s[s.size - 1] := by congr 1
              rw [this, hc]; rfl
            have e32 : ((s[k].toNat : Int) == 32) = false := by rw [beq_eq_false_iff_ne]; omega
            have elast : ((k : Int) == (s.size : Int) - 1) = true := by rw [beq_iff_eq]; omega
            have hk1 : k + 1 = s.size := by omega
            have HK1 := hide hk1
            clear hl h59 hc hk1
            go_wp2_with (first
              | (at_builtin; refine wpList_append_own _ rfl _ _ 42 rfl w.heap.size 9 i0 (.string ByteArray.empty) 1 16 Tryz.underlying42 hi hz0 hz1 hz2 rfl (by decide) _ _ _ rfl (hown.alloc _) ⟨wr.heap.size, 0, none⟩ 1 1 [.string (s.extract t k)] rfl rfl (news_one _ _) (by simp [Value.oneCell']) (by unfold maxLen; omega) (by omega) (by have := hbel.size; simp; omega) ?_)
              | go_in)
            intro v' w1 hown' hgrow _
            have hb1 := below_app hbel (by have := hbel.size; omega) hown hgrow
            rw [(unhide HL).1, (unhide HL).2] at hown'
            clear hgrow hown hbel
            go_wp2
            go_roundw
            case rel => exact .inr ⟨by have := unhide HK1; go_num, (k : Int) + 1, rfl, hown', hb1⟩
            case measure => have := unhide HK1; simp [intOf]; omega
          · by_cases hc2 : s[k] = 32
            · have HN := hide (partInv_hit (unhide HI) hk hc2)
              have e32 : ((s[k].toNat : Int) == 32) = true := by rw [hc2]; rfl
              have HC2 := hide hc2
              clear hc2
              go_wp2_with (first
                | (at_builtin; refine wpList_append_own _ rfl _ _ 42 rfl w.heap.size 9 i0 (.string ByteArray.empty) 1 16 Tryz.underlying42 hi hz0 hz1 hz2 rfl (by decide) _ _ _ rfl (hown.alloc _) ⟨wr.heap.size, 0, none⟩ 1 1 [.string (s.extract t k)] rfl rfl (news_one _ _) (by simp [Value.oneCell']) (by unfold maxLen; omega) (by omega) (by have := hbel.size; simp; omega) ?_)
                | go_in)
              intro v' w1 hown' hgrow _
              have hb1 := below_app hbel (by have := hbel.size; omega) hown hgrow
              clear hgrow hown hbel
              go_wp2
              go_roundw
              case rel => exact .inl ⟨k + 1, k + 1, n + 1, _, by omega, by omega, by omega, by go_num, by go_num, hown', hb1, HN⟩
              case measure => simp [intOf]; omega
            · have HN := hide (partInv_miss (unhide HI) hk hc2)
              have e32 : ((s[k].toNat : Int) == 32) = false := by
                rw [beq_eq_false_iff_ne]; intro h; exact hc2 (UInt8.toNat_inj.1 (by simpa using (by omega : (s[k]).toNat = 32)))
              have elast : ((k : Int) == (s.size : Int) - 1) = false := by rw [beq_eq_false_iff_ne]; omega
              have HC := hide hc2; clear hc2
              go_wp2
              go_roundw
              case rel => exact .inl ⟨k + 1, t, n, _, by omega, by omega, by omega, by go_num, rfl, hown, hbel, HN⟩
              case measure => simp [intOf]; omega
        · go_wp2
          go_ret
          obtain ⟨ao, cap, rfl, hr⟩ := row_of_owns hown
          exact ⟨ao, cap, rfl, hr, hbel⟩
    · have HBF : Hid (bodyB (sl s) = false) := by apply hide; rw [unhide HB]; exact beq_eq_false_iff_ne.2 hc
      have hc' : (((s[s.size - 1]).toNat : Int) != 59) = true := by
        rw [bne_iff_ne]; intro h; exact hc (UInt8.toNat_inj.1 (by simpa using (by omega : (s[s.size - 1]).toNat = 59)))
      have h0' : ((s.size : Int) == 0) = false := by rw [beq_eq_false_iff_ne]; omega
      clear hc hz0 hz1 hz2 hi
      go_enter Tryz.func135, Tryz.ntmps135
      go_wp2
      go_ret
      rw [rparts_no (unhide HBF)]
      exact ⟨none, 0, rfl, ⟨rfl, fun h => by simp at h⟩, Below.refl _ _⟩
  · have HBF := hide (bodyB_nil s (by omega))
    have h0' : ((s.size : Int) == 0) = true := by rw [beq_iff_eq]; omega
    go_enter Tryz.func135, Tryz.ntmps135
    go_wp2
    go_ret
    rw [rparts_no (unhide HBF)]
    exact ⟨none, 0, rfl, ⟨rfl, fun h => by simp at h⟩, Below.refl _ _⟩
end Go.Proofs.YtdcjimlhaklhfabGreatDoor

namespace Go.Proofs.YtdcjimlhaklhfabGreatDoor
open Go.RowKit
set_option maxHeartbeats 2000000 in
theorem rnode_yes_u (a b c : Str) (g cap : Nat) (w : World) (hla : (bs a).size ≤ 1048576) (hlb : (bs b).size ≤ 1048576) (hlc : (bs c).size ≤ 1048576) (hg : g < w.heap.size)
    (c0 : w.cell? ⟨g, 0, none⟩ = some (.string (bs a))) (c1 : w.cell? ⟨g, 1, none⟩ = some (.string (bs b))) (c2 : w.cell? ⟨g, 2, none⟩ = some (.string (bs c))) :
    Calls Tryz.prog 136 #[.slice (some ⟨g, 0, none⟩) 3 cap] w fun e w' => (∃ x y z, e = .returned (.tuple #[.agg #[.int .i64 x, .int .i64 y, .string z], .bool (node3 [a, b, c]).isSome]) ∧ (∀ n, node3 [a, b, c] = some n → x = n.id ∧ y = n.parent ∧ z = bs n.name)) ∧ Below w.heap.size w w' := by
  have HN3 : Hid (node3 [a, b, c] = if (number a 1 99).2 && (number b 0 99).2 && isName c (number a 1 99).1 then some ⟨(number a 1 99).1, (number b 0 99).1, c⟩ else none) := hide rfl
  generalize node3 [a, b, c] = R at *
  obtain ⟨W0, hW0⟩ : ∃ W0, w.alloc (Obj.cells #[Value.int IntKind.i64 0, Value.int IntKind.i64 0, Value.string ⟨#[]⟩] 144) = W0 := ⟨_, rfl⟩
  have HW0 := hide hW0
  have hgW : g < W0.heap.size := by rw [← hW0]; simp; omega
  have d0 : W0.cell? ⟨g, 0, none⟩ = some (.string (bs a)) := by rw [← hW0, ((Below.refl w.heap.size w).alloc (Nat.le_refl _) _).cell (p := ⟨g, 0, none⟩) hg]; exact c0
  have d1 : W0.cell? ⟨g, 1, none⟩ = some (.string (bs b)) := by rw [← hW0, ((Below.refl w.heap.size w).alloc (Nat.le_refl _) _).cell (p := ⟨g, 1, none⟩) hg]; exact c1
  have d2 : W0.cell? ⟨g, 2, none⟩ = some (.string (bs c)) := by rw [← hW0, ((Below.refl w.heap.size w).alloc (Nat.le_refl _) _).cell (p := ⟨g, 2, none⟩) hg]; exact c2
  have dB : Below W0.heap.size W0 W0 := Below.refl _ _
  have HD := hide (show W0.drew.cell? ⟨g, 0, none⟩ = some (.string (bs a)) ∧ W0.drew.cell? ⟨g, 1, none⟩ = some (.string (bs b)) ∧ W0.drew.cell? ⟨g, 2, none⟩ = some (.string (bs c)) ∧ Below W0.heap.size W0 W0.drew from ⟨d0, d1, d2, dB.drew⟩)
  clear d0 d1 d2 dB c0 c1 c2
  go_enter Tryz.func136, Tryz.ntmps136
  go_wp2
  try rw [hW0]
  clear hW0
  go_cut [4] from 6 (fun p wx => ∃ B : Nat, p = .pointer (some ⟨B, 0, none⟩) ∧ W0.heap.size ≤ B ∧ B < wx.heap.size ∧ wx.cell? ⟨B, 0, none⟩ = some (.int .i64 (numR a 1 99)) ∧ wx.cell? ⟨B, 1, none⟩ = some (.int .i64 (numR b 0 99)) ∧ wx.cell? ⟨B, 2, none⟩ = some (.string (bs c)) ∧ Below W0.heap.size W0 wx)
  case first =>
    go_region_held3 (fun w' => w'.cell? ⟨g, 0, none⟩ = some (.string (bs a)) ∧ w'.cell? ⟨g, 1, none⟩ = some (.string (bs b)) ∧ w'.cell? ⟨g, 2, none⟩ = some (.string (bs c)) ∧ Below W0.heap.size W0 w') (first | exact unhide HD | assumption | exact ns_alloc hgW (by assumption) _ | exact ns_set hgW (by omega) (ns_set hgW (by omega) (ns_set hgW (by omega) (by assumption) _ _) _ _) _ _) ((go_at_call 142; refine (rnumber_u _ _ _ _ (by first | exact hla | exact hlb) (by omega) (by omega)).mono ?_; rintro e w1 ⟨rfl, hb1⟩; have hs1 := ns_call hgW hb1 (by first | assumption | exact unhide HD); have hzz := hs1.2.2.2.size; obtain ⟨hc1, hf1⟩ := bcell hb1; have hz1 := hb1.size; (try simp at hz1); have hzs := lt_kept hb1))
    all_goals go_wp2_with fail
    all_goals go_meet
    all_goals refine ⟨_, rfl, ?_, ?_, ?_, ?_, ?_, ?_⟩
    all_goals first
      | omega
      | (exact hs1.2.2.2.alloc hzz _)
      | (exact ((hs1.2.2.2.setCell (by first | omega | simp) _).setCell (by first | omega | simp) _).setCell (by first | omega | simp) _)
      | (simp [sl_bs]; done)
      | (simp; omega)
      | (rw [(set3 _ _ _ (by simp [*]) (by simp [*]) (by simp [*])).1, sl_bs])
      | (rw [(set3 _ _ _ (by simp [*]) (by simp [*]) (by simp [*])).2.1, sl_bs])
      | (rw [(set3 _ _ _ (by simp [*]) (by simp [*]) (by simp [*])).2.2])
      | skip
  case rest =>
    obtain ⟨B, hp, hB, hBlt, e0, e1, e2, hbel⟩ := hcut
    subst hp
    have hNlt : w.heap.size < W0.heap.size := by rw [← unhide HW0]; simp
    obtain ⟨hc, hf⟩ := bcell hbel
    have s0 : wc.cell? ⟨w.heap.size, 0, none⟩ = some (.int .i64 0) := by rw [hc _ _ hNlt, ← unhide HW0]; exact news_three (.int .i64 0) (.int .i64 0) (.string ⟨#[]⟩) 144 0 _ rfl
    have s1 : wc.cell? ⟨w.heap.size, 1, none⟩ = some (.int .i64 0) := by rw [hc _ _ hNlt, ← unhide HW0]; exact news_three (.int .i64 0) (.int .i64 0) (.string ⟨#[]⟩) 144 1 _ rfl
    have s2 : wc.cell? ⟨w.heap.size, 2, none⟩ = some (.string ⟨#[]⟩) := by rw [hc _ _ hNlt, ← unhide HW0]; exact news_three (.int .i64 0) (.int .i64 0) (.string ⟨#[]⟩) 144 2 _ rfl
    have sf : ∀ j, wc.frozen? ⟨w.heap.size, j, none⟩ = false := by intro j; rw [hf _ _ hNlt, ← unhide HW0]; exact frozen_of_row _ _ _ _ _ (heap_alloc_new w _)
    have HBW : Hid (Below w.heap.size w wc) := hide (Below.trans (by rw [← unhide HW0]; exact (Below.refl _ _).alloc (Nat.le_refl _) _) (hbel.mono (Nat.le_of_lt hNlt)))
    have hNwc : w.heap.size < wc.heap.size := by have := hbel.size; omega
    have hNB : ¬ w.heap.size = B := by omega
    have na := number_bd a 1 99 (by omega)
    have nb := number_bd b 0 99 (by omega)
    clear hc hf hbel HD hgW HW0 hNlt
    cases hqa : (number a 1 99).2
    · have HNN : Hid (R = none) := by apply hide; rw [unhide HN3, hqa]; simp
      rw [numR_neg hqa] at e0
      clear hqa
      go_wp2
      refine bodyPost_ret (v := .tuple #[.agg #[.int .i64 0, .int .i64 0, .string ByteArray.empty], .bool false]) (by simp [results, Tryz.results136, go_sem, s0, s1, s2]; rfl) rfl ⟨⟨0, 0, ByteArray.empty, by rw [unhide HNN]; rfl, fun n hn => by rw [unhide HNN] at hn; cases hn⟩, ?_⟩
      exact (((unhide HBW).setCell (Nat.le_refl _) _).setCell (Nat.le_refl _) _).setCell (Nat.le_refl _) _
    · cases hqb : (number b 0 99).2
      · have HNN : Hid (R = none) := by apply hide; rw [unhide HN3, hqb]; simp
        rw [numR_neg hqb] at e1
        rw [numR_yes hqa] at e0
        clear hqa hqb
        go_wp2
        refine bodyPost_ret (v := .tuple #[.agg #[.int .i64 0, .int .i64 0, .string ByteArray.empty], .bool false]) (by simp [results, Tryz.results136, go_sem, s0, s1, s2]; rfl) rfl ⟨⟨0, 0, ByteArray.empty, by rw [unhide HNN]; rfl, fun n hn => by rw [unhide HNN] at hn; cases hn⟩, ?_⟩
        exact (((unhide HBW).setCell (Nat.le_refl _) _).setCell (Nat.le_refl _) _).setCell (Nat.le_refl _) _
      · have HR : Hid (R = if isName c (number a 1 99).1 then some ⟨(number a 1 99).1, (number b 0 99).1, c⟩ else none) := by apply hide; rw [unhide HN3, hqa, hqb]; simp
        rw [numR_yes hqb] at e1
        rw [numR_yes hqa] at e0
        have HNM := hide (fun W => named_u (bs c) (number a 1 99).1 W hlc na.1 na.2)
        rw [sl_bs] at HNM
        clear hqa hqb HN3
        generalize (number a 1 99).1 = x at *
        generalize (number b 0 99).1 = y at *
        generalize isName c x = q at *
        obtain ⟨na0, na1⟩ := na
        obtain ⟨nb0, nb1⟩ := nb
        go_wp2_with fail
        refine (unhide HNM _).mono ?_
        rintro e w2 ⟨rfl, hb2⟩
        obtain ⟨hc2, hf2⟩ := bcell hb2
        have f0 : w2.cell? ⟨B, 0, none⟩ = some (.int .i64 x) := (hc2 _ _ hBlt).trans e0
        have f1 : w2.cell? ⟨B, 1, none⟩ = some (.int .i64 y) := (hc2 _ _ hBlt).trans e1
        have f2 : w2.cell? ⟨B, 2, none⟩ = some (.string (bs c)) := (hc2 _ _ hBlt).trans e2
        have g0 := (hc2 _ 0 hNwc).trans s0
        have g1 := (hc2 _ 1 hNwc).trans s1
        have g2 := (hc2 _ 2 hNwc).trans s2
        have gf : ∀ j, w2.frozen? ⟨w.heap.size, j, none⟩ = false := fun j => (hf2 _ j hNwc).trans (sf j)
        have HB2 := hide ((unhide HBW).trans (hb2.mono (Nat.le_of_lt hNwc)))
        clear hc2 hf2 e0 e1 e2 s0 s1 s2 sf hb2
        go_wp2
        refine bodyPost_ret (v := .tuple #[.agg #[.int .i64 x, .int .i64 y, .string (bs c)], .bool q]) (by simp [results, Tryz.results136, go_sem, g0, g1, g2]) rfl ⟨⟨x, y, bs c, ?_, ?_⟩, ?_⟩
        · rw [unhide HR]; cases q <;> rfl
        · intro n hn
          rw [unhide HR] at hn
          split at hn
          · cases hn; exact ⟨rfl, rfl, rfl⟩
          · cases hn
        · exact (((unhide HB2).setCell (Nat.le_refl _) _).setCell (Nat.le_refl _) _).setCell (Nat.le_refl _) _
end Go.Proofs.YtdcjimlhaklhfabGreatDoor

namespace Go.Proofs.YtdcjimlhaklhfabGreatDoor
open Go.RowKit
theorem rnode_u (ps : List Str) (ao : Option Addr) (cap : Nat) (w : World) (hrow : Row w ao ps.length 1 (ps.map strV)) (hl : ∀ p ∈ ps, p.length ≤ 1048576) :
    Calls Tryz.prog 136 #[.slice ao ps.length cap] w fun e w' => (∃ x y z, e = .returned (.tuple #[.agg #[.int .i64 x, .int .i64 y, .string z], .bool (node3 ps).isSome]) ∧ (∀ n, node3 ps = some n → x = n.id ∧ y = n.parent ∧ z = bs n.name)) ∧ Below w.heap.size w w' := by
  by_cases h3 : ps.length = 3
  · obtain ⟨a, b, c, rfl⟩ := len3 h3
    obtain ⟨g, rfl, hg, hc⟩ := hrow.2 (by simp)
    exact rnode_yes_u a b c g cap w (by rw [bs_size]; exact hl a (by simp)) (by rw [bs_size]; exact hl b (by simp)) (by rw [bs_size]; exact hl c (by simp)) hg (hc 0 _ rfl) (hc 1 _ rfl) (hc 2 _ rfl)
  · refine (rnode_no ao ps.length cap w h3).mono ?_
    rintro e w' ⟨rfl, hb⟩
    exact ⟨⟨0, 0, _, by rw [node3_other h3]; rfl, fun n hn => by rw [node3_other h3] at hn; cases hn⟩, hb⟩
theorem rparts_len_u (r : Str) (h : r.length ≤ 1048576) : ∀ p ∈ rparts r, p.length ≤ 1048576 := by
  intro p hp
  unfold rparts at hp
  split at hp
  · have := part_len _ p hp; have := bodyS_len r; omega
  · simp at hp
set_option maxHeartbeats 2000000 in
theorem rstep_long_u (k : UInt8) (r : Str) (w : World) (hr : r ≠ []) (hl : (k :: r).length ≤ 1048576) :
    Calls Tryz.prog 122 #[.string (bs (k :: r))] w fun e w' => StRes (k :: r) e ∧ Below w.heap.size w w' := by
  have hlr : r.length ≤ 1048576 := by simp at hl; omega
  have HP := hide (fun W => rparts_u (bs r) W (by rw [bs_size]; exact hlr))
  rw [sl_bs] at HP
  have HPL := hide (rparts_len_u r hlr)
  have HST := hide (readStep_R k r hr)
  have hr0 : 0 < r.length := List.length_pos_iff.2 hr
  have hsz : (bs (k :: r)).size = r.length + 1 := by rw [bs_size]; rfl
  have h2 : ¬ ((bs (k :: r)).size : Int) < 2 := by omega
  have htail : (bs (k :: r)).extract 1 (r.length + 1) = bs r := by have := tail_bs k r; rwa [hsz] at this
  have hpos : 0 < (bs (k :: r)).size := by omega
  have hne := ne_nil_at (bs (k :: r)) hpos
  have hhead := head_bs k r hpos
  have hp1 : (1 : Int) ≤ (bs (k :: r)).size := by omega
  clear hl hlr hr
  generalize rparts r = ps at *
  by_cases hk : k = 43 ∨ k = 61
  · have HND := hide (fun ao cap W (hh : Row W ao ps.length 1 (ps.map strV)) => rnode_u ps ao cap W hh (unhide HPL))
    have HST2 := hide ((unhide HST).trans (stR_node hk))
    have hk4 : ((k.toNat : Int) == 45) = false := by rcases hk with h | h <;> (rw [h]; rfl)
    have hkk : ((k.toNat : Int) != 43) = false ∨ (((k.toNat : Int) != 43) = true ∧ ((k.toNat : Int) != 61) = false) := by
      rcases hk with h | h
      · left; rw [h]; rfl
      · right; rw [h]; exact ⟨rfl, rfl⟩
    clear hk HST
    rcases hkk with hkk | ⟨hk1, hkk⟩
    all_goals
      go_enter Tryz.func122, Tryz.ntmps122
      go_wp2_with fail
      refine (unhide HP _).mono ?_
      rintro e w1 ⟨ao, cap, rfl, hrow, hb1⟩
      have HROW := hide hrow
      clear hrow
      go_wp2_with fail
      refine (unhide HND _ _ _ (unhide HROW)).mono ?_
      rintro e w2 ⟨⟨x, y, z, rfl, hx⟩, hb2⟩
      have HX := hide hx
      clear hx
      have hb12 := hb1.trans (hb2.mono hb1.size)
      obtain ⟨hc, hf⟩ := bcell hb12
      have hz : w.heap.size + 1 ≤ w2.heap.size := by have := hb12.size; simp at this; omega
      have HB0 : Hid (Below w.heap.size w w2) := hide (((Below.refl _ _).alloc (Nat.le_refl _) _).trans (hb12.mono (by simp)))
      have hzl : w.heap.size < w2.heap.size := by omega
      have hzn : ¬ w.heap.size = w2.heap.size := by omega
      clear hb1 hb2 hb12
      generalize node3 ps = R at *
      go_wp2
      refine bodyPost_ret (v := .tuple #[.agg #[.int .u8 k.toNat, .int .i64 x, .int .i64 y, .string z], .bool R.isSome]) (by simp [results, Tryz.results122, go_sem, hc, hzl]) rfl ⟨?_, ?_⟩
      · cases R with
        | none => exact stRes_none (unhide HST2) _ _ _ _
        | some n =>
          obtain ⟨e1, e2, e3⟩ := unhide HX n rfl
          rw [e1, e2, e3]
          exact stRes_some (unhide HST2)
      · exact (((((unhide HB0).setCell (Nat.le_refl _) _).setCell (Nat.le_refl _) _).setCell (Nat.le_refl _) _).setCell (Nat.le_refl _) _).alloc (by simp; omega) _
  · have hk1 : ((k.toNat : Int) != 43) = true := by
      rw [bne_iff_ne]; intro h; exact hk (.inl (UInt8.toNat_inj.1 (by simpa using (by omega : k.toNat = 43))))
    have hk2 : ((k.toNat : Int) != 61) = true := by
      rw [bne_iff_ne]; intro h; exact hk (.inr (UInt8.toNat_inj.1 (by simpa using (by omega : k.toNat = 61))))
    by_cases hk3 : k = 45
    · by_cases hp : ps.length = 1
      · obtain ⟨a, rfl⟩ := List.length_eq_one_iff.1 hp
        have HNU := hide (fun W => rnumber_u (bs a) 1 99 W (by rw [bs_size]; exact unhide HPL a (by simp)) (by omega) (by omega))
        rw [sl_bs] at HNU
        have HST2 := hide ((unhide HST).trans (stR_one hk3))
        have hk4 : ((k.toNat : Int) == 45) = true := by rw [hk3]; rfl
        have hk5 : (k.toNat : Int) = 45 := by rw [hk3]; rfl
        have hnp : ((number a 1 99).2 = true ∧ 0 < numR a 1 99 ∧ numR a 1 99 = (number a 1 99).1) ∨ ((number a 1 99).2 = false ∧ numR a 1 99 = -1) := by
          cases hq : (number a 1 99).2
          · exact .inr ⟨rfl, numR_neg hq⟩
          · obtain ⟨p1, p2, p3⟩ := numR_pos hq
            exact .inl ⟨rfl, by omega, p3⟩
        clear hk HST hk1 hk2 hk3 hp
        generalize (number a 1 99).1 = x at *
        generalize (number a 1 99).2 = q at *
        generalize numR a 1 99 = y at *
        go_enter Tryz.func122, Tryz.ntmps122
        go_wp2_with fail
        refine (unhide HP _).mono ?_
        rintro e w1 ⟨ao, cap, rfl, hrow, hb1⟩
        obtain ⟨g, hao, hg, hcell⟩ := str_cell hrow (Below.refl _ _) (k := 0) (by simp)
        subst hao
        have hcell2 : w1.cell? ⟨g, 0, none⟩ = some (.string (bs a)) := hcell
        clear hcell hrow
        simp only [List.length_singleton]
        go_wp2_with fail
        refine (unhide HNU _).mono ?_
        rintro e w2 ⟨rfl, hb2⟩
        have hb12 := hb1.trans (hb2.mono hb1.size)
        obtain ⟨hc, hf⟩ := bcell hb12
        have hz : w.heap.size + 1 ≤ w2.heap.size := by have := hb12.size; simp at this; omega
        have HB0 : Hid (Below w.heap.size w w2) := hide (((Below.refl _ _).alloc (Nat.le_refl _) _).trans (hb12.mono (by simp)))
        have hzl : w.heap.size < w2.heap.size := by omega
        clear hb1 hb2 hb12
        rcases hnp with ⟨rfl, hy, rfl⟩ | ⟨rfl, rfl⟩
        · go_wp2
          refine bodyPost_ret (v := .tuple #[.agg #[.int .u8 45, .int .i64 y, .int .i64 0, .string ⟨#[]⟩], .bool true]) (by simp [results, Tryz.results122, go_sem, hc]) rfl ⟨?_, ?_⟩
          · exact stRes_some (st := ⟨45, ⟨y, 0, []⟩⟩) (unhide HST2)
          · exact ((((unhide HB0).setCell (Nat.le_refl _) _).setCell (Nat.le_refl _) _).setCell (Nat.le_refl _) _).setCell (Nat.le_refl _) _
        · go_wp2
          refine bodyPost_ret (v := .tuple #[.agg #[.int .u8 45, .int .i64 (-1), .int .i64 0, .string ⟨#[]⟩], .bool false]) (by simp [results, Tryz.results122, go_sem, hc]) rfl ⟨?_, ?_⟩
          · exact stRes_none (unhide HST2) _ _ _ _
          · exact ((((unhide HB0).setCell (Nat.le_refl _) _).setCell (Nat.le_refl _) _).setCell (Nat.le_refl _) _).setCell (Nat.le_refl _) _
      · have hk4 : ((k.toNat : Int) == 45) = true := by rw [hk3]; rfl
        have hp4 : ((ps.length : Int) == 1) = false := by rw [beq_eq_false_iff_ne]; omega
        have HST2 := hide ((unhide HST).trans (stR_none hk (fun h => absurd h hp)))
        clear hk HST hk3 hp
        go_enter Tryz.func122, Tryz.ntmps122
        go_wp2_with fail
        refine (unhide HP _).mono ?_
        rintro e w1 ⟨ao, cap, rfl, hrow, hb1⟩
        obtain ⟨hc, hf⟩ := bcell hb1
        have hz : w.heap.size + 1 ≤ w1.heap.size := by have := hb1.size; simp at this; omega
        have HB0 : Hid (Below w.heap.size w w1) := hide (((Below.refl _ _).alloc (Nat.le_refl _) _).trans (hb1.mono (by simp)))
        have hzl : w.heap.size < w1.heap.size := by omega
        clear hb1 hrow
        go_wp2
        refine bodyPost_ret (v := .tuple #[.agg #[.int .u8 0, .int .i64 0, .int .i64 0, .string ByteArray.empty], .bool false]) (by simp [results, Tryz.results122, go_sem, hc]; rfl) rfl ⟨stRes_none (unhide HST2) _ _ _ _, ?_⟩
        exact ((((unhide HB0).setCell (Nat.le_refl _) _).setCell (Nat.le_refl _) _).setCell (Nat.le_refl _) _).setCell (Nat.le_refl _) _
    · have hk4 : ((k.toNat : Int) == 45) = false := by
        rw [beq_eq_false_iff_ne]; intro h; exact hk3 (UInt8.toNat_inj.1 (by simpa using (by omega : k.toNat = 45)))
      have HST2 := hide ((unhide HST).trans (stR_none hk (fun _ => hk3)))
      clear hk hk3 HST
      go_enter Tryz.func122, Tryz.ntmps122
      go_wp2_with fail
      refine (unhide HP _).mono ?_
      rintro e w1 ⟨ao, cap, rfl, hrow, hb1⟩
      obtain ⟨hc, hf⟩ := bcell hb1
      have hz : w.heap.size + 1 ≤ w1.heap.size := by have := hb1.size; simp at this; omega
      have HB0 : Hid (Below w.heap.size w w1) := hide (((Below.refl _ _).alloc (Nat.le_refl _) _).trans (hb1.mono (by simp)))
      have hzl : w.heap.size < w1.heap.size := by omega
      clear hb1 hrow
      go_wp2
      refine bodyPost_ret (v := .tuple #[.agg #[.int .u8 0, .int .i64 0, .int .i64 0, .string ByteArray.empty], .bool false]) (by simp [results, Tryz.results122, go_sem, hc]; rfl) rfl ⟨stRes_none (unhide HST2) _ _ _ _, ?_⟩
      exact ((((unhide HB0).setCell (Nat.le_refl _) _).setCell (Nat.le_refl _) _).setCell (Nat.le_refl _) _).setCell (Nat.le_refl _) _
theorem rstep_u (s : ByteArray) (w : World) (hs : s.size ≤ 1048576) :
    Calls Tryz.prog 122 #[.string s] w fun e w' => StRes (sl s) e ∧ Below w.heap.size w w' := by
  by_cases h : s.size < 2
  · exact rstep_short s w h
  · obtain ⟨l, rfl⟩ : ∃ l, s = bs l := ⟨sl s, (bs_sl s).symm⟩
    rw [sl_bs]
    rw [bs_size] at h hs
    match l, h, hs with
    | [], h, _ => simp at h
    | [k], h, _ => simp at h
    | k :: a :: r, _, hs => exact rstep_long_u k (a :: r) w (by simp) hs
set_option maxHeartbeats 2000000 in
theorem rsteps_u (s : ByteArray) (w : World) (hs : s.size ≤ 1048576) :
    Calls Tryz.prog 87 #[.string s] w fun e w' => (((readSteps (cut (sl s))).length < (cut (sl s)).length ∧ e = .returned (.tuple #[.slice none 0 0, .int .i64 (readSteps (cut (sl s))).length])) ∨ (¬ (readSteps (cut (sl s))).length < (cut (sl s)).length ∧ ∃ ao cap, e = .returned (.tuple #[.slice ao (readSteps (cut (sl s))).length cap, .int .i64 (-1)]) ∧ w'.ownsRow w.heap.size 157 4 (.slice ao (readSteps (cut (sl s))).length cap) (readSteps (cut (sl s))).length (stCells (readSteps (cut (sl s)))))) ∧ Below w.heap.size w w' := by
  obtain ⟨i0, hi, hz0, hz1, hz2⟩ := info_parts Tryz.infoRStep
  have HC := hide (fun W => rcut_u s W hs)
  have hrl : (cut (sl s)).length ≤ 1048576 := by have := cut_length_le (sl s); rw [sl_length] at this; omega
  have HRM : Hid (∀ r ∈ cut (sl s), r.length ≤ 1048576) := hide (fun r hr => by have := cut_mem_len (sl s) r hr; rw [sl_length] at this; omega)
  generalize cut (sl s) = rs at *
  go_enter Tryz.func87, Tryz.ntmps87
  go_wp2_with fail
  refine (unhide HC _).mono ?_
  rintro e w1 ⟨ao, cap, rfl, hrow, hb1⟩
  have HROW := hide hrow
  have HB1 := hide hb1
  clear hrow hb1
  go_wp2
  go_loopw [4, 6] (fun v i wr => ∃ k : Nat, ∃ ss : List St, k ≤ rs.length ∧ i = .int .i64 k ∧ wr.ownsRow w1.heap.size 157 4 v k (stCells ss) ∧ Below w1.heap.size w1 wr ∧ Hid (RsInv rs k ss)) (fun _ i _ => rs.length - (intOf i).toNat)
  case atStart => exact ⟨0, [], Nat.zero_le _, rfl, World.ownsRow_nil _ _ _ _, Below.refl _ _, hide ⟨rfl, rfl⟩⟩
  case round =>
    obtain ⟨k, ss, hk, rfl, hown, hbel, HI⟩ := hrel
    by_cases hlt : k < rs.length
    · obtain ⟨g, hao, hg, hcell⟩ := str_cell (unhide HROW) hbel hlt
      rw [hao]
      have hrl2 : (rs[k]).length ≤ 1048576 := unhide HRM _ (List.getElem_mem hlt)
      have HP := hide (fun W => rstep_u (bs rs[k]) W (by rw [bs_size]; exact hrl2))
      rw [sl_bs] at HP
      have hsz := hbel.size
      clear hao
      generalize hr : rs[k] = r at *
      have HR := hide hr; clear hr
      go_wp2_with fail
      refine (unhide HP _).mono ?_
      rintro e w3 ⟨⟨x0, x1, x2, x3, rfl, hx⟩, hb3⟩
      have HOWN := hide (own_below hown hb3)
      have HB3 := hide (hbel.trans (hb3.mono hsz))
      have hz3 : wr.heap.size ≤ w3.heap.size := hb3.size
      have HX := hide hx
      clear hx hb3 HP
      cases hR : readStep r with
      | none =>
        have HS := hide (rs_short (unhide HI) hlt (by rw [unhide HR]; exact hR))
        clear hR
        go_wp2
        go_ret2
        refine ⟨.inl ⟨(unhide HS).2, by rw [(unhide HS).1]; rfl⟩, ?_⟩
        exact (unhide HB1).trans (((unhide HB3).alloc (by omega) _).mono (unhide HB1).size)
      | some st =>
        have HN := hide (rsInv_yes (unhide HI) hlt (n := st) (by rw [unhide HR]; exact hR))
        obtain ⟨rfl, rfl, rfl, rfl⟩ := unhide HX st hR
        clear HX hR
        go_wp2_with (first
          | (at_builtin; (refine wpList_append_own _ rfl _ _ 151 rfl w1.heap.size 157 i0 (.agg #[.int .u8 0, .int .i64 0, .int .i64 0, .string ByteArray.empty]) 4 40 Tryz.underlying151 hi hz0 hz1 hz2 rfl (by decide) _ _ _ rfl (own_below (unhide HOWN) (((Below.refl _ _).alloc (Nat.le_refl _) _).alloc (by simp) _)) ⟨w3.heap.size + 1, 0, none⟩ 1 1 [.int .u8 st.kind.toNat, .int .i64 st.node.id, .int .i64 st.node.parent, .string (bs st.node.name)] rfl rfl (news_four' _ _ _ _ _ _) (by simp [Value.oneCell']) (by unfold maxLen; omega) (by omega) (by have := hbel.size; simp; omega) ?_))
          | go_in)
        intro v' w4 hown' hgrow _
        have hb4 : Below w1.heap.size w1 w4 := ((((unhide HB3).alloc (by omega) _).alloc (by simp; omega) _)).grown hgrow (by simp; omega) (own_ge hown)
        have hown2 : w4.ownsRow w1.heap.size 157 4 v' (k + 1) (stCells (ss ++ [st])) := by rw [stCells_snoc]; exact hown'
        clear hgrow hown hbel hown'
        go_wp2
        go_roundw
        case rel => exact ⟨k + 1, _, by omega, by go_num, hown2, hb4, HN⟩
        case measure => simp [intOf]; omega
    · have HF := hide (rs_full (unhide HI) hlt hk)
      go_wp2
      go_ret2
      obtain ⟨f1, f2, f3⟩ := unhide HF
      obtain ⟨ao', cap', rfl, hr⟩ := row_of_owns hown
      rw [f2]
      rw [← f3] at hown
      refine ⟨.inr ⟨by rw [← f2]; exact f1, ao', cap', by rw [f3]; rfl, own_low hown (unhide HB1).size⟩, (unhide HB1).trans (hbel.mono (unhide HB1).size)⟩
end Go.Proofs.YtdcjimlhaklhfabGreatDoor

namespace Go.Proofs.YtdcjimlhaklhfabGreatDoor
open Go.RowKit
theorem rep_tr {ns : List Nd} {t : Tr} (h : Rep ns t) : trOf ns = t := funext fun i => h.look i
theorem one_step {l : List St} (h : l.length = 1) : ∃ s, l = [s] := by
  match l, h with
  | [s], _ => exact ⟨s, rfl⟩
/-- A list of the document's that holds a right tree, in memory. -/
def ListAt (w : World) (v : Value) : Prop := ∃ lo lc ns t, v = .slice lo ns.length lc ∧ Row w lo ns.length 3 (ndCells ns) ∧ Rep ns t ∧ Valid t
theorem ListAt.below {w w' : World} {v : Value} (h : ListAt w v) (hb : Below w.heap.size w w') : ListAt w' v := by
  obtain ⟨lo, lc, ns, t, h1, h2, h3, h4⟩ := h
  exact ⟨lo, lc, ns, t, h1, h2.below hb, h3, h4⟩
set_option maxHeartbeats 4000000 in
set_option maxRecDepth 100000 in
theorem redited_any (v : Value) (s : ByteArray) (w : World) (hv : ListAt w v) (hs : s.size ≤ 1048576) :
    Calls Tryz.prog 49 #[v, .string s] w fun e w' => (∃ tx : ByteArray, e = .returned (.string tx)) ∧ Below w.heap.size w w' := by
  have HC := hide (fun W => rcut_u s W hs)
  have hrl : (cut (sl s)).length ≤ 1048576 := by have := cut_length_le (sl s); rw [sl_length] at this; omega
  have HRM : Hid (∀ r ∈ cut (sl s), r.length ≤ 1048576) := hide (fun r hr => by have := cut_mem_len (sl s) r hr; rw [sl_length] at this; omega)
  have HV0 := hide hv
  clear hv
  generalize cut (sl s) = rs at *
  go_enter Tryz.func49, Tryz.ntmps49
  go_wp2_with fail
  refine (unhide HC _).mono ?_
  rintro e w1 ⟨ro, rc, rfl, hrow, hb1⟩
  have HROW := hide hrow
  have HV1 := hide ((unhide HV0).below hb1)
  have HB1 := hide hb1
  clear hrow hb1
  go_wp2
  go_loopw [0, 6] (fun x i wr => ∃ k : Nat, k ≤ rs.length ∧ i = .int .i64 k ∧ Hid (ListAt wr x) ∧ Hid (Below w1.heap.size w1 wr)) (fun _ i _ => rs.length - (intOf i).toNat)
  case atStart => exact ⟨0, Nat.zero_le _, rfl, HV1, hide (Below.refl _ _)⟩
  case round =>
    obtain ⟨k, hk, rfl, HL, HB⟩ := hrel
    by_cases hlt : k < rs.length
    · obtain ⟨g, hao, hg, hcell⟩ := str_cell (unhide HROW) (unhide HB) hlt
      rw [hao]
      have hrl2 : (rs[k]).length ≤ 1048576 := unhide HRM _ (List.getElem_mem hlt)
      have HST := hide (fun W => rsteps_u (bs rs[k]) W (by rw [bs_size]; exact hrl2))
      rw [sl_bs] at HST
      have HOKS := hide (readSteps_ok (cut rs[k]))
      clear hao
      generalize cut rs[k] = cr at *
      generalize readSteps cr = ss at *
      generalize rs[k] = r at *
      go_wp2_with fail
      refine (unhide HST _).mono ?_
      rintro e w2 ⟨hres, hb2⟩
      have HB2 := hide ((unhide HB).trans (hb2.mono (unhide HB).size))
      have HL2 := hide ((unhide HL).below hb2)
      clear hb2 hcell
      rcases hres with ⟨_, rfl⟩ | ⟨_, so, sc, rfl, hos⟩
      · have hd : decide (((ss.length : Nat) : Int) < 0) = false := by simp
        go_wp2
        go_roundw
        case rel => exact ⟨k + 1, by omega, by go_num, HL2, HB2⟩
        case measure => simp [intOf]; omega
      · by_cases h1 : ss.length = 1
        · obtain ⟨st, rfl⟩ := one_step h1
          have hst := unhide HOKS st (by simp)
          obtain ⟨q, hso, hq, c0, c1, c2, c3⟩ := st_cells (row_of hos) (k := 0) (by simp)
          simp only [List.getElem_cons_zero, Nat.zero_mul, Nat.zero_add] at c0 c1 c2 c3
          obtain ⟨lo, lc, ns, t, hx, hr, hrep, hval⟩ := unhide HL2
          have hnl := rep_len hrep
          have HDO := hide (rdo_any ns st lo lc w2 hr (by omega) hst)
          rw [doR_same hrep hval hst] at HDO
          have HRS := hide (fun h => (⟨rep_step hrep hval hst h, valid_step hval hst⟩ : Rep (lastR ns st) (stepT t st) ∧ Valid (stepT t st)))
          subst hx
          rw [hso]
          simp only [List.length_cons, List.length_nil, Nat.zero_add]
          clear hso hr hrep hval hst hos h1
          generalize lastR ns st = ns2 at *
          generalize stepT t st = t2 at *
          generalize stepE t st = er at *
          go_wp2_with fail
          refine (unhide HDO).mono ?_
          rintro e w3 ⟨hd3, hb3⟩
          have HB3 := hide ((unhide HB2).trans (hb3.mono (unhide HB2).size))
          have HL3 := hide ((unhide HL2).below hb3)
          clear hb3 c0 c1 c2 c3
          rcases hd3 with ⟨hne, rfl⟩ | ⟨he0, do', dc, rfl, hr3⟩
          · have hE : (er == 0) = false := by rw [beq_eq_false_iff_ne]; exact hne
            go_wp2
            go_roundw
            case rel => exact ⟨k + 1, by omega, by go_num, HL3, HB3⟩
            case measure => simp [intOf]; omega
          · have HL4 : Hid (ListAt w3 (.slice do' ns2.length dc)) := hide ⟨do', dc, ns2, t2, rfl, hr3, (unhide HRS he0).1, (unhide HRS he0).2⟩
            clear hr3
            go_wp2
            go_roundw
            case rel => exact ⟨k + 1, by omega, by go_num, HL4, HB3⟩
            case measure => simp [intOf]; omega
        · have hd : ((ss.length : Int) == 1) = false := by rw [beq_eq_false_iff_ne]; omega
          generalize ss.length = n at *
          clear hos
          go_wp2
          go_roundw
          case rel => exact ⟨k + 1, by omega, by go_num, HL2, HB2⟩
          case measure => simp [intOf]; omega
    · obtain ⟨lo, lc, ns, t, hx, hr, hrep, hval⟩ := unhide HL
      have hnl := rep_len hrep
      have HP := hide (print_any ns lo lc wr hr (by omega) (by rw [rep_tr hrep]; exact hval.ok))
      subst hx
      clear hr hrep hval
      go_wp2_with fail
      refine (unhide HP).mono ?_
      rintro e w2 ⟨rfl, hb2⟩
      have HB2 := hide ((unhide HB1).trans (((unhide HB).trans (hb2.mono (unhide HB).size)).mono (unhide HB1).size))
      clear hb2
      go_wp2
      go_ret
      exact ⟨⟨_, rfl⟩, unhide HB2⟩
end Go.Proofs.YtdcjimlhaklhfabGreatDoor
