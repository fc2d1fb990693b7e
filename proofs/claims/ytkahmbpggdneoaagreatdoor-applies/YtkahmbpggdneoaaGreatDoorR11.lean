import Derived.Test.YtkahmbpggdneoaaGreatDoorR10
import Derived.Test.YtkahmbpggdneoaaGreatDoorRPure5
namespace Go.Proofs.YtkahmbpggdneoaaGreatDoor
open Go.RowKit
set_option maxHeartbeats 2000000 in
theorem lay_any (ns : List Nd) (x : Nd) (b : Bool) (ao : Option Addr) (cap : Nat) (w : World) (hrow : Row w ao ns.length 3 (ndCells ns)) (hl : ns.length ≤ 4000) :
    Calls Tryz.prog 53 #[.slice ao ns.length cap, .agg #[.int .i64 x.id, .int .i64 x.parent, .string (bs x.name)], .bool b] w fun e w' => (∃ ao' cap', e = .returned (.slice ao' (layR ns x b).length cap') ∧ Row w' ao' (layR ns x b).length 3 (ndCells (layR ns x b))) ∧ Below w.heap.size w w' := by
  obtain ⟨i0, hi, hz0, hz1, hz2⟩ := info_parts Tryz.infoRNode
  obtain ⟨w0, hw0⟩ : ∃ w0, w.alloc (Obj.cells #[.int .i64 x.id, .int .i64 x.parent, .string (bs x.name)] 64) = w0 := ⟨_, rfl⟩
  have hbw : Below w.heap.size w w0 := by rw [← hw0]; exact (Below.refl _ _).alloc (Nat.le_refl _) _
  have HBW := hide hbw
  have HROW := hide (hrow.below hbw)
  have hlt0 : w.heap.size < w0.heap.size := by rw [← hw0]; simp
  have HX : Hid (w0.cell? ⟨w.heap.size, 0, none⟩ = some (.int .i64 x.id) ∧ w0.cell? ⟨w.heap.size, 1, none⟩ = some (.int .i64 x.parent) ∧ w0.cell? ⟨w.heap.size, 2, none⟩ = some (.string (bs x.name))) := by
    apply hide; rw [← hw0]
    exact ⟨news_three _ _ _ _ 0 _ rfl, news_three _ _ _ _ 1 _ rfl, news_three _ _ _ _ 2 _ rfl⟩
  clear hrow hbw
  go_enter Tryz.func53, Tryz.ntmps53
  go_wp2
  try rw [hw0]
  clear hw0
  go_loopw [7, 8] (fun v i wr => ∃ k : Nat, ∃ ns' : List Nd, k ≤ ns.length ∧ i = .int .i64 k ∧ wr.ownsRow w0.heap.size 64 3 v ns'.length (ndCells ns') ∧ Below w0.heap.size w0 wr ∧ Hid (LayInv ns x k ns')) (fun _ i _ => ns.length - (intOf i).toNat)
  case atStart => exact ⟨0, [], Nat.zero_le _, rfl, World.ownsRow_nil _ _ _ _, Below.refl _ _, hide rfl⟩
  case round =>
    obtain ⟨k, ns', hk, rfl, hown, hbel, HI⟩ := hrel
    have hnl := layInv_len (unhide HI)
    obtain ⟨hc, _⟩ := bcell hbel
    have x0 := (hc _ 0 hlt0).trans (unhide HX).1
    have x1 := (hc _ 1 hlt0).trans (unhide HX).2.1
    have x2 := (hc _ 2 hlt0).trans (unhide HX).2.2
    clear hc
    by_cases hlt : k < ns.length
    · obtain ⟨g, hao, hg, c0, c1, c2⟩ := nd_cells (unhide HROW) hbel hlt
      rw [hao]
      have hk0 : (0 : Int) ≤ k := by omega
      have hk1 : (k : Int) < ns.length := by omega
      have hsz := hbel.size
      clear hao
      cases hq : ((ns[k]).id != x.id)
      · have HI2 := hide (layInv_no (unhide HI) hlt hq)
        generalize ns[k] = nd at *
        go_wp2
        go_quiet (fail)
        go_wp2
        go_roundw
        case rel => exact ⟨k + 1, ns', by omega, by go_num, own_below hown (below_drewN (Below.refl _ _) _), below_drewN hbel _, HI2⟩
        case measure => simp [intOf]; omega
      · have HI2 := hide (layInv_yes (unhide HI) hlt hq)
        generalize ns[k] = nd at *
        go_wp2
        go_quiet (fail)
        go_wp2_with (first
          | (at_builtin; (refine wpList_append_own _ rfl _ _ 41 rfl w0.heap.size 64 i0 (.agg #[.int .i64 0, .int .i64 0, .string ByteArray.empty]) 3 32 Tryz.underlying41 hi hz0 hz1 hz2 rfl (by decide) _ _ _ rfl (own_below hown ((below_drewN (Below.refl _ _) _).alloc (by simp) _)) ⟨wr.heap.size, 0, none⟩ 1 1 [.int .i64 nd.id, .int .i64 nd.parent, .string (bs nd.name)] rfl rfl (news_three _ _ _ _) (by simp [Value.oneCell']) (by unfold maxLen; omega) (by omega) (by simp; omega) ?_))
          | go_in)
        intro v' w4 hown' hgrow _
        have hb4 : Below w0.heap.size w0 w4 := ((below_drewN hbel _).alloc (by simp; omega) _).grown hgrow (by simp; omega) (own_ge hown)
        have hown2 : w4.ownsRow w0.heap.size 64 3 v' (ns' ++ [nd]).length (ndCells (ns' ++ [nd])) := by rw [ndCells_snoc, List.length_append]; exact hown'
        clear hgrow hown hbel hown'
        go_wp2
        go_roundw
        case rel => exact ⟨k + 1, _, by omega, by go_num, hown2, hb4, HI2⟩
        case measure => simp [intOf]; omega
    · have HF := hide (layInv_end (unhide HI) hlt)
      have hsz := hbel.size
      cases b
      · go_wp2
        go_ret
        rw [(unhide HF).1]
        obtain ⟨ao', cap', rfl, hr⟩ := row_of_owns hown
        exact ⟨⟨ao', cap', rfl, hr⟩, (unhide HBW).trans (hbel.mono (unhide HBW).size)⟩
      · go_wp2_with (first
          | (at_builtin; (refine wpList_append_own _ rfl _ _ 41 rfl w0.heap.size 64 i0 (.agg #[.int .i64 0, .int .i64 0, .string ByteArray.empty]) 3 32 Tryz.underlying41 hi hz0 hz1 hz2 rfl (by decide) _ _ _ rfl (own_below hown ((Below.refl _ _).alloc (by simp) _)) ⟨wr.heap.size, 0, none⟩ 1 1 [.int .i64 x.id, .int .i64 x.parent, .string (bs x.name)] rfl rfl (news_three _ _ _ _) (by simp [Value.oneCell']) (by unfold maxLen; omega) (by omega) (by simp; omega) ?_))
          | go_in)
        intro v' w4 hown' hgrow _
        have hb4 : Below w0.heap.size w0 w4 := (hbel.alloc (by omega) _).grown hgrow (by simp; omega) (own_ge hown)
        have hown2 : w4.ownsRow w0.heap.size 64 3 v' (ns' ++ [x]).length (ndCells (ns' ++ [x])) := by rw [ndCells_snoc, List.length_append]; exact hown'
        clear hgrow hown hbel hown'
        go_wp2
        go_ret
        rw [(unhide HF).2]
        obtain ⟨ao', cap', rfl, hr⟩ := row_of_owns hown2
        exact ⟨⟨ao', cap', rfl, hr⟩, (unhide HBW).trans (hb4.mono (unhide HBW).size)⟩
end Go.Proofs.YtkahmbpggdneoaaGreatDoor
