import Derived.Test.YtkahmbpggdneoaaGreatDoorR11
namespace Go.Proofs.YtkahmbpggdneoaaGreatDoor
open Go.RowKit
def DoRes (_ns : List Nd) (E : Int) (L : List Nd) (e : Ending) (w' : World) : Prop :=
  (E ≠ 0 ∧ e = .returned (.tuple #[.slice none 0 0, .int .i64 E])) ∨ (E = 0 ∧ ∃ ao' cap', e = .returned (.tuple #[.slice ao' L.length cap', .int .i64 0]) ∧ Row w' ao' L.length 3 (ndCells L))
theorem doRes_no {ns : List Nd} {E : Int} {L : List Nd} {w' : World} (c : Int) (h : E = c) (hc : c ≠ 0) : DoRes ns E L (.returned (.tuple #[.slice none 0 0, .int .i64 c])) w' := .inl ⟨by rw [h]; exact hc, by rw [h]⟩
set_option maxHeartbeats 2000000 in
set_option maxRecDepth 100000 in
theorem rdo_del (ns : List Nd) (x : Nd) (ao : Option Addr) (cap : Nat) (w : World) (hrow : Row w ao ns.length 3 (ndCells ns)) (hl : ns.length ≤ 4000) :
    Calls Tryz.prog 35 #[.slice ao ns.length cap, .agg #[.int .u8 45, .int .i64 x.id, .int .i64 x.parent, .string (bs x.name)]] w fun e w' => DoRes ns (delR ns x.id) (layR ns x false) e w' ∧ Below w.heap.size w w' := by
  obtain ⟨w0, hw0⟩ : ∃ w0, (w.alloc (Obj.cells #[.int .u8 45, .int .i64 x.id, .int .i64 x.parent, .string (bs x.name)] 82)).alloc (Obj.cells #[.int .i64 x.id, .int .i64 x.parent, .string (bs x.name)] 64) = w0 := ⟨_, rfl⟩
  have hbw : Below w.heap.size w w0 := by rw [← hw0]; exact ((Below.refl _ _).alloc (Nat.le_refl _) _).alloc (by simp) _
  have HBW := hide hbw
  have hrow0 := hrow.below hbw
  have HROW := hide hrow0
  have hlt0 : w.heap.size < w0.heap.size := by rw [← hw0]; simp; omega
  have hlt1 : w.heap.size + 1 < w0.heap.size := by rw [← hw0]; simp
  have k0 : w0.cell? ⟨w.heap.size, 0, none⟩ = some (.int .u8 45) := by
    rw [← hw0, ((Below.refl _ _).alloc (Nat.le_refl _) _).cell (p := ⟨w.heap.size, 0, none⟩) (by simp)]
    exact World.news_of_block (cs := #[.int .u8 45, .int .i64 x.id, .int .i64 x.parent, .string (bs x.name)]) (heap_alloc_new w _) 0 _ rfl
  have x0 : w0.cell? ⟨w.heap.size + 1, 0, none⟩ = some (.int .i64 x.id) := by rw [← hw0]; exact news_three' _ _ _ _ _ 0 _ rfl
  have x1 : w0.cell? ⟨w.heap.size + 1, 1, none⟩ = some (.int .i64 x.parent) := by rw [← hw0]; exact news_three' _ _ _ _ _ 1 _ rfl
  have x2 : w0.cell? ⟨w.heap.size + 1, 2, none⟩ = some (.string (bs x.name)) := by rw [← hw0]; exact news_three' _ _ _ _ _ 2 _ rfl
  have HF := hide (find_any ns x.id ao cap w0 hrow0 hl)
  have HLAY := hide (fun m => lay_any ns x false ao cap (w0.drewN m) (row_drewN hrow0 m) hl)
  have hbd := findR_bd ns x.id
  have HD : Hid (delR ns x.id = if findR ns x.id < 0 then 9 else if kidsR ns x.id then 10 else 0) := hide rfl
  obtain ⟨b1, b2, _⟩ := hbd
  clear hrow hbw hrow0
  generalize delR ns x.id = E at *
  generalize findR ns x.id = f at *
  by_cases hf : f < 0
  · have HE : Hid (E = 9) := by apply hide; rw [unhide HD, if_pos hf]
    have hd : decide (0 ≤ f) = false := decide_eq_false (by omega)
    clear HD HLAY
    go_enter Tryz.func35, Tryz.ntmps35
    go_wp2_with fail
    try rw [hw0]
    clear hw0
    refine (unhide HF).mono ?_
    rintro e w' ⟨rfl, rfl⟩
    go_wp2
    go_loopw [8] (fun i wr => ∃ k nq : Nat, k ≤ ns.length ∧ i = .int .i64 k ∧ wr = w'.drewN nq) (fun i _ => ns.length - (intOf i).toNat)
    case atStart => exact ⟨0, 0, Nat.zero_le _, rfl, rfl⟩
    case round =>
      obtain ⟨k, nq, hk, rfl, rfl⟩ := hrel
      by_cases hlt : k < ns.length
      · go_wp2
        go_quiet (fail)
        go_wp2
        go_roundw
        case rel => exact ⟨k + 1, _, by omega, by go_num, rfl⟩
        case measure => simp [intOf]; omega
      · go_wp2
        go_ret2
        exact ⟨doRes_no 9 (unhide HE) (by decide), below_drewN (unhide HBW) _⟩
  · have hd : decide (0 ≤ f) = true := decide_eq_true (by omega)
    have hf0 : 0 ≤ f := by omega
    have HD2 : Hid (E = if kidsR ns x.id then 10 else 0) := by apply hide; rw [unhide HD, if_neg hf]
    clear HD
    go_enter Tryz.func35, Tryz.ntmps35
    go_wp2_with fail
    try rw [hw0]
    clear hw0
    refine (unhide HF).mono ?_
    rintro e w' ⟨rfl, rfl⟩
    go_wp2
    go_loopw [8] (fun i wr => ∃ k nq : Nat, k ≤ ns.length ∧ i = .int .i64 k ∧ wr = w'.drewN nq ∧ Hid (NoIn (kidAt ns x.id) 0 k)) (fun i _ => ns.length - (intOf i).toNat)
    case atStart => exact ⟨0, 0, Nat.zero_le _, rfl, rfl, hide (fun j h1 h2 => by omega)⟩
    case round =>
      obtain ⟨k, nq, hk, rfl, rfl, HN⟩ := hrel
      by_cases hlt : k < ns.length
      · obtain ⟨g, hao, hg, _, c1, _⟩ := nd_cells (unhide HROW) (Below.refl _ _) hlt
        have HU : Hid (kidAt ns x.id k = ((ns[k]).parent == x.id)) := by apply hide; unfold kidAt; rw [ndAt_get _ _ hlt]
        rw [hao]
        clear hao
        have hk0 : (0 : Int) ≤ k := by omega
        have hk1 : (k : Int) < ns.length := by omega
        cases hq : ((ns[k]).parent == x.id)
        · have HN2 := hide (noIn_succ (unhide HN) (by rw [unhide HU]; exact hq))
          generalize ns[k] = nd at *
          go_wp2
          go_quiet (fail)
          go_wp2
          go_roundw
          case rel => exact ⟨k + 1, _, by omega, by go_num, rfl, HN2⟩
          case measure => simp [intOf]; omega
        · have HE : Hid (E = 10) := by
            apply hide
            have e : scan (kidAt ns x.id) 0 ns.length = k := scan_hit (by omega) hlt (by rw [unhide HU]; exact hq) (unhide HN)
            rw [unhide HD2]; unfold kidsR; rw [e, if_pos (by simpa using hlt)]
          generalize ns[k] = nd at *
          go_wp2
          go_quiet (fail)
          go_wp2
          go_ret2
          exact ⟨doRes_no 10 (unhide HE) (by decide), below_drewN (below_drewN (unhide HBW) _) _⟩
      · have HE : Hid (E = 0) := by
          apply hide
          have e : scan (kidAt ns x.id) 0 ns.length = ns.length := scan_none (fun j h1 h2 => unhide HN j h1 (by omega))
          rw [unhide HD2]; unfold kidsR; rw [e, if_neg (by simp)]
        go_wp2_with fail
        refine (unhide HLAY _).mono ?_
        rintro e w2 ⟨⟨ao', cap', rfl, hr⟩, hb2⟩
        go_wp2
        go_ret2
        exact ⟨.inr ⟨unhide HE, ao', cap', rfl, hr⟩, (below_drewN (unhide HBW) nq).trans (hb2.mono (by simp; omega))⟩
end Go.Proofs.YtkahmbpggdneoaaGreatDoor
