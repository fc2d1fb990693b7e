import Derived.Test.YtkahmbpggdneoaaGreatDoorM7
namespace Go.Proofs.YtkahmbpggdneoaaGreatDoor
open Go.RowKit
def DoRes (_ns : List Nd) (E : Int) (L : List Nd) (e : Ending) (w' : World) : Prop :=
  (E ≠ 0 ∧ e = .returned (.tuple #[.slice none 0 0, .int .i64 E])) ∨ (E = 0 ∧ ∃ ao' cap', e = .returned (.tuple #[.slice ao' L.length cap', .int .i64 0]) ∧ Row w' ao' L.length 3 (ndCells L))
theorem doRes_no {ns : List Nd} {E : Int} {L : List Nd} {w' : World} (c : Int) (h : E = c) (hc : c ≠ 0) : DoRes ns E L (.returned (.tuple #[.slice none 0 0, .int .i64 c])) w' := .inl ⟨by rw [h]; exact hc, by rw [h]⟩
set_option maxHeartbeats 2000000 in
set_option maxRecDepth 100000 in
theorem rdo_del (ns : List Nd) (x : Nd) (ao : Option Addr) (cap : Nat) (w : World) (hrow : Row w ao ns.length 3 (ndCells ns)) (hl : ns.length ≤ 4000) :
    Calls Tryz.prog 35 #[.slice ao ns.length cap, .agg #[.int .u8 45, .int .i64 x.id, .int .i64 x.parent, .string (bs x.name)]] w fun e w' => DoRes ns (delR ns x.id) (layR ns x false) e w' ∧ Below w.heap.size w w' := by
  obtain ⟨w0, hw0⟩ : ∃ w0, (w.alloc (Obj.cells #[.int .u8 45, .int .i64 x.id, .int .i64 x.parent, .string (bs x.name)] 82)).alloc (Obj.cells #[.int .i64 x.id, .int .i64 x.parent, .string (bs x.name)] 64) = w0 := ⟨_, rfl⟩
  have hbw : Below w.heap.size w w0 := by rw [← hw0]; exact ((Below.refl _ _).alloc (Nat.le_refl _) _).alloc (by simp) _
  have HBW := hide hbw
  have hrow0 := hrow.below hbw
  have HROW := hide hrow0
  have hlt0 : w.heap.size < w0.heap.size := by rw [← hw0]; simp; omega
  have hlt1 : w.heap.size + 1 < w0.heap.size := by rw [← hw0]; simp
  have k0 : w0.cell? ⟨w.heap.size, 0, none⟩ = some (.int .u8 45) := by
    rw [← hw0, ((Below.refl _ _).alloc (Nat.le_refl _) _).cell (p := ⟨w.heap.size, 0, none⟩) (by simp)]
    exact World.news_of_block (cs := #[.int .u8 45, .int .i64 x.id, .int .i64 x.parent, .string (bs x.name)]) (heap_alloc_new w _) 0 _ rfl
  have x0 : w0.cell? ⟨w.heap.size + 1, 0, none⟩ = some (.int .i64 x.id) := by rw [← hw0]; exact news_three' _ _ _ _ _ 0 _ rfl
  have x1 : w0.cell? ⟨w.heap.size + 1, 1, none⟩ = some (.int .i64 x.parent) := by rw [← hw0]; exact news_three' _ _ _ _ _ 1 _ rfl
  have x2 : w0.cell? ⟨w.heap.size + 1, 2, none⟩ = some (.string (bs x.name)) := by rw [← hw0]; exact news_three' _ _ _ _ _ 2 _ rfl
  have HF := hide (find_any ns x.id ao cap w0 hrow0 hl)
  have HLAY := hide (fun m => lay_any ns x false ao cap (w0.drewN m) (row_drewN hrow0 m) hl)
  have hbd := findR_bd ns x.id
  have HD : Hid (delR ns x.id = if findR ns x.id < 0 then 9 else if kidsR ns x.id then 10 else 0) := hide rfl
  obtain ⟨b1, b2, _⟩ := hbd
  clear hrow hbw hrow0
  generalize delR ns x.id = E at *
  generalize findR ns x.id = f at *
  by_cases hf : f < 0
  · have HE : Hid (E = 9) := by apply hide; rw [unhide HD, if_pos hf]
    have hd : decide (0 ≤ f) = false := decide_eq_false (by omega)
    clear HD HLAY
    go_enter Tryz.func35, Tryz.ntmps35
    go_wp2_with fail
    try rw [hw0]
    clear hw0
    refine (unhide HF).mono ?_
    rintro e w' ⟨rfl, rfl⟩
    go_wp2
    go_loopw [8] (fun i wr => ∃ k nq : Nat, k ≤ ns.length ∧ i = .int .i64 k ∧ wr = w'.drewN nq) (fun i _ => ns.length - (intOf i).toNat)
    case atStart => exact ⟨0, 0, Nat.zero_le _, rfl, rfl⟩
    case round =>
      obtain ⟨k, nq, hk, rfl, rfl⟩ := hrel
      by_cases hlt : k < ns.length
      · go_wp2
        go_quiet (fail)
        go_wp2
        go_roundw
        case rel => exact ⟨k + 1, _, by omega, by go_num, rfl⟩
        case measure => simp [intOf]; omega
      · go_wp2
        go_ret2
        exact ⟨doRes_no 9 (unhide HE) (by decide), below_drewN (unhide HBW) _⟩
  · have hd : decide (0 ≤ f) = true := decide_eq_true (by omega)
    have hf0 : 0 ≤ f := by omega
    have HD2 : Hid (E = if kidsR ns x.id then 10 else 0) := by apply hide; rw [unhide HD, if_neg hf]
    clear HD
    go_enter Tryz.func35, Tryz.ntmps35
    go_wp2_with fail
    try rw [hw0]
    clear hw0
    refine (unhide HF).mono ?_
    rintro e w' ⟨rfl, rfl⟩
    go_wp2
    go_loopw [8] (fun i wr => ∃ k nq : Nat, k ≤ ns.length ∧ i = .int .i64 k ∧ wr = w'.drewN nq ∧ Hid (NoIn (kidAt ns x.id) 0 k)) (fun i _ => ns.length - (intOf i).toNat)
    case atStart => exact ⟨0, 0, Nat.zero_le _, rfl, rfl, hide (fun j h1 h2 => by omega)⟩
    case round =>
      obtain ⟨k, nq, hk, rfl, rfl, HN⟩ := hrel
      by_cases hlt : k < ns.length
      · obtain ⟨g, hao, hg, _, c1, _⟩ := nd_cells (unhide HROW) (Below.refl _ _) hlt
        have HU : Hid (kidAt ns x.id k = ((ns[k]).parent == x.id)) := by apply hide; unfold kidAt; rw [ndAt_get _ _ hlt]
        rw [hao]
        clear hao
        have hk0 : (0 : Int) ≤ k := by omega
        have hk1 : (k : Int) < ns.length := by omega
        cases hq : ((ns[k]).parent == x.id)
        · have HN2 := hide (noIn_succ (unhide HN) (by rw [unhide HU]; exact hq))
          generalize ns[k] = nd at *
          go_wp2
          go_quiet (fail)
          go_wp2
          go_roundw
          case rel => exact ⟨k + 1, _, by omega, by go_num, rfl, HN2⟩
          case measure => simp [intOf]; omega
        · have HE : Hid (E = 10) := by
            apply hide
            have e : scan (kidAt ns x.id) 0 ns.length = k := scan_hit (by omega) hlt (by rw [unhide HU]; exact hq) (unhide HN)
            rw [unhide HD2]; unfold kidsR; rw [e, if_pos (by simpa using hlt)]
          generalize ns[k] = nd at *
          go_wp2
          go_quiet (fail)
          go_wp2
          go_ret2
          exact ⟨doRes_no 10 (unhide HE) (by decide), below_drewN (below_drewN (unhide HBW) _) _⟩
      · have HE : Hid (E = 0) := by
          apply hide
          have e : scan (kidAt ns x.id) 0 ns.length = ns.length := scan_none (fun j h1 h2 => unhide HN j h1 (by omega))
          rw [unhide HD2]; unfold kidsR; rw [e, if_neg (by simp)]
        go_wp2_with fail
        refine (unhide HLAY _).mono ?_
        rintro e w2 ⟨⟨ao', cap', rfl, hr⟩, hb2⟩
        go_wp2
        go_ret2
        exact ⟨.inr ⟨unhide HE, ao', cap', rfl, hr⟩, (below_drewN (unhide HBW) nq).trans (hb2.mono (by simp; omega))⟩
end Go.Proofs.YtkahmbpggdneoaaGreatDoor

namespace Go.Proofs.YtkahmbpggdneoaaGreatDoor
open Go.RowKit
def putKind (kk f : Int) (E : Int) : Int := if kk = 43 ∧ 0 ≤ f then 8 else if kk = 61 ∧ f < 0 then 9 else E
set_option maxHeartbeats 4000000 in
set_option maxRecDepth 100000 in
theorem rdo_put (ns : List Nd) (kk : Int) (x : Nd) (ao : Option Addr) (cap : Nat) (w : World) (hrow : Row w ao ns.length 3 (ndCells ns)) (hl : ns.length ≤ 4000) (hkk : kk = 43 ∨ kk = 61) (hp0 : 0 ≤ x.parent) (hp1 : x.parent ≤ 1000) :
    Calls Tryz.prog 35 #[.slice ao ns.length cap, .agg #[.int .u8 kk, .int .i64 x.id, .int .i64 x.parent, .string (bs x.name)]] w fun e w' => DoRes ns (putKind kk (findR ns x.id) (putR ns x)) (layR ns x true) e w' ∧ Below w.heap.size w w' := by
  obtain ⟨w0, hw0⟩ : ∃ w0, (w.alloc (Obj.cells #[.int .u8 kk, .int .i64 x.id, .int .i64 x.parent, .string (bs x.name)] 82)).alloc (Obj.cells #[.int .i64 x.id, .int .i64 x.parent, .string (bs x.name)] 64) = w0 := ⟨_, rfl⟩
  have hbw : Below w.heap.size w w0 := by rw [← hw0]; exact ((Below.refl _ _).alloc (Nat.le_refl _) _).alloc (by simp) _
  have HBW := hide hbw
  have hrow0 := hrow.below hbw
  have hlt0 : w.heap.size < w0.heap.size := by rw [← hw0]; simp; omega
  have hlt1 : w.heap.size + 1 < w0.heap.size := by rw [← hw0]; simp
  have k0 : w0.cell? ⟨w.heap.size, 0, none⟩ = some (.int .u8 kk) := by
    rw [← hw0, ((Below.refl _ _).alloc (Nat.le_refl _) _).cell (p := ⟨w.heap.size, 0, none⟩) (by simp)]
    exact World.news_of_block (cs := #[.int .u8 kk, .int .i64 x.id, .int .i64 x.parent, .string (bs x.name)]) (heap_alloc_new w _) 0 _ rfl
  have x0 : w0.cell? ⟨w.heap.size + 1, 0, none⟩ = some (.int .i64 x.id) := by rw [← hw0]; exact news_three' _ _ _ _ _ 0 _ rfl
  have x1 : w0.cell? ⟨w.heap.size + 1, 1, none⟩ = some (.int .i64 x.parent) := by rw [← hw0]; exact news_three' _ _ _ _ _ 1 _ rfl
  have x2 : w0.cell? ⟨w.heap.size + 1, 2, none⟩ = some (.string (bs x.name)) := by rw [← hw0]; exact news_three' _ _ _ _ _ 2 _ rfl
  have HF := hide (find_any ns x.id ao cap w0 hrow0 hl)
  have HFO := hide (folder_any ns x.parent ao cap w0 hrow0 hl hp0 hp1)
  have HBE := hide (below_any ns x.parent x.id ao cap w0 hrow0 hl)
  have HTK := hide (taken_any ns x.parent x.name ao cap w0 hrow0 hl)
  have HLAY := hide (lay_any ns x true ao cap w0 hrow0 hl)
  obtain ⟨b1, b2, _⟩ := findR_bd ns x.id
  have HP : Hid (putR ns x = if !folderR ns x.parent then 4 else if (x.parent == x.id || belowR ns x.parent x.id) then 5 else if (takenR ns x.parent x.name != 0 && takenR ns x.parent x.name != x.id) then 6 else 0) := hide rfl
  clear hrow hbw hrow0
  generalize putR ns x = E at *
  generalize layR ns x true = L at *
  generalize findR ns x.id = f at *
  generalize folderR ns x.parent = fo at *
  generalize belowR ns x.parent x.id = be at *
  generalize takenR ns x.parent x.name = tk at *
  have hcase : (kk = 43 ∧ 0 ≤ f) ∨ (kk = 61 ∧ f < 0) ∨ ((kk = 43 ∧ f < 0) ∨ (kk = 61 ∧ 0 ≤ f)) := by omega
  clear hkk
  rcases hcase with ⟨rfl, hf⟩ | ⟨rfl, hf⟩ | hgo
  · have HE : Hid (putKind 43 f E = 8) := by apply hide; unfold putKind; rw [if_pos ⟨rfl, hf⟩]
    generalize putKind 43 f E = R at *
    go_enter Tryz.func35, Tryz.ntmps35
    go_wp2_with fail
    try rw [hw0]
    clear hw0
    refine (unhide HF).mono ?_
    rintro e w' ⟨rfl, rfl⟩
    go_wp2
    go_ret2
    exact ⟨doRes_no 8 (unhide HE) (by decide), unhide HBW⟩
  · have HE : Hid (putKind 61 f E = 9) := by apply hide; unfold putKind; rw [if_neg (by omega), if_pos ⟨rfl, hf⟩]
    generalize putKind 61 f E = R at *
    go_enter Tryz.func35, Tryz.ntmps35
    go_wp2_with fail
    try rw [hw0]
    clear hw0
    refine (unhide HF).mono ?_
    rintro e w' ⟨rfl, rfl⟩
    go_wp2
    go_ret2
    exact ⟨doRes_no 9 (unhide HE) (by decide), unhide HBW⟩
  · have HE : Hid (putKind kk f E = E) := by apply hide; unfold putKind; rw [if_neg (by omega), if_neg (by omega)]
    generalize putKind kk f E = R at *
    rcases hgo with ⟨rfl, hf⟩ | ⟨rfl, hf⟩
    all_goals
      go_enter Tryz.func35, Tryz.ntmps35
      go_wp2_with fail
      try rw [hw0]
      clear hw0
      refine (unhide HF).mono ?_
      rintro e w' ⟨rfl, rfl⟩
      go_wp2_with fail
      refine (unhide HFO).mono ?_
      rintro e w' ⟨rfl, rfl⟩
      cases fo
      · have HR : Hid (R = 4) := by apply hide; rw [unhide HE, unhide HP]; rfl
        go_wp2
        go_ret2
        exact ⟨doRes_no 4 (unhide HR) (by decide), unhide HBW⟩
      · go_wp2_with fail
        refine (unhide HBE).mono ?_
        rintro e w' ⟨rfl, rfl⟩
        cases hq : (x.parent == x.id)
        · cases be
          · have HP2 : Hid (E = if (tk != 0 && tk != x.id) then 6 else 0) := by apply hide; rw [unhide HP, hq]; rfl
            go_wp2_with fail
            refine (unhide HTK).mono ?_
            rintro e w' ⟨rfl, rfl⟩
            cases h6 : (tk != 0)
            · have HR : Hid (R = 0) := by apply hide; rw [unhide HE, unhide HP2, h6]; rfl
              go_wp2_with fail
              refine (unhide HLAY).mono ?_
              rintro e w2 ⟨⟨ao', cap', rfl, hr⟩, hb2⟩
              go_wp2
              go_ret2
              exact ⟨.inr ⟨unhide HR, ao', cap', rfl, hr⟩, (unhide HBW).trans (hb2.mono (unhide HBW).size)⟩
            · cases h7 : (tk != x.id)
              · have HR : Hid (R = 0) := by apply hide; rw [unhide HE, unhide HP2, h6, h7]; rfl
                go_wp2_with fail
                refine (unhide HLAY).mono ?_
                rintro e w2 ⟨⟨ao', cap', rfl, hr⟩, hb2⟩
                go_wp2
                go_ret2
                exact ⟨.inr ⟨unhide HR, ao', cap', rfl, hr⟩, (unhide HBW).trans (hb2.mono (unhide HBW).size)⟩
              · have HR : Hid (R = 6) := by apply hide; rw [unhide HE, unhide HP2, h6, h7]; rfl
                go_wp2
                go_ret2
                exact ⟨doRes_no 6 (unhide HR) (by decide), unhide HBW⟩
          · have HR : Hid (R = 5) := by apply hide; rw [unhide HE, unhide HP, hq]; rfl
            go_wp2
            go_ret2
            exact ⟨doRes_no 5 (unhide HR) (by decide), unhide HBW⟩
        · have HR : Hid (R = 5) := by apply hide; rw [unhide HE, unhide HP, hq]; rfl
          go_wp2
          go_ret2
          exact ⟨doRes_no 5 (unhide HR) (by decide), unhide HBW⟩
def lastR (ns : List Nd) (s : St) : List Nd := layR ns s.node (decide (s.kind ≠ 45))
theorem rdo_any (ns : List Nd) (s : St) (ao : Option Addr) (cap : Nat) (w : World) (hrow : Row w ao ns.length 3 (ndCells ns)) (hl : ns.length ≤ 4000) (hs : StOk s) :
    Calls Tryz.prog 35 #[.slice ao ns.length cap, .agg #[.int .u8 s.kind.toNat, .int .i64 s.node.id, .int .i64 s.node.parent, .string (bs s.node.name)]] w fun e w' => DoRes ns (doR ns s) (lastR ns s) e w' ∧ Below w.heap.size w w' := by
  rcases hs with ⟨hk, h1, h2, h3, h4, _⟩ | ⟨hk, h1, h2⟩
  · have hk45 : ¬ s.kind = 45 := by rcases hk with h | h <;> (rw [h]; decide)
    have e1 : doR ns s = putKind s.kind.toNat (findR ns s.node.id) (putR ns s.node) := by
      unfold doR putKind
      rw [if_neg hk45]
      rcases hk with h | h <;> (rw [h]; simp)
    have e2 : lastR ns s = layR ns s.node true := by unfold lastR; rw [decide_eq_true (show s.kind ≠ 45 from hk45)]
    rw [e1, e2]
    exact rdo_put ns s.kind.toNat s.node ao cap w hrow hl (by rcases hk with h | h <;> (rw [h]; decide)) h3 (by omega)
  · have e1 : doR ns s = delR ns s.node.id := by unfold doR; rw [if_pos hk]
    have e2 : lastR ns s = layR ns s.node false := by unfold lastR; rw [hk]; rfl
    rw [e1, e2, hk]
    exact rdo_del ns s.node ao cap w hrow hl
end Go.Proofs.YtkahmbpggdneoaaGreatDoor
