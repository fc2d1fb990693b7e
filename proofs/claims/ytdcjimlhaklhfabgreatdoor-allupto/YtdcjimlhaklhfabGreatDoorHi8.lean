import Derived.Test.YtdcjimlhaklhfabGreatDoorHi7
import Derived.Test.YtdcjimlhaklhfabGreatDoorHi5
import Derived.Test.YtdcjimlhaklhfabGreatDoorHi6
import Derived.BigQuiet
import Derived.Deep.RegionWith
import Derived.Test.YtdcjimlhaklhfabGreatDoorHi4
import Derived.Deep.Cut
namespace Go.Proofs.YtdcjimlhaklhfabGreatDoor
open Go.RowKit
def DoRes (_ns : List Nd) (E : Int) (L : List Nd) (e : Ending) (w' : World) : Prop :=
  (E ≠ 0 ∧ e = .returned (.tuple #[.slice none 0 0, .int .i64 E])) ∨ (E = 0 ∧ ∃ ao' cap', e = .returned (.tuple #[.slice ao' L.length cap', .int .i64 0]) ∧ Row w' ao' L.length 3 (ndCells L))
theorem doRes_no {ns : List Nd} {E : Int} {L : List Nd} {w' : World} (c : Int) (h : E = c) (hc : c ≠ 0) : DoRes ns E L (.returned (.tuple #[.slice none 0 0, .int .i64 c])) w' := .inl ⟨by rw [h]; exact hc, by rw [h]⟩
set_option maxHeartbeats 2000000 in
set_option maxRecDepth 100000 in
theorem rdo_del (ns : List Nd) (x : Nd) (ao : Option Addr) (cap : Nat) (w : World) (hrow : Row w ao ns.length 3 (ndCells ns)) (hl : ns.length ≤ 4000) :
    Calls Tryz.prog 88 #[.slice ao ns.length cap, .agg #[.int .u8 45, .int .i64 x.id, .int .i64 x.parent, .string (bs x.name)]] w fun e w' => DoRes ns (delR ns x.id) (layR ns x false) e w' ∧ Below w.heap.size w w' := by
  obtain ⟨w0, hw0⟩ : ∃ w0, (w.alloc (Obj.cells #[.int .u8 45, .int .i64 x.id, .int .i64 x.parent, .string (bs x.name)] 157)).alloc (Obj.cells #[.int .i64 x.id, .int .i64 x.parent, .string (bs x.name)] 144) = w0 := ⟨_, rfl⟩
  have hbw : Below w.heap.size w w0 := by rw [← hw0]; exact ((Below.refl _ _).alloc (Nat.le_refl _) _).alloc (by simp) _
  have HBW := hide hbw
  have hrow0 := hrow.below hbw
  have HROW := hide hrow0
  have hlt0 : w.heap.size < w0.heap.size := by rw [← hw0]; simp; omega
  have hlt1 : w.heap.size + 1 < w0.heap.size := by rw [← hw0]; simp
  have k0 : w0.cell? ⟨w.heap.size, 0, none⟩ = some (.int .u8 45) := by
    rw [← hw0, ((Below.refl _ _).alloc (Nat.le_refl _) _).cell (p := ⟨w.heap.size, 0, none⟩) (by simp)]
    exact World.news_of_block (cs := #[.int .u8 45, .int .i64 x.id, .int .i64 x.parent, .string (bs x.name)]) (heap_alloc_new w _) 0 _ rfl
  have x0 : w0.cell? ⟨w.heap.size + 1, 0, none⟩ = some (.int .i64 x.id) := by rw [← hw0]; exact news_three' _ _ _ _ _ 0 _ rfl
  have x1 : w0.cell? ⟨w.heap.size + 1, 1, none⟩ = some (.int .i64 x.parent) := by rw [← hw0]; exact news_three' _ _ _ _ _ 1 _ rfl
  have x2 : w0.cell? ⟨w.heap.size + 1, 2, none⟩ = some (.string (bs x.name)) := by rw [← hw0]; exact news_three' _ _ _ _ _ 2 _ rfl
  have HF := hide (find_any ns x.id ao cap w0 hrow0 hl)
  have HLAY := hide (fun m => lay_any ns x false ao cap (w0.drewN m) (row_drewN hrow0 m) hl)
  have hbd := findR_bd ns x.id
  have HD : Hid (delR ns x.id = if findR ns x.id < 0 then 9 else if kidsR ns x.id then 10 else 0) := hide rfl
  obtain ⟨b1, b2, _⟩ := hbd
  clear hrow hbw hrow0
  generalize delR ns x.id = E at *
  generalize findR ns x.id = f at *
  by_cases hf : f < 0
  · have HE : Hid (E = 9) := by apply hide; rw [unhide HD, if_pos hf]
    have hd : decide (0 ≤ f) = false := decide_eq_false (by omega)
    clear HD HLAY
    go_enter Tryz.func88, Tryz.ntmps88
    go_wp2_with fail
    try rw [hw0]
    clear hw0
    refine (unhide HF).mono ?_
    rintro e w' ⟨rfl, rfl⟩
    go_wp2
    go_loopw [8] (fun i wr => ∃ k nq : Nat, k ≤ ns.length ∧ i = .int .i64 k ∧ wr = w'.drewN nq) (fun i _ => ns.length - (intOf i).toNat)
    case atStart => exact ⟨0, 0, Nat.zero_le _, rfl, rfl⟩
    case round =>
      obtain ⟨k, nq, hk, rfl, rfl⟩ := hrel
      by_cases hlt : k < ns.length
      · go_wp2
        go_quiet (fail)
        go_wp2
        go_roundw
        case rel => exact ⟨k + 1, _, by omega, by go_num, rfl⟩
        case measure => simp [intOf]; omega
      · go_wp2
        go_ret2
        exact ⟨doRes_no 9 (unhide HE) (by decide), below_drewN (unhide HBW) _⟩
  · have hd : decide (0 ≤ f) = true := decide_eq_true (by omega)
    have hf0 : 0 ≤ f := by omega
    have HD2 : Hid (E = if kidsR ns x.id then 10 else 0) := by apply hide; rw [unhide HD, if_neg hf]
    clear HD
    go_enter Tryz.func88, Tryz.ntmps88
    go_wp2_with fail
    try rw [hw0]
    clear hw0
    refine (unhide HF).mono ?_
    rintro e w' ⟨rfl, rfl⟩
    go_wp2
    go_loopw [8] (fun i wr => ∃ k nq : Nat, k ≤ ns.length ∧ i = .int .i64 k ∧ wr = w'.drewN nq ∧ Hid (NoIn (kidAt ns x.id) 0 k)) (fun i _ => ns.length - (intOf i).toNat)
    case atStart => exact ⟨0, 0, Nat.zero_le _, rfl, rfl, hide (fun j h1 h2 => by omega)⟩
    case round =>
      obtain ⟨k, nq, hk, rfl, rfl, HN⟩ := hrel
      by_cases hlt : k < ns.length
      · obtain ⟨g, hao, hg, _, c1, _⟩ := nd_cells (unhide HROW) (Below.refl _ _) hlt
        have HU : Hid (kidAt ns x.id k = ((ns[k]).parent == x.id)) := by apply hide; unfold kidAt; rw [ndAt_get _ _ hlt]
        rw [hao]
        clear hao
        have hk0 : (0 : Int) ≤ k := by omega
        have hk1 : (k : Int) < ns.length := by omega
        cases hq : ((ns[k]).parent == x.id)
        · have HN2 := hide (noIn_succ (unhide HN) (by rw [unhide HU]; exact hq))
          generalize ns[k] = nd at *
          go_wp2
          go_quiet (fail)
          go_wp2
          go_roundw
          case rel => exact ⟨k + 1, _, by omega, by go_num, rfl, HN2⟩
          case measure => simp [intOf]; omega
        · have HE : Hid (E = 10) := by
            apply hide
            have e : scan (kidAt ns x.id) 0 ns.length = k := scan_hit (by omega) hlt (by rw [unhide HU]; exact hq) (unhide HN)
            rw [unhide HD2]; unfold kidsR; rw [e, if_pos (by simpa using hlt)]
          generalize ns[k] = nd at *
          go_wp2
          go_quiet (fail)
          go_wp2
          go_ret2
          exact ⟨doRes_no 10 (unhide HE) (by decide), below_drewN (below_drewN (unhide HBW) _) _⟩
      · have HE : Hid (E = 0) := by
          apply hide
          have e : scan (kidAt ns x.id) 0 ns.length = ns.length := scan_none (fun j h1 h2 => unhide HN j h1 (by omega))
          rw [unhide HD2]; unfold kidsR; rw [e, if_neg (by simp)]
        go_wp2_with fail
        refine (unhide HLAY _).mono ?_
        rintro e w2 ⟨⟨ao', cap', rfl, hr⟩, hb2⟩
        go_wp2
        go_ret2
        exact ⟨.inr ⟨unhide HE, ao', cap', rfl, hr⟩, (below_drewN (unhide HBW) nq).trans (hb2.mono (by simp; omega))⟩
end Go.Proofs.YtdcjimlhaklhfabGreatDoor

namespace Go.Proofs.YtdcjimlhaklhfabGreatDoor
open Go.RowKit
def putKind (kk f : Int) (E : Int) : Int := if kk = 43 ∧ 0 ≤ f then 8 else if kk = 61 ∧ f < 0 then 9 else E
set_option maxHeartbeats 4000000 in
set_option maxRecDepth 100000 in
theorem rdo_put (ns : List Nd) (kk : Int) (x : Nd) (ao : Option Addr) (cap : Nat) (w : World) (hrow : Row w ao ns.length 3 (ndCells ns)) (hl : ns.length ≤ 4000) (hkk : kk = 43 ∨ kk = 61) (hp0 : 0 ≤ x.parent) (hp1 : x.parent ≤ 1000) :
    Calls Tryz.prog 88 #[.slice ao ns.length cap, .agg #[.int .u8 kk, .int .i64 x.id, .int .i64 x.parent, .string (bs x.name)]] w fun e w' => DoRes ns (putKind kk (findR ns x.id) (putR ns x)) (layR ns x true) e w' ∧ Below w.heap.size w w' := by
  obtain ⟨w0, hw0⟩ : ∃ w0, (w.alloc (Obj.cells #[.int .u8 kk, .int .i64 x.id, .int .i64 x.parent, .string (bs x.name)] 157)).alloc (Obj.cells #[.int .i64 x.id, .int .i64 x.parent, .string (bs x.name)] 144) = w0 := ⟨_, rfl⟩
  have hbw : Below w.heap.size w w0 := by rw [← hw0]; exact ((Below.refl _ _).alloc (Nat.le_refl _) _).alloc (by simp) _
  have HBW := hide hbw
  have hrow0 := hrow.below hbw
  have hlt0 : w.heap.size < w0.heap.size := by rw [← hw0]; simp; omega
  have hlt1 : w.heap.size + 1 < w0.heap.size := by rw [← hw0]; simp
  have k0 : w0.cell? ⟨w.heap.size, 0, none⟩ = some (.int .u8 kk) := by
    rw [← hw0, ((Below.refl _ _).alloc (Nat.le_refl _) _).cell (p := ⟨w.heap.size, 0, none⟩) (by simp)]
    exact World.news_of_block (cs := #[.int .u8 kk, .int .i64 x.id, .int .i64 x.parent, .string (bs x.name)]) (heap_alloc_new w _) 0 _ rfl
  have x0 : w0.cell? ⟨w.heap.size + 1, 0, none⟩ = some (.int .i64 x.id) := by rw [← hw0]; exact news_three' _ _ _ _ _ 0 _ rfl
  have x1 : w0.cell? ⟨w.heap.size + 1, 1, none⟩ = some (.int .i64 x.parent) := by rw [← hw0]; exact news_three' _ _ _ _ _ 1 _ rfl
  have x2 : w0.cell? ⟨w.heap.size + 1, 2, none⟩ = some (.string (bs x.name)) := by rw [← hw0]; exact news_three' _ _ _ _ _ 2 _ rfl
  have HF := hide (find_any ns x.id ao cap w0 hrow0 hl)
  have HFO := hide (folder_any ns x.parent ao cap w0 hrow0 hl hp0 hp1)
  have HBE := hide (below_any ns x.parent x.id ao cap w0 hrow0 hl)
  have HTK := hide (taken_any ns x.parent x.name ao cap w0 hrow0 hl)
  have HLAY := hide (lay_any ns x true ao cap w0 hrow0 hl)
  obtain ⟨b1, b2, _⟩ := findR_bd ns x.id
  have HP : Hid (putR ns x = if !folderR ns x.parent then 4 else if (x.parent == x.id || belowR ns x.parent x.id) then 5 else if (takenR ns x.parent x.name != 0 && takenR ns x.parent x.name != x.id) then 6 else 0) := hide rfl
  clear hrow hbw hrow0
  generalize putR ns x = E at *
  generalize layR ns x true = L at *
  generalize findR ns x.id = f at *
  generalize folderR ns x.parent = fo at *
  generalize belowR ns x.parent x.id = be at *
  generalize takenR ns x.parent x.name = tk at *
  have hcase : (kk = 43 ∧ 0 ≤ f) ∨ (kk = 61 ∧ f < 0) ∨ ((kk = 43 ∧ f < 0) ∨ (kk = 61 ∧ 0 ≤ f)) := by omega
  clear hkk
  rcases hcase with ⟨rfl, hf⟩ | ⟨rfl, hf⟩ | hgo
  · have HE : Hid (putKind 43 f E = 8) := by apply hide; unfold putKind; rw [if_pos ⟨rfl, hf⟩]
    generalize putKind 43 f E = R at *
    go_enter Tryz.func88, Tryz.ntmps88
    go_wp2_with fail
    try rw [hw0]
    clear hw0
    refine (unhide HF).mono ?_
    rintro e w' ⟨rfl, rfl⟩
    go_wp2
    go_ret2
    exact ⟨doRes_no 8 (unhide HE) (by decide), unhide HBW⟩
  · have HE : Hid (putKind 61 f E = 9) := by apply hide; unfold putKind; rw [if_neg (by omega), if_pos ⟨rfl, hf⟩]
    generalize putKind 61 f E = R at *
    go_enter Tryz.func88, Tryz.ntmps88
    go_wp2_with fail
    try rw [hw0]
    clear hw0
    refine (unhide HF).mono ?_
    rintro e w' ⟨rfl, rfl⟩
    go_wp2
    go_ret2
    exact ⟨doRes_no 9 (unhide HE) (by decide), unhide HBW⟩
  · have HE : Hid (putKind kk f E = E) := by apply hide; unfold putKind; rw [if_neg (by omega), if_neg (by omega)]
    generalize putKind kk f E = R at *
    rcases hgo with ⟨rfl, hf⟩ | ⟨rfl, hf⟩
    all_goals
      go_enter Tryz.func88, Tryz.ntmps88
      go_wp2_with fail
      try rw [hw0]
      clear hw0
      refine (unhide HF).mono ?_
      rintro e w' ⟨rfl, rfl⟩
      go_wp2_with fail
      refine (unhide HFO).mono ?_
      rintro e w' ⟨rfl, rfl⟩
      cases fo
      · have HR : Hid (R = 4) := by apply hide; rw [unhide HE, unhide HP]; rfl
        go_wp2
        go_ret2
        exact ⟨doRes_no 4 (unhide HR) (by decide), unhide HBW⟩
      · go_wp2_with fail
        refine (unhide HBE).mono ?_
        rintro e w' ⟨rfl, rfl⟩
        cases hq : (x.parent == x.id)
        · cases be
          · have HP2 : Hid (E = if (tk != 0 && tk != x.id) then 6 else 0) := by apply hide; rw [unhide HP, hq]; rfl
            go_wp2_with fail
            refine (unhide HTK).mono ?_
            rintro e w' ⟨rfl, rfl⟩
            cases h6 : (tk != 0)
            · have HR : Hid (R = 0) := by apply hide; rw [unhide HE, unhide HP2, h6]; rfl
              go_wp2_with fail
              refine (unhide HLAY).mono ?_
              rintro e w2 ⟨⟨ao', cap', rfl, hr⟩, hb2⟩
              go_wp2
              go_ret2
              exact ⟨.inr ⟨unhide HR, ao', cap', rfl, hr⟩, (unhide HBW).trans (hb2.mono (unhide HBW).size)⟩
            · cases h7 : (tk != x.id)
              · have HR : Hid (R = 0) := by apply hide; rw [unhide HE, unhide HP2, h6, h7]; rfl
                go_wp2_with fail
                refine (unhide HLAY).mono ?_
                rintro e w2 ⟨⟨ao', cap', rfl, hr⟩, hb2⟩
                go_wp2
                go_ret2
                exact ⟨.inr ⟨unhide HR, ao', cap', rfl, hr⟩, (unhide HBW).trans (hb2.mono (unhide HBW).size)⟩
              · have HR : Hid (R = 6) := by apply hide; rw [unhide HE, unhide HP2, h6, h7]; rfl
                go_wp2
                go_ret2
                exact ⟨doRes_no 6 (unhide HR) (by decide), unhide HBW⟩
          · have HR : Hid (R = 5) := by apply hide; rw [unhide HE, unhide HP, hq]; rfl
            go_wp2
            go_ret2
            exact ⟨doRes_no 5 (unhide HR) (by decide), unhide HBW⟩
        · have HR : Hid (R = 5) := by apply hide; rw [unhide HE, unhide HP, hq]; rfl
          go_wp2
          go_ret2
          exact ⟨doRes_no 5 (unhide HR) (by decide), unhide HBW⟩
def lastR (ns : List Nd) (s : St) : List Nd := layR ns s.node (decide (s.kind ≠ 45))
theorem rdo_any (ns : List Nd) (s : St) (ao : Option Addr) (cap : Nat) (w : World) (hrow : Row w ao ns.length 3 (ndCells ns)) (hl : ns.length ≤ 4000) (hs : StOk s) :
    Calls Tryz.prog 88 #[.slice ao ns.length cap, .agg #[.int .u8 s.kind.toNat, .int .i64 s.node.id, .int .i64 s.node.parent, .string (bs s.node.name)]] w fun e w' => DoRes ns (doR ns s) (lastR ns s) e w' ∧ Below w.heap.size w w' := by
  rcases hs with ⟨hk, h1, h2, h3, h4, _⟩ | ⟨hk, h1, h2⟩
  · have hk45 : ¬ s.kind = 45 := by rcases hk with h | h <;> (rw [h]; decide)
    have e1 : doR ns s = putKind s.kind.toNat (findR ns s.node.id) (putR ns s.node) := by
      unfold doR putKind
      rw [if_neg hk45]
      rcases hk with h | h <;> (rw [h]; simp)
    have e2 : lastR ns s = layR ns s.node true := by unfold lastR; rw [decide_eq_true (show s.kind ≠ 45 from hk45)]
    rw [e1, e2]
    exact rdo_put ns s.kind.toNat s.node ao cap w hrow hl (by rcases hk with h | h <;> (rw [h]; decide)) h3 (by omega)
  · have e1 : doR ns s = delR ns s.node.id := by unfold doR; rw [if_pos hk]
    have e2 : lastR ns s = layR ns s.node false := by unfold lastR; rw [hk]; rfl
    rw [e1, e2, hk]
    exact rdo_del ns s.node ao cap w hrow hl
end Go.Proofs.YtdcjimlhaklhfabGreatDoor

namespace Go.Proofs.YtdcjimlhaklhfabGreatDoor
open Go.RowKit
attribute [local go_sem ↓] Go.wp_at_zero Go.wp_at_succ
theorem digits_digs (n : Int) (w : World) (h0 : 0 ≤ n) (h1 : n ≤ 99) :
    Calls Tryz.prog 81 #[.int .i64 n] w fun e w' => e = .returned (.string (bs (digs n))) ∧ Below w.heap.size w w' := by
  have e : dec n.toNat = digs n := by rw [← digs_dec n.toNat (by omega), Int.toNat_of_nonneg h0]
  rw [← e]; exact digits_any n w h0 (by omega)
abbrev trOf (ns : List Nd) : Tr := fun i => lookR ns (i : Int)
theorem textAt_some {t : Tr} {i : Nat} {n : Nd} (h : t i = some n) (hid : n.id = (i : Int)) : textAt t i = digs (i : Int) ++ [32] ++ digs n.parent ++ [32] ++ n.name ++ [59] := by
  unfold textAt; rw [h]; show nodeText n = _; unfold nodeText; rw [hid]
theorem textAt_none {t : Tr} {i : Nat} (h : t i = none) : textAt t i = [] := by unfold textAt; rw [h]
theorem kept2 {W0 W w1 : World} {g : Nat} {o1 o2 : Nat} {a b : Value} (hg : g < W0.heap.size) (hb : Below W.heap.size W w1) (h : W.cell? ⟨g, o1, none⟩ = some a ∧ W.cell? ⟨g, o2, none⟩ = some b ∧ Below W0.heap.size W0 W) : w1.cell? ⟨g, o1, none⟩ = some a ∧ w1.cell? ⟨g, o2, none⟩ = some b ∧ Below W0.heap.size W0 w1 := by
  have hlt : g < W.heap.size := by have := h.2.2.size; omega
  exact ⟨by rw [hb.cell (p := ⟨g, o1, none⟩) hlt]; exact h.1, by rw [hb.cell (p := ⟨g, o2, none⟩) hlt]; exact h.2.1, h.2.2.trans (hb.mono h.2.2.size)⟩
set_option maxHeartbeats 4000000 in
set_option maxRecDepth 100000 in
theorem print_any (ns : List Nd) (ao : Option Addr) (cap : Nat) (w : World) (hrow : Row w ao ns.length 3 (ndCells ns)) (hl : ns.length ≤ 4000) (ht : TrOk (trOf ns)) :
    Calls Tryz.prog 89 #[.slice ao ns.length cap] w fun e w' => e = .returned (.string (bs (textT (trOf ns)))) ∧ Below w.heap.size w w' := by
  have HROW := hide hrow; clear hrow
  have HT := hide ht; clear ht
  have HTT : Hid (textT (trOf ns) = textTo (trOf ns) 99) := hide rfl
  go_enter Tryz.func89, Tryz.ntmps89
  go_wp2
  go_loopw [3, 4] (fun s i wr => ∃ k : Nat, k ≤ 99 ∧ s = .string (bs (textTo (trOf ns) k)) ∧ i = .int .i64 ((k : Int) + 1) ∧ Below w.heap.size w wr) (fun _ i _ => 100 - (intOf i).toNat)
  case atStart => exact ⟨0, Nat.zero_le _, rfl, rfl, Below.refl _ _⟩
  case round =>
    obtain ⟨k, hk, rfl, rfl, hbel⟩ := hrel
    have hsl := textTo_len (unhide HT) k
    have HSU := hide (textTo_succ (trOf ns) k)
    by_cases hlt : k < 99
    · have HF := hide (find_any ns ((k : Int) + 1) ao cap wr ((unhide HROW).below hbel) hl)
      by_cases hf : findN ns ((k : Int) + 1) < ns.length
      · obtain ⟨q1, q2⟩ := lookR_some hf
        obtain ⟨g, hao, hg, _, c1, c2⟩ := nd_cells (unhide HROW) hbel hf
        rw [q2] at HF
        rw [hao] at HF ⊢
        have hidn := (lookR_mem q1).2
        have q1' : trOf ns (k + 1) = some (ns[findN ns ((k : Int) + 1)]) := by
          show lookR ns ((k + 1 : Nat) : Int) = _
          rw [show ((k + 1 : Nat) : Int) = (k : Int) + 1 by omega]; exact q1
        have hok := (unhide HT).2 _ _ q1'
        have HTX := hide (textAt_some q1' (by rw [hidn]; omega))
        clear q1 q2 q1' hao hidn
        generalize hfn : findN ns ((k : Int) + 1) = fn at *
        clear hfn
        have hfn0 : (0 : Int) ≤ fn := by omega
        have hfn1 : (fn : Int) < ns.length := by omega
        generalize ns[fn] = nd at *
        obtain ⟨_, _, _, hp0, hp1, hnm⟩ := hok
        have hnl := name_len hnm
        clear hnm
        have l1 := digs_len ((k : Int) + 1)
        have l2 := digs_len nd.parent
        have HNEW : Hid (textTo (trOf ns) (k + 1) = textTo (trOf ns) k ++ digs ((k : Int) + 1) ++ [32] ++ digs nd.parent ++ [32] ++ nd.name ++ [59]) := by
          apply hide
          rw [unhide HSU, unhide HTX, show ((k + 1 : Nat) : Int) = (k : Int) + 1 by omega]
          simp only [List.append_assoc]
        clear HSU HTX
        generalize textTo (trOf ns) k = S at *
        generalize ha : digs ((k : Int) + 1) = a at *
        generalize hb : digs nd.parent = b at *
        have a0 := add_bs S a (by omega) (by omega)
        have a1 := add_32 (S ++ a) (by simp; omega)
        have a2 := add_bs (S ++ a ++ [32]) b (by simp; omega) (by omega)
        have a3 := add_32 (S ++ a ++ [32] ++ b) (by simp; omega)
        have a4 := add_bs (S ++ a ++ [32] ++ b ++ [32]) nd.name (by simp; omega) (by omega)
        have a5 := add_59 (S ++ a ++ [32] ++ b ++ [32] ++ nd.name) (by simp; omega)
        generalize S ++ a ++ [32] ++ b ++ [32] ++ nd.name ++ [59] = r6 at *
        generalize S ++ a ++ [32] ++ b ++ [32] ++ nd.name = r5 at *
        generalize S ++ a ++ [32] ++ b ++ [32] = r4 at *
        generalize S ++ a ++ [32] ++ b = r3 at *
        generalize S ++ a ++ [32] = r2 at *
        generalize S ++ a = r1 at *
        have HS0 := hide (show wr.drew.cell? ⟨g, fn * 3 + 1, none⟩ = some (.int .i64 nd.parent) ∧ wr.drew.cell? ⟨g, fn * 3 + 2, none⟩ = some (.string (bs nd.name)) ∧ Below w.heap.size w wr.drew from ⟨c1, c2, hbel.drew⟩)
        clear c1 c2
        go_wp2_with fail
        refine (unhide HF).mono ?_
        rintro e w' ⟨rfl, rfl⟩
        go_wp2
        go_region_held3 (fun W => W.cell? ⟨g, fn * 3 + 1, none⟩ = some (.int .i64 nd.parent) ∧ W.cell? ⟨g, fn * 3 + 2, none⟩ = some (.string (bs nd.name)) ∧ Below w.heap.size w W) (first | exact unhide HS0 | assumption) ((go_at_call 81; refine (digits_digs _ _ (by omega) (by omega)).mono ?_; rintro e w1 ⟨rfl, hb1⟩; have hs1 := kept2 hg hb1 (by first | assumption | exact unhide HS0); have hbx := hs1.2.2))
        all_goals
          go_wp2
          go_roundw
          case rel => exact ⟨k + 1, by omega, by rw [unhide HNEW], by go_num, hs1.2.2⟩
          case measure => simp [intOf]; omega
      · obtain ⟨q1, q2⟩ := lookR_none hf
        have q1' : trOf ns (k + 1) = none := by
          show lookR ns ((k + 1 : Nat) : Int) = _
          rw [show ((k + 1 : Nat) : Int) = (k : Int) + 1 by omega]; exact q1
        have HNEW : Hid (textTo (trOf ns) (k + 1) = textTo (trOf ns) k) := by apply hide; rw [unhide HSU, textAt_none q1']; simp
        rw [q2] at HF
        clear q1 q2 hf q1'
        go_wp2_with fail
        refine (unhide HF).mono ?_
        rintro e w' ⟨rfl, rfl⟩
        go_wp2
        go_roundw
        case rel => exact ⟨k + 1, by omega, by rw [unhide HNEW], by go_num, hbel⟩
        case measure => simp [intOf]; omega
    · have hk9 : k = 99 := by omega
      subst hk9
      go_wp2
      go_ret
      exact ⟨ret_str (by rw [unhide HTT]), hbel⟩
end Go.Proofs.YtdcjimlhaklhfabGreatDoor

namespace Go.Proofs.YtdcjimlhaklhfabGreatDoor
open Go.RowKit
/-! The document's side: logs. -/
theorem Tryz.infoEntry : (Tryz.prog.info? 146).map (fun i => (i.zero, i.size, i.bytes)) = some (some (.agg #[.int .i64 0, .int .i64 0, .int .i64 0, .int .i64 0, .string ByteArray.empty]), 5, 48) := by kernel_rfl
theorem first_cases (a b a' b' : Int) : (if a ≠ a' then decide (a < a') else decide (b < b')) = (decide (a < a') || (a == a' && decide (b < b'))) := by
  by_cases h : a = a'
  · subst h; simp
  · rw [if_pos h, show (a == a') = false by simpa using h]; simp
set_option maxHeartbeats 1000000 in
theorem first_any (x y : Lo) (w : World) :
    Calls Tryz.prog 141 #[.agg #[.int .i64 x.count, .int .i64 x.site, .int .i64 x.node.id, .int .i64 x.node.parent, .string (bs x.node.name)], .agg #[.int .i64 y.count, .int .i64 y.site, .int .i64 y.node.id, .int .i64 y.node.parent, .string (bs y.node.name)]] w fun e w' => e = .returned (.bool (ahead x y)) ∧ Below w.heap.size w w' := by
  have HA : Hid (ahead x y = (decide (x.count < y.count) || (x.count == y.count && decide (x.site < y.site)))) := hide (first_cases _ _ _ _)
  generalize ahead x y = q at *
  rcases Int.lt_trichotomy x.count y.count with h | h | h
  · have hd : decide (x.count < y.count) = true := by simpa using h
    have HQ : Hid (q = true) := by apply hide; rw [unhide HA, hd]; rfl
    go_enter Tryz.func141, Tryz.ntmps141
    go_wp2
    go_ret
    exact ⟨ret_bool (unhide HQ).symm, ((Below.refl _ _).alloc (Nat.le_refl _) _).alloc (by simp) _⟩
  · have hd : decide (x.count < y.count) = false := by simp; omega
    have he : (x.count == y.count) = true := by simpa using h
    have HQ : Hid (q = decide (x.site < y.site)) := by apply hide; rw [unhide HA, hd, he]; rfl
    clear h
    go_enter Tryz.func141, Tryz.ntmps141
    go_wp2
    go_ret
    exact ⟨ret_bool (unhide HQ).symm, ((Below.refl _ _).alloc (Nat.le_refl _) _).alloc (by simp) _⟩
  · have hd : decide (x.count < y.count) = false := by simp; omega
    have he : (x.count == y.count) = false := by simp; omega
    have HQ : Hid (q = false) := by apply hide; rw [unhide HA, hd, he]; rfl
    go_enter Tryz.func141, Tryz.ntmps141
    go_wp2
    go_ret
    exact ⟨ret_bool (unhide HQ).symm, ((Below.refl _ _).alloc (Nat.le_refl _) _).alloc (by simp) _⟩
set_option maxHeartbeats 2000000 in
theorem known_any (l : List Lo) (x : Lo) (ao : Option Addr) (cap : Nat) (w : World) (hrow : Row w ao l.length 5 (loCells l)) (hl : l.length ≤ 8000) :
    Calls Tryz.prog 116 #[.slice ao l.length cap, .agg #[.int .i64 x.count, .int .i64 x.site, .int .i64 x.node.id, .int .i64 x.node.parent, .string (bs x.node.name)]] w fun e w' => e = .returned (.bool (hasStamp l x)) ∧ Below w.heap.size w w' := by
  have HROW := hide hrow; clear hrow
  go_enter Tryz.func116, Tryz.ntmps116
  go_wp2
  go_loopw [5] (fun i wr => ∃ k : Nat, k ≤ l.length ∧ i = .int .i64 k ∧ Below w.heap.size w wr ∧ w.heap.size < wr.heap.size ∧ wr.cell? ⟨w.heap.size, 0, none⟩ = some (.int .i64 x.count) ∧ wr.cell? ⟨w.heap.size, 1, none⟩ = some (.int .i64 x.site) ∧ Hid (∀ j (hj : j < l.length), j < k → sameStamp l[j] x = false)) (fun i _ => l.length - (intOf i).toNat)
  case atStart =>
    refine ⟨0, Nat.zero_le _, rfl, (Below.refl _ _).alloc (Nat.le_refl _) _, by simp, ?_, ?_, hide (fun j hj h => by omega)⟩
    · simp [go_sem]
    · simp [go_sem]
  case round =>
    obtain ⟨k, hk, rfl, hbel, hsz, x0, x1, HN⟩ := hrel
    by_cases hlt : k < l.length
    · obtain ⟨g, hao, hg, c0, c1, c2, c3, c4⟩ := lo_cells (unhide HROW) hbel (Nat.le_refl _) hlt
      rw [hao]
      clear hao c2 c3 c4
      have hk0 : (0 : Int) ≤ k := by omega
      have hk1 : (k : Int) < l.length := by omega
      have HS : Hid (sameStamp l[k] x = ((l[k]).count == x.count && (l[k]).site == x.site)) := hide rfl
      have HNX : Hid (sameStamp l[k] x = false → ∀ j (hj : j < l.length), j < k + 1 → sameStamp l[j] x = false) := by
        apply hide; intro hh j hj hjk
        by_cases e : j = k
        · subst e; exact hh
        · exact unhide HN j hj (by omega)
      have HYS : Hid (sameStamp l[k] x = true → hasStamp l x = true) := by
        apply hide; intro hh; unfold hasStamp; rw [List.any_eq_true]; exact ⟨l[k], List.getElem_mem hlt, hh⟩
      generalize l[k] = y at *
      cases h0 : (y.count == x.count)
      · have HF := hide (unhide HNX (by rw [unhide HS, h0]; rfl))
        go_wp2
        go_quiet (fail)
        go_wp2
        go_roundw
        case rel => exact ⟨k + 1, by omega, by go_num, below_drewN hbel _, hsz, x0, x1, HF⟩
        case measure => simp [intOf]; omega
      · cases h1 : (y.site == x.site)
        · have HF := hide (unhide HNX (by rw [unhide HS, h0, h1]; rfl))
          go_wp2
          go_quiet (fail)
          go_wp2
          go_roundw
          case rel => exact ⟨k + 1, by omega, by go_num, below_drewN hbel _, hsz, x0, x1, HF⟩
          case measure => simp [intOf]; omega
        · have HF := hide (unhide HYS (by rw [unhide HS, h0, h1]; rfl))
          go_wp2
          go_quiet (fail)
          go_wp2
          go_ret
          exact ⟨ret_bool (unhide HF).symm, below_drewN hbel _⟩
    · have HF := hide (hasStamp_take (unhide HN) hlt)
      go_wp2
      go_ret
      exact ⟨ret_bool (unhide HF).symm, hbel⟩
end Go.Proofs.YtdcjimlhaklhfabGreatDoor

namespace Go.Proofs.YtdcjimlhaklhfabGreatDoor
open Go.RowKit
def jStep (x : Lo) (p : List Lo × Bool) (y : Lo) : List Lo × Bool := if ahead x y && !p.2 then (p.1 ++ [x] ++ [y], true) else (p.1 ++ [y], p.2)
def jTo (x : Lo) (l : List Lo) : List Lo × Bool := l.foldl (jStep x) ([], false)
theorem jTo_take (x : Lo) (l : List Lo) (k : Nat) (h : k < l.length) : jTo x (l.take (k + 1)) = jStep x (jTo x (l.take k)) l[k] := by
  unfold jTo; rw [List.take_succ_eq_append_getElem h, List.foldl_append]; rfl
theorem jStep_true (x : Lo) : ∀ (l acc : List Lo), l.foldl (jStep x) (acc, true) = (acc ++ l, true) := by
  intro l
  induction l with
  | nil => intro acc; simp
  | cons y l ih =>
    intro acc
    rw [List.foldl_cons, show jStep x (acc, true) y = (acc ++ [y], true) by unfold jStep; simp, ih]; simp
theorem jStep_false (x : Lo) : ∀ (l acc : List Lo), (if (l.foldl (jStep x) (acc, false)).2 then (l.foldl (jStep x) (acc, false)).1 else (l.foldl (jStep x) (acc, false)).1 ++ [x]) = acc ++ ins x l := by
  intro l
  induction l with
  | nil => intro acc; simp [ins]
  | cons y l ih =>
    intro acc
    rw [List.foldl_cons]
    cases h : ahead x y with
    | true =>
      rw [show jStep x (acc, false) y = (acc ++ [x] ++ [y], true) by unfold jStep; simp [h], jStep_true]
      simp [ins, h]
    | false =>
      rw [show jStep x (acc, false) y = (acc ++ [y], false) by unfold jStep; simp [h], ih]
      simp [ins, h]
theorem jTo_end (x : Lo) (l : List Lo) : (if (jTo x l).2 then (jTo x l).1 else (jTo x l).1 ++ [x]) = ins x l := by
  unfold jTo; have := jStep_false x l []; simpa using this
theorem jStep_len (x : Lo) (p : List Lo × Bool) (y : Lo) : (jStep x p y).1.length ≤ p.1.length + 2 := by unfold jStep; split <;> simp
theorem jTo_len (x : Lo) : ∀ (l : List Lo), (jTo x l).1.length ≤ 2 * l.length := by
  refine list_snoc_ind (by simp [jTo]) ?_
  intro l y ih
  have := jStep_len x (jTo x l) y
  rw [show jTo x (l ++ [y]) = jStep x (jTo x l) y by simp [jTo], List.length_append]; simp; omega
theorem own_base {w : World} {base base' : Nat} {e : TypeId} {size : Nat} {v : Value} {n : Nat} {xs : List Value} (h : w.ownsRow base e size v n xs) (hb : base' ≤ base) : w.ownsRow base' e size v n xs := by
  refine ⟨h.1, ?_⟩
  rcases h.2 with hn | ⟨g, cap, cur, rfl, hg, rest⟩
  · exact .inl hn
  · exact .inr ⟨g, cap, cur, rfl, by omega, rest⟩
set_option maxHeartbeats 4000000 in
set_option maxRecDepth 100000 in
theorem joined_any (l : List Lo) (x : Lo) (ao : Option Addr) (cap : Nat) (w : World) (hrow : Row w ao l.length 5 (loCells l)) (hl : l.length ≤ 8000) :
    Calls Tryz.prog 117 #[.slice ao l.length cap, .agg #[.int .i64 x.count, .int .i64 x.site, .int .i64 x.node.id, .int .i64 x.node.parent, .string (bs x.node.name)]] w fun e w' => ∃ fo cf, e = .returned (.slice fo (ins x l).length cf) ∧ w'.ownsRow w.heap.size 146 5 (.slice fo (ins x l).length cf) (ins x l).length (loCells (ins x l)) ∧ Below w.heap.size w w' := by
  obtain ⟨i0, hi, hz0, hz1, hz2⟩ := info_parts Tryz.infoEntry
  obtain ⟨w0, hw0⟩ : ∃ w0, w.alloc (Obj.cells #[.int .i64 x.count, .int .i64 x.site, .int .i64 x.node.id, .int .i64 x.node.parent, .string (bs x.node.name)] 146) = w0 := ⟨_, rfl⟩
  have hbw : Below w.heap.size w w0 := by rw [← hw0]; exact (Below.refl _ _).alloc (Nat.le_refl _) _
  have HBW := hide hbw
  have HROW := hide (hrow.below hbw)
  have hlt0 : w.heap.size < w0.heap.size := by rw [← hw0]; simp
  have HOP : Hid (OpAt w0 w.heap.size x) := by apply hide; rw [← hw0]; exact opAt_new w x _
  clear hrow hbw
  go_enter Tryz.func117, Tryz.ntmps117
  go_wp2
  try rw [hw0]
  clear hw0
  go_loopw [5, 6, 7] (fun v d i wr => ∃ k : Nat, k ≤ l.length ∧ i = .int .i64 k ∧ d = .bool (jTo x (l.take k)).2 ∧ wr.ownsRow w0.heap.size 146 5 v (jTo x (l.take k)).1.length (loCells (jTo x (l.take k)).1) ∧ Below w0.heap.size w0 wr) (fun _ _ i _ => l.length - (intOf i).toNat)
  case atStart => exact ⟨0, Nat.zero_le _, rfl, rfl, World.ownsRow_nil _ _ _ _, Below.refl _ _⟩
  case round =>
    obtain ⟨k, hk, rfl, rfl, hown, hbel⟩ := hrel
    have hjl := jTo_len x (l.take k)
    rw [List.length_take] at hjl
    have HOPr := hide ((unhide HOP).below hbel hlt0)
    obtain ⟨hpr, x0, x1, x2, x3, x4⟩ := unhide HOPr
    by_cases hlt : k < l.length
    · obtain ⟨g, hao, hg, c0, c1, c2, c3, c4⟩ := lo_cells (unhide HROW) hbel (Nat.le_refl _) hlt
      rw [hao]
      clear hao
      have hk0 : (0 : Int) ≤ k := by omega
      have hk1 : (k : Int) < l.length := by omega
      have hsz := hbel.size
      have hgr : g < wr.heap.size := by omega
      have HST := hide (jTo_take x l k hlt)
      have HFI := hide (fun W => first_any x l[k] W)
      generalize l[k] = y at *
      have HJS : Hid (jStep x (jTo x (l.take k)) y = if ahead x y && !(jTo x (l.take k)).2 then ((jTo x (l.take k)).1 ++ [x] ++ [y], true) else ((jTo x (l.take k)).1 ++ [y], (jTo x (l.take k)).2)) := hide rfl
      generalize ahead x y = q at *
      generalize (jTo x (l.take k)).1 = acc at *
      generalize (jTo x (l.take k)).2 = d at *
      have HOWN := hide hown; clear hown
      have HB := hide hbel; clear hbel
      have HRC : Hid (wr.cell? ⟨g, k * 5, none⟩ = some (.int .i64 y.count) ∧ wr.cell? ⟨g, k * 5 + 1, none⟩ = some (.int .i64 y.site) ∧ wr.cell? ⟨g, k * 5 + 2, none⟩ = some (.int .i64 y.node.id) ∧ wr.cell? ⟨g, k * 5 + 3, none⟩ = some (.int .i64 y.node.parent) ∧ wr.cell? ⟨g, k * 5 + 4, none⟩ = some (.string (bs y.node.name))) := hide ⟨c0, c1, c2, c3, c4⟩
      go_wp2
      go_region_with (go_at_call 141; refine (unhide HFI _).mono ?_; rintro e w2 ⟨rfl, hb2⟩)
      all_goals
        have hb2' : Below wr.heap.size wr w2 := (Below.refl wr.heap.size wr).drew.trans (hb2.mono (by simp [heap_drew]))
        have HB2 := hide ((unhide HB).trans (hb2'.mono hsz))
        have HOWN2 := hide (own_below (unhide HOWN) hb2')
        have HOP2 := hide ((unhide HOPr).below hb2' hpr)
        have hs2 := hb2'.size
        have HRC2 : Hid (w2.cell? ⟨g, k * 5, none⟩ = some (.int .i64 y.count) ∧ w2.cell? ⟨g, k * 5 + 1, none⟩ = some (.int .i64 y.site) ∧ w2.cell? ⟨g, k * 5 + 2, none⟩ = some (.int .i64 y.node.id) ∧ w2.cell? ⟨g, k * 5 + 3, none⟩ = some (.int .i64 y.node.parent) ∧ w2.cell? ⟨g, k * 5 + 4, none⟩ = some (.string (bs y.node.name))) := by
          apply hide
          obtain ⟨r0, r1, r2, r3, r4⟩ := unhide HRC
          exact ⟨(hb2'.cell (p := ⟨g, _, none⟩) hgr).trans r0, (hb2'.cell (p := ⟨g, _, none⟩) hgr).trans r1, (hb2'.cell (p := ⟨g, _, none⟩) hgr).trans r2, (hb2'.cell (p := ⟨g, _, none⟩) hgr).trans r3, (hb2'.cell (p := ⟨g, _, none⟩) hgr).trans r4⟩
        clear hb2 hb2' x0 x1 x2 x3 x4 c0 c1 c2 c3 c4
        have hsw : w0.heap.size ≤ w2.heap.size := (unhide HB2).size
        have hgn : g < w2.heap.size := by omega
        rcases (show (q = true ∧ d = false) ∨ (q && !d) = false from by cases q <;> cases d <;> simp) with ⟨hq, hd⟩ | hqd
        · subst hq hd
          have HJ2 : Hid (jTo x (l.take (k + 1)) = (acc ++ [x] ++ [y], true)) := hide ((unhide HST).trans (unhide HJS))
          obtain ⟨_, x0, x1, x2, x3, x4⟩ := unhide HOP2
          go_wp2_with (first
            | (at_builtin; (refine wpList_append_own _ rfl _ _ 99 rfl w0.heap.size 146 i0 (.agg #[.int .i64 0, .int .i64 0, .int .i64 0, .int .i64 0, .string ByteArray.empty]) 5 48 Tryz.underlying99 hi hz0 hz1 hz2 rfl (by decide) _ _ _ rfl (own_below (unhide HOWN2) ((Below.refl _ _).alloc (Nat.le_refl _) _)) ⟨w2.heap.size, 0, none⟩ 1 1 (loC x) rfl rfl (news_five _ _ _ _ _ _) (by simp [Value.oneCell', loC]) (by unfold maxLen; omega) (by omega) (by simp; omega) ?_))
            | go_in)
          intro v' w3 hown3 hg3 _
          have hb3 : Below w0.heap.size w0 w3 := ((unhide HB2).alloc hsw _).grown hg3 (by simp; omega) (own_ge (unhide HOWN2))
          have hk3 : Keeps (fun k => w0.heap.size ≤ k) w2 w3 := (Keeps.of_below (S := fun k => w0.heap.size ≤ k) ((Below.refl w2.heap.size w2).alloc (Nat.le_refl _) _) (fun k h1 h2 => by omega)).trans (Keeps.of_grown hg3) (fun k _ h => own_ge (unhide HOWN2) k h)
          obtain ⟨y0, y1, y2, y3, y4⟩ := unhide HRC2
          have hgb : w3.heap[g]? = w2.heap[g]? := hk3.block g hgn (by omega)
          have z0 := (World.cell?_of_block (a := ⟨g, k * 5, none⟩) hgb).trans y0
          have z1 := (World.cell?_of_block (a := ⟨g, k * 5 + 1, none⟩) hgb).trans y1
          have z2 := (World.cell?_of_block (a := ⟨g, k * 5 + 2, none⟩) hgb).trans y2
          have z3 := (World.cell?_of_block (a := ⟨g, k * 5 + 3, none⟩) hgb).trans y3
          have z4 := (World.cell?_of_block (a := ⟨g, k * 5 + 4, none⟩) hgb).trans y4
          have HOWN3 : Hid (w3.ownsRow w0.heap.size 146 5 v' (acc.length + 1) (loCells (acc ++ [x]))) := by apply hide; rw [loCells_snoc]; exact hown3
          have HB3 := hide hb3
          have hsw3 : w0.heap.size ≤ w3.heap.size := hb3.size
          clear hown3 hg3 hb3 hk3 hgb y0 y1 y2 y3 y4 x0 x1 x2 x3 x4
          go_wp2_with (first
            | (at_builtin; (refine wpList_append_own _ rfl _ _ 99 rfl w0.heap.size 146 i0 (.agg #[.int .i64 0, .int .i64 0, .int .i64 0, .int .i64 0, .string ByteArray.empty]) 5 48 Tryz.underlying99 hi hz0 hz1 hz2 rfl (by decide) _ _ _ rfl (own_below (unhide HOWN3) ((Below.refl _ _).alloc (Nat.le_refl _) _)) ⟨w3.heap.size, 0, none⟩ 1 1 (loC y) rfl rfl (news_five _ _ _ _ _ _) (by simp [Value.oneCell', loC]) (by unfold maxLen; omega) (by omega) (by simp; omega) ?_))
            | go_in)
          intro v2 w4 hown4 hg4 _
          have hb4 : Below w0.heap.size w0 w4 := ((unhide HB3).alloc hsw3 _).grown hg4 (by simp; omega) (own_ge (unhide HOWN3))
          have hown5 : w4.ownsRow w0.heap.size 146 5 v2 (jTo x (l.take (k + 1))).1.length (loCells (jTo x (l.take (k + 1))).1) := by
            rw [unhide HJ2]
            show w4.ownsRow _ _ _ _ (acc ++ [x] ++ [y]).length (loCells (acc ++ [x] ++ [y]))
            rw [loCells_snoc, List.length_append, List.length_append]; exact hown4
          clear hg4 hown4 z0 z1 z2 z3 z4
          go_wp2
          go_roundw
          case rel => exact ⟨k + 1, by omega, by go_num, by rw [unhide HJ2], hown5, hb4⟩
          case measure => simp [intOf]; omega
        · have HJ2 : Hid (jTo x (l.take (k + 1)) = (acc ++ [y], d)) := by
            apply hide; rw [unhide HST, unhide HJS, hqd]; rfl
          have hqd' : q = false ∨ (q = true ∧ d = true) := by cases q <;> cases d <;> simp at hqd ⊢
          clear hqd
          obtain ⟨y0, y1, y2, y3, y4⟩ := unhide HRC2
          rcases hqd' with hq | ⟨hq, hd⟩
          case' inl => subst hq
          case' inr => subst hq hd
          all_goals
            go_wp2_with (first
              | (at_builtin; (refine wpList_append_own _ rfl _ _ 99 rfl w0.heap.size 146 i0 (.agg #[.int .i64 0, .int .i64 0, .int .i64 0, .int .i64 0, .string ByteArray.empty]) 5 48 Tryz.underlying99 hi hz0 hz1 hz2 rfl (by decide) _ _ _ rfl (own_below (unhide HOWN2) ((Below.refl _ _).alloc (Nat.le_refl _) _)) ⟨w2.heap.size, 0, none⟩ 1 1 (loC y) rfl rfl (news_five _ _ _ _ _ _) (by simp [Value.oneCell', loC]) (by unfold maxLen; omega) (by omega) (by simp; omega) ?_))
              | go_in)
            intro v2 w4 hown4 hg4 _
            have hb4 : Below w0.heap.size w0 w4 := ((unhide HB2).alloc hsw _).grown hg4 (by simp; omega) (own_ge (unhide HOWN2))
            have hown5 : w4.ownsRow w0.heap.size 146 5 v2 (jTo x (l.take (k + 1))).1.length (loCells (jTo x (l.take (k + 1))).1) := by
              rw [unhide HJ2]
              show w4.ownsRow _ _ _ _ (acc ++ [y]).length (loCells (acc ++ [y]))
              rw [loCells_snoc, List.length_append]; exact hown4
            clear hg4 hown4 y0 y1 y2 y3 y4
            go_wp2
            go_roundw
            case rel => exact ⟨k + 1, by omega, by go_num, by rw [unhide HJ2], hown5, hb4⟩
            case measure => simp [intOf]; omega
    · have HE : Hid ((if (jTo x (l.take k)).2 then (jTo x (l.take k)).1 else (jTo x (l.take k)).1 ++ [x]) = ins x l) := by apply hide; rw [List.take_of_length_le (by omega)]; exact jTo_end x l
      generalize (jTo x (l.take k)).1 = acc at *
      generalize (jTo x (l.take k)).2 = d at *
      have hsz := hbel.size
      cases d with
      | true =>
        obtain ⟨fo, cf, rfl, _⟩ := row_of_owns hown
        have HE2 : Hid (ins x l = acc) := hide (unhide HE).symm
        have HOWN := hide hown; clear hown
        go_wp2
        go_ret
        refine ⟨fo, cf, by rw [unhide HE2]; rfl, ?_, (unhide HBW).trans (hbel.mono (by omega))⟩
        rw [unhide HE2]
        exact own_base (unhide HOWN) (by omega)
      | false =>
        have HE2 : Hid (ins x l = acc ++ [x]) := hide (unhide HE).symm
        have HOWN := hide hown; clear hown
        have hal : acc.length + 1 ≤ 20000 := by omega
        go_wp2_with (first
          | (at_builtin; (refine wpList_append_own _ rfl _ _ 99 rfl w0.heap.size 146 i0 (.agg #[.int .i64 0, .int .i64 0, .int .i64 0, .int .i64 0, .string ByteArray.empty]) 5 48 Tryz.underlying99 hi hz0 hz1 hz2 rfl (by decide) _ _ _ rfl (own_below (unhide HOWN) ((Below.refl _ _).alloc (Nat.le_refl _) _)) ⟨wr.heap.size, 0, none⟩ 1 1 (loC x) rfl rfl (news_five _ _ _ _ _ _) (by simp [Value.oneCell', loC]) (by unfold maxLen; omega) (by omega) (by simp; omega) ?_))
          | go_in)
        intro v' w3 hown3 hg3 _
        have hb3 : Below w0.heap.size w0 w3 := (hbel.alloc hsz _).grown hg3 (by simp; omega) (own_ge (unhide HOWN))
        have hown4 : w3.ownsRow w0.heap.size 146 5 v' (acc ++ [x]).length (loCells (acc ++ [x])) := by rw [loCells_snoc, List.length_append]; exact hown3
        obtain ⟨fo, cf, rfl, _⟩ := row_of_owns hown4
        have HOWN4 := hide hown4
        clear hown3 hg3 hown4
        go_wp2
        go_ret
        refine ⟨fo, cf, by rw [unhide HE2]; rfl, ?_, (unhide HBW).trans (hb3.mono (by omega))⟩
        rw [unhide HE2]
        exact own_base (unhide HOWN4) (by omega)
end Go.Proofs.YtdcjimlhaklhfabGreatDoor

namespace Go.Proofs.YtdcjimlhaklhfabGreatDoor
open Go.RowKit
attribute [local go_sem ↓] Go.wp_at_zero Go.wp_at_succ
theorem set5 {W : World} {B : Nat} (x0 x1 x2 x3 x4 : Value) (h0 : (W.cell? ⟨B, 0, none⟩).isSome = true) (h1 : (W.cell? ⟨B, 1, none⟩).isSome = true) (h2 : (W.cell? ⟨B, 2, none⟩).isSome = true) (h3 : (W.cell? ⟨B, 3, none⟩).isSome = true) (h4 : (W.cell? ⟨B, 4, none⟩).isSome = true) :
    let Z := ((((W.setCell ⟨B, 0, none⟩ x0).setCell ⟨B, 1, none⟩ x1).setCell ⟨B, 2, none⟩ x2).setCell ⟨B, 3, none⟩ x3).setCell ⟨B, 4, none⟩ x4
    Z.cell? ⟨B, 0, none⟩ = some x0 ∧ Z.cell? ⟨B, 1, none⟩ = some x1 ∧ Z.cell? ⟨B, 2, none⟩ = some x2 ∧ Z.cell? ⟨B, 3, none⟩ = some x3 ∧ Z.cell? ⟨B, 4, none⟩ = some x4 := by
  obtain ⟨u0, e0⟩ := Option.isSome_iff_exists.1 h0
  obtain ⟨u1, e1⟩ := Option.isSome_iff_exists.1 h1
  obtain ⟨u2, e2⟩ := Option.isSome_iff_exists.1 h2
  obtain ⟨u3, e3⟩ := Option.isSome_iff_exists.1 h3
  obtain ⟨u4, e4⟩ := Option.isSome_iff_exists.1 h4
  refine ⟨?_, ?_, ?_, ?_, ?_⟩ <;> simp [go_sem, e0, e1, e2, e3, e4]
theorem rparts_five {r : Str} (h : (rparts r).length = 5) : ∃ a b c d e, rparts r = [a, b, c, d, e] := len5 h
theorem readOp_r (r : Str) : readOp r = opOf (rparts r) := by
  unfold readOp rparts; split <;> rfl
set_option maxHeartbeats 1000000 in
theorem entry_no (s : ByteArray) (w : World) (hs : s.size ≤ 4000) (h5 : (rparts (sl s)).length ≠ 5) :
    Calls Tryz.prog 140 #[.string s] w fun e w' => OpRes (readOp (sl s)) e ∧ Below w.heap.size w w' := by
  rw [readOp_r, opOf_other h5]
  have HP := hide (fun W => rparts_any s W hs)
  have hne : (((rparts (sl s)).length : Int) != 5) = true := by rw [bne_iff_ne]; omega
  generalize (rparts (sl s)).length = n at *
  go_enter Tryz.func140, Tryz.ntmps140
  go_wp2_with fail
  refine (unhide HP _).mono ?_
  rintro e w1 ⟨ao, cap, rfl, hrow, hbel⟩
  clear hrow
  obtain ⟨hc, hf⟩ := bcell hbel
  have hz : w.heap.size + 1 ≤ w1.heap.size := by have := hbel.size; simp at this; omega
  have HB0 : Hid (Below w.heap.size w w1) := hide (((Below.refl _ _).alloc (Nat.le_refl _) _).trans (hbel.mono (by simp)))
  go_wp2
  refine bodyPost_ret (v := .tuple #[.agg #[.int .i64 0, .int .i64 0, .int .i64 0, .int .i64 0, .string ByteArray.empty], .bool false]) (by simp [results, Tryz.results140, go_sem, hc]; rfl) rfl ⟨opRes_none, ?_⟩
  exact (((((unhide HB0).setCell (by simp) _).setCell (by simp) _).setCell (by simp) _).setCell (by simp) _).setCell (by simp) _
theorem call_on {W0 W w1 : World} (h : Below W0.heap.size W0 W) (hb : Below W.heap.size W w1) : Below W0.heap.size W0 w1 := h.trans (hb.mono h.size)
theorem below_more {W0 W : World} {o : Obj} (h : Below W0.heap.size W0 W) : Below W0.heap.size W0 (W.alloc o) := h.alloc h.size o
theorem five_cells {w : World} {B : Nat} {a b c d e : Value} {T : TypeId} (h : w.heap[B]? = some (.cells #[a, b, c, d, e] T (0, 0))) : w.cell? ⟨B, 0, none⟩ = some a ∧ w.cell? ⟨B, 1, none⟩ = some b ∧ w.cell? ⟨B, 2, none⟩ = some c ∧ w.cell? ⟨B, 3, none⟩ = some d ∧ w.cell? ⟨B, 4, none⟩ = some e ∧ (∀ j, w.frozen? ⟨B, j, none⟩ = false) ∧ B < w.heap.size := by
  refine ⟨?_, ?_, ?_, ?_, ?_, fun j => by simp [World.frozen?, h], lt_of_block h⟩
  all_goals rw [cell_of_row w B _ _ _ _ h]; rfl
theorem dash5 (s : Str) : ((bs s).toList == [45]) = (s == [45]) := by rw [tl_sl, sl_bs]
theorem set5_block {W : World} {B : Nat} {a b c d e : Value} {T : TypeId} (x0 x1 x2 x3 x4 : Value) (h : W.heap[B]? = some (.cells #[a, b, c, d, e] T (0, 0))) :
    (((((W.setCell ⟨B, 0, none⟩ x0).setCell ⟨B, 1, none⟩ x1).setCell ⟨B, 2, none⟩ x2).setCell ⟨B, 3, none⟩ x3).setCell ⟨B, 4, none⟩ x4).heap[B]? = some (.cells #[x0, x1, x2, x3, x4] T (0, 0)) := by
  have h0 := heap_setCell_same W B 0 _ _ x0 h
  have h1 := heap_setCell_same _ B 1 _ _ x1 h0
  have h2 := heap_setCell_same _ B 2 _ _ x2 h1
  have h3 := heap_setCell_same _ B 3 _ _ x3 h2
  have h4 := heap_setCell_same _ B 4 _ _ x4 h3
  rw [h4]; rfl
set_option maxHeartbeats 8000000 in
set_option maxRecDepth 100000 in
theorem entry_yes (s : ByteArray) (w : World) (hs : s.size ≤ 4000) (a b c d f : Str) (h5 : rparts (sl s) = [a, b, c, d, f]) :
    Calls Tryz.prog 140 #[.string s] w fun e w' => OpRes (readOp (sl s)) e ∧ Below w.heap.size w w' := by
  rw [readOp_r, h5]
  show Calls Tryz.prog 140 #[.string s] w fun e w' => OpRes (opOf5 a b c d f) e ∧ Below w.heap.size w w'
  have hl := rparts_len (sl s) (by rw [sl_length]; exact hs)
  rw [h5] at hl
  have hla : (bs a).size ≤ 4000 := by rw [bs_size]; exact hl a (by simp)
  have hlb : (bs b).size ≤ 4000 := by rw [bs_size]; exact hl b (by simp)
  have hlc : (bs c).size ≤ 4000 := by rw [bs_size]; exact hl c (by simp)
  have hld : (bs d).size ≤ 4000 := by rw [bs_size]; exact hl d (by simp)
  have hlf : (bs f).size ≤ 4000 := by rw [bs_size]; exact hl f (by simp)
  have HP : Hid (∀ W, Calls Tryz.prog 135 #[.string s] W fun e w' => ∃ ao cap, e = .returned (.slice ao 5 cap) ∧ Row w' ao 5 1 [.string (bs a), .string (bs b), .string (bs c), .string (bs d), .string (bs f)] ∧ Below W.heap.size W w') := by
    apply hide; intro W; have := rparts_any s W hs; rw [h5] at this; exact this
  clear hl h5
  go_enter Tryz.func140, Tryz.ntmps140
  go_wp2_with fail
  refine (unhide HP _).mono ?_
  rintro e W0 ⟨ao, cap, rfl, hrow, hbel⟩
  obtain ⟨g, hao, hgW, hcel⟩ := hrow.2 (by omega)
  rw [hao]
  have d0 := hcel 0 _ rfl
  have d1 := hcel 1 _ rfl
  have d2 := hcel 2 _ rfl
  have D2 := hide d2
  have D3 := hide (hcel 3 _ rfl)
  have D4 := hide (hcel 4 _ rfl)
  clear hcel hao hrow
  have hzN : w.heap.size < W0.heap.size := by have := hbel.size; simp at this; omega
  obtain ⟨hcN, hfN⟩ := bcell hbel
  have HN : Hid (∀ o, W0.cell? ⟨w.heap.size, o, none⟩ = (w.alloc (Obj.cells #[.int .i64 0, .int .i64 0, .int .i64 0, .int .i64 0, .string ⟨#[]⟩] 146)).cell? ⟨w.heap.size, o, none⟩) := hide (fun o => hcN _ o (by simp))
  have HNB : Hid (W0.heap[w.heap.size]? = some (.cells #[.int .i64 0, .int .i64 0, .int .i64 0, .int .i64 0, .string ⟨#[]⟩] 146 (0, 0))) := hide ((hbel.block w.heap.size (by simp)).trans (heap_alloc_new w _))
  have HNF : Hid (∀ o, W0.frozen? ⟨w.heap.size, o, none⟩ = false) := hide (fun o => by rw [hfN _ o (by simp)]; exact frozen_of_row _ _ _ _ _ (heap_alloc_new w _))
  have hgN : ¬ g = w.heap.size := by
    intro e; have h0 := (five_cells (unhide HNB)).1; rw [← e, d0] at h0; cases h0
  have hNg : ¬ w.heap.size = g := fun e => hgN e.symm
  have HBW : Hid (Below w.heap.size w W0) := hide (((Below.refl _ _).alloc (Nat.le_refl _) _).trans (hbel.mono (by simp)))
  clear hbel hcN hfN
  have HD := hide (show W0.drew.cell? ⟨g, 0, none⟩ = some (.string (bs a)) ∧ W0.drew.cell? ⟨g, 1, none⟩ = some (.string (bs b)) ∧ W0.drew.cell? ⟨g, 2, none⟩ = some (.string (bs c)) ∧ Below W0.heap.size W0 W0.drew from ⟨d0, d1, d2, (Below.refl _ _).drew⟩)
  clear d0 d1 d2
  go_wp2
  go_cut [5] from 9 (fun p wx => ∃ B : Nat, p = .pointer (some ⟨B, 0, none⟩) ∧ W0.heap.size ≤ B ∧ wx.heap[B]? = some (.cells #[.int .i64 (numR a 1 9999), .int .i64 (numR b 1 9), .int .i64 0, .int .i64 0, .string ⟨#[]⟩] 146 (0, 0)) ∧ Below W0.heap.size W0 wx)
  case first =>
    have d0 : W0.cell? ⟨g, 0, none⟩ = some (.string (bs a)) := (unhide HD).1
    have d1 : W0.cell? ⟨g, 1, none⟩ = some (.string (bs b)) := (unhide HD).2.1
    go_region_with (go_at_call 142; refine (rnumber_any _ _ _ _ (by first | exact hla | exact hlb) (by omega) (by omega)).mono ?_; rintro e w1 ⟨rfl, hb1⟩; have hB1 := call_on (by first | exact (Below.refl W0.heap.size W0).drew | exact ((Below.refl W0.heap.size W0).alloc (Nat.le_refl _) _).drew | assumption | exact below_more (by assumption)) hb1; obtain ⟨hc1, hf1⟩ := bcell hb1; have hzs := lt_kept hb1; have e0 := (hB1.cell (p := ⟨g, 0, none⟩) hgW).trans d0; have e1 := (hB1.cell (p := ⟨g, 1, none⟩) hgW).trans d1; have hg1 : g < w1.heap.size := Nat.lt_of_lt_of_le hgW hB1.size; have hg2 : ¬ g = w1.heap.size := Nat.ne_of_lt hg1; have hsz1 := hB1.size; have hbk := hb1.block; (first | have hal := (hb1.block W0.heap.size (by simp [heap_drew])).trans (heap_alloc_new W0 _) | have hal := (hb1.block W0.heap.size (lt_of_block hal)).trans hal | skip); clear hb1)
    all_goals go_wp2_with fail
    all_goals go_meet
    all_goals rw [sl_bs, sl_bs]
    all_goals first
      | exact ⟨_, rfl, hsz1, heap_alloc_new _ _, hB1.alloc hsz1 _⟩
      | exact ⟨_, rfl, Nat.le_refl _, set5_block _ _ _ _ _ ((hbk _ (by simp)).trans (heap_alloc_new _ _)), ((((hB1.setCell (Nat.le_refl _) _).setCell (Nat.le_refl _) _).setCell (Nat.le_refl _) _).setCell (Nat.le_refl _) _).setCell (Nat.le_refl _) _⟩
      | (refine ⟨_, rfl, ?_, set5_block _ _ _ _ _ ((hbk _ (by simp)).trans (heap_alloc_new _ _)), ((((hB1.setCell ?_ _).setCell ?_ _).setCell ?_ _).setCell ?_ _).setCell ?_ _⟩ <;> assumption)
      | exact ⟨_, rfl, Nat.le_refl _, set5_block _ _ _ _ _ hal, ((((hB1.setCell (Nat.le_refl _) _).setCell (Nat.le_refl _) _).setCell (Nat.le_refl _) _).setCell (Nat.le_refl _) _).setCell (Nat.le_refl _) _⟩
      | skip
  case rest =>
    obtain ⟨B, hp, hB, hblk, hbel⟩ := hcut
    subst hp
    have HRS : Hid (opOf5 a b c d f = if (number a 1 9999).2 && (number b 1 9).2 && (number c 1 99).2 && (number d 0 100).2 && placeB ⟨(number c 1 99).1, (number d 0 100).1, f⟩ then some ⟨(number a 1 9999).1, (number b 1 9).1, ⟨(number c 1 99).1, (number d 0 100).1, f⟩⟩ else none) := hide rfl
    have t2 := (hbel.cell (p := ⟨g, 2, none⟩) hgW).trans (unhide D2)
    have T3 := hide ((hbel.cell (p := ⟨g, 3, none⟩) hgW).trans (unhide D3))
    have T4 := hide ((hbel.cell (p := ⟨g, 4, none⟩) hgW).trans (unhide D4))
    have hgc : g < wc.heap.size := Nat.lt_of_lt_of_le hgW hbel.size
    have hNc : w.heap.size < wc.heap.size := Nat.lt_of_lt_of_le hzN hbel.size
    have hBc : B < wc.heap.size := lt_of_block hblk
    have HBK := hide hblk
    have HNK := hide ((hbel.block w.heap.size hzN).trans (unhide HNB))
    have HBL : Hid (Below w.heap.size w wc) := hide ((unhide HBW).trans (hbel.mono (by omega)))
    clear hblk hbel HD HN HNF HNB D2 D3 D4 HBW
    have HC := hide (fun W => rnumber_any (bs c) 1 99 W hlc (by omega) (by omega))
    have HDD := hide (fun W => rnumber_any (bs d) 0 100 W hld (by omega) (by omega))
    rw [sl_bs] at HC HDD
    go_wp2_with fail
    refine (unhide HC _).mono ?_
    rintro e w2 ⟨rfl, hb2⟩
    have t3 := (hb2.cell (p := ⟨g, 3, none⟩) hgc).trans (unhide T3)
    have T42 := hide ((hb2.cell (p := ⟨g, 4, none⟩) hgc).trans (unhide T4))
    have HBK2 := hide ((hb2.block B hBc).trans (unhide HBK))
    have HNK2 := hide ((hb2.block w.heap.size hNc).trans (unhide HNK))
    have HBL2 := hide ((unhide HBL).trans (hb2.mono (Nat.le_of_lt hNc)))
    have hgc2 : g < w2.heap.size := Nat.lt_of_lt_of_le hgc hb2.size
    have hNc2 : w.heap.size < w2.heap.size := Nat.lt_of_lt_of_le hNc hb2.size
    have hBc2 : B < w2.heap.size := Nat.lt_of_lt_of_le hBc hb2.size
    clear hb2 t2
    go_wp2_with fail
    refine (unhide HDD _).mono ?_
    rintro e w3 ⟨rfl, hb3⟩
    have t4 := (hb3.cell (p := ⟨g, 4, none⟩) hgc2).trans (unhide T42)
    have HBK3 := hide ((hb3.block B hBc2).trans (unhide HBK2))
    have HNK3 := hide ((hb3.block w.heap.size hNc2).trans (unhide HNK2))
    have HBL3 := hide ((unhide HBL2).trans (hb3.mono (Nat.le_of_lt hNc2)))
    have hgc3 : g < w3.heap.size := Nat.lt_of_lt_of_le hgc2 hb3.size
    clear hb3 t3 HBK HNK HBL HBK2 HNK2 HBL2 T3 T4 T42 hgc hNc hBc hgc2 hNc2 hBc2
    obtain ⟨b0, b1, b2, b3, b4, bf, bl⟩ := five_cells (unhide HBK3)
    obtain ⟨n0, n1, n2, n3, n4, nf, nl⟩ := five_cells (unhide HNK3)
    have hNB : ¬ w.heap.size = B := by omega
    have hBN : ¬ B = w.heap.size := by omega
    have hBg : ¬ B = g := by omega
    have hgB : ¬ g = B := by omega
    have bda := number_bd a 1 9999 (by omega)
    have bdb := number_bd b 1 9 (by omega)
    have bdc := number_bd c 1 99 (by omega)
    have bdd := number_bd d 0 100 (by omega)
    rcases (show (number a 1 9999).2 = false ∨ ((number a 1 9999).2 = true ∧ (number b 1 9).2 = false) ∨ ((number a 1 9999).2 = true ∧ (number b 1 9).2 = true ∧ (number c 1 99).2 = false) ∨ ((number a 1 9999).2 = true ∧ (number b 1 9).2 = true ∧ (number c 1 99).2 = true ∧ (number d 0 100).2 = false) ∨ ((number a 1 9999).2 = true ∧ (number b 1 9).2 = true ∧ (number c 1 99).2 = true ∧ (number d 0 100).2 = true) from by cases (number a 1 9999).2 <;> cases (number b 1 9).2 <;> cases (number c 1 99).2 <;> cases (number d 0 100).2 <;> simp) with h1 | ⟨h1, h2⟩ | ⟨h1, h2, h3⟩ | ⟨h1, h2, h3, h4⟩ | ⟨h1, h2, h3, h4⟩
    case inr.inr.inr.inr =>
      generalize hn1 : numR a 1 9999 = y1 at *
      generalize hn2 : numR b 1 9 = y2 at *
      generalize hn3 : numR c 1 99 = y3 at *
      generalize hn4 : numR d 0 100 = y4 at *
      rw [numR_yes h1] at hn1
      rw [numR_yes h2] at hn2
      rw [numR_yes h3] at hn3
      rw [numR_yes h4] at hn4
      rw [hn1] at bda
      rw [hn2] at bdb
      rw [hn3] at bdc
      rw [hn4] at bdd
      have HR : Hid (opOf5 a b c d f = if placeB ⟨y3, y4, f⟩ then some ⟨y1, y2, ⟨y3, y4, f⟩⟩ else none) := by apply hide; rw [unhide HRS, h1, h2, h3, h4, hn1, hn2, hn3, hn4]; rfl
      have HPB : Hid (placeB ⟨y3, y4, f⟩ = if y4 = 100 then f == [45] else (y4 % 2 == 0 && isName f y3)) := hide rfl
      clear HRS hn1 hn2 hn3 hn4 h1 h2 h3 h4
      obtain ⟨u1, _⟩ := bda
      obtain ⟨u2, _⟩ := bdb
      obtain ⟨u3, v3⟩ := bdc
      obtain ⟨u4, v4⟩ := bdd
      have k1 : decide (y1 < 0) = false := by simp; omega
      have k2 : decide (y2 < 0) = false := by simp; omega
      have k3 : decide (y3 < 0) = false := by simp; omega
      have k4 : decide (y4 < 0) = false := by simp; omega
      by_cases hodd : y4 % 2 = 1
      · have k5 : (y4 % 2 == 1) = true := by simpa using hodd
        have HRN : Hid (opOf5 a b c d f = none) := by
          apply hide
          have hpf : placeB ⟨y3, y4, f⟩ = false := by rw [unhide HPB, if_neg (by omega), show (y4 % 2 == 0) = false by simp; omega]; rfl
          rw [unhide HR, hpf]; rfl
        clear HR HPB hodd
        go_wp2
        refine bodyPost_ret (v := .tuple #[.agg #[.int .i64 0, .int .i64 0, .int .i64 0, .int .i64 0, .string ByteArray.empty], .bool false]) (by simp [results, Tryz.results140, go_sem, n0, n1, n2, n3, n4]; rfl) rfl ⟨by rw [unhide HRN]; exact opRes_none, ?_⟩
        exact (((((unhide HBL3).setCell (Nat.le_refl _) _).setCell (Nat.le_refl _) _).setCell (Nat.le_refl _) _).setCell (Nat.le_refl _) _).setCell (Nat.le_refl _) _
      · have k5 : (y4 % 2 == 1) = false := by simpa using hodd
        have HB5 : Hid ((((w3.setCell ⟨B, 2, none⟩ (.int .i64 y3)).setCell ⟨B, 3, none⟩ (.int .i64 y4)).setCell ⟨B, 4, none⟩ (.string (bs f))).heap[B]? = some (.cells #[.int .i64 y1, .int .i64 y2, .int .i64 y3, .int .i64 y4, .string (bs f)] 146 (0, 0))) := by
          apply hide
          have q0 := heap_setCell_same w3 B 2 _ _ (.int .i64 y3) (unhide HBK3)
          have q1 := heap_setCell_same _ B 3 _ _ (.int .i64 y4) q0
          have q2 := heap_setCell_same _ B 4 _ _ (.string (bs f)) q1
          rw [q2]; rfl
        have hK5 : Keeps (fun k => k = B) w3 (((w3.setCell ⟨B, 2, none⟩ (.int .i64 y3)).setCell ⟨B, 3, none⟩ (.int .i64 y4)).setCell ⟨B, 4, none⟩ (.string (bs f))) := ((Keeps.set w3 B 2 _).trans (Keeps.set _ B 3 _) (fun _ _ h => h)).trans (Keeps.set _ B 4 _) (fun _ _ h => h)
        have HN5 := hide ((hK5.block w.heap.size nl hNB).trans (unhide HNK3))
        have s4 : (((w3.setCell ⟨B, 2, none⟩ (.int .i64 y3)).setCell ⟨B, 3, none⟩ (.int .i64 y4)).setCell ⟨B, 4, none⟩ (.string (bs f))).cell? ⟨g, 4, none⟩ = some (.string (bs f)) := (World.cell?_of_block (a := ⟨g, 4, none⟩) (hK5.block g hgc3 hgB)).trans t4
        have S4 := hide s4
        have hs5 : w3.heap.size ≤ (((w3.setCell ⟨B, 2, none⟩ (.int .i64 y3)).setCell ⟨B, 3, none⟩ (.int .i64 y4)).setCell ⟨B, 4, none⟩ (.string (bs f))).heap.size := hK5.size
        have HBL5 := hide ((((unhide HBL3).setCell (p := ⟨B, 2, none⟩) (show w.heap.size ≤ B by omega) (.int .i64 y3)).setCell (p := ⟨B, 3, none⟩) (show w.heap.size ≤ B by omega) (.int .i64 y4)).setCell (p := ⟨B, 4, none⟩) (show w.heap.size ≤ B by omega) (.string (bs f)))
        clear hK5 s4
        go_upto_region 10 with fail
        clear b0 b1 b2 b3 b4 bf n0 n1 n2 n3 n4 nf t4
        generalize ((w3.setCell ⟨B, 2, none⟩ (.int .i64 y3)).setCell ⟨B, 3, none⟩ (.int .i64 y4)).setCell ⟨B, 4, none⟩ (.string (bs f)) = w5 at *
        have hg5 : g < w5.heap.size := Nat.lt_of_lt_of_le hgc3 hs5
        obtain ⟨b0, b1, b2, b3, b4, bf, bl5⟩ := five_cells (unhide HB5)
        obtain ⟨n0, n1, n2, n3, n4, nf, nl5⟩ := five_cells (unhide HN5)
        have t4 := unhide S4
        by_cases h100 : y4 = 100
        · have k6 : (y4 == 100) = true := by simpa using h100
          have HPF : Hid (placeB ⟨y3, y4, f⟩ = (f == [45])) := by apply hide; rw [unhide HPB, if_pos h100]
          have hde := dash_eq f
          have HDE := hide hde
          clear h100
          go_wp2
          go_region
          all_goals
            go_wp2
            refine bodyPost_ret (v := .tuple #[.agg #[.int .i64 y1, .int .i64 y2, .int .i64 y3, .int .i64 y4, .string (bs f)], .bool (f == [45])]) (by simp [results, Tryz.results140, go_sem, n0, n1, n2, n3, n4, dash5]) rfl ⟨?_, ?_⟩
            · refine ⟨y1, y2, y3, y4, bs f, ?_, fun x hx => ?_⟩
              · rw [unhide HR, unhide HPF]; cases (f == [45]) <;> rfl
              · rw [unhide HR, unhide HPF] at hx
                cases hq : (f == [45]) with
                | false => rw [hq] at hx; cases hx
                | true => rw [hq] at hx; cases hx; exact ⟨rfl, rfl, rfl, rfl, rfl⟩
            · exact (((((unhide HBL5).setCell (Nat.le_refl _) _).setCell (Nat.le_refl _) _).setCell (Nat.le_refl _) _).setCell (Nat.le_refl _) _).setCell (Nat.le_refl _) _ |>.drew
        · have k6 : (y4 == 100) = false := by simpa using h100
          have HPF : Hid (placeB ⟨y3, y4, f⟩ = isName f y3) := by apply hide; rw [unhide HPB, if_neg h100, show (y4 % 2 == 0) = true by simp; omega]; rfl
          have HNM := hide (fun W => named_any (bs f) y3 W hlf u3 v3)
          rw [sl_bs] at HNM
          generalize isName f y3 = q at *
          clear h100
          go_wp2_with fail
          refine (unhide HNM _).mono ?_
          rintro e w6 ⟨rfl, hb6⟩
          have HB6 := hide ((hb6.block B bl5).trans (unhide HB5))
          have HN6 := hide ((hb6.block w.heap.size nl5).trans (unhide HN5))
          have HBL6 := hide ((unhide HBL5).trans (hb6.mono (Nat.le_of_lt nl5)))
          clear b0 b1 b2 b3 b4 bf n0 n1 n2 n3 n4 nf t4 hb6
          obtain ⟨b0, b1, b2, b3, b4, bf, bl6⟩ := five_cells (unhide HB6)
          obtain ⟨n0, n1, n2, n3, n4, nf, nl6⟩ := five_cells (unhide HN6)
          go_wp2
          refine bodyPost_ret (v := .tuple #[.agg #[.int .i64 y1, .int .i64 y2, .int .i64 y3, .int .i64 y4, .string (bs f)], .bool q]) (by simp [results, Tryz.results140, go_sem, n0, n1, n2, n3, n4]) rfl ⟨?_, ?_⟩
          · refine ⟨y1, y2, y3, y4, bs f, ?_, fun x hx => ?_⟩
            · rw [unhide HR, unhide HPF]; cases q <;> rfl
            · rw [unhide HR, unhide HPF] at hx
              cases q with
              | false => cases hx
              | true => cases hx; exact ⟨rfl, rfl, rfl, rfl, rfl⟩
          · exact (((((unhide HBL6).setCell (Nat.le_refl _) _).setCell (Nat.le_refl _) _).setCell (Nat.le_refl _) _).setCell (Nat.le_refl _) _).setCell (Nat.le_refl _) _
    case inl =>
      have e1 := numR_neg h1
      have HR : Hid (opOf5 a b c d f = none) := by apply hide; rw [unhide HRS]; simp [*]
      clear HRS h1
      generalize numR a 1 9999 = y1 at *
      generalize numR b 1 9 = y2 at *
      generalize numR c 1 99 = y3 at *
      generalize numR d 0 100 = y4 at *
      subst e1
      go_wp2
      refine bodyPost_ret (v := .tuple #[.agg #[.int .i64 0, .int .i64 0, .int .i64 0, .int .i64 0, .string ByteArray.empty], .bool false]) (by simp [results, Tryz.results140, go_sem, n0, n1, n2, n3, n4]; rfl) rfl ⟨by rw [unhide HR]; exact opRes_none, ?_⟩
      exact (((((unhide HBL3).setCell (Nat.le_refl _) _).setCell (Nat.le_refl _) _).setCell (Nat.le_refl _) _).setCell (Nat.le_refl _) _).setCell (Nat.le_refl _) _
    case inr.inl =>
      have z1 : 0 ≤ numR a 1 9999 := by rw [numR_yes h1]; exact bda.1
      have e1 := numR_neg h2
      have HR : Hid (opOf5 a b c d f = none) := by apply hide; rw [unhide HRS]; simp [*]
      clear HRS h1 h2
      generalize numR a 1 9999 = y1 at *
      generalize numR b 1 9 = y2 at *
      generalize numR c 1 99 = y3 at *
      generalize numR d 0 100 = y4 at *
      subst e1
      have k1 : decide (y1 < 0) = false := by simp; omega
      go_wp2
      refine bodyPost_ret (v := .tuple #[.agg #[.int .i64 0, .int .i64 0, .int .i64 0, .int .i64 0, .string ByteArray.empty], .bool false]) (by simp [results, Tryz.results140, go_sem, n0, n1, n2, n3, n4]; rfl) rfl ⟨by rw [unhide HR]; exact opRes_none, ?_⟩
      exact (((((unhide HBL3).setCell (Nat.le_refl _) _).setCell (Nat.le_refl _) _).setCell (Nat.le_refl _) _).setCell (Nat.le_refl _) _).setCell (Nat.le_refl _) _
    case inr.inr.inl =>
      have z1 : 0 ≤ numR a 1 9999 := by rw [numR_yes h1]; exact bda.1
      have z2 : 0 ≤ numR b 1 9 := by rw [numR_yes h2]; exact bdb.1
      have e1 := numR_neg h3
      have HR : Hid (opOf5 a b c d f = none) := by apply hide; rw [unhide HRS]; simp [*]
      clear HRS h1 h2 h3
      generalize numR a 1 9999 = y1 at *
      generalize numR b 1 9 = y2 at *
      generalize numR c 1 99 = y3 at *
      generalize numR d 0 100 = y4 at *
      subst e1
      have k1 : decide (y1 < 0) = false := by simp; omega
      have k2 : decide (y2 < 0) = false := by simp; omega
      go_wp2
      refine bodyPost_ret (v := .tuple #[.agg #[.int .i64 0, .int .i64 0, .int .i64 0, .int .i64 0, .string ByteArray.empty], .bool false]) (by simp [results, Tryz.results140, go_sem, n0, n1, n2, n3, n4]; rfl) rfl ⟨by rw [unhide HR]; exact opRes_none, ?_⟩
      exact (((((unhide HBL3).setCell (Nat.le_refl _) _).setCell (Nat.le_refl _) _).setCell (Nat.le_refl _) _).setCell (Nat.le_refl _) _).setCell (Nat.le_refl _) _
    case inr.inr.inr.inl =>
      have z1 : 0 ≤ numR a 1 9999 := by rw [numR_yes h1]; exact bda.1
      have z2 : 0 ≤ numR b 1 9 := by rw [numR_yes h2]; exact bdb.1
      have z3 : 0 ≤ numR c 1 99 := by rw [numR_yes h3]; exact bdc.1
      have e1 := numR_neg h4
      have HR : Hid (opOf5 a b c d f = none) := by apply hide; rw [unhide HRS]; simp [*]
      clear HRS h1 h2 h3 h4
      generalize numR a 1 9999 = y1 at *
      generalize numR b 1 9 = y2 at *
      generalize numR c 1 99 = y3 at *
      generalize numR d 0 100 = y4 at *
      subst e1
      have k1 : decide (y1 < 0) = false := by simp; omega
      have k2 : decide (y2 < 0) = false := by simp; omega
      have k3 : decide (y3 < 0) = false := by simp; omega
      go_wp2
      refine bodyPost_ret (v := .tuple #[.agg #[.int .i64 0, .int .i64 0, .int .i64 0, .int .i64 0, .string ByteArray.empty], .bool false]) (by simp [results, Tryz.results140, go_sem, n0, n1, n2, n3, n4]; rfl) rfl ⟨by rw [unhide HR]; exact opRes_none, ?_⟩
      exact (((((unhide HBL3).setCell (Nat.le_refl _) _).setCell (Nat.le_refl _) _).setCell (Nat.le_refl _) _).setCell (Nat.le_refl _) _).setCell (Nat.le_refl _) _
theorem entry_any (s : ByteArray) (w : World) (hs : s.size ≤ 4000) :
    Calls Tryz.prog 140 #[.string s] w fun e w' => OpRes (readOp (sl s)) e ∧ Below w.heap.size w w' := by
  by_cases h5 : (rparts (sl s)).length = 5
  · obtain ⟨a, b, c, d, e, h⟩ := rparts_five h5
    exact entry_yes s w hs a b c d e h
  · exact entry_no s w hs h5
end Go.Proofs.YtdcjimlhaklhfabGreatDoor

namespace Go.Proofs.YtdcjimlhaklhfabGreatDoor
open Go.RowKit
attribute [local go_sem ↓] Go.wp_at_zero Go.wp_at_succ
theorem logText_take' (L : List Lo) (k : Nat) (h : k < L.length) : logText (L.take (k + 1)) = logText (L.take k) ++ loText L[k] := by
  rw [List.take_succ_eq_append_getElem h, logText_snoc]
theorem wr_kept {W0 W w1 : World} {g p o0 o1 : Nat} {a b c d e : Value} (hg : g < W0.heap.size) (hp : p < W0.heap.size) (hb : Below W.heap.size W w1) (h : W.cell? ⟨g, o0, none⟩ = some a ∧ W.cell? ⟨g, o1, none⟩ = some b ∧ W.cell? ⟨p, 0, none⟩ = some c ∧ W.cell? ⟨p, 1, none⟩ = some d ∧ W.cell? ⟨p, 2, none⟩ = some e ∧ Below W0.heap.size W0 W) :
    w1.cell? ⟨g, o0, none⟩ = some a ∧ w1.cell? ⟨g, o1, none⟩ = some b ∧ w1.cell? ⟨p, 0, none⟩ = some c ∧ w1.cell? ⟨p, 1, none⟩ = some d ∧ w1.cell? ⟨p, 2, none⟩ = some e ∧ Below W0.heap.size W0 w1 := by
  obtain ⟨h1, h2, h3, h4, h5, h6⟩ := h
  have hs := h6.size
  have hg' : g < W.heap.size := by omega
  have hp' : p < W.heap.size := by omega
  exact ⟨(hb.cell (p := ⟨g, _, none⟩) hg').trans h1, (hb.cell (p := ⟨g, _, none⟩) hg').trans h2, (hb.cell (p := ⟨p, _, none⟩) hp').trans h3, (hb.cell (p := ⟨p, _, none⟩) hp').trans h4, (hb.cell (p := ⟨p, _, none⟩) hp').trans h5, h6.trans (hb.mono hs)⟩
set_option maxHeartbeats 4000000 in
set_option maxRecDepth 100000 in
theorem written_any (L : List Lo) (ao : Option Addr) (cap : Nat) (w : World) (hrow : Row w ao L.length 5 (loCells L)) (hx : ∀ x ∈ L, LoOk x) (hl : L.length ≤ 4000) :
    Calls Tryz.prog 46 #[.slice ao L.length cap] w fun e w' => e = .returned (.string (bs (logText L))) ∧ Below w.heap.size w w' := by
  have HROW := hide hrow; clear hrow
  have HX := hide hx; clear hx
  go_enter Tryz.func46, Tryz.ntmps46
  go_wp2
  go_loopw [3, 4] (fun s i wr => ∃ k : Nat, ∃ S : Str, k ≤ L.length ∧ i = .int .i64 k ∧ s = .string (bs S) ∧ Below w.heap.size w wr ∧ Hid (S = logText (L.take k))) (fun _ i _ => L.length - (intOf i).toNat)
  case atStart => exact ⟨0, [], Nat.zero_le _, rfl, rfl, Below.refl _ _, hide (by simp [logText])⟩
  case round =>
    obtain ⟨k, S, hk, rfl, rfl, hbel, HS⟩ := hrel
    by_cases hlt : k < L.length
    · obtain ⟨g, hao, hg, c0, c1, c2, c3, c4⟩ := lo_cells (unhide HROW) hbel (Nat.le_refl _) hlt
      rw [hao]
      clear hao
      have hk0 : (0 : Int) ≤ k := by omega
      have hk1 : (k : Int) < L.length := by omega
      have hxk := unhide HX _ (List.getElem_mem hlt)
      have HSN := hide (logText_take' L k hlt)
      have hsl : S.length ≤ 32 * 4000 := by
        rw [unhide HS]
        have := logText_len (L.take k) (fun x h => unhide HX x (List.mem_of_mem_take h))
        rw [List.length_take] at this; omega
      have hsz := hbel.size
      generalize L[k] = x at *
      have q1 := hxk.1
      have q2 := hxk.2.1
      have q3 := hxk.2.2.1
      have q4 := hxk.2.2.2.1
      have q5 := hxk.2.2.2.2.1
      have q6 := hxk.2.2.2.2.2.1
      have q7 := hxk.2.2.2.2.2.2.1
      have q8 := hxk.2.2.2.2.2.2.2.1
      have hnl := ndW_name hxk.2.2.2.2
      have l1 := dec_len x.count.toNat (by omega)
      have l2 := dec_len x.site.toNat (by omega)
      have l3 := dec_len x.node.id.toNat (by omega)
      have l4 := dec_len x.node.parent.toNat (by omega)
      have HNEW : Hid (logText (L.take (k + 1)) = S ++ dec x.count.toNat ++ [32] ++ dec x.site.toNat ++ [32] ++ dec x.node.id.toNat ++ [32] ++ dec x.node.parent.toNat ++ [32] ++ x.node.name ++ [59]) := by
        apply hide; rw [unhide HSN, ← unhide HS]; unfold loText; simp only [List.append_assoc]
      clear HSN hxk
      generalize ha : dec x.count.toNat = a at *
      generalize hb : dec x.site.toNat = b at *
      generalize hc : dec x.node.id.toNat = c at *
      generalize hd : dec x.node.parent.toNat = d at *
      have a0 := add_bs S a (by omega) (by omega)
      have a1 := add_32 (S ++ a) (by simp; omega)
      have a2 := add_bs (S ++ a ++ [32]) b (by simp; omega) (by omega)
      have a3 := add_32 (S ++ a ++ [32] ++ b) (by simp; omega)
      have a4 := add_bs (S ++ a ++ [32] ++ b ++ [32]) c (by simp; omega) (by omega)
      have a5 := add_32 (S ++ a ++ [32] ++ b ++ [32] ++ c) (by simp; omega)
      have a6 := add_bs (S ++ a ++ [32] ++ b ++ [32] ++ c ++ [32]) d (by simp; omega) (by omega)
      have a7 := add_32 (S ++ a ++ [32] ++ b ++ [32] ++ c ++ [32] ++ d) (by simp; omega)
      have a8 := add_bs (S ++ a ++ [32] ++ b ++ [32] ++ c ++ [32] ++ d ++ [32]) x.node.name (by simp; omega) (by omega)
      have a9 := add_59 (S ++ a ++ [32] ++ b ++ [32] ++ c ++ [32] ++ d ++ [32] ++ x.node.name) (by simp; omega)
      generalize S ++ a ++ [32] ++ b ++ [32] ++ c ++ [32] ++ d ++ [32] ++ x.node.name ++ [59] = r9 at *
      generalize S ++ a ++ [32] ++ b ++ [32] ++ c ++ [32] ++ d ++ [32] ++ x.node.name = r8 at *
      generalize S ++ a ++ [32] ++ b ++ [32] ++ c ++ [32] ++ d ++ [32] = r7 at *
      generalize S ++ a ++ [32] ++ b ++ [32] ++ c ++ [32] ++ d = r6 at *
      generalize S ++ a ++ [32] ++ b ++ [32] ++ c ++ [32] = r5 at *
      generalize S ++ a ++ [32] ++ b ++ [32] ++ c = r4 at *
      generalize S ++ a ++ [32] ++ b ++ [32] = r3 at *
      generalize S ++ a ++ [32] ++ b = r2 at *
      generalize S ++ a ++ [32] = r1 at *
      generalize S ++ a = r0 at *
      have hB0 := (Below.refl wr.heap.size wr).alloc (Nat.le_refl _) (.cells #[.int .i64 x.node.id, .int .i64 x.node.parent, .string (bs x.node.name)] 144)
      have hgr : g < wr.heap.size := by omega
      have HS0 := hide (show (wr.alloc (.cells #[.int .i64 x.node.id, .int .i64 x.node.parent, .string (bs x.node.name)] 144)).drew.cell? ⟨g, k * 5, none⟩ = some (.int .i64 x.count) ∧ (wr.alloc (.cells #[.int .i64 x.node.id, .int .i64 x.node.parent, .string (bs x.node.name)] 144)).drew.cell? ⟨g, k * 5 + 1, none⟩ = some (.int .i64 x.site) ∧ (wr.alloc (.cells #[.int .i64 x.node.id, .int .i64 x.node.parent, .string (bs x.node.name)] 144)).drew.cell? ⟨wr.heap.size, 0, none⟩ = some (.int .i64 x.node.id) ∧ (wr.alloc (.cells #[.int .i64 x.node.id, .int .i64 x.node.parent, .string (bs x.node.name)] 144)).drew.cell? ⟨wr.heap.size, 1, none⟩ = some (.int .i64 x.node.parent) ∧ (wr.alloc (.cells #[.int .i64 x.node.id, .int .i64 x.node.parent, .string (bs x.node.name)] 144)).drew.cell? ⟨wr.heap.size, 2, none⟩ = some (.string (bs x.node.name)) ∧ Below (wr.alloc (.cells #[.int .i64 x.node.id, .int .i64 x.node.parent, .string (bs x.node.name)] 144)).heap.size (wr.alloc (.cells #[.int .i64 x.node.id, .int .i64 x.node.parent, .string (bs x.node.name)] 144)) (wr.alloc (.cells #[.int .i64 x.node.id, .int .i64 x.node.parent, .string (bs x.node.name)] 144)).drew from ⟨(hB0.cell (p := ⟨g, _, none⟩) hgr).trans c0, (hB0.cell (p := ⟨g, _, none⟩) hgr).trans c1, news_three _ _ _ _ 0 _ rfl, news_three _ _ _ _ 1 _ rfl, news_three _ _ _ _ 2 _ rfl, (Below.refl _ _).drew⟩)
      have HB1 := hide (hbel.trans (hB0.mono hsz))
      have hz1 : wr.heap.size < (wr.alloc (.cells #[.int .i64 x.node.id, .int .i64 x.node.parent, .string (bs x.node.name)] 144)).heap.size := by simp
      clear hB0
      have HC := hide (And.intro c2 (And.intro c3 c4))
      go_upto_region 6 with fail
      clear c0 c1 c2 c3 c4 HC
      generalize wr.alloc (.cells #[.int .i64 x.node.id, .int .i64 x.node.parent, .string (bs x.node.name)] 144) = W0 at *
      have hgW : g < W0.heap.size := by omega
      go_region_held3 (fun W => W.cell? ⟨g, k * 5, none⟩ = some (.int .i64 x.count) ∧ W.cell? ⟨g, k * 5 + 1, none⟩ = some (.int .i64 x.site) ∧ W.cell? ⟨wr.heap.size, 0, none⟩ = some (.int .i64 x.node.id) ∧ W.cell? ⟨wr.heap.size, 1, none⟩ = some (.int .i64 x.node.parent) ∧ W.cell? ⟨wr.heap.size, 2, none⟩ = some (.string (bs x.node.name)) ∧ Below W0.heap.size W0 W) (first | exact unhide HS0 | assumption) ((go_at_call 81; refine (digits_any _ _ (by omega) (by omega)).mono ?_; rintro e w1 ⟨rfl, hb1⟩; have hs1 := wr_kept hgW hz1 hb1 (by first | assumption | exact unhide HS0); have hbx := hs1.2.2.2.2.2))
      all_goals
        have HBX := hide ((unhide HB1).trans (hbx.mono (by omega)))
        go_wp2
        go_roundw
        case rel => exact ⟨k + 1, _, by omega, by go_num, rfl, unhide HBX, hide (unhide HNEW).symm⟩
        case measure => simp [intOf]; omega
    · have HE : Hid (logText L = S) := by apply hide; rw [unhide HS, List.take_of_length_le (by omega)]
      go_wp2
      go_ret
      exact ⟨ret_str (by rw [unhide HE]), hbel⟩
end Go.Proofs.YtdcjimlhaklhfabGreatDoor

namespace Go.Proofs.YtdcjimlhaklhfabGreatDoor
open Go.RowKit
theorem placeR_len (ns : List Nd) (x : Lo) : (placeR ns x).length ≤ ns.length + 1 := by
  unfold placeR; split
  · unfold layR; rw [List.length_append]; have := List.length_filter_le (otherB x.node) ns; simp; omega
  · omega
theorem placesR_len : ∀ (L : List Lo), (placesR L).length ≤ L.length := by
  refine list_snoc_ind (by simp [placesR]) ?_
  intro L x ih
  have := placeR_len (placesR L) x
  rw [show placesR (L ++ [x]) = placeR (placesR L) x by simp [placesR], List.length_append]; simp; omega
theorem placeR_yes {ns : List Nd} {x : Lo} (h1 : (x.node.parent != x.node.id) = true) (h2 : belowR ns x.node.parent x.node.id = false) : placeR ns x = layR ns x.node true := by unfold placeR; rw [h1, h2]; rfl
theorem placeR_no {ns : List Nd} {x : Lo} (h : (x.node.parent != x.node.id) = false ∨ belowR ns x.node.parent x.node.id = true) : placeR ns x = ns := by
  unfold placeR; rw [if_neg]; rcases h with h | h <;> rw [h] <;> simp
set_option maxHeartbeats 2000000 in
theorem rplaces_any (L : List Lo) (ao : Option Addr) (cap : Nat) (w : World) (hrow : Row w ao L.length 5 (loCells L)) (hl : L.length ≤ 1000) :
    Calls Tryz.prog 83 #[.slice ao L.length cap] w fun e w' => ∃ fo cf, e = .returned (.slice fo (placesR L).length cf) ∧ Row w' fo (placesR L).length 3 (ndCells (placesR L)) ∧ Below w.heap.size w w' := by
  have HROW := hide hrow; clear hrow
  go_enter Tryz.func83, Tryz.ntmps83
  go_wp2
  go_loopw [3, 4] (fun v i wr => ∃ k : Nat, ∃ fo : Option Addr, ∃ cf : Nat, k ≤ L.length ∧ i = .int .i64 k ∧ v = .slice fo (placesR (L.take k)).length cf ∧ Below w.heap.size w wr ∧ Hid (Row wr fo (placesR (L.take k)).length 3 (ndCells (placesR (L.take k))))) (fun _ i _ => L.length - (intOf i).toNat)
  case atStart => exact ⟨0, none, 0, Nat.zero_le _, rfl, by simp [placesR], Below.refl _ _, hide ⟨by simp [placesR, ndCells], fun h => by simp [placesR] at h⟩⟩
  case round =>
    obtain ⟨k, fo, cf, hk, rfl, rfl, hbel, HR⟩ := hrel
    have hpl := placesR_len (L.take k)
    rw [List.length_take] at hpl
    by_cases hlt : k < L.length
    · obtain ⟨g, hao, hg, c0, c1, c2, c3, c4⟩ := lo_cells (unhide HROW) hbel (Nat.le_refl _) hlt
      rw [hao]
      clear hao
      have hk0 : (0 : Int) ≤ k := by omega
      have hk1 : (k : Int) < L.length := by omega
      have HST := hide (placesR_snoc L k hlt)
      have hsz := hbel.size
      generalize L[k] = x at *
      have hB0 := (Below.refl wr.heap.size wr).alloc (Nat.le_refl _) (.cells #[.int .i64 x.node.id, .int .i64 x.node.parent, .string (bs x.node.name)] 144)
      have HBE := hide (below_any (placesR (L.take k)) x.node.parent x.node.id fo cf _ ((unhide HR).below hB0) (by omega))
      have HR1 := hide ((unhide HR).below hB0)
      have HB1 := hide (hbel.trans (hB0.mono hsz))
      have HLA := hide (fun W (h : Row W fo (placesR (L.take k)).length 3 (ndCells (placesR (L.take k)))) => lay_any (placesR (L.take k)) x.node true fo cf W h (by omega))
      have HYE := hide (@placeR_yes (placesR (L.take k)) x)
      have HNO := hide (@placeR_no (placesR (L.take k)) x)
      clear hB0
      have P0 : (wr.alloc (.cells #[.int .i64 x.node.id, .int .i64 x.node.parent, .string (bs x.node.name)] 144)).cell? ⟨wr.heap.size, 0, none⟩ = some (.int .i64 x.node.id) := news_three _ _ _ _ 0 _ rfl
      generalize belowR (placesR (L.take k)) x.node.parent x.node.id = q at *
      cases h1 : (x.node.parent != x.node.id)
      · have HE := hide ((unhide HST).trans (unhide HNO (.inl h1)))
        go_wp2_with fail
        refine (unhide HBE).mono ?_
        rintro e w1 ⟨rfl, rfl⟩
        go_wp2
        go_roundw
        case rel => exact ⟨k + 1, fo, cf, by omega, by go_num, by rw [unhide HE], unhide HB1, by rw [unhide HE]; exact HR1⟩
        case measure => simp [intOf]; omega
      · cases q with
        | true =>
          have HE := hide ((unhide HST).trans (unhide HNO (.inr rfl)))
          go_wp2_with fail
          refine (unhide HBE).mono ?_
          rintro e w1 ⟨rfl, rfl⟩
          go_wp2
          go_roundw
          case rel => exact ⟨k + 1, fo, cf, by omega, by go_num, by rw [unhide HE], unhide HB1, by rw [unhide HE]; exact HR1⟩
          case measure => simp [intOf]; omega
        | false =>
          have HE := hide ((unhide HST).trans (unhide HYE h1 rfl))
          go_wp2_with fail
          refine (unhide HBE).mono ?_
          rintro e w1 ⟨rfl, rfl⟩
          go_wp2_with fail
          refine (unhide HLA _ (by exact unhide HR1)).mono ?_
          rintro e w2 ⟨⟨fo2, cf2, rfl, hr2⟩, hb2⟩
          have HB2 := hide ((unhide HB1).trans (hb2.mono (unhide HB1).size))
          have HR2 := hide hr2
          clear hb2 hr2 c0 c1 c2 c3 c4 P0
          go_wp2
          go_roundw
          case rel => exact ⟨k + 1, fo2, cf2, by omega, by go_num, by rw [unhide HE], unhide HB2, by rw [unhide HE]; exact HR2⟩
          case measure => simp [intOf]; omega
    · have HE : Hid (placesR L = placesR (L.take k)) := by apply hide; rw [List.take_of_length_le (by omega)]
      go_wp2
      go_ret
      exact ⟨fo, cf, by rw [unhide HE]; rfl, by rw [unhide HE]; exact unhide HR, hbel⟩
def SeenInv (ns : List Nd) (k : Nat) (out : List Nd) : Prop := out = (ns.take k).filter (fun n => belowR ns n.id 0)
theorem seen_step {ns : List Nd} {k : Nat} {out : List Nd} (h : SeenInv ns k out) (hk : k < ns.length) : SeenInv ns (k + 1) (if belowR ns (ns[k]).id 0 then out ++ [ns[k]] else out) := by
  unfold SeenInv at *
  rw [List.take_succ_eq_append_getElem hk, List.filter_append, ← h]
  cases hq : belowR ns (ns[k]).id 0 <;> simp [hq]
theorem seen_len {ns : List Nd} {k : Nat} {out : List Nd} (h : SeenInv ns k out) : out.length ≤ k := by
  unfold SeenInv at h; rw [h]
  have := List.length_filter_le (fun n => belowR ns n.id 0) (ns.take k)
  rw [List.length_take] at this; omega
set_option maxHeartbeats 2000000 in
theorem rseen_any (ns : List Nd) (ao : Option Addr) (cap : Nat) (w : World) (hrow : Row w ao ns.length 3 (ndCells ns)) (hl : ns.length ≤ 1000) :
    Calls Tryz.prog 84 #[.slice ao ns.length cap] w fun e w' => ∃ fo cf, e = .returned (.slice fo (seenR ns).length cf) ∧ Row w' fo (seenR ns).length 3 (ndCells (seenR ns)) ∧ Below w.heap.size w w' := by
  obtain ⟨i0, hi, hz0, hz1, hz2⟩ := info_parts Tryz.infoRNode
  have HROW := hide hrow; clear hrow
  go_enter Tryz.func84, Tryz.ntmps84
  go_wp2
  go_loopw [3, 4] (fun v i wr => ∃ k : Nat, ∃ out : List Nd, k ≤ ns.length ∧ i = .int .i64 k ∧ wr.ownsRow w.heap.size 144 3 v out.length (ndCells out) ∧ Below w.heap.size w wr ∧ Hid (SeenInv ns k out)) (fun _ i _ => ns.length - (intOf i).toNat)
  case atStart => exact ⟨0, [], Nat.zero_le _, rfl, World.ownsRow_nil _ _ _ _, Below.refl _ _, hide rfl⟩
  case round =>
    obtain ⟨k, out, hk, rfl, hown, hbel, HI⟩ := hrel
    have hol := seen_len (unhide HI)
    by_cases hlt : k < ns.length
    · have HBE := hide (fun id => below_any ns id 0 ao cap wr ((unhide HROW).below hbel) (by omega))
      obtain ⟨g, hao, hg, c0, c1, c2⟩ := nd_cells (unhide HROW) hbel hlt
      have HST := hide (seen_step (unhide HI) hlt)
      have hk0 : (0 : Int) ≤ k := by omega
      have hk1 : (k : Int) < ns.length := by omega
      have hsz := hbel.size
      rw [hao] at HBE ⊢
      clear hao
      generalize ns[k] = nd at *
      cases hq : belowR ns nd.id 0 with
      | false =>
        have HS2 : Hid (SeenInv ns (k + 1) out) := by apply hide; have := unhide HST; rw [hq] at this; exact this
        have HB2 := hide (unhide HBE nd.id)
        rw [hq] at HB2
        clear hq
        go_wp2_with fail
        refine (unhide HB2).mono ?_
        rintro e w1 ⟨rfl, rfl⟩
        go_wp2
        go_roundw
        case rel => exact ⟨k + 1, out, by omega, by go_num, hown, hbel, HS2⟩
        case measure => simp [intOf]; omega
      | true =>
        have HS2 : Hid (SeenInv ns (k + 1) (out ++ [nd])) := by apply hide; have := unhide HST; rw [hq] at this; exact this
        have HB2 := hide (unhide HBE nd.id)
        rw [hq] at HB2
        clear hq
        go_wp2_with fail
        refine (unhide HB2).mono ?_
        rintro e w1 ⟨rfl, rfl⟩
        go_wp2_with (first
          | (at_builtin; (refine wpList_append_own _ rfl _ _ 102 rfl w.heap.size 144 i0 (.agg #[.int .i64 0, .int .i64 0, .string ByteArray.empty]) 3 32 Tryz.underlying102 hi hz0 hz1 hz2 rfl (by decide) _ _ _ rfl (own_below hown ((Below.refl _ _).alloc (Nat.le_refl _) _)) ⟨w1.heap.size, 0, none⟩ 1 1 [.int .i64 nd.id, .int .i64 nd.parent, .string (bs nd.name)] rfl rfl (news_three _ _ _ _) (by simp [Value.oneCell']) (by unfold maxLen; omega) (by omega) (by simp; omega) ?_))
          | go_in)
        intro v' w4 hown' hgrow _
        have hb4 : Below w.heap.size w w4 := (hbel.alloc hsz _).grown hgrow (by simp; omega) (own_ge hown)
        have hown2 : w4.ownsRow w.heap.size 144 3 v' (out ++ [nd]).length (ndCells (out ++ [nd])) := by rw [ndCells_snoc, List.length_append]; exact hown'
        clear hgrow hown hbel hown'
        go_wp2
        go_roundw
        case rel => exact ⟨k + 1, _, by omega, by go_num, hown2, hb4, HS2⟩
        case measure => simp [intOf]; omega
    · have HE : Hid (seenR ns = out) := by apply hide; rw [unhide HI]; unfold seenR; rw [List.take_of_length_le (by omega)]
      obtain ⟨fo, cf, rfl, hr⟩ := row_of_owns hown
      go_wp2
      go_ret
      exact ⟨fo, cf, by rw [unhide HE]; rfl, by rw [unhide HE]; exact hr, hbel⟩
end Go.Proofs.YtdcjimlhaklhfabGreatDoor
