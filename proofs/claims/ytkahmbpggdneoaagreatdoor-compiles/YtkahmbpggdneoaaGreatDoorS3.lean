import Derived.Test.YtkahmbpggdneoaaGreatDoorS2
namespace Go.Proofs.YtkahmbpggdneoaaGreatDoor
open Go.RowKit
def st0 : St := ⟨0, nd0⟩
def stAt (l : List St) (i : Nat) : St := l.getD i st0
theorem stAt_get (l : List St) (i : Nat) (h : i < l.length) : stAt l i = l[i] := by simp [stAt, h]
def isAt (l : List St) (s : St) (i : Nat) : Bool := stEq (stAt l i) s
def atN (l : List St) (s : St) : Nat := scan (isAt l s) 0 l.length
def atR (l : List St) (s : St) : Int := if atN l s < l.length then (atN l s : Int) else -1
def canDo (ns : List Nd) (l : List St) (i : Nat) : Bool := doR ns (stAt l i) == 0
def stuckR (ns : List Nd) (l : List St) : Bool := decide (¬ scan (canDo ns l) 0 l.length < l.length)
theorem Tryz.stepGuard : Tryz.prog.eqGuardType Tryz.prog.depth 82 = false := by kernel_rfl
theorem Tryz.stepHeld : Tryz.prog.stoodInHeld 82 = false := by kernel_rfl
theorem node_eq_run' (d : Nat) (m n : Nd) (W : World) : (Op.equalIn (d + 2) 64 (.agg #[.int .i64 m.id, .int .i64 m.parent, .string (bs m.name)]) (.agg #[.int .i64 n.id, .int .i64 n.parent, .string (bs n.name)])).run Tryz.prog W = .ok (ndEq m n) W := by
  rw [run_equalIn_agg W (d + 1) 64 _ _ (by simp [Program.fieldsOf, Tryz.underlying64]) Tryz.nodeHeld]
  simp [Program.fieldsOf, Tryz.underlying64, Op.eqFields, go_sem]
  rw [← nd_neq]
  by_cases h1 : m.id = n.id <;> by_cases h2 : m.parent = n.parent <;> by_cases h3 : (bs m.name).toList = (bs n.name).toList <;> simp [h1, h2, h3]
theorem step_eq_run (a b : St) (W : World) : (Op.equalIn 10000 82 (.agg #[.int .u8 a.kind.toNat, .int .i64 a.node.id, .int .i64 a.node.parent, .string (bs a.node.name)]) (.agg #[.int .u8 b.kind.toNat, .int .i64 b.node.id, .int .i64 b.node.parent, .string (bs b.node.name)])).run Tryz.prog W = .ok (stEq a b) W := by
  have hn := node_eq_run' 9997 a.node b.node
  rw [run_equalIn_agg W 9999 82 _ _ (by simp [Program.fieldsOf, Tryz.underlying82]) Tryz.stepHeld]
  simp [Program.fieldsOf, Tryz.underlying82, Op.eqFields, go_sem, hn]
  unfold stEq
  by_cases h1 : a.kind = b.kind
  · rw [if_pos (by rw [h1]), h1]
    cases ndEq a.node b.node <;> simp
  · rw [if_neg (fun h => h1 (UInt8.toNat_inj.1 (by exact_mod_cast h)))]
    simp [h1]
set_option maxHeartbeats 1000000 in
theorem stuck_any (ns : List Nd) (ss : List St) (ao bo : Option Addr) (ca cb : Nat) (w : World) (ha : Row w ao ns.length 3 (ndCells ns)) (hb : Row w bo ss.length 4 (stCells ss)) (hla : ns.length ≤ 4000) (hlb : ss.length ≤ 8000) (hs : ∀ s ∈ ss, StOk s) :
    Calls Tryz.prog 106 #[.slice ao ns.length ca, .slice bo ss.length cb] w fun e w' => e = .returned (.bool (stuckR ns ss)) ∧ Below w.heap.size w w' := by
  have HA := hide ha
  have HB := hide hb
  have HS := hide hs
  clear ha hb hs
  go_enter Tryz.func106, Tryz.ntmps106
  go_wp2
  go_loopw [5] (fun i wr => ∃ k : Nat, k ≤ ss.length ∧ i = .int .i64 k ∧ Below w.heap.size w wr ∧ Hid (NoIn (canDo ns ss) 0 k)) (fun i _ => ss.length - (intOf i).toNat)
  case atStart => exact ⟨0, Nat.zero_le _, rfl, Below.refl _ _, hide (fun j h1 h2 => by omega)⟩
  case round =>
    obtain ⟨k, hk, rfl, hbel, HN⟩ := hrel
    by_cases hlt : k < ss.length
    · obtain ⟨g, hao, hg, c0, c1, c2, c3⟩ := st_cells ((unhide HB).below hbel) hlt
      have HDO := hide (rdo_any ns ss[k] ao ca wr ((unhide HA).below hbel) hla (unhide HS _ (List.getElem_mem hlt)))
      have HU : Hid (canDo ns ss k = (doR ns ss[k] == 0)) := by apply hide; unfold canDo; rw [stAt_get _ _ hlt]
      rw [hao]
      clear hao
      generalize lastR ns ss[k] = L at *
      by_cases hE : doR ns ss[k] = 0
      · have HR : Hid (stuckR ns ss = false) := by
          apply hide
          have e : scan (canDo ns ss) 0 ss.length = k := scan_hit (by omega) hlt (by rw [unhide HU, hE]; rfl) (unhide HN)
          unfold stuckR; rw [e]; simp [hlt]
        rw [hE] at HDO
        clear hE
        generalize ss[k] = st at *
        go_wp2_with fail
        refine (unhide HDO).mono ?_
        rintro e w4 ⟨⟨hne, _⟩ | ⟨_, ao3, cap3, rfl, hr⟩, hb4⟩
        · exact absurd rfl hne
        · go_wp2
          go_ret
          exact ⟨ret_bool (unhide HR).symm, hbel.trans (hb4.mono hbel.size)⟩
      · have HN2 := hide (noIn_succ (unhide HN) (by rw [unhide HU]; simpa using hE))
        have hE' : (doR ns ss[k] == 0) = false := by simpa using hE
        have HEN := hide hE
        clear hE
        generalize doR ns ss[k] = ee at *
        generalize ss[k] = st at *
        go_wp2_with fail
        refine (unhide HDO).mono ?_
        rintro e w4 ⟨⟨_, rfl⟩ | ⟨h0, _⟩, hb4⟩
        · go_wp2
          go_roundw
          case rel => exact ⟨k + 1, by omega, by go_num, hbel.trans (hb4.mono hbel.size), HN2⟩
          case measure => simp [intOf]; omega
        · exact absurd h0 (unhide HEN)
    · have HR : Hid (stuckR ns ss = true) := by
        apply hide
        have e : scan (canDo ns ss) 0 ss.length = ss.length := scan_none (fun j h1 h2 => unhide HN j h1 (by omega))
        unfold stuckR; rw [e]; simp
      go_wp2
      go_ret
      exact ⟨ret_bool (unhide HR).symm, hbel⟩
set_option maxHeartbeats 1000000 in
theorem rat_any (ss : List St) (x : St) (ao : Option Addr) (cap : Nat) (w : World) (hrow : Row w ao ss.length 4 (stCells ss)) (hl : ss.length ≤ 8000) :
    Calls Tryz.prog 91 #[.slice ao ss.length cap, .agg #[.int .u8 x.kind.toNat, .int .i64 x.node.id, .int .i64 x.node.parent, .string (bs x.node.name)]] w fun e w' => e = .returned (.int .i64 (atR ss x)) ∧ Below w.heap.size w w' := by
  obtain ⟨w0, hw0⟩ : ∃ w0, w.alloc (Obj.cells #[.int .u8 x.kind.toNat, .int .i64 x.node.id, .int .i64 x.node.parent, .string (bs x.node.name)] 82) = w0 := ⟨_, rfl⟩
  have hbw : Below w.heap.size w w0 := by rw [← hw0]; exact (Below.refl _ _).alloc (Nat.le_refl _) _
  have HBW := hide hbw
  have HROW := hide (hrow.below hbw)
  have hlt0 : w.heap.size < w0.heap.size := by rw [← hw0]; simp
  have x0 : w0.cell? ⟨w.heap.size, 0, none⟩ = some (.int .u8 x.kind.toNat) := by rw [← hw0]; exact news_four _ _ _ _ _ 0 _ rfl
  have x1 : w0.cell? ⟨w.heap.size, 1, none⟩ = some (.int .i64 x.node.id) := by rw [← hw0]; exact news_four _ _ _ _ _ 1 _ rfl
  have x2 : w0.cell? ⟨w.heap.size, 2, none⟩ = some (.int .i64 x.node.parent) := by rw [← hw0]; exact news_four _ _ _ _ _ 2 _ rfl
  have x3 : w0.cell? ⟨w.heap.size, 3, none⟩ = some (.string (bs x.node.name)) := by rw [← hw0]; exact news_four _ _ _ _ _ 3 _ rfl
  have hgd := Tryz.stepGuard
  clear hrow hbw
  go_enter Tryz.func91, Tryz.ntmps91
  go_wp2
  try rw [hw0]
  clear hw0
  go_loopw [5] (fun i wr => ∃ k nq : Nat, k ≤ ss.length ∧ i = .int .i64 k ∧ wr = w0.drewN nq ∧ Hid (NoIn (isAt ss x) 0 k)) (fun i _ => ss.length - (intOf i).toNat)
  case atStart => exact ⟨0, 0, Nat.zero_le _, rfl, rfl, hide (fun j h1 h2 => by omega)⟩
  case round =>
    obtain ⟨k, nq, hk, rfl, rfl, HN⟩ := hrel
    by_cases hlt : k < ss.length
    · obtain ⟨g, hao, hg, c0, c1, c2, c3⟩ := st_cells (unhide HROW) hlt
      have HU : Hid (isAt ss x k = stEq ss[k] x) := by apply hide; unfold isAt; rw [stAt_get _ _ hlt]
      have hne := step_eq_run ss[k] x
      rw [hao]
      clear hao
      have hk0 : (0 : Int) ≤ k := by omega
      have hk1 : (k : Int) < ss.length := by omega
      cases hq : stEq ss[k] x
      · have HN2 := hide (noIn_succ (unhide HN) (by rw [unhide HU]; exact hq))
        rw [hq] at hne
        clear hq
        generalize ss[k] = st at *
        go_wp2
        go_quiet (fail)
        go_wp2
        go_roundw
        case rel => exact ⟨k + 1, _, by omega, by go_num, rfl, HN2⟩
        case measure => simp [intOf]; omega
      · have HR : Hid (atR ss x = k) := by
          apply hide
          have e : atN ss x = k := scan_hit (by omega) hlt (by rw [unhide HU]; exact hq) (unhide HN)
          unfold atR; rw [e, if_pos hlt]
        rw [hq] at hne
        clear hq
        generalize ss[k] = st at *
        go_wp2
        go_quiet (fail)
        go_wp2
        go_ret
        exact ⟨ret_int (unhide HR).symm, below_drewN (below_drewN (unhide HBW) _) _⟩
    · have HR : Hid (atR ss x = -1) := by
        apply hide
        have e : atN ss x = ss.length := scan_none (fun j h1 h2 => unhide HN j h1 (by omega))
        unfold atR; rw [e, if_neg (by omega)]
      go_wp2
      go_ret
      exact ⟨ret_int (unhide HR).symm, below_drewN (unhide HBW) _⟩
end Go.Proofs.YtkahmbpggdneoaaGreatDoor
