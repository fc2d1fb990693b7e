import Derived.Test.YtkahmbpggdneoaaDoorC14
import Derived.Test.YtkahmbpggdneoaaDoorC17
namespace Go.Proofs.YtkahmbpggdneoaaDoor
open Go.RowKit
theorem Tryd.spotGuard : Tryd.prog.eqGuardType Tryd.prog.depth 46 = false := by kernel_rfl
theorem Tryd.spotHeld : Tryd.prog.stoodInHeld 46 = false := by kernel_rfl
theorem spot_eq_run (m n : Nd) (W : World) : (Op.equalIn 10000 46 (.agg #[.int .i64 m.id, .int .i64 m.parent, .string (bs m.name)]) (.agg #[.int .i64 n.id, .int .i64 n.parent, .string (bs n.name)])).run Tryd.prog W = .ok (ndEq m n) W := by
  rw [run_equalIn_agg W 9999 46 _ _ (by simp [Program.fieldsOf, Tryd.underlying46]) Tryd.spotHeld]
  simp [Program.fieldsOf, Tryd.underlying46, Op.eqFields, go_sem]
  rw [← nd_neq']
  by_cases h1 : m.id = n.id <;> by_cases h2 : m.parent = n.parent <;> by_cases h3 : (bs m.name).toList = (bs n.name).toList <;> simp [h1, h2, h3]
theorem cntN_take (p : Nd → Bool) (l : List Nd) (k : Nat) (hk : k < l.length) : (l.take (k + 1)).countP p = (l.take k).countP p + (if p l[k] then 1 else 0) := by
  rw [List.take_succ_eq_append_getElem hk, List.countP_append]; simp [List.countP_cons]
theorem new_yes {na : List Nd} {n : Nd} (h : lookR na n.id = none) : newIs na n = true ∧ othIs na n = false := by unfold newIs othIs; rw [h]; exact ⟨rfl, rfl⟩
theorem new_no {na : List Nd} {n m : Nd} (h : lookR na n.id = some m) : newIs na n = false ∧ othIs na n = !ndEq m n := by unfold newIs othIs; rw [h]; exact ⟨rfl, rfl⟩
set_option maxHeartbeats 8000000 in
set_option maxRecDepth 100000 in
theorem counted_law (ao bo : Option Addr) (la lb ca cb : Nat) (w : World) (ha : IntsAt w ao la) (hb : IntsAt w bo lb) (hla : la ≤ 140737488355328) (hlb : lb ≤ 140737488355328) :
    Calls Tryd.prog 7 #[.slice ao la ca, .slice bo lb cb] w fun e w' => e = .returned (.bool true) ∧ Below w.heap.size w w' := by
  have HGA := hide (grow_any ao la ca w ha hla)
  have HGB := hide (fun W (h : Below w.heap.size w W) => grow_any bo lb cb W (hb.below h) hlb)
  clear ha hb
  go_enter Tryd.func7, Tryd.ntmps7
  go_wp2_with fail
  refine (unhide HGA).mono ?_
  rintro e w1 ⟨⟨na, a, lo, lc, rfl, hra, ra, hva⟩, hb1⟩
  go_wp2_with fail
  refine (unhide HGB _ hb1).mono ?_
  rintro e w2 ⟨⟨nb, g, mo, mc, rfl, hrb, rg, hvg⟩, hb2⟩
  have HB2 := hide (hb1.trans (hb2.mono hb1.size))
  have HRA := hide (Row.below hra hb2)
  have HRB := hide hrb
  have hnla := rep_len ra
  have hnlb := rep_len rg
  have eta : trOf na = a := funext ra.look
  have etg : trOf nb = g := funext rg.look
  have HTA := hide (fun W (h : Row W lo na.length 3 (ndCells na)) => print_any na lo lc W h (by omega) (by rw [eta]; exact hva.ok))
  have HTG := hide (fun W (h : Row W mo nb.length 3 (ndCells nb)) => print_any nb mo mc W h (by omega) (by rw [etg]; exact hvg.ok))
  rw [eta] at HTA
  rw [etg] at HTG
  have HC1 := hide (fun W => compile_any (bs (textT a)) (bs (textT g)) W)
  rw [sl_bs, sl_bs, compileE_valid hva hvg, compileT_valid hva hvg] at HC1
  obtain ⟨m1, m2, m3, m4, m5⟩ := make_counts ra rg hva hvg
  have hdl := homes_del_len ra rg
  have HCO := hide (fun W => counted_any (makeT a g) W (fun s hs => (seg_can (makeT_seg hva hvg) hvg.ok s hs).1) (make_text_len hva hvg) (make_len hva hvg))
  rw [homes_new] at m1 hdl
  rw [homes_oth] at m3 m4 m5
  rw [m1, m2] at HCO
  clear hra hrb hb1 hb2 HGA HGB ra rg eta etg hva hvg m1 m2
  generalize cntK 45 (homesR na nb) = dl at *
  generalize cntK 61 (makeT a g) = mvs at *
  generalize parkCnt (makeT a g) = pk at *
  generalize scriptText (makeT a g) = sc at *
  generalize textT a = A at *
  generalize textT g = G at *
  go_wp2_with fail
  refine (unhide HTA _ (unhide HRA)).mono ?_
  rintro e w3 ⟨rfl, hb3⟩
  have HRA3 := hide (Row.below (unhide HRA) hb3)
  have HRB3 := hide (Row.below (unhide HRB) hb3)
  have HB3 := hide ((unhide HB2).trans (hb3.mono (unhide HB2).size))
  clear hb3
  go_wp2_with fail
  refine (unhide HTG _ (unhide HRB3)).mono ?_
  rintro e w4 ⟨rfl, hb4⟩
  have HRA4 := hide (Row.below (unhide HRA3) hb4)
  have HRB4 := hide (Row.below (unhide HRB3) hb4)
  have HB4 := hide ((unhide HB3).trans (hb4.mono (unhide HB3).size))
  clear hb4
  go_wp2_with fail
  refine (unhide HC1 _).mono ?_
  rintro e w5 ⟨rfl, hb5⟩
  have HRA5 := hide (Row.below (unhide HRA4) hb5)
  have HRB5 := hide (Row.below (unhide HRB4) hb5)
  have HB5 := hide ((unhide HB4).trans (hb5.mono (unhide HB4).size))
  clear hb5
  go_wp2_with fail
  go_loopw [11, 12, 13] (fun x y i wr => ∃ k nq : Nat, k ≤ nb.length ∧ i = .int .i64 k ∧ x = .int .i64 ((nb.take k).countP (newIs na) : Nat) ∧ y = .int .i64 ((nb.take k).countP (othIs na) : Nat) ∧ wr = w5.drewN nq) (fun _ _ i _ => nb.length - (intOf i).toNat)
  case atStart => exact ⟨0, 0, by omega, rfl, rfl, rfl, rfl⟩
  case round =>
    obtain ⟨k, nq, hk, rfl, rfl, rfl, rfl⟩ := hrel
    have hcn : (nb.take k).countP (newIs na) ≤ k := by have := List.countP_le_length (p := newIs na) (l := nb.take k); rw [List.length_take] at this; omega
    have hco : (nb.take k).countP (othIs na) ≤ k := by have := List.countP_le_length (p := othIs na) (l := nb.take k); rw [List.length_take] at this; omega
    by_cases hlt : k < nb.length
    · obtain ⟨g1, hmo, hg1, c0, c1, c2⟩ := nd_cells (unhide HRB5) (Below.refl _ _) hlt
      have HF := hide (find_any na (nb[k]).id lo lc (w5.drewN nq) (Row.below (unhide HRA5) (below_drewN (Below.refl _ _) nq)) (by omega))
      have e1 := cntN_take (newIs na) nb k hlt
      have e2 := cntN_take (othIs na) nb k hlt
      rw [hmo]
      clear hmo
      have hk0 : (0 : Int) ≤ k := by omega
      have hk1 : (k : Int) < nb.length := by omega
      by_cases hf : findN na (nb[k]).id < na.length
      · obtain ⟨q1, q2⟩ := lookR_some hf
        obtain ⟨p1, p2⟩ := new_no q1
        obtain ⟨g2, hlo, hg2, d0, d1, d2⟩ := nd_cells (unhide HRA5) (Below.refl _ _) hf
        have hne := spot_eq_run (na[findN na (nb[k]).id]) (nb[k])
        have hgd := Tryd.spotGuard
        rw [p1] at e1
        rw [p2] at e2
        rw [q2] at HF
        rw [hlo] at HF ⊢
        have hfn0 : (0 : Int) ≤ findN na (nb[k]).id := by omega
        have hfn1 : (findN na (nb[k]).id : Int) < na.length := by omega
        clear q1 q2 hlo p1 p2
        generalize na[findN na (nb[k]).id] = m at *
        generalize findN na (nb[k]).id = fn at *
        generalize nb[k] = n at *
        generalize (nb.take k).countP (newIs na) = cn at *
        generalize (nb.take k).countP (othIs na) = co at *
        cases hq : ndEq m n
        · rw [hq] at hne e2
          have E1 : Hid ((nb.take (k + 1)).countP (newIs na) = cn) := hide (by rw [e1]; simp)
          have E2 : Hid ((nb.take (k + 1)).countP (othIs na) = co + 1) := hide (by rw [e2]; simp)
          clear e1 e2 hq
          go_wp2_with fail
          refine (unhide HF).mono ?_
          rintro e w6 ⟨rfl, rfl⟩
          go_wp2
          go_quiet (fail)
          go_wp2
          go_roundw
          case rel => exact ⟨k + 1, _, by omega, by go_num, by rw [unhide E1], by rw [unhide E2]; first | rfl | (push_cast; rfl) | go_num, rfl⟩
          case measure => simp [intOf]; omega
        · rw [hq] at hne e2
          have E1 : Hid ((nb.take (k + 1)).countP (newIs na) = cn) := hide (by rw [e1]; simp)
          have E2 : Hid ((nb.take (k + 1)).countP (othIs na) = co) := hide (by rw [e2]; simp)
          clear e1 e2 hq
          go_wp2_with fail
          refine (unhide HF).mono ?_
          rintro e w6 ⟨rfl, rfl⟩
          go_wp2
          go_quiet (fail)
          go_wp2
          go_roundw
          case rel => exact ⟨k + 1, _, by omega, by go_num, by rw [unhide E1], by rw [unhide E2], rfl⟩
          case measure => simp [intOf]; omega
      · obtain ⟨q1, q2⟩ := lookR_none hf
        obtain ⟨p1, p2⟩ := new_yes (n := nb[k]) q1
        rw [p1] at e1
        rw [p2] at e2
        rw [q2] at HF
        have E1 : Hid ((nb.take (k + 1)).countP (newIs na) = (nb.take k).countP (newIs na) + 1) := hide (by rw [e1]; simp)
        have E2 : Hid ((nb.take (k + 1)).countP (othIs na) = (nb.take k).countP (othIs na)) := hide (by rw [e2]; simp)
        clear q1 q2 p1 p2 e1 e2 hf
        generalize nb[k] = n at *
        generalize (nb.take k).countP (newIs na) = cn at *
        generalize (nb.take k).countP (othIs na) = co at *
        go_wp2_with fail
        refine (unhide HF).mono ?_
        rintro e w6 ⟨rfl, rfl⟩
        go_wp2
        go_roundw
        case rel => exact ⟨k + 1, nq, by omega, by go_num, by rw [unhide E1]; first | rfl | go_num, by rw [unhide E2], rfl⟩
        case measure => simp [intOf]; omega
    · rw [List.take_of_length_le (by omega)] at *
      generalize nb.countP (newIs na) = cn at *
      generalize nb.countP (othIs na) = mv at *
      go_wp2_with fail
      refine (unhide HCO _).mono ?_
      rintro e w6 ⟨⟨b, a', rfl, hT, hpk, ha'⟩, hb6⟩
      obtain ⟨c0, c1, c2, c3, _⟩ := hT.cells
      have hlt6 := hT.lt
      have hdd : (na.length : Int) + cn - nb.length = dl := by omega
      have g1 : decide ((mv : Int) ≤ (mvs : Int)) = true := by simp; omega
      have g2 : decide ((mvs : Int) ≤ 2 * (mv : Int)) = true := by simp; omega
      have g3 : decide ((mvs : Int) ≤ (mv : Int) + (a' : Int)) = true := by simp; omega
      have hbd : mvs ≤ 1000 := by omega
      have HB6 := hide ((unhide HB5).trans ((below_drewN (Below.refl w5.heap.size w5) nq).mono (unhide HB5).size))
      have HB7 := hide ((unhide HB6).trans (hb6.mono (unhide HB6).size))
      clear hb6 hT
      go_wp2
      go_quiet (fail)
      go_wp2
      go_ret
      exact ⟨rfl, below_drewN (unhide HB7) _⟩
end Go.Proofs.YtkahmbpggdneoaaDoor
