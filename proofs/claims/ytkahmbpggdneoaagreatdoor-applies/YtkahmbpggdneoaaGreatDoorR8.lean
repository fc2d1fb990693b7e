import Derived.Test.YtkahmbpggdneoaaGreatDoorR7
namespace Go.Proofs.YtkahmbpggdneoaaGreatDoor
open Go.RowKit
theorem quiet_add {P : Program} {f : FuncId} {args : Array Value} {w : World} {a n : Nat} {v : Value}
    (h : Calls P f args (w.drewN (a + n)) fun e w' => e = .returned v ∧ w' = w.drewN (a + n)) : Calls P f args (w.drewN (a + n)) fun e w'' => e = .returned v ∧ ∃ m, w'' = w.drewN (a + m) :=
  h.mono fun _ _ ⟨he, hm⟩ => ⟨he, n, hm⟩
theorem row_drewN {w : World} {ao : Option Addr} {n size : Nat} {xs : List Value} (h : Row w ao n size xs) (k : Nat) : Row (w.drewN k) ao n size xs := h.below (below_drewN (Below.refl _ _) k)
theorem row_take {w : World} {ao : Option Addr} {ns : List Nd} (h : Row w ao ns.length 3 (ndCells ns)) (i : Nat) (hi : i ≤ ns.length) : Row w ao (ns.take i).length 3 (ndCells (ns.take i)) := by
  refine ⟨ndCells_length _, fun hn => ?_⟩
  have hlen : (ns.take i).length = i := by rw [List.length_take]; omega
  obtain ⟨g, h1, h2, h3⟩ := h.2 (by omega)
  refine ⟨g, h1, h2, fun j u hu => h3 j u ?_⟩
  have : ndCells ns = ndCells (ns.take i) ++ ndCells (ns.drop i) := by rw [ndCells, ndCells, ndCells, ← List.flatMap_append, List.take_append_drop]
  rw [this, List.getElem?_append_left (by rcases Nat.lt_or_ge j (ndCells (ns.take i)).length with hh | hh; exact hh; rw [List.getElem?_eq_none hh] at hu; cases hu)]
  exact hu
set_option maxHeartbeats 4000000 in
theorem wrong_any (ns : List Nd) (ao : Option Addr) (cap : Nat) (w : World) (hrow : Row w ao ns.length 3 (ndCells ns)) (hcap : ns.length ≤ cap) (hl : ns.length ≤ 4000) (hn : ∀ n ∈ ns, 0 ≤ n.parent ∧ n.parent ≤ 99) :
    Calls Tryz.prog 41 #[.slice ao ns.length cap] w fun e w' => e = .returned (.tuple #[.int .i64 (wrongR ns).1, .int .i64 (wrongR ns).2]) ∧ Below w.heap.size w w' := by
  have HROW := hide hrow; clear hrow
  have HNB := hide hn; clear hn
  have HW : Hid (wrongR ns = if scan (unordered ns) 1 ns.length < ns.length then (3, scan (unordered ns) 1 ns.length) else if scan (rOrphan ns) 0 ns.length < ns.length then (4, scan (rOrphan ns) 0 ns.length) else if scan (rLooped ns) 0 ns.length < ns.length then (5, scan (rLooped ns) 0 ns.length) else if scan (rTwice ns) 0 ns.length < ns.length then (6, scan (rTwice ns) 0 ns.length) else (0, 0)) := hide rfl
  generalize wrongR ns = WR at *
  go_enter Tryz.func41, Tryz.ntmps41
  go_wp2
  go_loopw [4] (fun i wr => ∃ k nq : Nat, 1 ≤ k ∧ (k ≤ ns.length ∨ k = 1) ∧ i = .int .i64 k ∧ wr = w.drewN nq ∧ Hid (NoIn (unordered ns) 1 k)) (fun i _ => ns.length - (intOf i).toNat)
  case atStart => exact ⟨1, 0, Nat.le_refl _, .inr rfl, rfl, rfl, hide (fun j h1 h2 => by omega)⟩
  case round =>
    obtain ⟨k, nq, hk1, hk, rfl, rfl, HN⟩ := hrel
    by_cases hlt : k < ns.length
    · obtain ⟨j, rfl⟩ : ∃ j, k = j + 1 := ⟨k - 1, by omega⟩
      have HB := hide (Below.refl w.heap.size w)
      obtain ⟨g, hao, hg, c0, _, _⟩ := nd_cells (unhide HROW) (unhide HB) hlt
      obtain ⟨g', hao', _, d0, _, _⟩ := nd_cells (unhide HROW) (unhide HB) (show j < ns.length by omega)
      rw [hao] at hao'
      have hgg : g = g' := by cases hao'; rfl
      subst hgg
      rw [hao]
      have HU : Hid (unordered ns (j + 1) = decide ((ns[j + 1]).id ≤ (ns[j]).id)) := by
        apply hide; unfold unordered; rw [ndAt_get _ _ hlt, show j + 1 - 1 = j from rfl, ndAt_get _ _ (by omega)]
      clear hao hao' HB
      have hj0 : (0 : Int) ≤ j := by omega
      have hj1 : (j : Int) + 1 < ns.length := by omega
      have hj2 : (j : Int) < ns.length := by omega
      have hj3 : (0 : Int) ≤ (j : Int) + 1 := by omega
      have hj4 : ((j : Int) + 1).toNat = j + 1 := by omega
      by_cases hle : (ns[j + 1]).id ≤ (ns[j]).id
      · have HS : Hid (WR = (3, j + 1)) := by
          apply hide
          have e : scan (unordered ns) 1 ns.length = j + 1 := scan_hit (by omega) hlt (by rw [unhide HU]; simpa using hle) (unhide HN)
          rw [unhide HW, e, if_pos hlt]
        go_wp2
        go_quiet (fail)
        go_wp2
        go_ret2
        exact ⟨by rw [unhide HS]; rfl, below_drewN (below_drewN (Below.refl _ _) _) _⟩
      · have HN2 := hide (noIn_succ (unhide HN) (by rw [unhide HU]; simpa using hle))
        go_wp2
        go_quiet (fail)
        go_wp2
        go_roundw
        case rel => exact ⟨j + 1 + 1, _, by omega, by omega, by go_num, rfl, HN2⟩
        case measure => simp [intOf]; omega
    · have HW2 : Hid (WR = if scan (rOrphan ns) 0 ns.length < ns.length then (4, scan (rOrphan ns) 0 ns.length) else if scan (rLooped ns) 0 ns.length < ns.length then (5, scan (rLooped ns) 0 ns.length) else if scan (rTwice ns) 0 ns.length < ns.length then (6, scan (rTwice ns) 0 ns.length) else (0, 0)) := by
        apply hide
        have e : scan (unordered ns) 1 ns.length = ns.length := scan_none (fun j h1 h2 => unhide HN j h1 (by omega))
        rw [unhide HW, e, if_neg (by omega)]
      clear HW HN hk hk1
      have HROW1 : Hid (Row (w.drewN nq) ao ns.length 3 (ndCells ns)) := hide (row_drewN (unhide HROW) nq)
      have HBW : Hid (Below w.heap.size w (w.drewN nq)) := hide (below_drewN (Below.refl _ _) nq)
      obtain ⟨w1, hw1⟩ : ∃ x, w.drewN nq = x := ⟨_, rfl⟩
      rw [hw1] at HROW1 HBW ⊢
      clear hw1
      have HB1 := hide (Below.refl w1.heap.size w1)
      go_wp2
      go_loop [5] (fun i => ∃ k : Nat, k ≤ ns.length ∧ i = .int .i64 k ∧ Hid (NoIn (rOrphan ns) 0 k)) (fun i => ns.length - (intOf i).toNat)
      case atStart => exact ⟨0, Nat.zero_le _, rfl, hide (fun j h1 h2 => by omega)⟩
      case round =>
        obtain ⟨k, hk, rfl, HN⟩ := hrel
        by_cases hlt : k < ns.length
        · obtain ⟨g, hao, hg, _, c1, _⟩ := nd_cells (unhide HROW1) (unhide HB1) hlt
          have hp := unhide HNB _ (List.getElem_mem hlt)
          have HFO := hide (folder_any ns (ns[k]).parent ao cap w1 (unhide HROW1) hl hp.1 (by omega))
          have HU : Hid (rOrphan ns k = !folderR ns (ns[k]).parent) := by apply hide; unfold rOrphan; rw [ndAt_get _ _ hlt]
          rw [hao] at HFO ⊢
          clear hao
          generalize ns[k] = nd at *
          cases hq : folderR ns nd.parent
          · have HS : Hid (WR = (4, k)) := by
              apply hide
              have e : scan (rOrphan ns) 0 ns.length = k := scan_hit (by omega) hlt (by rw [unhide HU, hq]; rfl) (unhide HN)
              rw [unhide HW2, e, if_pos hlt]
            rw [hq] at HFO
            clear hq
            go_wp2_with fail
            refine (unhide HFO).mono ?_
            rintro e w2 ⟨rfl, rfl⟩
            go_wp2
            go_ret2
            exact ⟨by rw [unhide HS]; rfl, unhide HBW⟩
          · have HN2 := hide (noIn_succ (unhide HN) (by rw [unhide HU, hq]; rfl))
            rw [hq] at HFO
            clear hq
            go_wp2_with fail
            refine (unhide HFO).mono ?_
            rintro e w2 ⟨rfl, rfl⟩
            go_wp2
            go_round
            case rel => exact ⟨k + 1, by omega, by go_num, HN2⟩
            case measure => simp [intOf]; omega
        · have HW3 : Hid (WR = if scan (rLooped ns) 0 ns.length < ns.length then (5, scan (rLooped ns) 0 ns.length) else if scan (rTwice ns) 0 ns.length < ns.length then (6, scan (rTwice ns) 0 ns.length) else (0, 0)) := by
            apply hide
            have e : scan (rOrphan ns) 0 ns.length = ns.length := scan_none (fun j h1 h2 => unhide HN j h1 (by omega))
            rw [unhide HW2, e, if_neg (by omega)]
          clear HW2 HN hk
          go_wp2
          go_loop [7] (fun i => ∃ k : Nat, k ≤ ns.length ∧ i = .int .i64 k ∧ Hid (NoIn (rLooped ns) 0 k)) (fun i => ns.length - (intOf i).toNat)
          case atStart => exact ⟨0, Nat.zero_le _, rfl, hide (fun j h1 h2 => by omega)⟩
          case round =>
            obtain ⟨k, hk, rfl, HN⟩ := hrel
            by_cases hlt : k < ns.length
            · obtain ⟨g, hao, hg, c0, _, _⟩ := nd_cells (unhide HROW1) (unhide HB1) hlt
              have HFO := hide (below_any ns (ns[k]).id 0 ao cap w1 (unhide HROW1) hl)
              have HU : Hid (rLooped ns k = !belowR ns (ns[k]).id 0) := by apply hide; unfold rLooped; rw [ndAt_get _ _ hlt]
              rw [hao] at HFO ⊢
              clear hao
              generalize ns[k] = nd at *
              cases hq : belowR ns nd.id 0
              · have HS : Hid (WR = (5, k)) := by
                  apply hide
                  have e : scan (rLooped ns) 0 ns.length = k := scan_hit (by omega) hlt (by rw [unhide HU, hq]; rfl) (unhide HN)
                  rw [unhide HW3, e, if_pos hlt]
                rw [hq] at HFO
                clear hq
                go_wp2_with fail
                refine (unhide HFO).mono ?_
                rintro e w2 ⟨rfl, rfl⟩
                go_wp2
                go_ret2
                exact ⟨by rw [unhide HS]; rfl, unhide HBW⟩
              · have HN2 := hide (noIn_succ (unhide HN) (by rw [unhide HU, hq]; rfl))
                rw [hq] at HFO
                clear hq
                go_wp2_with fail
                refine (unhide HFO).mono ?_
                rintro e w2 ⟨rfl, rfl⟩
                go_wp2
                go_round
                case rel => exact ⟨k + 1, by omega, by go_num, HN2⟩
                case measure => simp [intOf]; omega
            · have HW4 : Hid (WR = if scan (rTwice ns) 0 ns.length < ns.length then (6, scan (rTwice ns) 0 ns.length) else (0, 0)) := by
                apply hide
                have e : scan (rLooped ns) 0 ns.length = ns.length := scan_none (fun j h1 h2 => unhide HN j h1 (by omega))
                rw [unhide HW3, e, if_neg (by omega)]
              clear HW3 HN hk
              go_wp2
              go_loopw [9] (fun i wr => ∃ k nq : Nat, k ≤ ns.length ∧ i = .int .i64 k ∧ wr = w1.drewN nq ∧ Hid (NoIn (rTwice ns) 0 k)) (fun i _ => ns.length - (intOf i).toNat)
              case atStart => exact ⟨0, 0, Nat.zero_le _, rfl, rfl, hide (fun j h1 h2 => by omega)⟩
              case round =>
                obtain ⟨k, nq2, hk, rfl, rfl, HN⟩ := hrel
                by_cases hlt : k < ns.length
                · obtain ⟨g, hao, hg, _, c1, c2⟩ := nd_cells (unhide HROW1) (unhide HB1) hlt
                  have HTK := hide (fun m => taken_any (ns.take k) (ns[k]).parent (ns[k]).name ao cap (w1.drewN m) (row_drewN (row_take (unhide HROW1) k (by omega)) m) (by rw [List.length_take]; omega))
                  rw [show (ns.take k).length = k by rw [List.length_take]; omega] at HTK
                  have HU : Hid (rTwice ns k = (takenR (ns.take k) (ns[k]).parent (ns[k]).name != 0)) := by apply hide; unfold rTwice; rw [ndAt_get _ _ hlt]
                  rw [hao] at HTK ⊢
                  clear hao
                  have hk0 : (0 : Int) ≤ k := by omega
                  have hk1 : (k : Int) < ns.length := by omega
                  have hk2 : (k : Int) ≤ cap := by omega
                  generalize ns[k] = nd at *
                  generalize takenR (ns.take k) nd.parent nd.name = tk at *
                  cases hq : (tk != 0)
                  · have HN2 := hide (noIn_succ (unhide HN) (by rw [unhide HU]; exact hq))
                    go_wp2
                    go_quiet ((go_at_call 57; exact quiet_add (unhide HTK _)))
                    go_wp2
                    go_roundw
                    case rel => exact ⟨k + 1, _, by omega, by go_num, rfl, HN2⟩
                    case measure => simp [intOf]; omega
                  · have HS : Hid (WR = (6, k)) := by
                      apply hide
                      have e : scan (rTwice ns) 0 ns.length = k := scan_hit (by omega) hlt (by rw [unhide HU]; exact hq) (unhide HN)
                      rw [unhide HW4, e, if_pos hlt]
                    go_wp2
                    go_quiet ((go_at_call 57; exact quiet_add (unhide HTK _)))
                    go_wp2
                    go_ret2
                    exact ⟨by rw [unhide HS]; rfl, below_drewN (unhide HBW) _⟩
                · have HS : Hid (WR = (0, 0)) := by
                    apply hide
                    have e : scan (rTwice ns) 0 ns.length = ns.length := scan_none (fun j h1 h2 => unhide HN j h1 (by omega))
                    rw [unhide HW4, e, if_neg (by omega)]
                  go_wp2
                  go_ret2
                  exact ⟨by rw [unhide HS]; rfl, below_drewN (unhide HBW) _⟩
set_option maxHeartbeats 1000000 in
theorem rcheck_any (s : ByteArray) (w : World) :
    Calls Tryz.prog 19 #[.string s] w fun e w' => e = .returned (.tuple #[.int .i64 (checkR (sl s)).1, .int .i64 (checkR (sl s)).2]) ∧ Below w.heap.size w w' := by
  by_cases h1 : 4000 < s.size
  · have e : checkR (sl s) = (1, 0) := by unfold checkR; rw [sl_length, if_pos h1]
    rw [e]
    go_enter Tryz.func19, Tryz.ntmps19
    go_wp2
    go_ret2
    exact ⟨rfl, Below.refl _ _⟩
  · have HN := hide (fun W => nodes_any s W (by omega))
    have hrl : (cut (sl s)).length ≤ 4000 := by have := cut_length_le (sl s); rw [sl_length] at this; omega
    have hnl := readNodes_length (cut (sl s))
    have HNB := hide (readNodes_bd (cut (sl s)))
    by_cases h2 : (readNodes (cut (sl s))).length < (cut (sl s)).length
    · have e : checkR (sl s) = (2, (readNodes (cut (sl s))).length) := by unfold checkR; rw [sl_length, if_neg h1, if_pos h2]
      rw [e]
      generalize readNodes (cut (sl s)) = ns at *
      go_enter Tryz.func19, Tryz.ntmps19
      go_wp2_with fail
      refine (unhide HN _).mono ?_
      rintro e w1 ⟨⟨_, rfl⟩ | ⟨hno, _⟩, hb1⟩
      · go_wp2
        go_ret2
        exact ⟨rfl, hb1⟩
      · exact absurd h2 hno
    · have e : checkR (sl s) = wrongR (readNodes (cut (sl s))) := by unfold checkR; rw [sl_length, if_neg h1, if_neg h2]
      rw [e]
      have HWR := hide (fun ao cap W h1 h2 => wrong_any (readNodes (cut (sl s))) ao cap W h1 h2 (by omega) (fun n hn => ⟨(unhide HNB n hn).2.2.1, (unhide HNB n hn).2.2.2.1⟩))
      generalize readNodes (cut (sl s)) = ns at *
      go_enter Tryz.func19, Tryz.ntmps19
      go_wp2_with fail
      refine (unhide HN _).mono ?_
      rintro e w1 ⟨⟨hno, _⟩ | ⟨_, ao, cap, rfl, hrow, hcap⟩, hb1⟩
      · exact absurd hno h2
      · have HR := hide hrow
        clear hrow
        go_wp2_with fail
        refine (unhide HWR _ _ _ (unhide HR) hcap).mono ?_
        rintro e w2 ⟨rfl, hb2⟩
        go_wp2
        go_ret2
        exact ⟨rfl, hb1.trans (hb2.mono hb1.size)⟩
end Go.Proofs.YtkahmbpggdneoaaGreatDoor
