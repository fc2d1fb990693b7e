import Derived.Test.YtkahmbpggdneoaaDoorKG2
import Derived.Test.YtkahmbpggdneoaaDoorW16
import Derived.Test.YtkahmbpggdneoaaDoorRPure6
import Derived.Deep.RegionHeld3
import Derived.Deep.DrawnRows
import Derived.Deep.Cut
namespace Go.Proofs.YtkahmbpggdneoaaDoor
open Go.RowKit
attribute [local go_sem ↓] Go.wp_at_zero Go.wp_at_succ
theorem digits_digs (n : Int) (w : World) (h0 : 0 ≤ n) (h1 : n ≤ 99) :
    Calls Tryd.prog 35 #[.int .i64 n] w fun e w' => e = .returned (.string (bs (digs n))) ∧ Below w.heap.size w w' := by
  have e : dec n.toNat = digs n := by rw [← digs_dec n.toNat (by omega), Int.toNat_of_nonneg h0]
  rw [← e]; exact digits_any n w h0 (by omega)
abbrev trOf (ns : List Nd) : Tr := fun i => lookR ns (i : Int)
theorem textAt_some {t : Tr} {i : Nat} {n : Nd} (h : t i = some n) (hid : n.id = (i : Int)) : textAt t i = digs (i : Int) ++ [32] ++ digs n.parent ++ [32] ++ n.name ++ [59] := by
  unfold textAt; rw [h]; show nodeText n = _; unfold nodeText; rw [hid]
theorem textAt_none {t : Tr} {i : Nat} (h : t i = none) : textAt t i = [] := by unfold textAt; rw [h]
theorem kept2 {W0 W w1 : World} {g : Nat} {o1 o2 : Nat} {a b : Value} (hg : g < W0.heap.size) (hb : Below W.heap.size W w1) (h : W.cell? ⟨g, o1, none⟩ = some a ∧ W.cell? ⟨g, o2, none⟩ = some b ∧ Below W0.heap.size W0 W) : w1.cell? ⟨g, o1, none⟩ = some a ∧ w1.cell? ⟨g, o2, none⟩ = some b ∧ Below W0.heap.size W0 w1 := by
  have hlt : g < W.heap.size := by have := h.2.2.size; omega
  exact ⟨by rw [hb.cell (p := ⟨g, o1, none⟩) hlt]; exact h.1, by rw [hb.cell (p := ⟨g, o2, none⟩) hlt]; exact h.2.1, h.2.2.trans (hb.mono h.2.2.size)⟩
set_option maxHeartbeats 4000000 in
set_option maxRecDepth 100000 in
theorem print_any (ns : List Nd) (ao : Option Addr) (cap : Nat) (w : World) (hrow : Row w ao ns.length 3 (ndCells ns)) (hl : ns.length ≤ 4000) (ht : TrOk (trOf ns)) :
    Calls Tryd.prog 17 #[.slice ao ns.length cap] w fun e w' => e = .returned (.string (bs (textT (trOf ns)))) ∧ Below w.heap.size w w' := by
  have HROW := hide hrow; clear hrow
  have HT := hide ht; clear ht
  have HTT : Hid (textT (trOf ns) = textTo (trOf ns) 99) := hide rfl
  go_enter Tryd.func17, Tryd.ntmps17
  go_wp2
  go_loopw [3, 4] (fun s i wr => ∃ k : Nat, k ≤ 99 ∧ s = .string (bs (textTo (trOf ns) k)) ∧ i = .int .i64 ((k : Int) + 1) ∧ Below w.heap.size w wr) (fun _ i _ => 100 - (intOf i).toNat)
  case atStart => exact ⟨0, Nat.zero_le _, rfl, rfl, Below.refl _ _⟩
  case round =>
    obtain ⟨k, hk, rfl, rfl, hbel⟩ := hrel
    have hsl := textTo_len (unhide HT) k
    have HSU := hide (textTo_succ (trOf ns) k)
    by_cases hlt : k < 99
    · have HF := hide (find_any ns ((k : Int) + 1) ao cap wr ((unhide HROW).below hbel) hl)
      by_cases hf : findN ns ((k : Int) + 1) < ns.length
      · obtain ⟨q1, q2⟩ := lookR_some hf
        obtain ⟨g, hao, hg, _, c1, c2⟩ := nd_cells (unhide HROW) hbel hf
        rw [q2] at HF
        rw [hao] at HF ⊢
        have hidn := (lookR_mem q1).2
        have q1' : trOf ns (k + 1) = some (ns[findN ns ((k : Int) + 1)]) := by
          show lookR ns ((k + 1 : Nat) : Int) = _
          rw [show ((k + 1 : Nat) : Int) = (k : Int) + 1 by omega]; exact q1
        have hok := (unhide HT).2 _ _ q1'
        have HTX := hide (textAt_some q1' (by rw [hidn]; omega))
        clear q1 q2 q1' hao hidn
        generalize hfn : findN ns ((k : Int) + 1) = fn at *
        clear hfn
        have hfn0 : (0 : Int) ≤ fn := by omega
        have hfn1 : (fn : Int) < ns.length := by omega
        generalize ns[fn] = nd at *
        obtain ⟨_, _, _, hp0, hp1, hnm⟩ := hok
        have hnl := name_len hnm
        clear hnm
        have l1 := digs_len ((k : Int) + 1)
        have l2 := digs_len nd.parent
        have HNEW : Hid (textTo (trOf ns) (k + 1) = textTo (trOf ns) k ++ digs ((k : Int) + 1) ++ [32] ++ digs nd.parent ++ [32] ++ nd.name ++ [59]) := by
          apply hide
          rw [unhide HSU, unhide HTX, show ((k + 1 : Nat) : Int) = (k : Int) + 1 by omega]
          simp only [List.append_assoc]
        clear HSU HTX
        generalize textTo (trOf ns) k = S at *
        generalize ha : digs ((k : Int) + 1) = a at *
        generalize hb : digs nd.parent = b at *
        have a0 := add_bs S a (by omega) (by omega)
        have a1 := add_32 (S ++ a) (by simp; omega)
        have a2 := add_bs (S ++ a ++ [32]) b (by simp; omega) (by omega)
        have a3 := add_32 (S ++ a ++ [32] ++ b) (by simp; omega)
        have a4 := add_bs (S ++ a ++ [32] ++ b ++ [32]) nd.name (by simp; omega) (by omega)
        have a5 := add_59 (S ++ a ++ [32] ++ b ++ [32] ++ nd.name) (by simp; omega)
        generalize S ++ a ++ [32] ++ b ++ [32] ++ nd.name ++ [59] = r6 at *
        generalize S ++ a ++ [32] ++ b ++ [32] ++ nd.name = r5 at *
        generalize S ++ a ++ [32] ++ b ++ [32] = r4 at *
        generalize S ++ a ++ [32] ++ b = r3 at *
        generalize S ++ a ++ [32] = r2 at *
        generalize S ++ a = r1 at *
        have HS0 := hide (show wr.drew.cell? ⟨g, fn * 3 + 1, none⟩ = some (.int .i64 nd.parent) ∧ wr.drew.cell? ⟨g, fn * 3 + 2, none⟩ = some (.string (bs nd.name)) ∧ Below w.heap.size w wr.drew from ⟨c1, c2, hbel.drew⟩)
        clear c1 c2
        go_wp2_with fail
        refine (unhide HF).mono ?_
        rintro e w' ⟨rfl, rfl⟩
        go_wp2
        go_region_held3 (fun W => W.cell? ⟨g, fn * 3 + 1, none⟩ = some (.int .i64 nd.parent) ∧ W.cell? ⟨g, fn * 3 + 2, none⟩ = some (.string (bs nd.name)) ∧ Below w.heap.size w W) (first | exact unhide HS0 | assumption) ((go_at_call 35; refine (digits_digs _ _ (by omega) (by omega)).mono ?_; rintro e w1 ⟨rfl, hb1⟩; have hs1 := kept2 hg hb1 (by first | assumption | exact unhide HS0); have hbx := hs1.2.2))
        all_goals
          go_wp2
          go_roundw
          case rel => exact ⟨k + 1, by omega, by rw [unhide HNEW], by go_num, hs1.2.2⟩
          case measure => simp [intOf]; omega
      · obtain ⟨q1, q2⟩ := lookR_none hf
        have q1' : trOf ns (k + 1) = none := by
          show lookR ns ((k + 1 : Nat) : Int) = _
          rw [show ((k + 1 : Nat) : Int) = (k : Int) + 1 by omega]; exact q1
        have HNEW : Hid (textTo (trOf ns) (k + 1) = textTo (trOf ns) k) := by apply hide; rw [unhide HSU, textAt_none q1']; simp
        rw [q2] at HF
        clear q1 q2 hf q1'
        go_wp2_with fail
        refine (unhide HF).mono ?_
        rintro e w' ⟨rfl, rfl⟩
        go_wp2
        go_roundw
        case rel => exact ⟨k + 1, by omega, by rw [unhide HNEW], by go_num, hbel⟩
        case measure => simp [intOf]; omega
    · have hk9 : k = 99 := by omega
      subst hk9
      go_wp2
      go_ret
      exact ⟨ret_str (by rw [unhide HTT]), hbel⟩
end Go.Proofs.YtkahmbpggdneoaaDoor
