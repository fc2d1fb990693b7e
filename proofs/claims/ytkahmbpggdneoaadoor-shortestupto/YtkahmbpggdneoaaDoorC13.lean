import Derived.Test.YtkahmbpggdneoaaDoorC5
import Derived.Test.YtkahmbpggdneoaaDoorM1
import Derived.Laws.BytesArg
import Derived.Test.YtkahmbpggdneoaaDoorM2
import Derived.Test.YtkahmbpggdneoaaDoorM4
import Derived.Test.YtkahmbpggdneoaaDoorC6
import Derived.Deep.RegionHeld3
import Derived.Deep.DrawnRows
import Derived.Deep.Cut
namespace Go.Proofs.YtkahmbpggdneoaaDoor
open Go.RowKit
theorem conv_one (W : World) (x : Int) : (convert 99 9 (.slice (some ⟨W.heap.size, 0, none⟩) 1 1)).run Tryd.prog (W.alloc (.cells #[.int .u8 x] 5)) = .ok (.string (bs [UInt8.ofNat x.toNat])) (W.alloc (.cells #[.int .u8 x] 5)) := by
  have := run_convert_bytes_arg (P := Tryd.prog) (W.alloc (.cells #[.int .u8 x] 5)) 99 5 Tryd.underlying99 Tryd.underlying5 W.heap.size 0 1 1 [x] rfl (fun i hi => by
    have hi0 : i = 0 := by omega
    subst hi0
    have := news_one (w := W) (.int .u8 x) 5 0 _ rfl
    exact this) 9 Tryd.underlying9
  exact this
theorem sl_append' (a b : ByteArray) : sl (a ++ b) = sl a ++ sl b := by simp [sl, ByteArray.data_append]
theorem bs_append (a b : Str) : bs a ++ bs b = bs (a ++ b) := by
  have h := sl_append' (bs a) (bs b)
  rw [sl_bs, sl_bs] at h
  rw [← bs_sl (bs a ++ bs b), h]
theorem add_one (S : Str) (h : S.length ≤ 1000000) (W : World) (c : UInt8) : (Op.stringOp .add (bs [c]) (bs S)).run Tryd.prog W = .ok (.string (bs (c :: S))) W := by
  rw [run_string_add_sum (P := Tryd.prog) W _ _ (by rw [bs_size, bs_size]; simp; omega), bs_append]; rfl
def DigInv (n m : Nat) (S : Str) : Prop := ∃ t, S = UInt8.ofNat (48 + m % 10) :: t ∧ dec n = dec m ++ t ∧ t.length + m ≤ n
theorem digInv_step {n m : Nat} {S : Str} (h : DigInv n m S) (hm : 10 ≤ m) : DigInv n (m / 10) (UInt8.ofNat (48 + m / 10 % 10) :: S) := by
  obtain ⟨t, h1, h2, h3⟩ := h
  refine ⟨S, rfl, ?_, ?_⟩
  · rw [h2, dec_big (by omega), h1]; simp
  · rw [h1]; simp; omega
theorem digInv_end {n m : Nat} {S : Str} (h : DigInv n m S) (hm : ¬ 10 ≤ m) : dec n = S := by
  obtain ⟨t, h1, h2, h3⟩ := h
  rw [h2, dec_small (by omega), h1]; rfl
theorem digInv_len {n m : Nat} {S : Str} (h : DigInv n m S) : S.length ≤ n + 1 := by
  obtain ⟨t, h1, h2, h3⟩ := h
  rw [h1]; simp; omega
set_option maxHeartbeats 1000000 in
theorem digits_nat (n : Nat) (w : World) (hn : n ≤ 99999) :
    Calls Tryd.prog 35 #[.int .i64 n] w fun e w' => e = .returned (.string (bs (dec n))) ∧ Below w.heap.size w w' := by
  have hconv := conv_one
  have hm0 : (0 : Int) ≤ (n : Int) % 10 := by omega
  have hm1 : (n : Int) % 10 ≤ 9 := by omega
  go_enter Tryd.func35, Tryd.ntmps35
  go_wp2
  go_loopw [0, 3] (fun a b wr => ∃ m : Nat, ∃ S : Str, m ≤ n ∧ a = .int .i64 m ∧ b = .string (bs S) ∧ Below w.heap.size w wr ∧ Hid (DigInv n m S)) (fun a _ _ => (intOf a).toNat)
  case atStart => exact ⟨n, _, Nat.le_refl _, rfl, rfl, (Below.refl _ _).alloc (Nat.le_refl _) _, hide ⟨[], rfl, by simp, by simp⟩⟩
  case round =>
    obtain ⟨m, S, hm, rfl, rfl, hbel, HI⟩ := hrel
    clear hm0 hm1
    by_cases hge : 10 ≤ m
    · have hadd := add_one S (by have := digInv_len (unhide HI); omega)
      have HI2 := hide (digInv_step (unhide HI) hge)
      have hq0 : (0 : Int) ≤ (m : Int) / 10 % 10 := by omega
      have hq1 : (m : Int) / 10 % 10 ≤ 9 := by omega
      have hsz := hbel.size
      go_wp2
      go_roundw
      case rel => exact ⟨m / 10, _, by omega, by go_num, rfl, hbel.alloc hsz _, by rw [show ((48 : UInt8) + UInt8.ofNat (m / 10 % 10)) = UInt8.ofNat (48 + m / 10 % 10) by simp]; exact HI2⟩
      case measure => simp [intOf]; omega
    · have HE := hide (digInv_end (unhide HI) hge)
      go_wp2
      go_ret
      exact ⟨ret_str (by rw [unhide HE]), hbel⟩
theorem digits_any (n : Int) (w : World) (h0 : 0 ≤ n) (h1 : n ≤ 99999) :
    Calls Tryd.prog 35 #[.int .i64 n] w fun e w' => e = .returned (.string (bs (dec n.toNat))) ∧ Below w.heap.size w w' := by
  obtain ⟨m, rfl⟩ := Int.eq_ofNat_of_zero_le h0
  exact digits_nat m w (by omega)
end Go.Proofs.YtkahmbpggdneoaaDoor

namespace Go.Proofs.YtkahmbpggdneoaaDoor
open Go.RowKit
set_option maxHeartbeats 1000000 in
theorem find_any (ns : List Nd) (id : Int) (ao : Option Addr) (cap : Nat) (w : World) (hrow : Row w ao ns.length 3 (ndCells ns)) (hl : ns.length ≤ 4000) :
    Calls Tryd.prog 18 #[.slice ao ns.length cap, .int .i64 id] w fun e w' => e = .returned (.int .i64 (findR ns id)) ∧ w' = w := by
  have HROW := hide hrow; clear hrow
  have HB := hide (Below.refl w.heap.size w)
  go_enter Tryd.func18, Tryd.ntmps18
  go_wp2
  go_loop [5] (fun i => ∃ k : Nat, k ≤ ns.length ∧ i = .int .i64 k ∧ Hid (NoIn (idIs ns id) 0 k)) (fun i => ns.length - (intOf i).toNat)
  case atStart => exact ⟨0, Nat.zero_le _, rfl, hide (fun j h1 h2 => by omega)⟩
  case round =>
    obtain ⟨k, hk, rfl, HN⟩ := hrel
    by_cases hlt : k < ns.length
    · obtain ⟨g, hao, hg, c0, _, _⟩ := nd_cells (unhide HROW) (unhide HB) hlt
      rw [hao]
      have HU : Hid (idIs ns id k = ((ns[k]).id == id)) := by apply hide; unfold idIs; rw [ndAt_get _ _ hlt]
      clear hao
      cases hq : ((ns[k]).id == id)
      · have HN2 := hide (noIn_succ (unhide HN) (by rw [unhide HU]; exact hq))
        go_wp2
        go_round
        case rel => exact ⟨k + 1, by omega, by go_num, HN2⟩
        case measure => simp [intOf]; omega
      · have HS : Hid (findR ns id = k) := by
          apply hide
          have e : findN ns id = k := scan_hit (by omega) hlt (by rw [unhide HU]; exact hq) (unhide HN)
          rw [(lookR_some (by rw [e]; exact hlt)).2, e]
        go_wp2
        go_ret
        exact ⟨ret_int (unhide HS).symm, rfl⟩
    · have HS : Hid (findR ns id = -1) := by
        apply hide
        have e : findN ns id = ns.length := scan_none (fun j h1 h2 => unhide HN j h1 (by omega))
        exact (lookR_none (by rw [e]; omega)).2
      go_wp2
      go_ret
      exact ⟨ret_int (unhide HS).symm, rfl⟩
theorem findR_bd (ns : List Nd) (id : Int) : -1 ≤ findR ns id ∧ findR ns id < (ns.length : Int) + 1 ∧ ((lookR ns id).isSome = decide (0 ≤ findR ns id)) := by
  by_cases h : findN ns id < ns.length
  · obtain ⟨h1, h2⟩ := lookR_some h
    rw [h1, h2]; refine ⟨by omega, by omega, by simp⟩
  · obtain ⟨h1, h2⟩ := lookR_none h
    rw [h1, h2]; refine ⟨by omega, by omega, by simp⟩
end Go.Proofs.YtkahmbpggdneoaaDoor

namespace Go.Proofs.YtkahmbpggdneoaaDoor
open Go.RowKit
attribute [local go_sem ↓] Go.wp_at_zero Go.wp_at_succ
theorem digits_digs (n : Int) (w : World) (h0 : 0 ≤ n) (h1 : n ≤ 99) :
    Calls Tryd.prog 35 #[.int .i64 n] w fun e w' => e = .returned (.string (bs (digs n))) ∧ Below w.heap.size w w' := by
  have e : dec n.toNat = digs n := by rw [← digs_dec n.toNat (by omega), Int.toNat_of_nonneg h0]
  rw [← e]; exact digits_any n w h0 (by omega)
abbrev trOf (ns : List Nd) : Tr := fun i => lookR ns (i : Int)
theorem textAt_some {t : Tr} {i : Nat} {n : Nd} (h : t i = some n) (hid : n.id = (i : Int)) : textAt t i = digs (i : Int) ++ [32] ++ digs n.parent ++ [32] ++ n.name ++ [59] := by
  unfold textAt; rw [h]; show nodeText n = _; unfold nodeText; rw [hid]
theorem textAt_none {t : Tr} {i : Nat} (h : t i = none) : textAt t i = [] := by unfold textAt; rw [h]
theorem kept2 {W0 W w1 : World} {g : Nat} {o1 o2 : Nat} {a b : Value} (hg : g < W0.heap.size) (hb : Below W.heap.size W w1) (h : W.cell? ⟨g, o1, none⟩ = some a ∧ W.cell? ⟨g, o2, none⟩ = some b ∧ Below W0.heap.size W0 W) : w1.cell? ⟨g, o1, none⟩ = some a ∧ w1.cell? ⟨g, o2, none⟩ = some b ∧ Below W0.heap.size W0 w1 := by
  have hlt : g < W.heap.size := by have := h.2.2.size; omega
  exact ⟨by rw [hb.cell (p := ⟨g, o1, none⟩) hlt]; exact h.1, by rw [hb.cell (p := ⟨g, o2, none⟩) hlt]; exact h.2.1, h.2.2.trans (hb.mono h.2.2.size)⟩
set_option maxHeartbeats 4000000 in
set_option maxRecDepth 100000 in
theorem print_any (ns : List Nd) (ao : Option Addr) (cap : Nat) (w : World) (hrow : Row w ao ns.length 3 (ndCells ns)) (hl : ns.length ≤ 4000) (ht : TrOk (trOf ns)) :
    Calls Tryd.prog 17 #[.slice ao ns.length cap] w fun e w' => e = .returned (.string (bs (textT (trOf ns)))) ∧ Below w.heap.size w w' := by
  have HROW := hide hrow; clear hrow
  have HT := hide ht; clear ht
  have HTT : Hid (textT (trOf ns) = textTo (trOf ns) 99) := hide rfl
  go_enter Tryd.func17, Tryd.ntmps17
  go_wp2
  go_loopw [3, 4] (fun s i wr => ∃ k : Nat, k ≤ 99 ∧ s = .string (bs (textTo (trOf ns) k)) ∧ i = .int .i64 ((k : Int) + 1) ∧ Below w.heap.size w wr) (fun _ i _ => 100 - (intOf i).toNat)
  case atStart => exact ⟨0, Nat.zero_le _, rfl, rfl, Below.refl _ _⟩
  case round =>
    obtain ⟨k, hk, rfl, rfl, hbel⟩ := hrel
    have hsl := textTo_len (unhide HT) k
    have HSU := hide (textTo_succ (trOf ns) k)
    by_cases hlt : k < 99
    · have HF := hide (find_any ns ((k : Int) + 1) ao cap wr ((unhide HROW).below hbel) hl)
      by_cases hf : findN ns ((k : Int) + 1) < ns.length
      · obtain ⟨q1, q2⟩ := lookR_some hf
        obtain ⟨g, hao, hg, _, c1, c2⟩ := nd_cells (unhide HROW) hbel hf
        rw [q2] at HF
        rw [hao] at HF ⊢
        have hidn := (lookR_mem q1).2
        have q1' : trOf ns (k + 1) = some (ns[findN ns ((k : Int) + 1)]) := by
          show lookR ns ((k + 1 : Nat) : Int) = _
          rw [show ((k + 1 : Nat) : Int) = (k : Int) + 1 by omega]; exact q1
        have hok := (unhide HT).2 _ _ q1'
        have HTX := hide (textAt_some q1' (by rw [hidn]; omega))
        clear q1 q2 q1' hao hidn
        generalize hfn : findN ns ((k : Int) + 1) = fn at *
        clear hfn
        have hfn0 : (0 : Int) ≤ fn := by omega
        have hfn1 : (fn : Int) < ns.length := by omega
        generalize ns[fn] = nd at *
        obtain ⟨_, _, _, hp0, hp1, hnm⟩ := hok
        have hnl := name_len hnm
        clear hnm
        have l1 := digs_len ((k : Int) + 1)
        have l2 := digs_len nd.parent
        have HNEW : Hid (textTo (trOf ns) (k + 1) = textTo (trOf ns) k ++ digs ((k : Int) + 1) ++ [32] ++ digs nd.parent ++ [32] ++ nd.name ++ [59]) := by
          apply hide
          rw [unhide HSU, unhide HTX, show ((k + 1 : Nat) : Int) = (k : Int) + 1 by omega]
          simp only [List.append_assoc]
        clear HSU HTX
        generalize textTo (trOf ns) k = S at *
        generalize ha : digs ((k : Int) + 1) = a at *
        generalize hb : digs nd.parent = b at *
        have a0 := add_bs S a (by omega) (by omega)
        have a1 := add_32 (S ++ a) (by simp; omega)
        have a2 := add_bs (S ++ a ++ [32]) b (by simp; omega) (by omega)
        have a3 := add_32 (S ++ a ++ [32] ++ b) (by simp; omega)
        have a4 := add_bs (S ++ a ++ [32] ++ b ++ [32]) nd.name (by simp; omega) (by omega)
        have a5 := add_59 (S ++ a ++ [32] ++ b ++ [32] ++ nd.name) (by simp; omega)
        generalize S ++ a ++ [32] ++ b ++ [32] ++ nd.name ++ [59] = r6 at *
        generalize S ++ a ++ [32] ++ b ++ [32] ++ nd.name = r5 at *
        generalize S ++ a ++ [32] ++ b ++ [32] = r4 at *
        generalize S ++ a ++ [32] ++ b = r3 at *
        generalize S ++ a ++ [32] = r2 at *
        generalize S ++ a = r1 at *
        have HS0 := hide (show wr.drew.cell? ⟨g, fn * 3 + 1, none⟩ = some (.int .i64 nd.parent) ∧ wr.drew.cell? ⟨g, fn * 3 + 2, none⟩ = some (.string (bs nd.name)) ∧ Below w.heap.size w wr.drew from ⟨c1, c2, hbel.drew⟩)
        clear c1 c2
        go_wp2_with fail
        refine (unhide HF).mono ?_
        rintro e w' ⟨rfl, rfl⟩
        go_wp2
        go_region_held3 (fun W => W.cell? ⟨g, fn * 3 + 1, none⟩ = some (.int .i64 nd.parent) ∧ W.cell? ⟨g, fn * 3 + 2, none⟩ = some (.string (bs nd.name)) ∧ Below w.heap.size w W) (first | exact unhide HS0 | assumption) ((go_at_call 35; refine (digits_digs _ _ (by omega) (by omega)).mono ?_; rintro e w1 ⟨rfl, hb1⟩; have hs1 := kept2 hg hb1 (by first | assumption | exact unhide HS0); have hbx := hs1.2.2))
        all_goals
          go_wp2
          go_roundw
          case rel => exact ⟨k + 1, by omega, by rw [unhide HNEW], by go_num, hs1.2.2⟩
          case measure => simp [intOf]; omega
      · obtain ⟨q1, q2⟩ := lookR_none hf
        have q1' : trOf ns (k + 1) = none := by
          show lookR ns ((k + 1 : Nat) : Int) = _
          rw [show ((k + 1 : Nat) : Int) = (k : Int) + 1 by omega]; exact q1
        have HNEW : Hid (textTo (trOf ns) (k + 1) = textTo (trOf ns) k) := by apply hide; rw [unhide HSU, textAt_none q1']; simp
        rw [q2] at HF
        clear q1 q2 hf q1'
        go_wp2_with fail
        refine (unhide HF).mono ?_
        rintro e w' ⟨rfl, rfl⟩
        go_wp2
        go_roundw
        case rel => exact ⟨k + 1, by omega, by rw [unhide HNEW], by go_num, hbel⟩
        case measure => simp [intOf]; omega
    · have hk9 : k = 99 := by omega
      subst hk9
      go_wp2
      go_ret
      exact ⟨ret_str (by rw [unhide HTT]), hbel⟩
end Go.Proofs.YtkahmbpggdneoaaDoor
