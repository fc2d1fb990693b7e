import Derived.Test.YtkahmbpggdneoaaDoorKG5
import Derived.Test.YtkahmbpggdneoaaDoorV10
namespace Go.Proofs.YtkahmbpggdneoaaDoor
open Go.RowKit
theorem IntsAt.below {w w' : World} {ao : Option Addr} {len : Nat} (h : IntsAt w ao len) (hb : Below w.heap.size w w') : IntsAt w' ao len := by
  intro hpos
  obtain ⟨b, off, h1, h2, h3⟩ := h hpos
  refine ⟨b, off, h1, by have := hb.size; omega, fun i hi => ?_⟩
  obtain ⟨x, x0, x1, hc⟩ := h3 i hi
  exact ⟨x, x0, x1, by rw [hb.cell (p := ⟨b, _, none⟩) h2]; exact hc⟩
theorem compileE_valid {a g : Tr} (ha : Valid a) (hg : Valid g) : compileE (textT a) (textT g) = 0 := by
  have h1 := (check_text ha).1
  have h2 := (check_text hg).1
  have l1 := textTo_len ha.ok 99
  have l2 := textTo_len hg.ok 99
  unfold compileE textT at *
  rw [if_neg (by omega), h1, h2]; rfl
theorem compileT_valid {a g : Tr} (ha : Valid a) (hg : Valid g) : compileT (textT a) (textT g) = scriptText (makeT a g) := by
  unfold compileT
  rw [if_pos (compileE_valid ha hg), (check_text ha).2, (check_text hg).2]
theorem make_self {g : Tr} (hg : Valid g) : makeT g g = [] := by
  have h := seg_come (makeT_seg hg hg) hg.ok
  have h0 : toCome g g = 0 := by
    have h1 := sum_bd (f := weight g g) (c := 0) (List.range' 1 99) (fun i _ => by rw [weight_home rfl]; omega)
    unfold toCome; omega
  have : (makeT g g).length = 0 := by omega
  exact List.length_eq_zero_iff.1 this
set_option maxHeartbeats 4000000 in
set_option maxRecDepth 100000 in
theorem reached_law (ao bo : Option Addr) (la lb ca cb : Nat) (w : World) (ha : IntsAt w ao la) (hb : IntsAt w bo lb) (hla : la ≤ 140737488355328) (hlb : lb ≤ 140737488355328) :
    Calls Tryd.prog 5 #[.slice ao la ca, .slice bo lb cb] w fun e w' => e = .returned (.bool true) ∧ Below w.heap.size w w' := by
  have HGA := hide (grown_any ao la ca w ha hla)
  have HGB := hide (fun W (h : Below w.heap.size w W) => grown_any bo lb cb W (hb.below h) hlb)
  clear ha hb
  go_enter Tryd.func5, Tryd.ntmps5
  go_wp2_with fail
  refine (unhide HGA).mono ?_
  rintro e w1 ⟨⟨a, rfl, hva⟩, hb1⟩
  go_wp2_with fail
  refine (unhide HGB _ hb1).mono ?_
  rintro e w2 ⟨⟨g, rfl, hvg⟩, hb2⟩
  have HB2 := hide (hb1.trans (hb2.mono hb1.size))
  clear hb1 hb2 HGA HGB
  have HRA := hide (fun W => right_any a W hva)
  have HRG := hide (fun W => right_any g W hvg)
  have HC1 := hide (fun W => compile_any (bs (textT a)) (bs (textT g)) W)
  have HC2 := hide (fun W => compile_any (bs (textT g)) (bs (textT a)) W)
  have HC3 := hide (fun W => compile_any (bs (textT g)) (bs (textT g)) W)
  rw [sl_bs, sl_bs, compileE_valid hva hvg] at HC1
  rw [sl_bs, sl_bs, compileE_valid hvg hva] at HC2
  rw [sl_bs, compileE_valid hvg hvg, compileT_valid hvg hvg, make_self hvg] at HC3
  have HA1 := hide (fun W => apply_any (bs (textT a)) (bs (compileT (textT a) (textT g))) W)
  rw [sl_bs, sl_bs, apply_compile (compileE_valid hva hvg)] at HA1
  have HA2 := hide (fun W => apply_any (bs (textT g)) (bs (compileT (textT g) (textT a))) W)
  rw [sl_bs, sl_bs, apply_compile (compileE_valid hvg hva)] at HA2
  clear hva hvg
  have hs0 : scriptText [] = [] := rfl
  rw [hs0] at HC3
  generalize compileT (textT a) (textT g) = s1 at *
  generalize compileT (textT g) (textT a) = s2 at *
  generalize textT a = A at *
  generalize textT g = G at *
  have e1 : ((bs G).toList == (bs G).toList) = true := by simp
  have e2 : ((bs A).toList == (bs A).toList) = true := by simp
  have e3 : ((bs s1).toList == (bs s1).toList) = true := by simp
  have e4 : (bs ([] : Str)).toList = [] := by rw [tl_sl, sl_bs]
  go_wp2_with fail
  refine (unhide HRA _).mono ?_
  rintro e w3 ⟨rfl, hb3⟩
  have HB3 := hide ((unhide HB2).trans (hb3.mono (unhide HB2).size))
  clear hb3
  go_wp2_with fail
  refine (unhide HRG _).mono ?_
  rintro e w4 ⟨rfl, hb4⟩
  have HB4 := hide ((unhide HB3).trans (hb4.mono (unhide HB3).size))
  clear hb4
  go_wp2_with fail
  refine (unhide HC1 _).mono ?_
  rintro e w5 ⟨rfl, hb5⟩
  have HB5 := hide ((unhide HB4).trans (hb5.mono (unhide HB4).size))
  clear hb5
  go_wp2_with fail
  refine (unhide HA1 _).mono ?_
  rintro e w6 ⟨rfl, hb6⟩
  have HB6 := hide ((unhide HB5).trans (hb6.mono (unhide HB5).size))
  clear hb6
  go_wp2_with fail
  refine (unhide HC2 _).mono ?_
  rintro e w7 ⟨rfl, hb7⟩
  have HB7 := hide ((unhide HB6).trans (hb7.mono (unhide HB6).size))
  clear hb7
  go_wp2_with fail
  refine (unhide HA2 _).mono ?_
  rintro e w8 ⟨rfl, hb8⟩
  have HB8 := hide ((unhide HB7).trans (hb8.mono (unhide HB7).size))
  clear hb8
  go_wp2_with fail
  refine (unhide HC3 _).mono ?_
  rintro e w9 ⟨rfl, hb9⟩
  have HB9 := hide ((unhide HB8).trans (hb9.mono (unhide HB8).size))
  clear hb9
  go_wp2_with fail
  refine (unhide HC1 _).mono ?_
  rintro e w10 ⟨rfl, hb10⟩
  have HB10 := hide ((unhide HB9).trans (hb10.mono (unhide HB9).size))
  clear hb10
  go_wp2
  go_ret
  exact ⟨rfl, unhide HB10⟩
end Go.Proofs.YtkahmbpggdneoaaDoor
