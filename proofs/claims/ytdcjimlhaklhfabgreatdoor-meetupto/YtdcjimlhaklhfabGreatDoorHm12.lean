import Derived.Test.YtdcjimlhaklhfabGreatDoorHm11
import Derived.Test.YtdcjimlhaklhfabGreatDoorHm8
import Derived.Deep.Cut
import Derived.Test.YtdcjimlhaklhfabGreatDoorHm9
import Derived.Test.YtdcjimlhaklhfabGreatDoorHm10
namespace Go.Proofs.YtdcjimlhaklhfabGreatDoor
open Go.RowKit
theorem Tryz.infoSpot : (Tryz.prog.info? 109).map (fun i => (i.zero, i.size, i.bytes)) = some (some (.agg #[.int .i64 0, .int .i64 0, .string ByteArray.empty]), 3, 32) := by kernel_rfl
theorem Tryz.infoInt : (Tryz.prog.info? 3).map (fun i => (i.zero, i.size, i.bytes)) = some (some (.int .i64 0), 1, 8) := by kernel_rfl
def intV (x : Int) : Value := .int .i64 x
def FolderOf (ns : List Nd) (f : Int) : Prop := f = 0 ∨ (f % 2 = 0 ∧ ∃ n ∈ ns, n.id = f)
theorem own_first (w : World) (x : Int) (base : Nat) (hb : base ≤ w.heap.size) : (w.alloc (.cells #[.int .i64 x] 3)).ownsRow base 3 1 (.slice (some ⟨w.heap.size, 0, none⟩) 1 1) 1 [.int .i64 x] := by
  refine ⟨rfl, Or.inr ⟨w.heap.size, 1, #[.int .i64 x], rfl, hb, heap_alloc_new w _, Nat.le_refl _, by unfold maxLen; omega, rfl, rfl⟩⟩
set_option maxHeartbeats 2000000 in
theorem folders_any (ns : List Nd) (ao : Option Addr) (cap : Nat) (w : World) (hrow : Row w ao ns.length 3 (ndCells ns)) (hl : ns.length ≤ 4000) (hid : ∀ n ∈ ns, 0 ≤ n.id) :
    Calls Tryz.prog 53 #[.slice ao ns.length cap] w fun e w' => (∃ fs : List Int, ∃ ao' cap', e = .returned (.slice ao' fs.length cap') ∧ Row w' ao' fs.length 1 (fs.map intV) ∧ 1 ≤ fs.length ∧ fs.length ≤ ns.length + 1 ∧ ∀ f ∈ fs, FolderOf ns f) ∧ Below w.heap.size w w' := by
  obtain ⟨i0, hi, hz0, hz1, hz2⟩ := info_parts Tryz.infoInt
  have HROW := hide hrow
  have HID := hide hid
  clear hrow hid
  go_enter Tryz.func53, Tryz.ntmps53
  go_wp2
  go_loopw [3, 4] (fun v i wr => ∃ k : Nat, ∃ fs : List Int, k ≤ ns.length ∧ i = .int .i64 k ∧ wr.ownsRow w.heap.size 3 1 v fs.length (fs.map intV) ∧ Below w.heap.size w wr ∧ 1 ≤ fs.length ∧ fs.length ≤ k + 1 ∧ Hid (∀ f ∈ fs, FolderOf ns f)) (fun _ i _ => ns.length - (intOf i).toNat)
  case atStart => exact ⟨0, [0], Nat.zero_le _, rfl, own_first w 0 _ (Nat.le_refl _), (Below.refl _ _).alloc (Nat.le_refl _) _, by simp, by simp, hide (fun f hf => by simp at hf; exact .inl hf)⟩
  case round =>
    obtain ⟨k, fs, hk, rfl, hown, hbel, hf1, hf2, HF⟩ := hrel
    have hsz := hbel.size
    by_cases hlt : k < ns.length
    · obtain ⟨g, hao, hg, c0, _, _⟩ := nd_cells (unhide HROW) hbel hlt
      have hid0 := unhide HID _ (List.getElem_mem hlt)
      have hmem := List.getElem_mem hlt
      have HM := hide hmem
      rw [hao]
      clear hao hmem
      have ht : (ns[k]).id.tmod 2 = (ns[k]).id % 2 := Int.tmod_eq_emod_of_nonneg hid0
      generalize ns[k] = nd at *
      by_cases he : nd.id % 2 = 0
      · have he' : (nd.id % 2 == 0) = true := by simpa using he
        have HF2 : Hid (∀ f ∈ fs ++ [nd.id], FolderOf ns f) := hide (fun f hf => by
          rcases List.mem_append.1 hf with hf | hf
          · exact unhide HF f hf
          · simp at hf; exact .inr ⟨by rw [hf]; exact he, nd, unhide HM, hf.symm⟩)
        go_wp2_with (first
          | (at_builtin; (refine wpList_append_own _ rfl _ _ 25 rfl w.heap.size 3 i0 (.int .i64 0) 1 8 Tryz.underlying25 hi hz0 hz1 hz2 rfl (by decide) _ _ _ rfl (own_below hown ((Below.refl _ _).alloc (by simp) _)) ⟨wr.heap.size, 0, none⟩ 1 1 [.int .i64 nd.id] rfl rfl (news_one _ _) (by simp [Value.oneCell']) (by unfold maxLen; omega) (by omega) (by simp; omega) ?_))
          | go_in)
        intro v' w4 hown' hgrow _
        have hb4 : Below w.heap.size w w4 := (hbel.alloc (by omega) _).grown hgrow (by simp; omega) (own_ge hown)
        have hown2 : w4.ownsRow w.heap.size 3 1 v' (fs ++ [nd.id]).length ((fs ++ [nd.id]).map intV) := by rw [List.map_append, List.length_append]; exact hown'
        clear hgrow hown hbel hown' c0
        go_wp2
        go_roundw
        case rel => exact ⟨k + 1, _, by omega, by go_num, hown2, hb4, by simp, by simp; omega, HF2⟩
        case measure => simp [intOf]; omega
      · have he' : (nd.id % 2 == 0) = false := by simpa using he
        go_wp2
        go_roundw
        case rel => exact ⟨k + 1, fs, by omega, by go_num, hown, hbel, hf1, by omega, HF⟩
        case measure => simp [intOf]; omega
    · go_wp2
      go_ret
      obtain ⟨ao', cap', rfl, hr⟩ := row_of_owns hown
      exact ⟨⟨fs, ao', cap', rfl, hr, hf1, by omega, unhide HF⟩, hbel⟩
/-- The numbers that a tree is grown of, in memory. -/
def IntsAt (w : World) (ao : Option Addr) (len : Nat) : Prop :=
  0 < len → ∃ b off, ao = some ⟨b, off, none⟩ ∧ b < w.heap.size ∧ ∀ i, i < len → ∃ x : Int, -9223372036854775808 ≤ x ∧ x ≤ 9223372036854775807 ∧ w.cell? ⟨b, off + i, none⟩ = some (.int .i64 x)
theorem grow_step {ns : List Nd} {t : Tr} (hr : Rep ns t) (hv : Valid t) {id p : Int} {nm : Str} (h1 : 1 ≤ id) (h2 : id ≤ 99) (hno : ∀ n ∈ ns, n.id ≠ id) (hp : FolderOf ns p) (hn : isName nm id = true) (hfree : ∀ n ∈ ns, n.parent = p → n.name ≠ nm) :
    ∃ t', Rep (ns ++ [⟨id, p, nm⟩]) t' ∧ Valid t' := by
  have hpar : isParentT t p = true := by
    rcases hp with rfl | ⟨he, n, hn, rfl⟩
    · exact isParent_iff.2 (.inl rfl)
    · obtain ⟨i, hi⟩ := (rep_mem hr hv.ok).1 hn
      have := hv.ok.2 i n hi
      exact isParent_iff.2 (.inr ⟨he, n, by rw [show n.id.toNat = i by omega]; exact hi⟩)
  have hpb : 0 ≤ p ∧ p ≤ 99 := by
    rcases hp with rfl | ⟨_, n, hn, rfl⟩
    · omega
    · have := hr.ok n hn; exact ⟨by have := this.1; omega, this.2.1⟩
  have hN : NdOk ⟨id, p, nm⟩ := ⟨h1, h2, hpb.1, hpb.2, hn⟩
  have hl : layR ns ⟨id, p, nm⟩ true = ns ++ [⟨id, p, nm⟩] := by
    unfold layR
    rw [List.filter_eq_self.2 (fun n hn => by unfold otherB; rw [bne_iff_ne]; exact hno n hn)]; rfl
  refine ⟨trPut t ⟨id, p, nm⟩, by rw [← hl]; exact rep_put hr hv.ok hN, valid_put hv hN hpar (fun hh => ?_) (fun i m hm hp' hn' => ?_)⟩
  · exfalso
    obtain ⟨n, hn⟩ := hasT_iff.1 hh
    have hb := hv.ok.2 _ n hn
    have h1' : (1 : Int) ≤ id := h1
    have hid : n.id = id := by
      have := hb.1
      show n.id = id
      rw [this]; exact Int.toNat_of_nonneg (by omega)
    exact hno n ((rep_mem hr hv.ok).2 ⟨_, hn⟩) hid
  · exact absurd hn' (hfree m ((rep_mem hr hv.ok).2 ⟨i, hm⟩) hp')
theorem rep_nil : Rep [] tr0 := ⟨fun n m hn => by simp at hn, by simp, fun n hn => by simp at hn, fun i => rfl⟩
theorem valid_0 : Valid tr0 := ⟨trOk_0, fun i n h => (by cases h), fun i n h => (by cases h), fun i j n m h => (by cases h)⟩
theorem int_cell {w wr : World} {ao : Option Addr} {fs : List Int} (hrow : Row w ao fs.length 1 (fs.map intV)) (hb : Below w.heap.size w wr) {k : Nat} (hk : k < fs.length) :
    ∃ g, ao = some ⟨g, 0, none⟩ ∧ g < w.heap.size ∧ wr.cell? ⟨g, k, none⟩ = some (.int .i64 fs[k]) := by
  obtain ⟨g, h1, h2, h3⟩ := hrow.2 (by omega)
  refine ⟨g, h1, h2, ?_⟩
  rw [hb.cell (p := ⟨g, k, none⟩) h2]
  exact h3 k _ (by simp [hk, intV])
set_option maxHeartbeats 4000000 in
set_option maxRecDepth 100000 in
theorem grow_any (ao : Option Addr) (len cap : Nat) (w : World) (hin : IntsAt w ao len) (hlen : len ≤ 140737488355328) :
    Calls Tryz.prog 26 #[.slice ao len cap] w fun e w' => (∃ ns t ao' cap', e = .returned (.slice ao' ns.length cap') ∧ Row w' ao' ns.length 3 (ndCells ns) ∧ Rep ns t ∧ Valid t) ∧ Below w.heap.size w w' := by
  obtain ⟨i0, hi, hz0, hz1, hz2⟩ := info_parts Tryz.infoSpot
  have HIN := hide hin
  clear hin
  go_enter Tryz.func26, Tryz.ntmps26
  go_wp2
  go_loopw [3, 4] (fun v i wr => ∃ k : Nat, ∃ ns : List Nd, ∃ t : Tr, k ≤ len ∧ i = .int .i64 k ∧ wr.ownsRow w.heap.size 109 3 v ns.length (ndCells ns) ∧ Below w.heap.size w wr ∧ Hid (Rep ns t) ∧ Hid (Valid t)) (fun _ i _ => len - (intOf i).toNat)
  case atStart => exact ⟨0, [], tr0, Nat.zero_le _, rfl, World.ownsRow_nil _ _ _ _, Below.refl _ _, hide rep_nil, hide valid_0⟩
  case round =>
    obtain ⟨k, ns, t, hk, rfl, hown, hbel, HR, HV⟩ := hrel
    have hsz := hbel.size
    have hnl := rep_len (unhide HR)
    by_cases hlt : k < len
    · obtain ⟨b, off, hao, hb, hcells⟩ := unhide HIN (by omega)
      obtain ⟨x, hx0, hx1, hc⟩ := hcells k hlt
      clear hcells
      rw [← hbel.cell (p := ⟨b, _, none⟩) hb] at hc
      rw [hao]
      clear hao
      obtain ⟨so, sc, rfl, hsrow⟩ := row_of_owns hown
      have HPK := hide (fun W => pick_any x W hx0 hx1)
      have HSR := hide hsrow
      have HFI := hide (fun id W (h : Row W so ns.length 3 (ndCells ns)) => find_any ns id so sc W h (by omega))
      have HFO := hide (fun W (h : Row W so ns.length 3 (ndCells ns)) => folders_any ns so sc W h (by omega) (fun n hn => by have := ((unhide HR).ok n hn).1; omega))
      have HOWN := hide hown
      clear hown hsrow
      go_wp2_with fail
      refine (unhide HPK _).mono ?_
      rintro e w1 ⟨v, rfl, hv0, hv1, rfl⟩
      have t1 : v.tmod 99 = v % 99 := Int.tmod_eq_emod_of_nonneg hv0
      have t2 : v.tdiv 99 = v / 99 := Int.tdiv_eq_ediv_of_nonneg hv0
      have hq0 : 0 ≤ v / 99 := by omega
      have hq1 : v / 99 < 1099511627776 := by omega
      have hi1 : 1 ≤ 1 + v % 99 := by omega
      have hi2 : 1 + v % 99 ≤ 99 := by omega
      go_wp2_with fail
      generalize 1 + v % 99 = id at *
      generalize v / 99 = q at *
      clear t1 t2 hc
      refine (unhide HFI id _ (unhide HSR)).mono ?_
      rintro e w2 ⟨rfl, rfl⟩
      by_cases hf : findN ns id < ns.length
      · have q2 := (lookR_some hf).2
        rw [q2]
        have hfn : (0 : Int) ≤ findN ns id := by omega
        generalize findN ns id = fn at *
        clear q2 hf
        go_wp2
        go_roundw
        case rel => exact ⟨k + 1, ns, t, by omega, by go_num, unhide HOWN, hbel, HR, HV⟩
        case measure => simp [intOf]; omega
      · obtain ⟨q1, q2⟩ := lookR_none hf
        rw [q2]
        have HNO := hide (lookR_no q1)
        clear q1 q2 hf
        go_wp2_with fail
        refine (unhide HFO _ (unhide HSR)).mono ?_
        rintro e w3 ⟨⟨fs, fo, fc, rfl, hfr, hf1, hf2, hff⟩, hb3⟩
        have t3 : q.tmod (fs.length : Int) = q % (fs.length : Int) := Int.tmod_eq_emod_of_nonneg hq0
        have t4 : q.tdiv (fs.length : Int) = q / (fs.length : Int) := Int.tdiv_eq_ediv_of_nonneg hq0
        have hr0 : 0 ≤ q % (fs.length : Int) := Int.emod_nonneg _ (by omega)
        have hr1 : q % (fs.length : Int) < fs.length := Int.emod_lt_of_pos _ (by omega)
        obtain ⟨j, hj⟩ := Int.eq_ofNat_of_zero_le hr0
        have hjl : j < fs.length := by omega
        obtain ⟨fg, hfo, hfg, hfc⟩ := int_cell hfr (Below.refl _ _) hjl
        have hFol := hff _ (List.getElem_mem hjl)
        have hd0 : 0 ≤ q / (fs.length : Int) := Int.ediv_nonneg hq0 (by omega)
        have hd1 : q / (fs.length : Int) < 1099511627776 := by
          have := Int.ediv_le_self (fs.length : Int) hq0; omega
        rw [hj] at t3
        have hfl : ¬ (fs.length : Int) = 0 := by omega
        have hj1 : (j : Int) < fs.length := by omega
        have HB3 := hide (hbel.trans (hb3.mono hsz))
        have HSR3 := hide (Row.below (unhide HSR) hb3)
        have HOWN3 := hide (own_below (unhide HOWN) hb3)
        have hz3 := hb3.size
        have HFol := hide hFol
        rw [hfo]
        clear hff hfr hb3 hFol hfo hj hr0 hr1
        generalize q / (fs.length : Int) = d at *
        generalize fs[j] = p at *
        have HNM := hide (fun W (h : Row W so ns.length 3 (ndCells ns)) => named_any ns id p d so sc W h (by omega) (unhide HR).ok (unhide HNO) hi1 hi2 hd0 hd1)
        go_wp2_with fail
        refine (unhide HNM _ (unhide HSR3)).mono ?_
        rintro e w4 ⟨⟨nm, rfl, hn1, hn2⟩, hb4⟩
        obtain ⟨t', hR', hV'⟩ := grow_step (unhide HR) (unhide HV) hi1 hi2 (unhide HNO) (unhide HFol) hn1 hn2
        have HR' := hide hR'
        have HV' := hide hV'
        have HB4 := hide ((unhide HB3).trans (hb4.mono (unhide HB3).size))
        have HOWN4 := hide (own_below (unhide HOWN3) hb4)
        have hz4 := hb4.size
        clear hn1 hn2 hb4 hR' hV' hfc
        go_wp2_with (first
          | (at_builtin; (refine wpList_append_own _ rfl _ _ 62 rfl w.heap.size 109 i0 (.agg #[.int .i64 0, .int .i64 0, .string ByteArray.empty]) 3 32 Tryz.underlying62 hi hz0 hz1 hz2 rfl (by decide) _ _ _ rfl (own_below (unhide HOWN4) ((Below.refl _ _).alloc (by simp) _)) ⟨w4.heap.size, 0, none⟩ 1 1 [.int .i64 id, .int .i64 p, .string (bs nm)] rfl rfl (news_three _ _ _ _) (by simp [Value.oneCell']) (by unfold maxLen; omega) (by omega) (by simp; omega) ?_))
          | go_in)
        intro v' w5 hown' hgrow _
        have hb5 : Below w.heap.size w w5 := ((unhide HB4).alloc (by omega) _).grown hgrow (by simp; omega) (own_ge (unhide HOWN4))
        have hown2 : w5.ownsRow w.heap.size 109 3 v' (ns ++ [(⟨id, p, nm⟩ : Nd)]).length (ndCells (ns ++ [(⟨id, p, nm⟩ : Nd)])) := by rw [ndCells_snoc, List.length_append]; exact hown'
        clear hgrow hown' hbel
        go_wp2
        go_roundw
        case rel => exact ⟨k + 1, _, t', by omega, by go_num, hown2, hb5, HR', HV'⟩
        case measure => simp [intOf]; omega
    · obtain ⟨ao', cap', rfl, hr⟩ := row_of_owns hown
      have HRO := hide hr
      clear hr hown
      go_wp2
      go_ret
      exact ⟨⟨ns, t, ao', cap', rfl, unhide HRO, unhide HR, unhide HV⟩, hbel⟩
theorem grown_any (ao : Option Addr) (len cap : Nat) (w : World) (hin : IntsAt w ao len) (hlen : len ≤ 140737488355328) :
    Calls Tryz.prog 9 #[.slice ao len cap] w fun e w' => (∃ t, e = .returned (.string (bs (textT t))) ∧ Valid t) ∧ Below w.heap.size w w' := by
  have HG := hide (grow_any ao len cap w hin hlen)
  clear hin
  go_enter Tryz.func9, Tryz.ntmps9
  go_wp2_with fail
  refine (unhide HG).mono ?_
  rintro e w1 ⟨⟨ns, t, ao', cap', rfl, hrow, hR, hV⟩, hb1⟩
  have et : trOf ns = t := funext hR.look
  have HT := hide (print_any ns ao' cap' w1 hrow (by have := rep_len hR; omega) (by rw [et]; exact hV.ok))
  rw [et] at HT
  have HV := hide hV
  clear hrow hR hV et
  go_wp2_with fail
  refine (unhide HT).mono ?_
  rintro e w2 ⟨rfl, hb2⟩
  go_wp2
  go_ret
  exact ⟨⟨t, rfl, unhide HV⟩, hb1.trans (hb2.mono hb1.size)⟩
theorem right_any (t : Tr) (w : World) (hv : Valid t) :
    Calls Tryz.prog 14 #[.string (bs (textT t))] w fun e w' => e = .returned (.bool true) ∧ Below w.heap.size w w' := by
  have HC := hide (check_any (bs (textT t)) w)
  rw [sl_bs, (check_text hv).1] at HC
  go_enter Tryz.func14, Tryz.ntmps14
  go_wp2_with fail
  refine (unhide HC).mono ?_
  rintro e w1 ⟨rfl, hb1⟩
  go_wp2
  go_ret
  exact ⟨rfl, hb1⟩
end Go.Proofs.YtdcjimlhaklhfabGreatDoor

namespace Go.Proofs.YtdcjimlhaklhfabGreatDoor
open Go.RowKit
theorem add_43 (a : Str) (ha : a.length ≤ 1000000) (W : World) : (Op.stringOp .add ⟨#[43]⟩ (bs a)).run Tryz.prog W = .ok (.string (bs (43 :: a))) W := add_bs [43] a (by simp) ha W
theorem add_61 (a : Str) (ha : a.length ≤ 1000000) (W : World) : (Op.stringOp .add ⟨#[61]⟩ (bs a)).run Tryz.prog W = .ok (.string (bs (61 :: a))) W := add_bs [61] a (by simp) ha W
theorem add_45 (a : Str) (ha : a.length ≤ 1000000) (W : World) : (Op.stringOp .add ⟨#[45]⟩ (bs a)).run Tryz.prog W = .ok (.string (bs (45 :: a))) W := add_bs [45] a (by simp) ha W
set_option maxHeartbeats 2000000 in
theorem stText_any (s : St) (w : World) (hs : StOk s) :
    Calls Tryz.prog 151 #[.agg #[.int .u8 s.kind.toNat, .int .i64 s.node.id, .int .i64 s.node.parent, .string (bs s.node.name)]] w fun e w' => e = .returned (.string (bs (stText s))) ∧ Below w.heap.size w w' := by
  obtain ⟨k, n⟩ := s
  have HB := hide ((Below.refl w.heap.size w).alloc (Nat.le_refl _) (.cells #[.int .u8 k.toNat, .int .i64 n.id, .int .i64 n.parent, .string (bs n.name)] 169))
  rcases hs with ⟨hk, h1, h2, h3, h4, h5⟩ | ⟨hk, h1, h2⟩
  · simp only at hk h1 h2 h3 h4 h5 ⊢
    have hl := name_len h5
    have hnl := nodeText_len h5
    have HNT := hide (fun W => nodeText_any n W ⟨by omega, h2⟩ ⟨h3, h4⟩ (by omega))
    have HE : Hid (stText ⟨k, n⟩ = k :: nodeText n) := hide (by unfold stText; rw [if_neg (show ¬ k = 45 by rcases hk with h | h <;> rw [h] <;> decide)])
    generalize stText ⟨k, n⟩ = R at *
    generalize nodeText n = nt at *
    rcases hk with rfl | rfl
    · have a1 := add_43 nt (by omega)
      go_enter Tryz.func151, Tryz.ntmps151
      go_wp2_with fail
      refine (unhide HNT _).mono ?_
      rintro e w1 ⟨rfl, hb1⟩
      have HB1 := hide ((unhide HB).trans (hb1.mono (unhide HB).size))
      clear hb1
      go_wp2
      go_ret
      exact ⟨ret_str (by rw [unhide HE]), unhide HB1⟩
    · have a1 := add_61 nt (by omega)
      go_enter Tryz.func151, Tryz.ntmps151
      go_wp2_with fail
      refine (unhide HNT _).mono ?_
      rintro e w1 ⟨rfl, hb1⟩
      have HB1 := hide ((unhide HB).trans (hb1.mono (unhide HB).size))
      clear hb1
      go_wp2
      go_ret
      exact ⟨ret_str (by rw [unhide HE]), unhide HB1⟩
  · simp only at hk h1 h2 ⊢
    subst hk
    have HIT := hide (fun W => itoa_any n.id W (by omega) h2)
    have l1 := digs_len n.id
    have a1 := add_45 (digs n.id) (by omega)
    have a2 := add_59 (45 :: digs n.id) (by simp; omega)
    have HE : Hid (stText ⟨45, n⟩ = 45 :: digs n.id ++ [59]) := hide (by unfold stText; rw [if_pos rfl])
    generalize stText ⟨45, n⟩ = R at *
    generalize 45 :: digs n.id ++ [59] = d3 at *
    generalize 45 :: digs n.id = d2 at *
    generalize digs n.id = d1 at *
    go_enter Tryz.func151, Tryz.ntmps151
    go_wp2_with fail
    refine (unhide HIT _).mono ?_
    rintro e w1 ⟨rfl, rfl⟩
    go_wp2
    go_ret
    exact ⟨ret_str (by rw [unhide HE]), unhide HB⟩
theorem script_snoc (ss : List St) (k : Nat) (h : k < ss.length) : scriptText (ss.take (k + 1)) = scriptText (ss.take k) ++ stText ss[k] := by
  unfold scriptText; rw [List.take_succ_eq_append_getElem h, List.flatMap_append]; simp
set_option maxHeartbeats 2000000 in
theorem script_any (ss : List St) (ao : Option Addr) (cap : Nat) (w : World) (hrow : Row w ao ss.length 4 (stCells ss)) (hs : ∀ s ∈ ss, StOk s) (hl : ss.length ≤ 20000) :
    Calls Tryz.prog 137 #[.slice ao ss.length cap] w fun e w' => e = .returned (.string (bs (scriptText ss))) ∧ Below w.heap.size w w' := by
  have HROW := hide hrow
  have HS := hide hs
  clear hrow hs
  go_enter Tryz.func137, Tryz.ntmps137
  go_wp2
  go_loopw [3, 8] (fun x i wr => ∃ k : Nat, ∃ S : Str, k ≤ ss.length ∧ i = .int .i64 k ∧ x = .string (bs S) ∧ Below w.heap.size w wr ∧ Hid (S = scriptText (ss.take k))) (fun _ i _ => ss.length - (intOf i).toNat)
  case atStart => exact ⟨0, [], by omega, rfl, rfl, Below.refl _ _, hide rfl⟩
  case round =>
    obtain ⟨k, S, hk, rfl, rfl, hbel, HI⟩ := hrel
    by_cases hlt : k < ss.length
    · obtain ⟨g, hao, hg, c0, c1, c2, c3⟩ := st_cells (Row.below (unhide HROW) hbel) hlt
      rw [hao]
      clear hao
      have hsok := unhide HS _ (List.getElem_mem hlt)
      have HI2 : Hid (S ++ stText ss[k] = scriptText (ss.take (k + 1))) := by apply hide; rw [script_snoc _ _ hlt, unhide HI]
      have hSl : S.length ≤ 19 * 20000 := by
        rw [unhide HI]
        have := script_len (ss.take k) (fun s h => unhide HS s (List.mem_of_mem_take h))
        rw [List.length_take] at this; omega
      have htl := stText_len hsok
      have HT := hide (fun W => stText_any ss[k] W hsok)
      have hadd := add_bs S (stText ss[k]) (by omega) (by omega)
      have hsz := hbel.size
      clear hsok
      generalize stText ss[k] = tx at *
      generalize ss[k] = st at *
      have HB1 := hide (hbel.alloc hsz (.cells #[.int .u8 st.kind.toNat, .int .i64 st.node.id, .int .i64 st.node.parent, .string (bs st.node.name)] 169))
      clear hbel
      go_wp2_with fail
      refine (unhide HT _).mono ?_
      rintro e w2 ⟨rfl, hb2⟩
      have hb3 := (unhide HB1).trans (hb2.mono (unhide HB1).size)
      clear hb2 c0 c1 c2 c3
      go_wp2
      go_roundw
      case rel => exact ⟨k + 1, _, by omega, by go_num, rfl, hb3, HI2⟩
      case measure => simp [intOf]; omega
    · have HE : Hid (scriptText ss = S) := by apply hide; rw [unhide HI, List.take_of_length_le (by omega)]
      go_wp2
      go_ret
      exact ⟨ret_str (by rw [unhide HE]), hbel⟩
theorem ret_si {a b : ByteArray} {x y : Int} (h : a = b) (g : x = y) : Ending.returned (.tuple #[.string a, .int .i64 x]) = .returned (.tuple #[.string b, .int .i64 y]) := by rw [h, g]
theorem compileT_no {f t : Str} (h : compileE f t ≠ 0) : compileT f t = [] := by unfold compileT; rw [if_neg h]
theorem makeT_ok {a g : Tr} (hg : TrOk g) (ha : TrOk a) : (∀ s ∈ makeT a g, StOk s) ∧ (makeT a g).length ≤ 20000 := by
  have key : ∀ (f : Nat) (p : Pl), TrOk p.now → (∀ s ∈ p.done, StOk s) → (∀ s ∈ makeF g f p, StOk s) ∧ (makeF g f p).length ≤ p.done.length + 100 * f := by
    have htry : ∀ (p : Pl) (s : St), StOk s → (∀ s ∈ p.done, StOk s) → ∀ x ∈ (tryP p s).done, StOk x := by
      intro p s hs hp x hx
      unfold tryP at hx
      split at hx
      · rcases List.mem_append.1 hx with hx | hx
        · exact hp x hx
        · rw [List.mem_singleton.1 hx]; exact hs
      · exact hp x hx
    have hgo : ∀ (l : List Nat) (p : Pl × Bool), (∀ i ∈ l, 1 ≤ i ∧ i ≤ 99) → TrOk p.1.now → (∀ s ∈ p.1.done, StOk s) → ∀ s ∈ (l.foldl (goOne g) p).1.done, StOk s := by
      intro l
      induction l with
      | nil => intro p _ _ h; exact h
      | cons i l ih =>
        intro p hl hp h
        rw [List.foldl_cons]
        have hi := hl i (by simp)
        obtain ⟨q, m⟩ := p
        cases hs : homeS q.now g i with
        | none => rw [goOne_none hs]; exact ih (q, m) (fun j hj => hl j (by simp [hj])) hp h
        | some s =>
          rw [goOne_some hs]
          have hk := (home_ok hg (show (1 : Int) ≤ i by omega) (by omega) hs).1
          exact ih (tryP q s, m || (stepE q.now s == 0)) (fun j hj => hl j (by simp [hj])) (tryP_ok hp hk) (htry q s hk h)
    have hgo2 : ∀ p : Pl, TrOk p.now → (∀ s ∈ p.done, StOk s) → ∀ s ∈ (goHomeT g p).1.done, StOk s := by
      intro p h1 h2
      have hE : goHomeT g p = (List.range' 1 99).foldl (goOne g) (p, false) := by unfold goHomeT; rfl
      rw [hE]
      exact hgo _ (p, false) (fun i hi => by rw [List.mem_range'_1] at hi; omega) h1 h2
    have hpk : ∀ p : Pl, TrOk p.now → (∀ s ∈ p.done, StOk s) → ∀ s ∈ (parkT g p).1.done, StOk s := by
      intro p h1 h2
      by_cases h0 : knotT p.now g = 0
      · rw [parkT_no h0]; exact h2
      · rw [parkT_yes h0]
        have hb := knot_bd h1 hg
        exact htry p _ (park_ok (by omega) hb.2) h2
    intro f
    induction f with
    | zero => intro p h1 h2; exact ⟨h2, by simp [makeF]⟩
    | succ f ih =>
      intro p h1 h2
      have l1 := goHomeT_len hg h1
      have l2 := parkT_len hg l1.2
      have o1 := hgo2 p h1 h2
      have o2 := hpk _ l1.2 o1
      cases hq : (goHomeT g p).2
      · cases hq2 : (parkT g (goHomeT g p).1).2
        · rw [makeF_3 hq hq2]; exact ⟨o2, by omega⟩
        · rw [makeF_2 hq hq2]
          have := ih _ l2.2 o2
          exact ⟨this.1, by omega⟩
      · rw [makeF_1 hq]
        have := ih _ l1.2 o1
        exact ⟨this.1, by omega⟩
  have := key 199 ⟨a, []⟩ ha (by simp)
  unfold makeT
  exact ⟨this.1, by have h := this.2; simp at h; omega⟩
end Go.Proofs.YtdcjimlhaklhfabGreatDoor

namespace Go.Proofs.YtdcjimlhaklhfabGreatDoor
open Go.RowKit
theorem compileE_long {f t : Str} (h : 4000 < f.length ∨ 4000 < t.length) : compileE f t = 1 := by unfold compileE; rw [if_pos h]
theorem compileE_from {f t : Str} (h : ¬ (4000 < f.length ∨ 4000 < t.length)) (h2 : (checkT f).1 ≠ 0) : compileE f t = (checkT f).1 := by unfold compileE; rw [if_neg h, if_pos h2]
theorem compileE_to {f t : Str} (h : ¬ (4000 < f.length ∨ 4000 < t.length)) (h2 : (checkT f).1 = 0) : compileE f t = (checkT t).1 := by unfold compileE; rw [if_neg h, if_neg (fun hh => hh h2)]
set_option maxHeartbeats 4000000 in
set_option maxRecDepth 100000 in
theorem compile_any (s t : ByteArray) (w : World) :
    Calls Tryz.prog 113 #[.string s, .string t] w fun e w' => e = .returned (.tuple #[.string (bs (compileT (sl s) (sl t))), .int .i64 (compileE (sl s) (sl t))]) ∧ Below w.heap.size w w' := by
  by_cases hL : 4000 < s.size ∨ 4000 < t.size
  · have hE := compileE_long (f := sl s) (t := sl t) (by rw [sl_length, sl_length]; exact hL)
    rw [compileT_no (by rw [hE]; decide), hE]
    have hL' : 4000 < s.size ∨ (¬ 4000 < s.size ∧ 4000 < t.size) := by omega
    clear hL hE
    rcases hL' with h | ⟨h, h'⟩
    all_goals
      go_enter Tryz.func113, Tryz.ntmps113
      go_wp2
      go_ret2
      exact ⟨rfl, Below.refl _ _⟩
  · have hLl : ¬ (4000 < (sl s).length ∨ 4000 < (sl t).length) := by rw [sl_length, sl_length]; exact hL
    have h4 : ¬ 4000 < s.size := by omega
    have h5 : ¬ 4000 < t.size := by omega
    have HRS := hide (fun W => read_any s W)
    have HRT := hide (fun W => read_any t W)
    by_cases hC : (checkT (sl s)).1 ≠ 0
    · have hE := compileE_from hLl hC
      rw [compileT_no (by rw [hE]; exact hC), hE]
      have hC' : ((checkT (sl s)).1 != 0) = true := by rw [bne_iff_ne]; exact hC
      clear hE hC hLl hL
      generalize checkT (sl s) = c at *
      generalize readT (sl s) = T at *
      go_enter Tryz.func113, Tryz.ntmps113
      go_wp2_with fail
      refine (unhide HRS _).mono ?_
      rintro e w1 ⟨rfl, hb1⟩
      have HN := hide (treeAt_new w1)
      have HB1 := hide hb1; clear hb1
      go_wp2_with (refine wpList_store_mid (by rfl) 78 (.tmp 6) (.tmp 23) (by rfl) w1.heap.size 0 (treeCells T).toArray (by rfl) (by rfl) (by exact treeAt_there (unhide HN) T) (treeSize' T) (treeOne T) ?_)
      go_ret2
      exact ⟨rfl, below_setCells ((unhide HB1).alloc (unhide HB1).size _) (unhide HB1).size (by have := (unhide HB1).size; simp; omega) _ _⟩
    · have hc0 : (checkT (sl s)).1 = 0 := Classical.not_not.1 hC
      have hTS : readT (sl s) = gather (readNodes (cut (sl s))) := by unfold readT; rw [if_pos hc0]
      have hE := compileE_to hLl hc0
      rw [hc0] at HRS
      by_cases hD : (checkT (sl t)).1 ≠ 0
      · rw [compileT_no (by rw [hE]; exact hD), hE]
        have hD' : ((checkT (sl t)).1 != 0) = true := by rw [bne_iff_ne]; exact hD
        clear hE hC hLl hL hc0 hTS hD
        generalize checkT (sl t) = d at *
        generalize (checkT (sl s)).2 = c2 at *
        generalize readT (sl s) = T at *
        generalize readT (sl t) = U at *
        go_enter Tryz.func113, Tryz.ntmps113
        go_wp2_with fail
        refine (unhide HRS _).mono ?_
        rintro e w1 ⟨rfl, hb1⟩
        have HN := hide (treeAt_new w1)
        have HB1 := hide hb1; clear hb1
        have HB2 : Hid (Below w.heap.size w ((w1.alloc (.cells Tryz.zeroCells78 78)).setCells w1.heap.size 0 (treeCells T))) := hide (below_setCells ((unhide HB1).alloc (unhide HB1).size _) (unhide HB1).size (by have := (unhide HB1).size; simp; omega) _ _)
        go_wp2_with (refine wpList_store_mid (by rfl) 78 (.tmp 6) (.tmp 23) (by rfl) w1.heap.size 0 (treeCells T).toArray (by rfl) (by rfl) (by exact treeAt_there (unhide HN) T) (treeSize' T) (treeOne T) ?_)
        generalize Value.agg (treeCells T).toArray = vT
        refine (unhide HRT _).mono ?_
        rintro e w3 ⟨rfl, hb3⟩
        have HB3 := hide ((unhide HB2).trans (hb3.mono (unhide HB2).size))
        clear hb3
        have HN3 := hide (treeAt_new w3)
        go_wp2_with (refine wpList_store_mid (by rfl) 78 (.tmp 9) (.tmp 32) (by rfl) w3.heap.size 0 (treeCells U).toArray (by rfl) (by rfl) (by exact treeAt_there (unhide HN3) U) (treeSize' U) (treeOne U) ?_)
        go_ret2
        exact ⟨rfl, below_setCells ((unhide HB3).alloc (unhide HB3).size _) (unhide HB3).size (by have := (unhide HB3).size; simp; omega) _ _⟩
      · have hd0 : (checkT (sl t)).1 = 0 := Classical.not_not.1 hD
        have hTT : readT (sl t) = gather (readNodes (cut (sl t))) := by unfold readT; rw [if_pos hd0]
        rw [hd0] at HRT hE
        have hCT : compileT (sl s) (sl t) = scriptText (makeT (readT (sl s)) (readT (sl t))) := by unfold compileT; rw [if_pos hE, hTS, hTT]
        have hO1 : TrOk (readT (sl s)) := by rw [hTS]; exact gather_ok _
        have hO2 : TrOk (readT (sl t)) := by rw [hTT]; exact gather_ok _
        rw [hCT, hE]
        have HMK := hide (fun W => make_any (readT (sl s)) (readT (sl t)) W hO1 hO2)
        have hmo := makeT_ok hO2 hO1
        have HTX := hide (fun ao cap W (h : Row W ao (makeT (readT (sl s)) (readT (sl t))).length 4 (stCells (makeT (readT (sl s)) (readT (sl t))))) => script_any (makeT (readT (sl s)) (readT (sl t))) ao cap W h hmo.1 hmo.2)
        clear hE hC hLl hL hc0 hTS hD hTT hCT hO1 hO2 hmo hd0
        generalize (checkT (sl s)).2 = c2 at *
        generalize (checkT (sl t)).2 = d2 at *
        generalize makeT (readT (sl s)) (readT (sl t)) = M at *
        generalize readT (sl s) = T at *
        generalize readT (sl t) = U at *
        go_enter Tryz.func113, Tryz.ntmps113
        go_wp2_with fail
        refine (unhide HRS _).mono ?_
        rintro e w1 ⟨rfl, hb1⟩
        have HN := hide (treeAt_new w1)
        have HB1 := hide hb1; clear hb1
        have HB2 : Hid (Below w.heap.size w ((w1.alloc (.cells Tryz.zeroCells78 78)).setCells w1.heap.size 0 (treeCells T))) := hide (below_setCells ((unhide HB1).alloc (unhide HB1).size _) (unhide HB1).size (by have := (unhide HB1).size; simp; omega) _ _)
        have HT2 : Hid (TreeAt ext0 ((w1.alloc (.cells Tryz.zeroCells78 78)).setCells w1.heap.size 0 (treeCells T)) w1.heap.size T) := hide (treeAt_stored (unhide HN) T)
        go_wp2_with (refine wpList_store_mid (by rfl) 78 (.tmp 6) (.tmp 23) (by rfl) w1.heap.size 0 (treeCells T).toArray (by rfl) (by rfl) (by exact treeAt_there (unhide HN) T) (treeSize' T) (treeOne T) ?_)
        generalize Value.agg (treeCells T).toArray = vT
        refine (unhide HRT _).mono ?_
        rintro e w3 ⟨rfl, hb3⟩
        have HB3 := hide ((unhide HB2).trans (hb3.mono (unhide HB2).size))
        have HT3 := hide ((unhide HT2).below hb3)
        clear hb3
        have HN3 := hide (treeAt_new w3)
        have hbx := below_setCells ((Below.refl w3.heap.size w3).alloc (Nat.le_refl _) (.cells Tryz.zeroCells78 78)) (g := w3.heap.size) (Nat.le_refl _) (by simp) 0 (treeCells U)
        have HB4 : Hid (Below w.heap.size w ((w3.alloc (.cells Tryz.zeroCells78 78)).setCells w3.heap.size 0 (treeCells U))) := hide ((unhide HB3).trans (hbx.mono (unhide HB3).size))
        have HR1 := hide (treeAt_range ((unhide HT3).below hbx))
        have HR2 := hide (treeAt_range (treeAt_stored (unhide HN3) U))
        clear hbx
        go_upto_region 9 with (refine wpList_store_mid (by rfl) 78 (.tmp 9) (.tmp 32) (by rfl) w3.heap.size 0 (treeCells U).toArray (by rfl) (by rfl) (by exact treeAt_there (unhide HN3) U) (treeSize' U) (treeOne U) ?_)
        generalize Value.agg (treeCells U).toArray = vU
        generalize hW4 : (w3.alloc (.cells Tryz.zeroCells78 78)).setCells w3.heap.size 0 (treeCells U) = w4 at *
        go_wp2_with (first
          | (refine wpList_load_mid (by rfl) 78 (.tmp 6) (by rfl) w1.heap.size 0 (by rfl) (treeCells T) _ (unhide HR1) Tryz.underlying78 (by rfl) (treeSize T) ?_)
          | (refine wpList_load_mid (by rfl) 78 (.tmp 9) (by rfl) w3.heap.size 0 (by rfl) (treeCells U) _ (unhide HR2) Tryz.underlying78 (by rfl) (treeSize U) ?_))
        refine (unhide HMK _).mono ?_
        rintro e w5 ⟨⟨ao, cap, rfl, hrow⟩, hb5⟩
        generalize Value.agg (treeCells T).toArray = vT2
        generalize Value.agg (treeCells U).toArray = vU2
        have HROW := hide hrow
        have HB5 := hide ((unhide HB4).trans (hb5.mono (unhide HB4).size))
        clear hrow hb5 hW4
        go_wp2_with fail
        refine (unhide HTX _ _ _ (unhide HROW)).mono ?_
        rintro e w6 ⟨rfl, hb6⟩
        have HB6 := hide ((unhide HB5).trans (hb6.mono (unhide HB5).size))
        clear hb6
        go_wp2
        go_ret2
        exact ⟨rfl, unhide HB6⟩
end Go.Proofs.YtdcjimlhaklhfabGreatDoor

namespace Go.Proofs.YtdcjimlhaklhfabGreatDoor
open Go.RowKit
theorem IntsAt.below {w w' : World} {ao : Option Addr} {len : Nat} (h : IntsAt w ao len) (hb : Below w.heap.size w w') : IntsAt w' ao len := by
  intro hpos
  obtain ⟨b, off, h1, h2, h3⟩ := h hpos
  refine ⟨b, off, h1, by have := hb.size; omega, fun i hi => ?_⟩
  obtain ⟨x, x0, x1, hc⟩ := h3 i hi
  exact ⟨x, x0, x1, by rw [hb.cell (p := ⟨b, _, none⟩) h2]; exact hc⟩
theorem make_selfK {g : Tr} (hg : Valid g) : makeT g g = [] := by
  have h := seg_come (makeT_seg hg hg) hg.ok
  have h0 : toCome g g = 0 := by
    have h1 := sum_bd (f := weight g g) (c := 0) (List.range' 1 99) (fun i _ => by rw [weight_home rfl]; omega)
    unfold toCome; omega
  have : (makeT g g).length = 0 := by omega
  exact List.length_eq_zero_iff.1 this
end Go.Proofs.YtdcjimlhaklhfabGreatDoor

namespace Go.Proofs.YtdcjimlhaklhfabGreatDoor
open Go.RowKit
set_option maxHeartbeats 1000000 in
theorem kcut_big (s : ByteArray) (w : World) (hs : s.size ≤ 1048576) :
    Calls Tryz.prog 19 #[.string s] w fun e w' => ∃ ao cap, e = .returned (.slice ao (cut (sl s)).length cap) ∧ Row w' ao (cut (sl s)).length 1 ((cut (sl s)).map strV) ∧ Below w.heap.size w w' := by
  obtain ⟨i0, hi, hz0, hz1, hz2⟩ := info_parts Tryz.infoStr
  have hsz : (0 : Int) ≤ s.size := by omega
  go_enter Tryz.func19, Tryz.ntmps19
  go_wp2
  go_loopw [3, 4, 5] (fun v st i wr => ∃ k t n : Nat, ∃ xs : List Value, k ≤ s.size ∧ t ≤ k ∧ n ≤ k ∧ i = .int .i64 k ∧ st = .int .i64 t ∧ wr.ownsRow w.heap.size 9 1 v n xs ∧ Below w.heap.size w wr ∧ Hid (CutInv s k t n xs)) (fun _ _ i _ => s.size - (intOf i).toNat)
  case atStart => exact ⟨0, 0, 0, [], Nat.zero_le _, Nat.le_refl _, Nat.le_refl _, rfl, rfl, World.ownsRow_nil _ _ _ _, Below.refl _ _, hide ⟨by simp [cutTo], by simp [cutTo], by simp [cutTo]⟩⟩
  case round =>
    obtain ⟨k, t, n, xs, hk, ht, hn, rfl, rfl, hown, hbel, HI⟩ := hrel
    by_cases hlt : k < s.size
    · by_cases hc : s[k] = 59
      · have HN := hide (cutInv_hit (unhide HI) hlt hc)
        go_wp2_with (first
          | (at_builtin; refine wpList_append_own _ rfl _ _ 42 rfl w.heap.size 9 i0 (.string ByteArray.empty) 1 16 Tryz.underlying42 hi hz0 hz1 hz2 rfl (by decide) _ _ _ rfl (hown.alloc _) ⟨wr.heap.size, 0, none⟩ 1 1 [.string (s.extract t (k + 1))] rfl rfl (news_one _ _) (by simp [Value.oneCell']) (by unfold maxLen; omega) (by omega) (by have := hbel.size; simp; omega) ?_)
          | go_in)
        intro v' w1 hown' hgrow _
        have hb1 := below_app hbel (by have := hbel.size; omega) hown hgrow
        clear hgrow hown hbel
        go_wp2
        go_roundw
        case rel => exact ⟨k + 1, k + 1, n + 1, _, by omega, by omega, by omega, by go_num, by go_num, hown', hb1, HN⟩
        case measure => simp [intOf]; omega
      · have HN := hide (cutInv_miss (unhide HI) hlt hc)
        have hc' : (((s[k]).toNat : Int) == 59) = false := by
          rw [beq_eq_false_iff_ne]; intro h; exact hc (UInt8.toNat_inj.1 (by simpa using (by omega : (s[k]).toNat = 59)))
        have HC := hide hc; clear hc
        go_wp2
        go_roundw
        case rel => exact ⟨k + 1, t, n, _, by omega, by omega, by omega, by go_num, rfl, hown, hbel, HN⟩
        case measure => simp [intOf]; omega
    · have hks : k = s.size := by omega
      subst hks
      by_cases hts : t < s.size
      · have HN := hide (cutInv_last (unhide HI) hts)
        go_wp2_with (first
          | (at_builtin; refine wpList_append_own _ rfl _ _ 42 rfl w.heap.size 9 i0 (.string ByteArray.empty) 1 16 Tryz.underlying42 hi hz0 hz1 hz2 rfl (by decide) _ _ _ rfl (hown.alloc _) ⟨wr.heap.size, 0, none⟩ 1 1 [.string (s.extract t s.size)] rfl rfl (news_one _ _) (by simp [Value.oneCell']) (by unfold maxLen; omega) (by omega) (by have := hbel.size; simp; omega) ?_)
          | go_in)
        intro v' w1 hown' hgrow _
        have hb1 := below_app hbel (by have := hbel.size; omega) hown hgrow
        clear hgrow hown hbel
        go_wp2
        go_ret
        obtain ⟨e1, e2⟩ := unhide HN
        obtain ⟨ao, cap, rfl, hr⟩ := row_of_owns hown'
        rw [e1, e2] at hr
        exact ⟨ao, cap, by rw [← e1]; rfl, hr, hb1⟩
      · have HN := hide (cutInv_end (unhide HI) hts)
        go_wp2
        go_ret
        obtain ⟨e1, e2⟩ := unhide HN
        obtain ⟨ao, cap, rfl, hr⟩ := row_of_owns hown
        rw [e1, e2] at hr
        exact ⟨ao, cap, by rw [← e1]; rfl, hr, hbel⟩


/-! Records of any text. -/
theorem kcutTo_form (l : Str) : (∀ r ∈ (cutTo l).1, ∃ a : Str, (∀ x ∈ a, x ≠ 59) ∧ r = a ++ [59]) ∧ (∀ x ∈ (cutTo l).2, x ≠ 59) := by
  refine snoc_ind (P := fun l => (∀ r ∈ (cutTo l).1, ∃ a : Str, (∀ x ∈ a, x ≠ 59) ∧ r = a ++ [59]) ∧ (∀ x ∈ (cutTo l).2, x ≠ 59)) (by simp [cutTo]) ?_ l
  rintro l c ⟨h1, h2⟩
  rw [cutTo_snoc]; unfold cutStep
  split
  · rename_i hc
    refine ⟨fun r hr => ?_, by simp⟩
    rcases List.mem_append.1 hr with hr | hr
    · exact h1 r hr
    · simp at hr; exact ⟨(cutTo l).2, h2, by rw [hr, hc]⟩
  · rename_i hc
    refine ⟨h1, fun x hx => ?_⟩
    rcases List.mem_append.1 hx with hx | hx
    · exact h2 x hx
    · simp at hx; rw [hx]; exact hc
theorem cut_form {l r : Str} (h : r ∈ cut l) : (∃ a : Str, (∀ x ∈ a, x ≠ 59) ∧ r = a ++ [59]) ∨ ((∀ x ∈ r, x ≠ 59) ∧ r ≠ []) := by
  obtain ⟨h1, h2⟩ := kcutTo_form l
  unfold cut at h
  split at h
  · exact .inl (h1 r h)
  · rename_i hne
    rcases List.mem_append.1 h with h | h
    · exact .inl (h1 r h)
    · simp at h; rw [h]; exact .inr ⟨h2, hne⟩
theorem cut_plain {r : Str} (h : ∀ x ∈ r, x ≠ 59) (hne : r ≠ []) : cut r = [r] := by
  have key : ∀ l : Str, (∀ x ∈ l, x ≠ 59) → cutTo l = ([], l) := by
    intro l
    refine snoc_ind (P := fun l => (∀ x ∈ l, x ≠ 59) → cutTo l = ([], l)) (fun _ => rfl) ?_ l
    intro l c ih hl
    rw [cutTo_snoc, ih (fun x hx => hl x (by simp [hx]))]
    unfold cutStep
    rw [if_neg (hl c (by simp))]
  unfold cut
  rw [key r h, if_neg hne]; rfl
/-- What Apply does of one record. -/
theorem apply_rec {u : Tr} (hv : Valid u) {sc r : Str} (hr : r ∈ cut sc) (h : (applyT (textT u) r).2.2 = 0) :
    ∃ s, StOk s ∧ stepE u s = 0 ∧ (applyT (textT u) r).1 = textT (stepT u s) ∧ r.head? = some s.kind := by
  obtain ⟨c1, c2⟩ := check_text hv
  have hcut : cut r = [r] := by
    rcases cut_form hr with ⟨a, ha, rfl⟩ | ⟨h1, h2⟩
    · have := cut_cons ha []
      rw [List.append_nil] at this
      rw [this]; rfl
    · exact cut_plain h1 h2
  by_cases hL : 4000 < (textT u).length ∨ 4000 < r.length
  · unfold applyT at h; rw [if_pos hL] at h; cases h
  · by_cases hS : (readSteps (cut r)).length < (cut r).length
    · unfold applyT at h
      rw [if_neg hL, c1, if_neg (by simp), if_pos hS] at h; cases h
    · have hs1 : ∃ s, readStep r = some s := by
        rw [hcut] at hS
        cases hq : readStep r with
        | none => rw [readSteps, hq] at hS; simp at hS
        | some s => exact ⟨s, rfl⟩
      obtain ⟨s, hs⟩ := hs1
      have hrs : readSteps (cut r) = [s] := by rw [hcut, readSteps, hs]; rfl
      have hsok := readStep_ok hs
      have hhead : r.head? = some s.kind := by
        unfold readStep at hs
        split at hs
        · rename_i hb
          unfold bodyS at hs
          rw [if_pos hb] at hs
          cases hd : r.dropLast with
          | nil => rw [hd] at hs; cases hs
          | cons k t =>
            rw [hd] at hs
            have hk : s.kind = k := by
              have h2 : (if k = 43 ∨ k = 61 then (readNode t).map (fun n => (⟨k, n⟩ : St)) else if k = 45 then (if (number t 1 99).2 then some (⟨k, ⟨(number t 1 99).1, 0, []⟩⟩ : St) else none) else none) = some s := hs
              by_cases e1 : k = 43 ∨ k = 61
              · rw [if_pos e1] at h2
                cases hn : readNode t with
                | none => rw [hn] at h2; cases h2
                | some n => rw [hn] at h2; cases h2; rfl
              · rw [if_neg e1] at h2
                by_cases e2 : k = 45
                · rw [if_pos e2] at h2
                  split at h2
                  · cases h2; rfl
                  · cases h2
                · rw [if_neg e2] at h2; cases h2
            have hne : r ≠ [] := by intro e; rw [e] at hd; cases hd
            rw [← List.dropLast_concat_getLast hne, hd, hk]; rfl
        · cases hs
      have hE : stepE u s = 0 := by
        apply Classical.byContradiction
        intro hne
        unfold applyT at h
        rw [if_neg hL, c1, if_neg (by simp), if_neg hS, hrs, c2] at h
        have hd : doAllE [s] u 0 = (stepE u s, 0) := by rw [doAllE, if_neg hne]
        rw [hd, if_pos hne] at h
        exact hne h
      refine ⟨s, hsok, hE, ?_, hhead⟩
      unfold applyT
      have hd : doAllE [s] u 0 = (0, 0) ∧ doAllT [s] u = stepT u s := by
        rw [doAllE, doAllT, if_pos hE, if_pos hE]; exact ⟨rfl, rfl⟩
      rw [if_neg hL, c1, if_neg (by simp), if_neg hS, hrs, c2, hd.1, if_neg (by simp), hd.2]
theorem kN_head {r : Str} {s : St} (h : r.head? = some s.kind) (k : UInt8) : kN k r = if s.kind == k then 1 else 0 := by
  unfold kN; rw [h]
  by_cases e : s.kind = k
  · rw [if_pos (by rw [e]), if_pos (by simpa using e)]
  · rw [if_neg (by simpa using e), if_neg (by simpa using e)]
structure EdInv (a u : Tr) (C M D : Nat) : Prop where
  v : Valid u
  c : total (fC a u) ≤ C
  d : total (fD a u) ≤ D
  m : total (fun i => fC a u i + fM a u i) ≤ C + M
theorem edInv_0 {a : Tr} (h : Valid a) : EdInv a a 0 0 0 := by
  obtain ⟨h1, h2, h3⟩ := total_self a
  exact ⟨h, by omega, by omega, by omega⟩
theorem edInv_step {a u : Tr} {C M D : Nat} (h : EdInv a u C M D) {s : St} (hs : StOk s) (he : stepE u s = 0) : EdInv a (stepT u s) (C + (if s.kind == 43 then 1 else 0)) (M + (if s.kind == 61 then 1 else 0)) (D + (if s.kind == 45 then 1 else 0)) := by
  obtain ⟨e1, e2, e3⟩ := edit_step (a := a) hs he
  exact ⟨valid_step h.v hs, Nat.le_trans e1 (by have := h.c; omega), Nat.le_trans e2 (by have := h.d; omega), Nat.le_trans e3 (by have := h.m; omega)⟩
theorem one_le (b : Bool) : (if b then 1 else 0 : Nat) ≤ 1 := by cases b <;> simp
set_option maxHeartbeats 4000000 in
set_option maxRecDepth 100000 in
theorem edited_any (a : Tr) (hva : Valid a) (sc : ByteArray) (w : World) (hl : sc.size ≤ 1048576) :
    Calls Tryz.prog 15 #[.string (bs (textT a)), .string sc] w fun e w' => (∃ u b C M D A, e = .returned (.tuple #[.string (bs (textT u)), .pointer (some ⟨b, 0, none⟩)]) ∧ TallyAt w' b C M D A ∧ EdInv a u C M D ∧ C ≤ 1048576 ∧ M ≤ 1048576 ∧ D ≤ 1048576) ∧ Below w.heap.size w w' := by
  have HCT := hide (fun W => kcut_big sc W hl)
  have hcl : (cut (sl sc)).length ≤ 1048576 := by have := cut_length_le (sl sc); rw [sl_length] at this; omega
  have HML := hide (fun r (hr : r ∈ cut (sl sc)) => show r.length ≤ 1048576 by have := cut_mem_len (sl sc) r hr; rw [sl_length] at this; omega)
  have HAR := hide (fun (u : Tr) (hv : Valid u) r (hr : r ∈ cut (sl sc)) h => apply_rec hv hr h)
  have HT0 := hide (tally_new w)
  have HB0 := hide ((Below.refl w.heap.size w).alloc (Nat.le_refl _) (.cells #[.int .i64 0, .int .i64 0, .int .i64 0, .int .i64 0] 83))
  have HE0 := hide (edInv_0 hva)
  clear hva
  generalize cut (sl sc) = rs at *
  go_enter Tryz.func15, Tryz.ntmps15
  go_wp2_with fail
  refine (unhide HCT _).mono ?_
  rintro e w1 ⟨lo, lc, rfl, hrow, hb1⟩
  have hT1 : TallyAt w1 w.heap.size 0 0 0 0 := by
    unfold TallyAt; rw [hb1.block _ (unhide HT0).lt]; exact unhide HT0
  have HAP := hide (row_apart hrow hT1)
  have HT1 := hide hT1
  have HROW := hide hrow
  have HB1 := hide ((unhide HB0).trans (hb1.mono (by simp)))
  clear hrow hT1 hb1
  generalize hbb : w.heap.size = b at *
  go_wp2_with fail
  go_loopw [0, 8] (fun x i wr => ∃ k C M D A : Nat, ∃ u : Tr, k ≤ rs.length ∧ i = .int .i64 k ∧ x = .string (bs (textT u)) ∧ Hid (TallyAt wr b C M D A) ∧ Hid (Row wr lo rs.length 1 (rs.map strV)) ∧ Hid (Below b w wr) ∧ Hid (EdInv a u C M D) ∧ C ≤ k ∧ M ≤ k ∧ D ≤ k ∧ A ≤ 1048576 * k) (fun _ i _ => rs.length - (intOf i).toNat)
  case atStart => exact ⟨0, 0, 0, 0, 0, a, by omega, rfl, rfl, HT1, HROW, HB1, HE0, by omega, by omega, by omega, by omega⟩
  case round =>
    obtain ⟨k, C, M, D, A, u, hk, rfl, rfl, HT, HR, HBL, HE, h1, h2, h3, h4⟩ := hrel
    have hltr := (unhide HT).lt
    by_cases hlt : k < rs.length
    · obtain ⟨g, hlo, hg, hc⟩ := str_cell (unhide HR) (Below.refl _ _) hlt
      have hrl := unhide HML _ (List.getElem_mem hlt)
      have HRC := hide (fun h => unhide HAR u (unhide HE).v _ (List.getElem_mem hlt) h)
      have HAPP := hide (fun W => apply_any (bs (textT u)) (bs rs[k]) W)
      rw [sl_bs, sl_bs] at HAPP
      have hlo2 := hlo
      rw [hlo]
      have HLO := hide hlo2
      clear hlo hlo2
      generalize rs[k] = r at *
      generalize hAA : applyT (textT u) r = AA at *
      obtain ⟨x1, x2, x3⟩ := AA
      simp only at HAPP HRC
      clear hAA
      by_cases hx : x3 = 0
      · subst hx
        obtain ⟨s, hsok, hse, hx1, hhd⟩ := unhide HRC rfl
        subst hx1
        have HE2 := hide (edInv_step (unhide HE) hsok hse)
        have o1 := one_le (s.kind == 43)
        have o2 := one_le (s.kind == 61)
        have o3 := one_le (s.kind == 45)
        have HAD := hide (fun W (hT : TallyAt W b C M D A) => add_any r b C M D A W hT (by omega) (by omega) (by omega) (by omega) (by omega))
        rw [kN_head hhd, kN_head hhd, kN_head hhd] at HAD
        clear hsok hse hhd
        generalize (if s.kind == 43 then 1 else 0) = i1 at *
        generalize (if s.kind == 61 then 1 else 0) = i2 at *
        generalize (if s.kind == 45 then 1 else 0) = i3 at *
        generalize stepT u s = u2 at *
        go_wp2_with fail
        refine (unhide HAPP _).mono ?_
        rintro e w2 ⟨rfl, hb2⟩
        have hc2 : w2.cell? ⟨g, k, none⟩ = some (.string (bs r)) := by rw [hb2.cell (p := ⟨g, k, none⟩) hg]; exact hc
        have hT2 : TallyAt w2 b C M D A := by unfold TallyAt; rw [hb2.block b hltr]; exact unhide HT
        have HR2 := hide (Row.below (unhide HR) hb2)
        have HB2 := hide ((unhide HBL).trans (hb2.mono (by omega)))
        have hsz2 := hb2.size
        clear hb2 hc
        go_wp2_with fail
        refine (unhide HAD _ hT2).mono ?_
        rintro e w3 ⟨rfl, ⟨A2, hT3, hA1, hA2, _⟩, hg3⟩
        have HT3 := hide hT3
        have HR3 := hide (row_kept (unhide HR2) hg3 (unhide HAP))
        have HB3 := hide ((unhide HB2).grown hg3 (by omega) (fun j hj => by cases hj; omega))
        clear hT3 hg3 hT2 hc2
        go_wp2
        go_roundw
        case rel => exact ⟨k + 1, _, _, _, A2, u2, by omega, by go_num, rfl, HT3, by first | exact HR3 | (rw [← unhide HLO]; exact HR3), HB3, HE2, by omega, by omega, by omega, by omega⟩
        case measure => simp [intOf]; omega
      · have hx' : (x3 == 0) = false := by simpa using hx
        go_wp2_with fail
        refine (unhide HAPP _).mono ?_
        rintro e w2 ⟨rfl, hb2⟩
        have HT2 : Hid (TallyAt w2 b C M D A) := by apply hide; unfold TallyAt; rw [hb2.block b hltr]; exact unhide HT
        have HR2 := hide (Row.below (unhide HR) hb2)
        have HB2 := hide ((unhide HBL).trans (hb2.mono (by omega)))
        clear hb2 hc
        go_wp2
        go_roundw
        case rel => exact ⟨k + 1, C, M, D, A, u, by omega, by go_num, rfl, HT2, by first | exact HR2 | (rw [← unhide HLO]; exact HR2), HB2, HE, by omega, by omega, by omega, by omega⟩
        case measure => simp [intOf]; omega
    · go_wp2
      go_ret2
      exact ⟨⟨u, b, C, M, D, A, rfl, unhide HT, unhide HE, by omega, by omega, by omega⟩, by first | exact unhide HBL | (rw [hbb]; exact unhide HBL)⟩
end Go.Proofs.YtdcjimlhaklhfabGreatDoor

namespace Go.Proofs.YtdcjimlhaklhfabGreatDoor
open Go.RowKit
theorem reach_err {L : List Lo} {st : Int} {g : Tr} (h : (reachT L st g).2 ≠ 0) : ((reachT L st g).2 = 14 ∧ usedT L (viewT (places L)) g = true) ∨ ((reachT L st g).2 = 13 ∧ 150 < L.length + (wayT (places L) g).length) ∨ ((reachT L st g).2 = 15 ∧ 9999 < lastC L + ((wayT (places L) g).length : Int)) := by
  unfold reachT at h ⊢
  cases hu : usedT L (viewT (places L)) g with
  | true => left; exact ⟨rfl, rfl⟩
  | false =>
    rw [hu] at h
    simp only [Bool.false_eq_true, if_false] at h ⊢
    by_cases h1 : 150 < L.length + (wayT (places L) g).length
    · right; left
      rw [if_pos h1]; exact ⟨rfl, h1⟩
    · rw [if_neg h1] at h ⊢
      by_cases h2 : 9999 < lastC L + ((wayT (places L) g).length : Int)
      · right; right
        rw [if_pos h2]; exact ⟨rfl, h2⟩
      · rw [if_neg h2] at h; exact absurd rfl h
/-- What is refused may be refused. -/
theorem refuse_ok {L : List Lo} {st : Int} {u : Tr} {C M D : Nat} (hL : LogOk L) (hE : EdInv (viewT (places L)) u C M D) (h : (reachT L st u).2 ≠ 0) : refB L.length (lastC L) ((nodesOf (viewT (places L))).length + C + D + 2 * (M + C)) C (reachT L st u).2 = true := by
  have hn : L.length ≠ 0 := by
    intro e
    have := List.length_eq_zero_iff.1 e
    subst this
    exact h (reach_first hE.v)
  have hw := way_bound (places_ok hL.2.1) hE.v
  have h1 := hE.c
  have h2 := hE.d
  have h3 := hE.m
  rw [total_add] at h3
  rcases reach_err h with ⟨e, hu⟩ | ⟨e, hf⟩ | ⟨e, hf⟩
  · rw [e, refB_14 _ _ _ hn, decide_eq_true_eq]
    have := used_new hu
    omega
  · rw [e, refB_13 _ _ _ hn, decide_eq_true_eq]; omega
  · rw [e, refB_15 _ _ _ hn, decide_eq_true_eq]; omega
theorem deliver_err {L : List Lo} {s : Str} (h : (deliverT L s).2.2 ≠ 0) : (deliverT L s).1 = L ∧ (deliverT L s).2.1 = 0 := by
  unfold deliverT at h ⊢
  split
  · exact ⟨rfl, rfl⟩
  · rename_i hl
    rw [if_neg hl] at h
    split
    · exact ⟨rfl, rfl⟩
    · rename_i list hq
      rw [hq] at h
      simp only at h ⊢
      split
      · exact ⟨rfl, rfl⟩
      · rename_i hb; rw [if_neg hb] at h; exact absurd rfl h
theorem str_ne (a : Str) : ((bs a).toList != (bs a).toList) = false := by simp
end Go.Proofs.YtdcjimlhaklhfabGreatDoor

namespace Go.Proofs.YtdcjimlhaklhfabGreatDoor
open Go.RowKit
theorem made_text {L : List Lo} {st : Int} {u : Tr} (h : (reachT L st u).2 ≠ 0) : logText (reachT L st u).1 = [] ∧ L ++ (reachT L st u).1 = L := by
  rw [reach_none h]; exact ⟨rfl, List.append_nil _⟩
theorem tally_out {w0 w : World} {tb C M D A b : Nat} {st : Int} {v : Value} {L : List Lo} (hT : TallyAt w tb C M D A) (hR : RS w0 w b st v L) : ¬ Foot b v tb := by
  have ht : tyAt w tb 83 := ⟨_, _, hT⟩
  rintro (e | e)
  · have e' : tb = b := e
    have h2 : tyAt w b 69 := ⟨_, _, hR.rep.at'⟩
    rw [← e'] at h2
    exact absurd (tyAt_inj ht h2) (by decide)
  · exact absurd (tyAt_inj ht (tyAt_own hR.rep.own _ e)) (by decide)
set_option maxHeartbeats 8000000 in
set_option maxRecDepth 100000 in
theorem bridged_law (site : Int) (ao : Option Addr) (la ca : Nat) (ops sc : ByteArray) (w : World) (h : I64 site) (ha : IntsAt w ao la) (hla : la ≤ 140737488355328) (hl : sc.size ≤ 1048576) (htab : Tab w) :
    Calls Tryz.prog 4 #[.int .i64 site, .slice ao la ca, .string ops, .string sc] w fun e w' => e = .returned (.bool true) ∧ Below w.heap.size w w' := by
  have HGA := hide (grown_any ao la ca w ha hla)
  have HTB := hide htab
  clear ha htab
  go_enter Tryz.func4, Tryz.ntmps4
  go_wp2_with fail
  refine (unhide HGA).mono ?_
  rintro e w1 ⟨⟨t, rfl, hvt⟩, hb1⟩
  have HB1 := hide hb1
  have HPL := hide (planted_any site t w w1 h hvt hb1 (unhide HTB))
  clear hb1 HGA h hvt
  go_wp2_with fail
  refine (unhide HPL).mono ?_
  rintro e w2 ⟨rfl, v, L, hR2, hview, hb2⟩
  have HR2 := hide hR2
  have HB2 := hide hb2
  have HVW := hide hview
  have HLG := hide (fun L v W (hR : RS w W w1.heap.size (siteK site) v L) hb => klog_any L w1.heap.size (siteK site) v w W hR hb (unhide HTB))
  have HEX := hide (fun L v W (hR : RS w W w1.heap.size (siteK site) v L) => kexport_any L w1.heap.size (siteK site) v w W hR)
  have HDL := hide (fun W (hR : RS w W w1.heap.size (siteK site) v L) hb => kdeliver_any L ops w1.heap.size (siteK site) v w W hR hb)
  have HIN := hide (fun L s v W (hR : RS w W w1.heap.size (siteK site) v L) hb => kingest_any L s w1.heap.size (siteK site) v w W hR hb (unhide HTB))
  clear hR2 hb2 hview HPL
  go_wp2_with fail
  refine (unhide HLG _ _ _ (by exact unhide HR2) (by exact unhide HB2)).mono ?_
  rintro e w3 ⟨rfl, hb3⟩
  have HR3 := hide ((unhide HR2).below hb3)
  have HB3 := hide ((unhide HB2).trans (hb3.mono (unhide HB2).size))
  clear hb3
  go_wp2_with fail
  refine (unhide HDL _ (by exact unhide HR3) (by exact unhide HB3)).mono ?_
  rintro e w4 ⟨rfl, v4, hp4⟩
  have HR4 := hide hp4.rs
  have HB4 := hide hp4.bel
  have HDE := hide (@deliver_err L (sl ops))
  clear hp4 HDL
  generalize deliverT L (sl ops) = dt at *
  obtain ⟨L', n, er⟩ := dt
  simp only at HR4 HDE ⊢
  go_wp2_with fail
  refine (unhide HLG _ _ _ (by exact unhide HR4) (by exact unhide HB4)).mono ?_
  rintro e w5 ⟨rfl, hb5⟩
  have HR5 := hide ((unhide HR4).below hb5)
  have HB5 := hide ((unhide HB4).trans (hb5.mono (unhide HB4).size))
  clear hb5
  go_wp2_with fail
  refine (unhide HEX _ _ _ (by exact unhide HR5)).mono ?_
  rintro e w6 ⟨rfl, hb6⟩
  have HR6 := hide ((unhide HR5).below hb6)
  have HB6 := hide ((unhide HB5).trans (hb6.mono (unhide HB5).size))
  have hok := (unhide HR6).rep.ok
  have hvV := view_valid (places_ok hok.2.1)
  have HRT := hide (fun W => kright_any (viewT (places L')) W hvV)
  have HED := hide (fun W => edited_any (viewT (places L')) hvV sc W hl)
  have HVV := hide hvV
  have HOK := hide hok
  clear hb6 hvV hok
  go_wp2_with fail
  refine (unhide HRT _).mono ?_
  rintro e w7 ⟨rfl, hb7⟩
  have HR7 := hide ((unhide HR6).below hb7)
  have HB7 := hide ((unhide HB6).trans (hb7.mono (unhide HB6).size))
  clear hb7 HRT
  have HED2 : Hid (er ≠ 0 → n = 0 ∧ L' = L) := hide (fun h => ⟨(unhide HDE h).2, (unhide HDE h).1⟩)
  clear HDE
  have HRF := hide (fun u C M D (hE : EdInv (viewT (places L')) u C M D) h => refuse_ok (st := siteK site) (unhide HOK) hE h)
  have HRV := hide (fun tb C M D A e0 W h1 h2 h3 h4 h5 => refused_any L' (viewT (places L')) tb C M D A e0 W (unhide HOK) h1 h2 h3 h4 h5)
  have HSH := hide (fun u (hu : Valid u) h => reach_shows (site := siteK site) (unhide HOK).2.1 (g := u) hu h)
  have hdis : er = 0 ∨ (er ≠ 0 ∧ n = 0 ∧ L' = L) := by
    by_cases h : er = 0
    · exact .inl h
    · exact .inr ⟨h, unhide HED2 h⟩
  generalize hVe : viewT (places L') = V at *
  have HVE := hide hVe
  clear hVe
  have x1 := str_ne (logText L')
  have x2 := str_ne (textT V)
  rcases hdis with rfl | ⟨her, rfl, rfl⟩
  case' inr =>
    have hVt : V = t := (unhide HVE).symm.trans (unhide HVW)
    subst hVt
    have k1 : (er != 0) = true := by rw [bne_iff_ne]; exact her
  all_goals
    clear HED2
    go_wp2_with fail
    refine (unhide HED _).mono ?_
    rintro e w8 ⟨⟨u, tb, C, M, D, A, rfl, hT8, hE, hC, hM, hD⟩, hb8⟩
    have HR8 := hide ((unhide HR7).below hb8)
    have HB8 := hide ((unhide HB7).trans (hb8.mono (unhide HB7).size))
    have HT8 := hide hT8
    have HE := hide hE
    have HI := hide (fun W h1 h2 => unhide HIN L' (bs (textT u)) v4 W h1 h2)
    rw [sl_bs, ingest_text hE.v] at HI
    clear hb8 hT8 hE
    go_wp2_with fail
    refine (unhide HI _ (by exact unhide HR8) (by exact unhide HB8)).mono ?_
    rintro e w9 ⟨rfl, v9, hp9⟩
    have HT9 : Hid (TallyAt w9 tb C M D A) := by
      apply hide
      unfold TallyAt
      rw [hp9.keeps.block tb (unhide HT8).lt (fun hf => ?_)]
      · exact unhide HT8
      · exact tally_out (unhide HT8) (unhide HR8) hf
    have HR9 := hide hp9.rs
    have HB9 := hide hp9.bel
    clear hp9 HIN HI
    generalize hrt : reachT L' (siteK site) u = rt at *
    have HRT := hide hrt
    clear hrt
    obtain ⟨M', er'⟩ := rt
    simp only at HR9 ⊢
    go_wp2_with fail
    refine (unhide HLG _ _ _ (by exact unhide HR9) (by exact unhide HB9)).mono ?_
    rintro e w10 ⟨rfl, hb10⟩
    have HR10 := hide ((unhide HR9).below hb10)
    have HB10 := hide ((unhide HB9).trans (hb10.mono (unhide HB9).size))
    have HT10 : Hid (TallyAt w10 tb C M D A) := by apply hide; unfold TallyAt; rw [hb10.block tb (unhide HT9).lt]; exact unhide HT9
    clear hb10
    go_wp2_with fail
    refine (unhide HEX _ _ _ (by exact unhide HR10)).mono ?_
    rintro e w11 ⟨rfl, hb11⟩
    have HB11 := hide ((unhide HB10).trans (hb11.mono (unhide HB10).size))
    have HT11 : Hid (TallyAt w11 tb C M D A) := by apply hide; unfold TallyAt; rw [hb11.block tb (unhide HT10).lt]; exact unhide HT10
    clear hb11
    by_cases her2 : er' = 0
    · subst her2
      have HS : Hid (viewT (places (L' ++ M')) = u) := by
        apply hide
        have := unhide HSH u (unhide HE).v (by rw [unhide HRT])
        rw [unhide HRT] at this; exact this
      rw [unhide HS]
      have hlL : (logText L').length ≤ 1000000 := by
        have := logText_len25 L' (unhide HOK).2.1
        have := (unhide HOK).2.2
        omega
      have hlM : (logText M').length ≤ 1000000 := by
        have h1 := (unhide HR9).rep.ok
        have h2 := logText_len25 M' (fun x hx => h1.2.1 x (List.mem_append_right _ hx))
        have h3 := h1.2.2
        rw [List.length_append] at h3
        omega
      have a1 := add_bs (logText L') (logText M') hlL hlM
      rw [← logText_app] at a1
      have y1 := str_same (textT u)
      have y2 := str_same (logText (L' ++ M'))
      clear hlL hlM
      go_wp2
      go_ret
      exact ⟨rfl, unhide HB11⟩
    · have hne : (reachT L' (siteK site) u).2 ≠ 0 := by rw [unhide HRT]; exact her2
      have hmt := made_text hne
      rw [unhide HRT] at hmt
      have hM0 : M' = [] := by have := reach_none hne; rw [unhide HRT] at this; exact this
      have HRR := hide (unhide HRF u C M D (unhide HE) hne)
      rw [unhide HRT] at HRR
      have HRC := hide (unhide HRV tb C M D A er' w11 (unhide HVV) (unhide HT11) hC hM hD)
      simp only at HRR
      rw [unhide HRR] at HRC
      subst hM0
      rw [List.append_nil, unhide HVE]
      have k2 : (er' == 0) = false := by rw [beq_eq_false_iff_ne]; exact her2
      have y1 := str_same (textT V)
      have y2 := str_same (logText L')
      clear hne hmt her2
      go_wp2_with fail
      refine (unhide HRC).mono ?_
      rintro e w12 ⟨rfl, hb12⟩
      have HB12 := hide ((unhide HB11).trans (hb12.mono (unhide HB11).size))
      clear hb12
      have y3 : (bs (logText ([] : List Lo))).toList = [] := by rw [tl_sl, sl_bs]; rfl
      go_wp2
      go_ret
      exact ⟨rfl, unhide HB12⟩
end Go.Proofs.YtdcjimlhaklhfabGreatDoor

namespace Go.Proofs.YtdcjimlhaklhfabGreatDoor
open Go.RowKit
theorem apart_new {w0 w : World} {b b' : Nat} {st : Int} {v : Value} {L : List Lo} (h : RS w0 w b st v L) (hb : w.heap.size ≤ b') : Apart2 b v b' (.slice none 0 0) := by
  intro k h1 h2
  have := h.lt h1
  rcases h2 with h2 | h2
  · have h2' : k = b' := h2
    omega
  · simp [Value.ownBlock] at h2
set_option maxHeartbeats 8000000 in
set_option maxRecDepth 100000 in
theorem copied_law (site other : Int) (ao : Option Addr) (la ca : Nat) (ops sc more : ByteArray) (w : World) (h : I64 site) (h' : I64 other) (ha : IntsAt w ao la) (hla : la ≤ 140737488355328) (hl : sc.size ≤ 1048576) (htab : Tab w) :
    Calls Tryz.prog 5 #[.int .i64 site, .int .i64 other, .slice ao la ca, .string ops, .string sc, .string more] w fun e w' => e = .returned (.bool true) ∧ Below w.heap.size w w' := by
  have HGA := hide (grown_any ao la ca w ha hla)
  have HTB := hide htab
  clear ha htab
  go_enter Tryz.func5, Tryz.ntmps5
  go_wp2_with fail
  refine (unhide HGA).mono ?_
  rintro e w1 ⟨⟨t, rfl, hvt⟩, hb1⟩
  have HPL := hide (planted_any site t w w1 h hvt hb1 (unhide HTB))
  clear hb1 HGA h hvt
  go_wp2_with fail
  refine (unhide HPL).mono ?_
  rintro e w2 ⟨rfl, v, L, hR2, hview, hb2⟩
  have HR2 := hide hR2
  have HB2 := hide hb2
  have HRP := hide (replica_site other w w2 h' hb2)
  clear hR2 hview hb2 HPL h'
  go_wp2_with fail
  refine (unhide HRP).mono ?_
  rintro e w3 ⟨rfl, hY3, hb3⟩
  have HX3 := hide ((unhide HR2).below hb3)
  have HY3 := hide hY3
  have HB3 := hide ((unhide HB2).trans (hb3.mono (unhide HB2).size))
  have HAP : Hid (Apart2 w1.heap.size v w2.heap.size (.slice none 0 0)) := hide (apart_new (unhide HR2) (Nat.le_refl _))
  clear hY3 hb3 HRP
  have HDX := hide (fun L s v W (hR : RS w W w1.heap.size (siteK site) v L) hb => kdeliver_any L s w1.heap.size (siteK site) v w W hR hb)
  have HDY := hide (fun L s v W (hR : RS w W w2.heap.size (siteK other) v L) hb => kdeliver_any L s w2.heap.size (siteK other) v w W hR hb)
  have HEX := hide (fun L v W (hR : RS w W w1.heap.size (siteK site) v L) => kexport_any L w1.heap.size (siteK site) v w W hR)
  have HLG := hide (fun L v W (hR : RS w W w1.heap.size (siteK site) v L) hb => klog_any L w1.heap.size (siteK site) v w W hR hb (unhide HTB))
  have HIN := hide (fun L s v W (hR : RS w W w1.heap.size (siteK site) v L) hb => kingest_any L s w1.heap.size (siteK site) v w W hR hb (unhide HTB))
  have HLK := hide (fun L vx vy W (hX : RS w W w1.heap.size (siteK site) vx L) (hY : RS w W w2.heap.size (siteK other) vy L) (hb : Below w.heap.size w W) => like_any L w1.heap.size w2.heap.size (siteK site) (siteK other) vx vy W hX.rep hY.rep (tab_below (unhide HTB) hb))
  generalize w1.heap.size = bx at *
  generalize w2.heap.size = bY at *
  generalize siteK site = sx at *
  generalize siteK other = sy at *
  go_wp2_with fail
  refine (unhide HDX _ _ _ _ (by exact unhide HX3) (by exact unhide HB3)).mono ?_
  rintro e w4 ⟨rfl, v4, hp4⟩
  have HX4 := hide hp4.rs
  have HY4 := hide ((unhide HY3).kept hp4.keeps (fun k h1 h2 => unhide HAP k h2 h1))
  have HB4 := hide hp4.bel
  have HAP4 := hide (apart_moved (unhide HAP) hp4.moved (unhide HY3))
  clear hp4 HX3 HY3 HB3 HAP
  generalize deliverT L (sl ops) = dt at *
  obtain ⟨L', n, er⟩ := dt
  simp only at HX4 ⊢
  go_wp2_with fail
  refine (unhide HEX _ _ _ (by exact unhide HX4)).mono ?_
  rintro e w5 ⟨rfl, hb5⟩
  have HX5 := hide ((unhide HX4).below hb5)
  have HY5 := hide ((unhide HY4).below hb5)
  have HB5 := hide ((unhide HB4).trans (hb5.mono (unhide HB4).size))
  have HED := hide (fun W => edited_any (viewT (places L')) (view_valid (places_ok (unhide HX4).rep.ok.2.1)) sc W hl)
  clear hb5 HX4 HY4 HB4
  go_wp2_with fail
  refine (unhide HED _).mono ?_
  rintro e w6 ⟨⟨u, tb, C, M, D, A, rfl, _, hE, _, _, _⟩, hb6⟩
  have HX6 := hide ((unhide HX5).below hb6)
  have HY6 := hide ((unhide HY5).below hb6)
  have HB6 := hide ((unhide HB5).trans (hb6.mono (unhide HB5).size))
  clear hb6 HX5 HY5 HB5 HED hE
  go_wp2_with fail
  refine (unhide HIN _ _ _ _ (by exact unhide HX6) (by exact unhide HB6)).mono ?_
  rintro e w7 ⟨rfl, v7, hp7⟩
  have HX7 := hide hp7.rs
  have HY7 := hide ((unhide HY6).kept hp7.keeps (fun k h1 h2 => unhide HAP4 k h2 h1))
  have HB7 := hide hp7.bel
  have HAP7 := hide (apart_moved (unhide HAP4) hp7.moved (unhide HY6))
  clear hp7 HX6 HY6 HB6 HAP4
  generalize ingestT L' sx (sl (bs (textT u))) = it at *
  obtain ⟨M', er'⟩ := it
  simp only at HX7 ⊢
  generalize hLL : L' ++ M' = LL at *
  clear hLL
  have hok := (unhide HX7).rep.ok
  have HCP := hide (copy_log hok)
  have hlt := logText_len25 LL hok.2.1
  have hll := hok.2.2
  have HCT := hide (fun W => kcut_any (bs (logText LL)) W (by rw [bs_size]; omega))
  rw [sl_bs, cut_log LL hok.2.1, List.length_map] at HCT
  clear hok
  go_wp2_with fail
  refine (unhide HLG _ _ _ (by exact unhide HX7) (by exact unhide HB7)).mono ?_
  rintro e w8 ⟨rfl, hb8⟩
  have HX8 := hide ((unhide HX7).below hb8)
  have HY8 := hide ((unhide HY7).below hb8)
  have HB8 := hide ((unhide HB7).trans (hb8.mono (unhide HB7).size))
  clear hb8 HX7 HY7 HB7
  go_wp2_with fail
  refine (unhide HCT _).mono ?_
  rintro e w9 ⟨ro, rc, rfl, _, hb9⟩
  have HX9 := hide ((unhide HX8).below hb9)
  have HY9 := hide ((unhide HY8).below hb9)
  have HB9 := hide ((unhide HB8).trans (hb9.mono (unhide HB8).size))
  clear hb9 HX8 HY8 HB8 HCT
  have HDY2 := hide (fun v W h1 h2 => unhide HDY [] (bs (logText LL)) v W h1 h2)
  rw [sl_bs, unhide HCP] at HDY2
  go_wp2_with fail
  refine (unhide HDY2 _ _ (by exact unhide HY9) (by exact unhide HB9)).mono ?_
  rintro e w10 ⟨rfl, v10, hp10⟩
  have HY10 := hide hp10.rs
  have HX10 := hide ((unhide HX9).kept hp10.keeps (fun k h1 h2 => unhide HAP7 k h1 h2))
  have HB10 := hide hp10.bel
  have HAP10 := hide (apart_moved (unhide HAP7).symm hp10.moved (unhide HX9))
  clear hp10 HX9 HY9 HB9 HAP7 HDY2
  simp only at HY10 ⊢
  have k1 : ((LL.length : Int) != (LL.length : Int)) = false := by simp
  go_wp2_with fail
  refine (unhide HLK _ _ _ _ (by exact unhide HX10) (by exact unhide HY10) (by exact unhide HB10)).mono ?_
  rintro e w11 ⟨rfl, hb11⟩
  have HX11 := hide ((unhide HX10).below hb11)
  have HY11 := hide ((unhide HY10).below hb11)
  have HB11 := hide ((unhide HB10).trans (hb11.mono (unhide HB10).size))
  clear hb11 HX10 HY10 HB10
  go_wp2_with fail
  refine (unhide HDX _ _ _ _ (by exact unhide HX11) (by exact unhide HB11)).mono ?_
  rintro e w12 ⟨rfl, v12, hp12⟩
  have HX12 := hide hp12.rs
  have HY12 := hide ((unhide HY11).kept hp12.keeps (fun k h1 h2 => unhide HAP10 k h1 h2))
  have HB12 := hide hp12.bel
  have HAP12 := hide (apart_moved (unhide HAP10).symm hp12.moved (unhide HY11))
  clear hp12 HX11 HY11 HB11 HAP10
  go_wp2_with fail
  refine (unhide HDY _ _ _ _ (by exact unhide HY12) (by exact unhide HB12)).mono ?_
  rintro e w13 ⟨rfl, v13, hp13⟩
  have HY13 := hide hp13.rs
  have HX13 := hide ((unhide HX12).kept hp13.keeps (fun k h1 h2 => unhide HAP12 k h1 h2))
  have HB13 := hide hp13.bel
  clear hp13 HX12 HY12 HB12 HAP12
  generalize deliverT LL (sl more) = dm at *
  obtain ⟨LM, m, f⟩ := dm
  simp only at HX13 HY13 ⊢
  go_wp2_with fail
  refine (unhide HLK _ _ _ _ (by exact unhide HX13) (by exact unhide HY13) (by exact unhide HB13)).mono ?_
  rintro e w14 ⟨rfl, hb14⟩
  have HB14 := hide ((unhide HB13).trans (hb14.mono (unhide HB13).size))
  clear hb14
  have y1 : ((m : Int) == (m : Int)) = true := by simp
  have y2 : (f == f) = true := by simp
  go_wp2
  go_ret
  exact ⟨by simp, unhide HB14⟩
end Go.Proofs.YtdcjimlhaklhfabGreatDoor
