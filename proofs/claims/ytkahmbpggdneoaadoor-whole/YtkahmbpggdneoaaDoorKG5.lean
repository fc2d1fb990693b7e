import Derived.Test.YtkahmbpggdneoaaDoorKG4
namespace Go.Proofs.YtkahmbpggdneoaaDoor
open Go.RowKit
theorem Tryd.infoSpot : (Tryd.prog.info? 46).map (fun i => (i.zero, i.size, i.bytes)) = some (some (.agg #[.int .i64 0, .int .i64 0, .string ByteArray.empty]), 3, 32) := by kernel_rfl
theorem Tryd.infoInt : (Tryd.prog.info? 3).map (fun i => (i.zero, i.size, i.bytes)) = some (some (.int .i64 0), 1, 8) := by kernel_rfl
def intV (x : Int) : Value := .int .i64 x
def FolderOf (ns : List Nd) (f : Int) : Prop := f = 0 ∨ (f % 2 = 0 ∧ ∃ n ∈ ns, n.id = f)
theorem own_first (w : World) (x : Int) (base : Nat) (hb : base ≤ w.heap.size) : (w.alloc (.cells #[.int .i64 x] 3)).ownsRow base 3 1 (.slice (some ⟨w.heap.size, 0, none⟩) 1 1) 1 [.int .i64 x] := by
  refine ⟨rfl, Or.inr ⟨w.heap.size, 1, #[.int .i64 x], rfl, hb, heap_alloc_new w _, Nat.le_refl _, by unfold maxLen; omega, rfl, rfl⟩⟩
set_option maxHeartbeats 2000000 in
theorem folders_any (ns : List Nd) (ao : Option Addr) (cap : Nat) (w : World) (hrow : Row w ao ns.length 3 (ndCells ns)) (hl : ns.length ≤ 4000) (hid : ∀ n ∈ ns, 0 ≤ n.id) :
    Calls Tryd.prog 33 #[.slice ao ns.length cap] w fun e w' => (∃ fs : List Int, ∃ ao' cap', e = .returned (.slice ao' fs.length cap') ∧ Row w' ao' fs.length 1 (fs.map intV) ∧ 1 ≤ fs.length ∧ fs.length ≤ ns.length + 1 ∧ ∀ f ∈ fs, FolderOf ns f) ∧ Below w.heap.size w w' := by
  obtain ⟨i0, hi, hz0, hz1, hz2⟩ := info_parts Tryd.infoInt
  have HROW := hide hrow
  have HID := hide hid
  clear hrow hid
  go_enter Tryd.func33, Tryd.ntmps33
  go_wp2
  go_loopw [3, 4] (fun v i wr => ∃ k : Nat, ∃ fs : List Int, k ≤ ns.length ∧ i = .int .i64 k ∧ wr.ownsRow w.heap.size 3 1 v fs.length (fs.map intV) ∧ Below w.heap.size w wr ∧ 1 ≤ fs.length ∧ fs.length ≤ k + 1 ∧ Hid (∀ f ∈ fs, FolderOf ns f)) (fun _ i _ => ns.length - (intOf i).toNat)
  case atStart => exact ⟨0, [0], Nat.zero_le _, rfl, own_first w 0 _ (Nat.le_refl _), (Below.refl _ _).alloc (Nat.le_refl _) _, by simp, by simp, hide (fun f hf => by simp at hf; exact .inl hf)⟩
  case round =>
    obtain ⟨k, fs, hk, rfl, hown, hbel, hf1, hf2, HF⟩ := hrel
    have hsz := hbel.size
    by_cases hlt : k < ns.length
    · obtain ⟨g, hao, hg, c0, _, _⟩ := nd_cells (unhide HROW) hbel hlt
      have hid0 := unhide HID _ (List.getElem_mem hlt)
      have hmem := List.getElem_mem hlt
      have HM := hide hmem
      rw [hao]
      clear hao hmem
      have ht : (ns[k]).id.tmod 2 = (ns[k]).id % 2 := Int.tmod_eq_emod_of_nonneg hid0
      generalize ns[k] = nd at *
      by_cases he : nd.id % 2 = 0
      · have he' : (nd.id % 2 == 0) = true := by simpa using he
        have HF2 : Hid (∀ f ∈ fs ++ [nd.id], FolderOf ns f) := hide (fun f hf => by
          rcases List.mem_append.1 hf with hf | hf
          · exact unhide HF f hf
          · simp at hf; exact .inr ⟨by rw [hf]; exact he, nd, unhide HM, hf.symm⟩)
        go_wp2_with (first
          | (at_builtin; (refine wpList_append_own _ rfl _ _ 35 rfl w.heap.size 3 i0 (.int .i64 0) 1 8 Tryd.underlying35 hi hz0 hz1 hz2 rfl (by decide) _ _ _ rfl (own_below hown ((Below.refl _ _).alloc (by simp) _)) ⟨wr.heap.size, 0, none⟩ 1 1 [.int .i64 nd.id] rfl rfl (news_one _ _) (by simp [Value.oneCell']) (by unfold maxLen; omega) (by omega) (by simp; omega) ?_))
          | go_in)
        intro v' w4 hown' hgrow _
        have hb4 : Below w.heap.size w w4 := (hbel.alloc (by omega) _).grown hgrow (by simp; omega) (own_ge hown)
        have hown2 : w4.ownsRow w.heap.size 3 1 v' (fs ++ [nd.id]).length ((fs ++ [nd.id]).map intV) := by rw [List.map_append, List.length_append]; exact hown'
        clear hgrow hown hbel hown' c0
        go_wp2
        go_roundw
        case rel => exact ⟨k + 1, _, by omega, by go_num, hown2, hb4, by simp, by simp; omega, HF2⟩
        case measure => simp [intOf]; omega
      · have he' : (nd.id % 2 == 0) = false := by simpa using he
        go_wp2
        go_roundw
        case rel => exact ⟨k + 1, fs, by omega, by go_num, hown, hbel, hf1, by omega, HF⟩
        case measure => simp [intOf]; omega
    · go_wp2
      go_ret
      obtain ⟨ao', cap', rfl, hr⟩ := row_of_owns hown
      exact ⟨⟨fs, ao', cap', rfl, hr, hf1, by omega, unhide HF⟩, hbel⟩
/-- The numbers that a tree is grown of, in memory. -/
def IntsAt (w : World) (ao : Option Addr) (len : Nat) : Prop :=
  0 < len → ∃ b off, ao = some ⟨b, off, none⟩ ∧ b < w.heap.size ∧ ∀ i, i < len → ∃ x : Int, -9223372036854775808 ≤ x ∧ x ≤ 9223372036854775807 ∧ w.cell? ⟨b, off + i, none⟩ = some (.int .i64 x)
theorem grow_step {ns : List Nd} {t : Tr} (hr : Rep ns t) (hv : Valid t) {id p : Int} {nm : Str} (h1 : 1 ≤ id) (h2 : id ≤ 99) (hno : ∀ n ∈ ns, n.id ≠ id) (hp : FolderOf ns p) (hn : isName nm id = true) (hfree : ∀ n ∈ ns, n.parent = p → n.name ≠ nm) :
    ∃ t', Rep (ns ++ [⟨id, p, nm⟩]) t' ∧ Valid t' := by
  have hpar : isParentT t p = true := by
    rcases hp with rfl | ⟨he, n, hn, rfl⟩
    · exact isParent_iff.2 (.inl rfl)
    · obtain ⟨i, hi⟩ := (rep_mem hr hv.ok).1 hn
      have := hv.ok.2 i n hi
      exact isParent_iff.2 (.inr ⟨he, n, by rw [show n.id.toNat = i by omega]; exact hi⟩)
  have hpb : 0 ≤ p ∧ p ≤ 99 := by
    rcases hp with rfl | ⟨_, n, hn, rfl⟩
    · omega
    · have := hr.ok n hn; exact ⟨by have := this.1; omega, this.2.1⟩
  have hN : NdOk ⟨id, p, nm⟩ := ⟨h1, h2, hpb.1, hpb.2, hn⟩
  have hl : layR ns ⟨id, p, nm⟩ true = ns ++ [⟨id, p, nm⟩] := by
    unfold layR
    rw [List.filter_eq_self.2 (fun n hn => by unfold otherB; rw [bne_iff_ne]; exact hno n hn)]; rfl
  refine ⟨trPut t ⟨id, p, nm⟩, by rw [← hl]; exact rep_put hr hv.ok hN, valid_put hv hN hpar (fun hh => ?_) (fun i m hm hp' hn' => ?_)⟩
  · exfalso
    obtain ⟨n, hn⟩ := hasT_iff.1 hh
    have hb := hv.ok.2 _ n hn
    have h1' : (1 : Int) ≤ id := h1
    have hid : n.id = id := by
      have := hb.1
      show n.id = id
      rw [this]; exact Int.toNat_of_nonneg (by omega)
    exact hno n ((rep_mem hr hv.ok).2 ⟨_, hn⟩) hid
  · exact absurd hn' (hfree m ((rep_mem hr hv.ok).2 ⟨i, hm⟩) hp')
theorem rep_nil : Rep [] tr0 := ⟨fun n m hn => by simp at hn, by simp, fun n hn => by simp at hn, fun i => rfl⟩
theorem valid_0 : Valid tr0 := ⟨trOk_0, fun i n h => (by cases h), fun i n h => (by cases h), fun i j n m h => (by cases h)⟩
theorem int_cell {w wr : World} {ao : Option Addr} {fs : List Int} (hrow : Row w ao fs.length 1 (fs.map intV)) (hb : Below w.heap.size w wr) {k : Nat} (hk : k < fs.length) :
    ∃ g, ao = some ⟨g, 0, none⟩ ∧ g < w.heap.size ∧ wr.cell? ⟨g, k, none⟩ = some (.int .i64 fs[k]) := by
  obtain ⟨g, h1, h2, h3⟩ := hrow.2 (by omega)
  refine ⟨g, h1, h2, ?_⟩
  rw [hb.cell (p := ⟨g, k, none⟩) h2]
  exact h3 k _ (by simp [hk, intV])
set_option maxHeartbeats 4000000 in
set_option maxRecDepth 100000 in
theorem grow_any (ao : Option Addr) (len cap : Nat) (w : World) (hin : IntsAt w ao len) (hlen : len ≤ 140737488355328) :
    Calls Tryd.prog 16 #[.slice ao len cap] w fun e w' => (∃ ns t ao' cap', e = .returned (.slice ao' ns.length cap') ∧ Row w' ao' ns.length 3 (ndCells ns) ∧ Rep ns t ∧ Valid t) ∧ Below w.heap.size w w' := by
  obtain ⟨i0, hi, hz0, hz1, hz2⟩ := info_parts Tryd.infoSpot
  have HIN := hide hin
  clear hin
  go_enter Tryd.func16, Tryd.ntmps16
  go_wp2
  go_loopw [3, 4] (fun v i wr => ∃ k : Nat, ∃ ns : List Nd, ∃ t : Tr, k ≤ len ∧ i = .int .i64 k ∧ wr.ownsRow w.heap.size 46 3 v ns.length (ndCells ns) ∧ Below w.heap.size w wr ∧ Hid (Rep ns t) ∧ Hid (Valid t)) (fun _ i _ => len - (intOf i).toNat)
  case atStart => exact ⟨0, [], tr0, Nat.zero_le _, rfl, World.ownsRow_nil _ _ _ _, Below.refl _ _, hide rep_nil, hide valid_0⟩
  case round =>
    obtain ⟨k, ns, t, hk, rfl, hown, hbel, HR, HV⟩ := hrel
    have hsz := hbel.size
    have hnl := rep_len (unhide HR)
    by_cases hlt : k < len
    · obtain ⟨b, off, hao, hb, hcells⟩ := unhide HIN (by omega)
      obtain ⟨x, hx0, hx1, hc⟩ := hcells k hlt
      clear hcells
      rw [← hbel.cell (p := ⟨b, _, none⟩) hb] at hc
      rw [hao]
      clear hao
      obtain ⟨so, sc, rfl, hsrow⟩ := row_of_owns hown
      have HPK := hide (fun W => pick_any x W hx0 hx1)
      have HSR := hide hsrow
      have HFI := hide (fun id W (h : Row W so ns.length 3 (ndCells ns)) => find_any ns id so sc W h (by omega))
      have HFO := hide (fun W (h : Row W so ns.length 3 (ndCells ns)) => folders_any ns so sc W h (by omega) (fun n hn => by have := ((unhide HR).ok n hn).1; omega))
      have HOWN := hide hown
      clear hown hsrow
      go_wp2_with fail
      refine (unhide HPK _).mono ?_
      rintro e w1 ⟨v, rfl, hv0, hv1, rfl⟩
      have t1 : v.tmod 99 = v % 99 := Int.tmod_eq_emod_of_nonneg hv0
      have t2 : v.tdiv 99 = v / 99 := Int.tdiv_eq_ediv_of_nonneg hv0
      have hq0 : 0 ≤ v / 99 := by omega
      have hq1 : v / 99 < 1099511627776 := by omega
      have hi1 : 1 ≤ 1 + v % 99 := by omega
      have hi2 : 1 + v % 99 ≤ 99 := by omega
      go_wp2_with fail
      generalize 1 + v % 99 = id at *
      generalize v / 99 = q at *
      clear t1 t2 hc
      refine (unhide HFI id _ (unhide HSR)).mono ?_
      rintro e w2 ⟨rfl, rfl⟩
      by_cases hf : findN ns id < ns.length
      · have q2 := (lookR_some hf).2
        rw [q2]
        have hfn : (0 : Int) ≤ findN ns id := by omega
        generalize findN ns id = fn at *
        clear q2 hf
        go_wp2
        go_roundw
        case rel => exact ⟨k + 1, ns, t, by omega, by go_num, unhide HOWN, hbel, HR, HV⟩
        case measure => simp [intOf]; omega
      · obtain ⟨q1, q2⟩ := lookR_none hf
        rw [q2]
        have HNO := hide (lookR_no q1)
        clear q1 q2 hf
        go_wp2_with fail
        refine (unhide HFO _ (unhide HSR)).mono ?_
        rintro e w3 ⟨⟨fs, fo, fc, rfl, hfr, hf1, hf2, hff⟩, hb3⟩
        have t3 : q.tmod (fs.length : Int) = q % (fs.length : Int) := Int.tmod_eq_emod_of_nonneg hq0
        have t4 : q.tdiv (fs.length : Int) = q / (fs.length : Int) := Int.tdiv_eq_ediv_of_nonneg hq0
        have hr0 : 0 ≤ q % (fs.length : Int) := Int.emod_nonneg _ (by omega)
        have hr1 : q % (fs.length : Int) < fs.length := Int.emod_lt_of_pos _ (by omega)
        obtain ⟨j, hj⟩ := Int.eq_ofNat_of_zero_le hr0
        have hjl : j < fs.length := by omega
        obtain ⟨fg, hfo, hfg, hfc⟩ := int_cell hfr (Below.refl _ _) hjl
        have hFol := hff _ (List.getElem_mem hjl)
        have hd0 : 0 ≤ q / (fs.length : Int) := Int.ediv_nonneg hq0 (by omega)
        have hd1 : q / (fs.length : Int) < 1099511627776 := by
          have := Int.ediv_le_self (fs.length : Int) hq0; omega
        rw [hj] at t3
        have hfl : ¬ (fs.length : Int) = 0 := by omega
        have hj1 : (j : Int) < fs.length := by omega
        have HB3 := hide (hbel.trans (hb3.mono hsz))
        have HSR3 := hide (Row.below (unhide HSR) hb3)
        have HOWN3 := hide (own_below (unhide HOWN) hb3)
        have hz3 := hb3.size
        have HFol := hide hFol
        rw [hfo]
        clear hff hfr hb3 hFol hfo hj hr0 hr1
        generalize q / (fs.length : Int) = d at *
        generalize fs[j] = p at *
        have HNM := hide (fun W (h : Row W so ns.length 3 (ndCells ns)) => named_any ns id p d so sc W h (by omega) (unhide HR).ok (unhide HNO) hi1 hi2 hd0 hd1)
        go_wp2_with fail
        refine (unhide HNM _ (unhide HSR3)).mono ?_
        rintro e w4 ⟨⟨nm, rfl, hn1, hn2⟩, hb4⟩
        obtain ⟨t', hR', hV'⟩ := grow_step (unhide HR) (unhide HV) hi1 hi2 (unhide HNO) (unhide HFol) hn1 hn2
        have HR' := hide hR'
        have HV' := hide hV'
        have HB4 := hide ((unhide HB3).trans (hb4.mono (unhide HB3).size))
        have HOWN4 := hide (own_below (unhide HOWN3) hb4)
        have hz4 := hb4.size
        clear hn1 hn2 hb4 hR' hV' hfc
        go_wp2_with (first
          | (at_builtin; (refine wpList_append_own _ rfl _ _ 41 rfl w.heap.size 46 i0 (.agg #[.int .i64 0, .int .i64 0, .string ByteArray.empty]) 3 32 Tryd.underlying41 hi hz0 hz1 hz2 rfl (by decide) _ _ _ rfl (own_below (unhide HOWN4) ((Below.refl _ _).alloc (by simp) _)) ⟨w4.heap.size, 0, none⟩ 1 1 [.int .i64 id, .int .i64 p, .string (bs nm)] rfl rfl (news_three _ _ _ _) (by simp [Value.oneCell']) (by unfold maxLen; omega) (by omega) (by simp; omega) ?_))
          | go_in)
        intro v' w5 hown' hgrow _
        have hb5 : Below w.heap.size w w5 := ((unhide HB4).alloc (by omega) _).grown hgrow (by simp; omega) (own_ge (unhide HOWN4))
        have hown2 : w5.ownsRow w.heap.size 46 3 v' (ns ++ [(⟨id, p, nm⟩ : Nd)]).length (ndCells (ns ++ [(⟨id, p, nm⟩ : Nd)])) := by rw [ndCells_snoc, List.length_append]; exact hown'
        clear hgrow hown' hbel
        go_wp2
        go_roundw
        case rel => exact ⟨k + 1, _, t', by omega, by go_num, hown2, hb5, HR', HV'⟩
        case measure => simp [intOf]; omega
    · obtain ⟨ao', cap', rfl, hr⟩ := row_of_owns hown
      have HRO := hide hr
      clear hr hown
      go_wp2
      go_ret
      exact ⟨⟨ns, t, ao', cap', rfl, unhide HRO, unhide HR, unhide HV⟩, hbel⟩
theorem grown_any (ao : Option Addr) (len cap : Nat) (w : World) (hin : IntsAt w ao len) (hlen : len ≤ 140737488355328) :
    Calls Tryd.prog 13 #[.slice ao len cap] w fun e w' => (∃ t, e = .returned (.string (bs (textT t))) ∧ Valid t) ∧ Below w.heap.size w w' := by
  have HG := hide (grow_any ao len cap w hin hlen)
  clear hin
  go_enter Tryd.func13, Tryd.ntmps13
  go_wp2_with fail
  refine (unhide HG).mono ?_
  rintro e w1 ⟨⟨ns, t, ao', cap', rfl, hrow, hR, hV⟩, hb1⟩
  have et : trOf ns = t := funext hR.look
  have HT := hide (print_any ns ao' cap' w1 hrow (by have := rep_len hR; omega) (by rw [et]; exact hV.ok))
  rw [et] at HT
  have HV := hide hV
  clear hrow hR hV et
  go_wp2_with fail
  refine (unhide HT).mono ?_
  rintro e w2 ⟨rfl, hb2⟩
  go_wp2
  go_ret
  exact ⟨⟨t, rfl, unhide HV⟩, hb1.trans (hb2.mono hb1.size)⟩
theorem right_any (t : Tr) (w : World) (hv : Valid t) :
    Calls Tryd.prog 14 #[.string (bs (textT t))] w fun e w' => e = .returned (.bool true) ∧ Below w.heap.size w w' := by
  have HC := hide (check_any (bs (textT t)) w)
  rw [sl_bs, (check_text hv).1] at HC
  go_enter Tryd.func14, Tryd.ntmps14
  go_wp2_with fail
  refine (unhide HC).mono ?_
  rintro e w1 ⟨rfl, hb1⟩
  go_wp2
  go_ret
  exact ⟨rfl, hb1⟩
end Go.Proofs.YtkahmbpggdneoaaDoor
