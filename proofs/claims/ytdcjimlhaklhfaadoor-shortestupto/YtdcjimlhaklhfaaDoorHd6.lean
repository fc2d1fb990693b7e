import Derived.Test.YtdcjimlhaklhfaaDoorHd5
import Derived.Test.YtdcjimlhaklhfaaDoorHd4
import Derived.Laws.StructEq
import Derived.BigQuiet
import Derived.Deep.RegionLaw
import Derived.Deep.RegionWith
namespace Go.Proofs.YtdcjimlhaklhfaaDoor
open Go.RowKit
/-! Growing trees: the parts. -/
set_option maxHeartbeats 1000000 in
theorem pick_any (c : Int) (w : World) (h0 : -9223372036854775808 ≤ c) (h1 : c ≤ 9223372036854775807) :
    Calls Tryd.prog 32 #[.int .i64 c, .int .i64 1099511627776] w fun e w' => ∃ v : Int, e = .returned (.int .i64 v) ∧ 0 ≤ v ∧ v < 1099511627776 ∧ w' = w := by
  by_cases hc : c < 0
  · go_enter Tryd.func32, Tryd.ntmps32
    go_wp2
    go_ret
    refine ⟨_, rfl, ?_, ?_, rfl⟩
    · rw [← Int.neg_tmod, Int.tmod_eq_emod_of_nonneg (by omega)]; omega
    · rw [← Int.neg_tmod, Int.tmod_eq_emod_of_nonneg (by omega)]; omega
  · go_enter Tryd.func32, Tryd.ntmps32
    go_wp2
    go_ret
    refine ⟨_, rfl, ?_, ?_, rfl⟩
    · omega
    · omega
def WordOk (s : Str) : Prop := s.all plainB = true ∧ 1 ≤ s.length ∧ s.length ≤ 8
set_option maxHeartbeats 1000000 in
theorem word_any (v : Int) (w : World) (h0 : 0 ≤ v) (_h1 : v < 1099511627776) :
    Calls Tryd.prog 53 #[.int .i64 v] w fun e w' => ∃ s : Str, e = .returned (.string (bs s)) ∧ WordOk s ∧ w' = w := by
  have hv : v % 5 = 0 ∨ v % 5 = 1 ∨ v % 5 = 2 ∨ v % 5 = 3 ∨ v % 5 = 4 := by omega
  rcases hv with h | h | h | h | h
  all_goals
    have ht : v.tmod 5 = _ := (Int.tmod_eq_emod_of_nonneg h0).trans h
    clear h
    go_enter Tryd.func53, Tryd.ntmps53
    go_wp2
    go_ret
  · exact ⟨[97], rfl, ⟨by decide, by decide, by decide⟩, rfl⟩
  · exact ⟨[98], rfl, ⟨by decide, by decide, by decide⟩, rfl⟩
  · exact ⟨[116], rfl, ⟨by decide, by decide, by decide⟩, rfl⟩
  · exact ⟨[99, 46, 57], rfl, ⟨by decide, by decide, by decide⟩, rfl⟩
  · exact ⟨[108, 111, 110, 103, 110, 97, 109, 101], rfl, ⟨by decide, by decide, by decide⟩, rfl⟩
theorem plainLen_word {s : Str} (hs : s.all plainB = true) (r : Str) (hr : ∀ c l, r = c :: l → plainB c = false) : plainLen (s ++ r) = s.length :=
  plainLen_stop (s ++ r) s.length (by simp) (by simpa using hs) (fun c l h => hr c l (by simpa using h))
theorem word_name {s : Str} (hs : WordOk s) (id : Int) : isName s id = true := by
  have e : plainLen s = s.length := by have := plainLen_word hs.1 [] (fun c l h => by cases h); simpa using this
  unfold isName; rw [e]; simp [hs.2.1, hs.2.2]
theorem own_len {s : Str} (hs : WordOk s) (l : Str) : plainLen (s ++ 126 :: l) = s.length :=
  plainLen_word hs.1 (126 :: l) (fun c r h => by cases h; decide)
theorem own_name {s : Str} (hs : WordOk s) (id : Int) : isName (s ++ 126 :: digs id) id = true := by
  unfold isName; rw [own_len hs]; simp [hs.2.1, hs.2.2]
theorem own_only {s : Str} (hs : WordOk s) {x y : Int} (hx0 : 0 ≤ x) (hx : x ≤ 99) (hy0 : 0 ≤ y) (hy : y ≤ 99) (h : isName (s ++ 126 :: digs x) y = true) : x = y := by
  unfold isName at h; rw [own_len hs] at h
  simp only [List.length_append, List.length_cons, Bool.and_eq_true, Bool.or_eq_true, beq_iff_eq, List.drop_left] at h
  rcases h.2 with h | h
  · omega
  · obtain ⟨a, rfl⟩ := Int.eq_ofNat_of_zero_le hx0
    obtain ⟨b, rfl⟩ := Int.eq_ofNat_of_zero_le hy0
    have := digs_inj a (by omega) b (by omega) (by simpa using h)
    rw [this]
theorem add_126 (a : Str) (ha : a.length ≤ 1000000) (W : World) : (Op.stringOp .add (bs a) ⟨#[126]⟩).run Tryd.prog W = .ok (.string (bs (a ++ [126]))) W := add_bs a [126] ha (by simp) W
def nmIs (ns : List Nd) (p : Int) (s : Str) (i : Nat) : Bool := (ndAt ns i).parent == p && (ndAt ns i).name == s
set_option maxHeartbeats 2000000 in
theorem named_any (ns : List Nd) (id p v : Int) (ao : Option Addr) (cap : Nat) (w : World) (hrow : Row w ao ns.length 3 (ndCells ns)) (hl : ns.length ≤ 4000) (hok : ∀ n ∈ ns, NdOk n) (hno : ∀ n ∈ ns, n.id ≠ id) (h1 : 1 ≤ id) (h2 : id ≤ 99) (hv0 : 0 ≤ v) (hv1 : v < 1099511627776) :
    Calls Tryd.prog 34 #[.slice ao ns.length cap, .int .i64 id, .int .i64 p, .int .i64 v] w fun e w' => (∃ nm : Str, e = .returned (.string (bs nm)) ∧ isName nm id = true ∧ ∀ n ∈ ns, n.parent = p → n.name ≠ nm) ∧ Below w.heap.size w w' := by
  have HROW := hide hrow
  have HOK := hide hok
  have HNO := hide hno
  have HW := hide (fun W => word_any v W hv0 hv1)
  have HD := hide (fun W => digits_digs id W (by omega) h2)
  have l1 := digs_len id
  have HOWN : Hid (∀ s, WordOk s → ∀ n ∈ ns, n.parent = p → n.name ≠ s ++ 126 :: digs id) := hide (fun s hs n hn _ e => by
    have hb := hok n hn
    have h3 := hb.2.2.2.2
    rw [e] at h3
    exact hno n hn (own_only hs (by omega) h2 (by have := hb.1; omega) hb.2.1 h3).symm)
  have HDG := hide (show digs id = digs id from rfl)
  clear hrow hok hno
  have hd5 : v.tdiv 5 = v / 5 := Int.tdiv_eq_ediv_of_nonneg hv0
  have hq0 : 0 ≤ v / 5 := by omega
  have hd4 : (v / 5).tmod 4 = v / 5 % 4 := Int.tmod_eq_emod_of_nonneg hq0
  have hqq : v / 5 % 4 = 0 ∨ ¬ v / 5 % 4 = 0 := by omega
  generalize hdd : digs id = dg at *
  go_enter Tryd.func34, Tryd.ntmps34
  go_wp2_with fail
  refine (unhide HW _).mono ?_
  rintro e w1 ⟨s, rfl, hs, rfl⟩
  have hsl := hs.2.2
  have a1 := add_126 s (by omega)
  have a2 := add_bs (s ++ [126]) dg (by simp; omega) (by omega)
  have HE : Hid (s ++ [126] ++ dg = s ++ 126 :: dg) := hide (by simp)
  generalize s ++ [126] ++ dg = own at *
  generalize s ++ [126] = own0 at *
  go_wp2_with fail
  refine (unhide HD _).mono ?_
  rintro e w2 ⟨rfl, hb2⟩
  have HB := hide hb2
  have HS := hide hs
  clear hs hb2
  rcases hqq with hq | hq
  · go_wp2
    go_ret
    refine ⟨⟨own, rfl, ?_, ?_⟩, unhide HB⟩
    · rw [unhide HE, ← hdd]; exact own_name (unhide HS) id
    · rw [unhide HE]; exact unhide HOWN s (unhide HS)
  · go_wp2
    go_loop [11] (fun i => ∃ k : Nat, k ≤ ns.length ∧ i = .int .i64 k ∧ Hid (NoIn (nmIs ns p s) 0 k)) (fun i => ns.length - (intOf i).toNat)
    case atStart => exact ⟨0, Nat.zero_le _, rfl, hide (fun j h1 h2 => by omega)⟩
    case round =>
      obtain ⟨k, hk, rfl, HN⟩ := hrel
      by_cases hlt : k < ns.length
      · obtain ⟨g, hao, hg, c0, c1, c2⟩ := nd_cells (unhide HROW) (unhide HB) hlt
        rw [hao]
        clear hao
        have HU : Hid (nmIs ns p s k = ((ns[k]).parent == p && (ns[k]).name == s)) := by apply hide; unfold nmIs; rw [ndAt_get _ _ hlt]
        generalize ns[k] = nd at *
        cases hp : (nd.parent == p)
        · have HN2 := hide (noIn_succ (unhide HN) (by rw [unhide HU, hp]; rfl))
          go_wp2
          go_round
          case rel => exact ⟨k + 1, by omega, by go_num, HN2⟩
          case measure => simp [intOf]; omega
        · cases hn : (nd.name == s)
          · have HN2 := hide (noIn_succ (unhide HN) (by rw [unhide HU, hp, hn]; rfl))
            have hn2 : ((bs nd.name).toList == (bs s).toList) = false := by rw [names_eq]; exact hn
            clear hn
            go_wp2
            go_round
            case rel => exact ⟨k + 1, by omega, by go_num, HN2⟩
            case measure => simp [intOf]; omega
          · have hn2 : ((bs nd.name).toList == (bs s).toList) = true := by rw [names_eq]; exact hn
            clear hn
            go_wp2
            go_ret
            refine ⟨⟨own, rfl, ?_, ?_⟩, unhide HB⟩
            · rw [unhide HE, ← hdd]; exact own_name (unhide HS) id
            · rw [unhide HE]; exact unhide HOWN s (unhide HS)
      · go_wp2
        go_ret
        refine ⟨⟨s, rfl, word_name (unhide HS) id, ?_⟩, unhide HB⟩
        intro n hn hp e
        obtain ⟨j, hj, rfl⟩ := mem_ndAt hn
        have := unhide HN j (by omega) (by omega)
        unfold nmIs at this
        rw [hp, e] at this; simp at this
end Go.Proofs.YtdcjimlhaklhfaaDoor

namespace Go.Proofs.YtdcjimlhaklhfaaDoor
open Go.RowKit
theorem Tryd.infoSpot : (Tryd.prog.info? 46).map (fun i => (i.zero, i.size, i.bytes)) = some (some (.agg #[.int .i64 0, .int .i64 0, .string ByteArray.empty]), 3, 32) := by kernel_rfl
theorem Tryd.infoInt : (Tryd.prog.info? 3).map (fun i => (i.zero, i.size, i.bytes)) = some (some (.int .i64 0), 1, 8) := by kernel_rfl
def intV (x : Int) : Value := .int .i64 x
def FolderOf (ns : List Nd) (f : Int) : Prop := f = 0 ∨ (f % 2 = 0 ∧ ∃ n ∈ ns, n.id = f)
theorem own_first (w : World) (x : Int) (base : Nat) (hb : base ≤ w.heap.size) : (w.alloc (.cells #[.int .i64 x] 3)).ownsRow base 3 1 (.slice (some ⟨w.heap.size, 0, none⟩) 1 1) 1 [.int .i64 x] := by
  refine ⟨rfl, Or.inr ⟨w.heap.size, 1, #[.int .i64 x], rfl, hb, heap_alloc_new w _, Nat.le_refl _, by unfold maxLen; omega, rfl, rfl⟩⟩
set_option maxHeartbeats 2000000 in
theorem folders_any (ns : List Nd) (ao : Option Addr) (cap : Nat) (w : World) (hrow : Row w ao ns.length 3 (ndCells ns)) (hl : ns.length ≤ 4000) (hid : ∀ n ∈ ns, 0 ≤ n.id) :
    Calls Tryd.prog 33 #[.slice ao ns.length cap] w fun e w' => (∃ fs : List Int, ∃ ao' cap', e = .returned (.slice ao' fs.length cap') ∧ Row w' ao' fs.length 1 (fs.map intV) ∧ 1 ≤ fs.length ∧ fs.length ≤ ns.length + 1 ∧ ∀ f ∈ fs, FolderOf ns f) ∧ Below w.heap.size w w' := by
  obtain ⟨i0, hi, hz0, hz1, hz2⟩ := info_parts Tryd.infoInt
  have HROW := hide hrow
  have HID := hide hid
  clear hrow hid
  go_enter Tryd.func33, Tryd.ntmps33
  go_wp2
  go_loopw [3, 4] (fun v i wr => ∃ k : Nat, ∃ fs : List Int, k ≤ ns.length ∧ i = .int .i64 k ∧ wr.ownsRow w.heap.size 3 1 v fs.length (fs.map intV) ∧ Below w.heap.size w wr ∧ 1 ≤ fs.length ∧ fs.length ≤ k + 1 ∧ Hid (∀ f ∈ fs, FolderOf ns f)) (fun _ i _ => ns.length - (intOf i).toNat)
  case atStart => exact ⟨0, [0], Nat.zero_le _, rfl, own_first w 0 _ (Nat.le_refl _), (Below.refl _ _).alloc (Nat.le_refl _) _, by simp, by simp, hide (fun f hf => by simp at hf; exact .inl hf)⟩
  case round =>
    obtain ⟨k, fs, hk, rfl, hown, hbel, hf1, hf2, HF⟩ := hrel
    have hsz := hbel.size
    by_cases hlt : k < ns.length
    · obtain ⟨g, hao, hg, c0, _, _⟩ := nd_cells (unhide HROW) hbel hlt
      have hid0 := unhide HID _ (List.getElem_mem hlt)
      have hmem := List.getElem_mem hlt
      have HM := hide hmem
      rw [hao]
      clear hao hmem
      have ht : (ns[k]).id.tmod 2 = (ns[k]).id % 2 := Int.tmod_eq_emod_of_nonneg hid0
      generalize ns[k] = nd at *
      by_cases he : nd.id % 2 = 0
      · have he' : (nd.id % 2 == 0) = true := by simpa using he
        have HF2 : Hid (∀ f ∈ fs ++ [nd.id], FolderOf ns f) := hide (fun f hf => by
          rcases List.mem_append.1 hf with hf | hf
          · exact unhide HF f hf
          · simp at hf; exact .inr ⟨by rw [hf]; exact he, nd, unhide HM, hf.symm⟩)
        go_wp2_with (first
          | (at_builtin; (refine wpList_append_own _ rfl _ _ 35 rfl w.heap.size 3 i0 (.int .i64 0) 1 8 Tryd.underlying35 hi hz0 hz1 hz2 rfl (by decide) _ _ _ rfl (own_below hown ((Below.refl _ _).alloc (by simp) _)) ⟨wr.heap.size, 0, none⟩ 1 1 [.int .i64 nd.id] rfl rfl (news_one _ _) (by simp [Value.oneCell']) (by unfold maxLen; omega) (by omega) (by simp; omega) ?_))
          | go_in)
        intro v' w4 hown' hgrow _
        have hb4 : Below w.heap.size w w4 := (hbel.alloc (by omega) _).grown hgrow (by simp; omega) (own_ge hown)
        have hown2 : w4.ownsRow w.heap.size 3 1 v' (fs ++ [nd.id]).length ((fs ++ [nd.id]).map intV) := by rw [List.map_append, List.length_append]; exact hown'
        clear hgrow hown hbel hown' c0
        go_wp2
        go_roundw
        case rel => exact ⟨k + 1, _, by omega, by go_num, hown2, hb4, by simp, by simp; omega, HF2⟩
        case measure => simp [intOf]; omega
      · have he' : (nd.id % 2 == 0) = false := by simpa using he
        go_wp2
        go_roundw
        case rel => exact ⟨k + 1, fs, by omega, by go_num, hown, hbel, hf1, by omega, HF⟩
        case measure => simp [intOf]; omega
    · go_wp2
      go_ret
      obtain ⟨ao', cap', rfl, hr⟩ := row_of_owns hown
      exact ⟨⟨fs, ao', cap', rfl, hr, hf1, by omega, unhide HF⟩, hbel⟩
/-- The numbers that a tree is grown of, in memory. -/
def IntsAt (w : World) (ao : Option Addr) (len : Nat) : Prop :=
  0 < len → ∃ b off, ao = some ⟨b, off, none⟩ ∧ b < w.heap.size ∧ ∀ i, i < len → ∃ x : Int, -9223372036854775808 ≤ x ∧ x ≤ 9223372036854775807 ∧ w.cell? ⟨b, off + i, none⟩ = some (.int .i64 x)
theorem grow_step {ns : List Nd} {t : Tr} (hr : Rep ns t) (hv : Valid t) {id p : Int} {nm : Str} (h1 : 1 ≤ id) (h2 : id ≤ 99) (hno : ∀ n ∈ ns, n.id ≠ id) (hp : FolderOf ns p) (hn : isName nm id = true) (hfree : ∀ n ∈ ns, n.parent = p → n.name ≠ nm) :
    ∃ t', Rep (ns ++ [⟨id, p, nm⟩]) t' ∧ Valid t' := by
  have hpar : isParentT t p = true := by
    rcases hp with rfl | ⟨he, n, hn, rfl⟩
    · exact isParent_iff.2 (.inl rfl)
    · obtain ⟨i, hi⟩ := (rep_mem hr hv.ok).1 hn
      have := hv.ok.2 i n hi
      exact isParent_iff.2 (.inr ⟨he, n, by rw [show n.id.toNat = i by omega]; exact hi⟩)
  have hpb : 0 ≤ p ∧ p ≤ 99 := by
    rcases hp with rfl | ⟨_, n, hn, rfl⟩
    · omega
    · have := hr.ok n hn; exact ⟨by have := this.1; omega, this.2.1⟩
  have hN : NdOk ⟨id, p, nm⟩ := ⟨h1, h2, hpb.1, hpb.2, hn⟩
  have hl : layR ns ⟨id, p, nm⟩ true = ns ++ [⟨id, p, nm⟩] := by
    unfold layR
    rw [List.filter_eq_self.2 (fun n hn => by unfold otherB; rw [bne_iff_ne]; exact hno n hn)]; rfl
  refine ⟨trPut t ⟨id, p, nm⟩, by rw [← hl]; exact rep_put hr hv.ok hN, valid_put hv hN hpar (fun hh => ?_) (fun i m hm hp' hn' => ?_)⟩
  · exfalso
    obtain ⟨n, hn⟩ := hasT_iff.1 hh
    have hb := hv.ok.2 _ n hn
    have h1' : (1 : Int) ≤ id := h1
    have hid : n.id = id := by
      have := hb.1
      show n.id = id
      rw [this]; exact Int.toNat_of_nonneg (by omega)
    exact hno n ((rep_mem hr hv.ok).2 ⟨_, hn⟩) hid
  · exact absurd hn' (hfree m ((rep_mem hr hv.ok).2 ⟨i, hm⟩) hp')
theorem rep_nil : Rep [] tr0 := ⟨fun n m hn => by simp at hn, by simp, fun n hn => by simp at hn, fun i => rfl⟩
theorem valid_0 : Valid tr0 := ⟨trOk_0, fun i n h => (by cases h), fun i n h => (by cases h), fun i j n m h => (by cases h)⟩
theorem int_cell {w wr : World} {ao : Option Addr} {fs : List Int} (hrow : Row w ao fs.length 1 (fs.map intV)) (hb : Below w.heap.size w wr) {k : Nat} (hk : k < fs.length) :
    ∃ g, ao = some ⟨g, 0, none⟩ ∧ g < w.heap.size ∧ wr.cell? ⟨g, k, none⟩ = some (.int .i64 fs[k]) := by
  obtain ⟨g, h1, h2, h3⟩ := hrow.2 (by omega)
  refine ⟨g, h1, h2, ?_⟩
  rw [hb.cell (p := ⟨g, k, none⟩) h2]
  exact h3 k _ (by simp [hk, intV])
set_option maxHeartbeats 4000000 in
set_option maxRecDepth 100000 in
theorem grow_any (ao : Option Addr) (len cap : Nat) (w : World) (hin : IntsAt w ao len) (hlen : len ≤ 140737488355328) :
    Calls Tryd.prog 16 #[.slice ao len cap] w fun e w' => (∃ ns t ao' cap', e = .returned (.slice ao' ns.length cap') ∧ Row w' ao' ns.length 3 (ndCells ns) ∧ Rep ns t ∧ Valid t) ∧ Below w.heap.size w w' := by
  obtain ⟨i0, hi, hz0, hz1, hz2⟩ := info_parts Tryd.infoSpot
  have HIN := hide hin
  clear hin
  go_enter Tryd.func16, Tryd.ntmps16
  go_wp2
  go_loopw [3, 4] (fun v i wr => ∃ k : Nat, ∃ ns : List Nd, ∃ t : Tr, k ≤ len ∧ i = .int .i64 k ∧ wr.ownsRow w.heap.size 46 3 v ns.length (ndCells ns) ∧ Below w.heap.size w wr ∧ Hid (Rep ns t) ∧ Hid (Valid t)) (fun _ i _ => len - (intOf i).toNat)
  case atStart => exact ⟨0, [], tr0, Nat.zero_le _, rfl, World.ownsRow_nil _ _ _ _, Below.refl _ _, hide rep_nil, hide valid_0⟩
  case round =>
    obtain ⟨k, ns, t, hk, rfl, hown, hbel, HR, HV⟩ := hrel
    have hsz := hbel.size
    have hnl := rep_len (unhide HR)
    by_cases hlt : k < len
    · obtain ⟨b, off, hao, hb, hcells⟩ := unhide HIN (by omega)
      obtain ⟨x, hx0, hx1, hc⟩ := hcells k hlt
      clear hcells
      rw [← hbel.cell (p := ⟨b, _, none⟩) hb] at hc
      rw [hao]
      clear hao
      obtain ⟨so, sc, rfl, hsrow⟩ := row_of_owns hown
      have HPK := hide (fun W => pick_any x W hx0 hx1)
      have HSR := hide hsrow
      have HFI := hide (fun id W (h : Row W so ns.length 3 (ndCells ns)) => find_any ns id so sc W h (by omega))
      have HFO := hide (fun W (h : Row W so ns.length 3 (ndCells ns)) => folders_any ns so sc W h (by omega) (fun n hn => by have := ((unhide HR).ok n hn).1; omega))
      have HOWN := hide hown
      clear hown hsrow
      go_wp2_with fail
      refine (unhide HPK _).mono ?_
      rintro e w1 ⟨v, rfl, hv0, hv1, rfl⟩
      have t1 : v.tmod 99 = v % 99 := Int.tmod_eq_emod_of_nonneg hv0
      have t2 : v.tdiv 99 = v / 99 := Int.tdiv_eq_ediv_of_nonneg hv0
      have hq0 : 0 ≤ v / 99 := by omega
      have hq1 : v / 99 < 1099511627776 := by omega
      have hi1 : 1 ≤ 1 + v % 99 := by omega
      have hi2 : 1 + v % 99 ≤ 99 := by omega
      go_wp2_with fail
      generalize 1 + v % 99 = id at *
      generalize v / 99 = q at *
      clear t1 t2 hc
      refine (unhide HFI id _ (unhide HSR)).mono ?_
      rintro e w2 ⟨rfl, rfl⟩
      by_cases hf : findN ns id < ns.length
      · have q2 := (lookR_some hf).2
        rw [q2]
        have hfn : (0 : Int) ≤ findN ns id := by omega
        generalize findN ns id = fn at *
        clear q2 hf
        go_wp2
        go_roundw
        case rel => exact ⟨k + 1, ns, t, by omega, by go_num, unhide HOWN, hbel, HR, HV⟩
        case measure => simp [intOf]; omega
      · obtain ⟨q1, q2⟩ := lookR_none hf
        rw [q2]
        have HNO := hide (lookR_no q1)
        clear q1 q2 hf
        go_wp2_with fail
        refine (unhide HFO _ (unhide HSR)).mono ?_
        rintro e w3 ⟨⟨fs, fo, fc, rfl, hfr, hf1, hf2, hff⟩, hb3⟩
        have t3 : q.tmod (fs.length : Int) = q % (fs.length : Int) := Int.tmod_eq_emod_of_nonneg hq0
        have t4 : q.tdiv (fs.length : Int) = q / (fs.length : Int) := Int.tdiv_eq_ediv_of_nonneg hq0
        have hr0 : 0 ≤ q % (fs.length : Int) := Int.emod_nonneg _ (by omega)
        have hr1 : q % (fs.length : Int) < fs.length := Int.emod_lt_of_pos _ (by omega)
        obtain ⟨j, hj⟩ := Int.eq_ofNat_of_zero_le hr0
        have hjl : j < fs.length := by omega
        obtain ⟨fg, hfo, hfg, hfc⟩ := int_cell hfr (Below.refl _ _) hjl
        have hFol := hff _ (List.getElem_mem hjl)
        have hd0 : 0 ≤ q / (fs.length : Int) := Int.ediv_nonneg hq0 (by omega)
        have hd1 : q / (fs.length : Int) < 1099511627776 := by
          have := Int.ediv_le_self (fs.length : Int) hq0; omega
        rw [hj] at t3
        have hfl : ¬ (fs.length : Int) = 0 := by omega
        have hj1 : (j : Int) < fs.length := by omega
        have HB3 := hide (hbel.trans (hb3.mono hsz))
        have HSR3 := hide (Row.below (unhide HSR) hb3)
        have HOWN3 := hide (own_below (unhide HOWN) hb3)
        have hz3 := hb3.size
        have HFol := hide hFol
        rw [hfo]
        clear hff hfr hb3 hFol hfo hj hr0 hr1
        generalize q / (fs.length : Int) = d at *
        generalize fs[j] = p at *
        have HNM := hide (fun W (h : Row W so ns.length 3 (ndCells ns)) => named_any ns id p d so sc W h (by omega) (unhide HR).ok (unhide HNO) hi1 hi2 hd0 hd1)
        go_wp2_with fail
        refine (unhide HNM _ (unhide HSR3)).mono ?_
        rintro e w4 ⟨⟨nm, rfl, hn1, hn2⟩, hb4⟩
        obtain ⟨t', hR', hV'⟩ := grow_step (unhide HR) (unhide HV) hi1 hi2 (unhide HNO) (unhide HFol) hn1 hn2
        have HR' := hide hR'
        have HV' := hide hV'
        have HB4 := hide ((unhide HB3).trans (hb4.mono (unhide HB3).size))
        have HOWN4 := hide (own_below (unhide HOWN3) hb4)
        have hz4 := hb4.size
        clear hn1 hn2 hb4 hR' hV' hfc
        go_wp2_with (first
          | (at_builtin; (refine wpList_append_own _ rfl _ _ 41 rfl w.heap.size 46 i0 (.agg #[.int .i64 0, .int .i64 0, .string ByteArray.empty]) 3 32 Tryd.underlying41 hi hz0 hz1 hz2 rfl (by decide) _ _ _ rfl (own_below (unhide HOWN4) ((Below.refl _ _).alloc (by simp) _)) ⟨w4.heap.size, 0, none⟩ 1 1 [.int .i64 id, .int .i64 p, .string (bs nm)] rfl rfl (news_three _ _ _ _) (by simp [Value.oneCell']) (by unfold maxLen; omega) (by omega) (by simp; omega) ?_))
          | go_in)
        intro v' w5 hown' hgrow _
        have hb5 : Below w.heap.size w w5 := ((unhide HB4).alloc (by omega) _).grown hgrow (by simp; omega) (own_ge (unhide HOWN4))
        have hown2 : w5.ownsRow w.heap.size 46 3 v' (ns ++ [(⟨id, p, nm⟩ : Nd)]).length (ndCells (ns ++ [(⟨id, p, nm⟩ : Nd)])) := by rw [ndCells_snoc, List.length_append]; exact hown'
        clear hgrow hown' hbel
        go_wp2
        go_roundw
        case rel => exact ⟨k + 1, _, t', by omega, by go_num, hown2, hb5, HR', HV'⟩
        case measure => simp [intOf]; omega
    · obtain ⟨ao', cap', rfl, hr⟩ := row_of_owns hown
      have HRO := hide hr
      clear hr hown
      go_wp2
      go_ret
      exact ⟨⟨ns, t, ao', cap', rfl, unhide HRO, unhide HR, unhide HV⟩, hbel⟩
theorem grown_any (ao : Option Addr) (len cap : Nat) (w : World) (hin : IntsAt w ao len) (hlen : len ≤ 140737488355328) :
    Calls Tryd.prog 13 #[.slice ao len cap] w fun e w' => (∃ t, e = .returned (.string (bs (textT t))) ∧ Valid t) ∧ Below w.heap.size w w' := by
  have HG := hide (grow_any ao len cap w hin hlen)
  clear hin
  go_enter Tryd.func13, Tryd.ntmps13
  go_wp2_with fail
  refine (unhide HG).mono ?_
  rintro e w1 ⟨⟨ns, t, ao', cap', rfl, hrow, hR, hV⟩, hb1⟩
  have et : trOf ns = t := funext hR.look
  have HT := hide (print_any ns ao' cap' w1 hrow (by have := rep_len hR; omega) (by rw [et]; exact hV.ok))
  rw [et] at HT
  have HV := hide hV
  clear hrow hR hV et
  go_wp2_with fail
  refine (unhide HT).mono ?_
  rintro e w2 ⟨rfl, hb2⟩
  go_wp2
  go_ret
  exact ⟨⟨t, rfl, unhide HV⟩, hb1.trans (hb2.mono hb1.size)⟩
theorem right_any (t : Tr) (w : World) (hv : Valid t) :
    Calls Tryd.prog 14 #[.string (bs (textT t))] w fun e w' => e = .returned (.bool true) ∧ Below w.heap.size w w' := by
  have HC := hide (check_any (bs (textT t)) w)
  rw [sl_bs, (check_text hv).1] at HC
  go_enter Tryd.func14, Tryd.ntmps14
  go_wp2_with fail
  refine (unhide HC).mono ?_
  rintro e w1 ⟨rfl, hb1⟩
  go_wp2
  go_ret
  exact ⟨rfl, hb1⟩
end Go.Proofs.YtdcjimlhaklhfaaDoor

namespace Go.Proofs.YtdcjimlhaklhfaaDoor
open Go.RowKit
/-! A tree that lies somewhere in a block. -/
def CellsAt (w : World) (b o : Nat) (t : Tr) : Prop := ∀ j, j < 400 → w.cell? ⟨b, o + j, none⟩ = (treeCells t)[j]?
theorem CellsAt.below {w w' : World} {b o : Nat} {t : Tr} (h : CellsAt w b o t) (hb : Below w.heap.size w w') (hlt : b < w.heap.size) : CellsAt w' b o t := by
  intro j hj
  rw [hb.cell (p := ⟨b, o + j, none⟩) hlt]; exact h j hj
theorem CellsAt.node {w : World} {b o : Nat} {t : Tr} (h : CellsAt w b o t) (m : Nat) (hm : m < 100) :
    w.cell? ⟨b, o + 100 + m * 3, none⟩ = some (.int .i64 ((t m).getD nd0).id) ∧ w.cell? ⟨b, o + 100 + m * 3 + 1, none⟩ = some (.int .i64 ((t m).getD nd0).parent) ∧ w.cell? ⟨b, o + 100 + m * 3 + 2, none⟩ = some (.string (bs ((t m).getD nd0).name)) := by
  obtain ⟨t1, t2, t3⟩ := treeCells_node t m hm
  refine ⟨?_, ?_, ?_⟩
  · rw [show o + 100 + m * 3 = o + (100 + m * 3) by omega, h _ (by omega), t1]
  · rw [show o + 100 + m * 3 + 1 = o + (100 + m * 3 + 1) by omega, h _ (by omega), t2]
  · rw [show o + 100 + m * 3 + 2 = o + (100 + m * 3 + 2) by omega, h _ (by omega), t3]
set_option maxHeartbeats 400000 in
theorem hasAt_nat (t : Tr) (b o m : Nat) (w : World) (ht : TrOk t) (hm : m ≤ 99) (hT : CellsAt w b o t) :
    Calls Tryd.prog 77 #[.pointer (some ⟨b, o, none⟩), .int .i64 m] w fun e w' => e = .returned (.bool (t m).isSome) ∧ w' = w := by
  have hcell := (hT m (by omega)).trans (treeCells_here t m (by omega))
  have HT0 := hide ht.1
  clear hT ht
  by_cases h1 : 1 ≤ m
  · go_enter Tryd.func77, Tryd.ntmps77
    go_wp2
    go_ret
    exact ⟨rfl, rfl⟩
  · have hm0 : m = 0 := by omega
    subst hm0
    go_enter Tryd.func77, Tryd.ntmps77
    go_wp2
    go_ret
    exact ⟨by rw [unhide HT0]; rfl, rfl⟩
def ndV (n : Nd) : Value := .agg #[.int .i64 n.id, .int .i64 n.parent, .string (bs n.name)]
set_option maxHeartbeats 400000 in
theorem get_nat (t : Tr) (b o m : Nat) (w : World) (ht : TrOk t) (hm : m ≤ 99) (hT : CellsAt w b o t) (hlt : b < w.heap.size) :
    Calls Tryd.prog 87 #[.pointer (some ⟨b, o, none⟩), .int .i64 m] w fun e w' => e = .returned (.agg #[.int .i64 ((t m).getD nd0).id, .int .i64 ((t m).getD nd0).parent, .string (bs ((t m).getD nd0).name)]) ∧ Below w.heap.size w w' := by
  have hb1 := (Below.refl w.heap.size w).alloc (Nat.le_refl _) (.cells #[.int .i64 0, .int .i64 0, .string ByteArray.empty] 56)
  have HH := hide (hasAt_nat t b o m _ ht hm (hT.below hb1 hlt))
  obtain ⟨c1, c2, c3⟩ := hT.node m (by omega)
  have hne : ¬ b = w.heap.size := by omega
  have hm0 : (0 : Int) ≤ m := by omega
  have HB := hide hb1
  clear hT ht hb1
  cases hq : t m with
  | none =>
    rw [hq] at HH c1 c2 c3
    clear hq
    go_enter Tryd.func87, Tryd.ntmps87
    go_wp2_with fail
    refine (unhide HH).mono ?_
    rintro e w1 ⟨rfl, rfl⟩
    go_wp2
    refine bodyPost_ret (v := .agg #[.int .i64 0, .int .i64 0, .string ByteArray.empty]) (by simp [results, Tryd.results87, go_sem]; rfl) rfl ⟨rfl, ?_⟩
    exact unhide HB
  | some n =>
    rw [hq] at HH c1 c2 c3
    clear hq
    go_enter Tryd.func87, Tryd.ntmps87
    go_wp2_with fail
    refine (unhide HH).mono ?_
    rintro e w1 ⟨rfl, rfl⟩
    go_wp2
    refine bodyPost_ret (v := .agg #[.int .i64 n.id, .int .i64 n.parent, .string (bs n.name)]) (by simp [results, Tryd.results87, go_sem]) rfl ⟨rfl, ?_⟩
    exact (Below.refl w.heap.size w).alloc (Nat.le_refl _) _
end Go.Proofs.YtdcjimlhaklhfaaDoor

namespace Go.Proofs.YtdcjimlhaklhfaaDoor
open Go.RowKit
/-! The plan in memory: the tree as it is by now, the goal, the steps done. -/
def planX (g : Tr) (v : Value) : Ext := ⟨treeCells g ++ [v], 97⟩
theorem plan_now {x : Ext} {w : World} {b : Nat} {a : Tr} (h : TreeAt x w b a) : CellsAt w b 0 a := by
  intro j hj; rw [Nat.zero_add]; exact h.cell j hj
theorem plan_goal {w : World} {b : Nat} {a g : Tr} {v : Value} (h : TreeAt (planX g v) w b a) : CellsAt w b 400 g := by
  intro j hj
  rw [cell_of_row w b (400 + j) _ _ (0, 0) h]
  simp only [List.getElem?_toArray, planX]
  rw [List.getElem?_append_right (by rw [treeCells_length]; omega), treeCells_length, List.getElem?_append_left (by rw [treeCells_length]; omega), Nat.add_sub_cancel_left]
theorem plan_done {w : World} {b : Nat} {a g : Tr} {v : Value} (h : TreeAt (planX g v) w b a) : w.cell? ⟨b, 800, none⟩ = some v := by
  rw [cell_of_row w b 800 _ _ (0, 0) h]
  simp only [List.getElem?_toArray, planX]
  rw [List.getElem?_append_right (by rw [treeCells_length]; omega), treeCells_length, List.getElem?_append_right (by rw [treeCells_length]; omega), treeCells_length]; rfl
theorem nd_neq' (m n : Nd) : ((m.id == n.id) && ((m.parent == n.parent) && ((bs m.name).toList == (bs n.name).toList))) = ndEq m n := by
  unfold ndEq; rw [names_eq]
theorem Tryd.tnodeGuard : Tryd.prog.eqGuardType Tryd.prog.depth 56 = false := by kernel_rfl
theorem Tryd.tnodeHeld : Tryd.prog.stoodInHeld 56 = false := by kernel_rfl
theorem tnode_eq_run (m n : Nd) (W : World) : (Op.equalIn 10000 56 (.agg #[.int .i64 m.id, .int .i64 m.parent, .string (bs m.name)]) (.agg #[.int .i64 n.id, .int .i64 n.parent, .string (bs n.name)])).run Tryd.prog W = .ok (ndEq m n) W := by
  rw [run_equalIn_agg W 9999 56 _ _ (by simp [Program.fieldsOf, Tryd.underlying56]) Tryd.tnodeHeld]
  simp [Program.fieldsOf, Tryd.underlying56, Op.eqFields, go_sem]
  rw [← nd_neq']
  by_cases h1 : m.id = n.id <;> by_cases h2 : m.parent = n.parent <;> by_cases h3 : (bs m.name).toList = (bs n.name).toList <;> simp [h1, h2, h3]
def stV (s : St) : Value := .agg #[.int .u8 s.kind.toNat, .int .i64 s.node.id, .int .i64 s.node.parent, .string (bs s.node.name)]
def stZ : St := ⟨0, nd0⟩
def homeV (a g : Tr) (id : Int) : St := (homeS a g id).getD stZ
theorem home_split {a g : Tr} (ha : TrOk a) (hg : TrOk g) (m : Nat) :
    (ndEq ((a m).getD nd0) ((g m).getD nd0) = true ∧ homeS a g m = none) ∨
    (ndEq ((a m).getD nd0) ((g m).getD nd0) = false ∧ (g m).isSome = false ∧ homeS a g m = some ⟨45, ⟨m, 0, []⟩⟩) ∨
    (ndEq ((a m).getD nd0) ((g m).getD nd0) = false ∧ (g m).isSome = true ∧ (a m).isSome = false ∧ homeS a g m = some ⟨43, (g m).getD nd0⟩) ∨
    (ndEq ((a m).getD nd0) ((g m).getD nd0) = false ∧ (g m).isSome = true ∧ (a m).isSome = true ∧ homeS a g m = some ⟨61, (g m).getD nd0⟩) := by
  have hz : ∀ t : Tr, TrOk t → ∀ n, t m = some n → n ≠ nd0 := by
    intro t ht n hn e
    have := ht.2 m n hn
    rw [e] at this
    have h0 : nd0.id = 0 := rfl
    omega
  cases h1 : a m with
  | none =>
    cases h2 : g m with
    | none => exact .inl ⟨ndEq_iff.2 rfl, home_none.2 (by simp [h1, h2])⟩
    | some n =>
      refine .inr (.inr (.inl ⟨?_, rfl, rfl, home_new (by simpa using h1) (by simpa using h2)⟩))
      cases hq : ndEq ((none : Option Nd).getD nd0) ((some n).getD nd0)
      · rfl
      · exact absurd (ndEq_iff.1 hq).symm (hz g hg n h2)
  | some k =>
    cases h2 : g m with
    | none =>
      refine .inr (.inl ⟨?_, rfl, home_del (by simpa using h1) (by simpa using h2)⟩)
      cases hq : ndEq ((some k).getD nd0) ((none : Option Nd).getD nd0)
      · rfl
      · exact absurd (ndEq_iff.1 hq) (hz a ha k h1)
    | some n =>
      cases hq : ndEq k n
      · exact .inr (.inr (.inr ⟨hq, rfl, rfl, home_move (by simpa using h1) (by simpa using h2) (fun e => by have := ndEq_iff.2 e; rw [show ndEq k ((some n).getD nd0) = ndEq k n from rfl, hq] at this; cases this)⟩))
      · exact .inl ⟨hq, home_none.2 (by simp [h1, h2, ndEq_iff.1 hq])⟩
set_option maxHeartbeats 4000000 in
set_option maxRecDepth 100000 in
theorem home_nat (a g : Tr) (b m : Nat) (v : Value) (w : World) (ha : TrOk a) (hg : TrOk g) (hm : m ≤ 99) (hT : TreeAt (planX g v) w b a) :
    Calls Tryd.prog 70 #[.pointer (some ⟨b, 0, none⟩), .int .i64 m] w fun e w' => e = .returned (.tuple #[stV (homeV a g m), .bool (homeS a g m).isSome]) ∧ Below w.heap.size w w' := by
  have hlt := hT.lt
  have HC1 := hide (plan_now hT)
  have HC2 := hide (plan_goal hT)
  have HG1 := hide (fun W (h : Below w.heap.size w W) => get_nat a b 0 m W ha hm ((unhide HC1).below h hlt) (by have := h.size; omega))
  have HG2 := hide (fun W (h : Below w.heap.size w W) => get_nat g b 400 m W hg hm ((unhide HC2).below h hlt) (by have := h.size; omega))
  have HH1 := hide (fun W (h : Below w.heap.size w W) => hasAt_nat a b 0 m W ha hm ((unhide HC1).below h hlt))
  have HH2 := hide (fun W (h : Below w.heap.size w W) => hasAt_nat g b 400 m W hg hm ((unhide HC2).below h hlt))
  have hs := home_split ha hg m
  have HV : Hid (homeV a g m = (homeS a g m).getD stZ) := hide rfl
  clear hT ha hg HC1 HC2
  generalize homeV a g m = hv at *
  generalize homeS a g m = hS at *
  have hne := tnode_eq_run ((a m).getD nd0) ((g m).getD nd0)
  have hgd := Tryd.tnodeGuard
  rcases hs with ⟨q1, q2⟩ | ⟨q1, q3, q2⟩ | ⟨q1, q3, q4, q2⟩ | ⟨q1, q3, q4, q2⟩
  · rw [q1] at hne
    subst q2
    generalize (a m).getD nd0 = A0 at *
    generalize (g m).getD nd0 = G0 at *
    go_enter Tryd.func70, Tryd.ntmps70
    go_wp2_with fail
    have hb1 := (Below.refl w.heap.size w).alloc (Nat.le_refl _) (.cells #[.int .u8 0, .int .i64 0, .int .i64 0, .string ByteArray.empty] 83)
    refine (unhide HG1 _ hb1).mono ?_
    rintro e w1 ⟨rfl, hb2⟩
    have hz2 := hb2.size
    simp at hz2
    have hb3 : Below w.heap.size w w1 := hb1.trans (hb2.mono (by simp))
    have hb5 := hb3.alloc (by omega) (.cells #[.int .i64 A0.id, .int .i64 A0.parent, .string (bs A0.name)] 56)
    go_wp2_with fail
    refine (unhide HG2 _ hb5).mono ?_
    rintro e w2 ⟨rfl, hb4⟩
    have hz4 := hb4.size
    simp at hz4
    have hc1 : ∀ o, w2.cell? ⟨w1.heap.size, o, none⟩ = _ := fun o => hb4.cell (p := ⟨w1.heap.size, o, none⟩) (by simp)
    have hb6 := hb2.trans ((((Below.refl _ w1).alloc (Nat.le_refl _) _).trans (hb4.mono (by simp))).mono hb2.size)
    have hc2 : ∀ o, w2.cell? ⟨w.heap.size, o, none⟩ = _ := fun o => hb6.cell (p := ⟨w.heap.size, o, none⟩) (by simp)
    have hf2 : ∀ o, w2.frozen? ⟨w.heap.size, o, none⟩ = _ := fun o => hb6.frozen (p := ⟨w.heap.size, o, none⟩) (by simp)
    have hb7 : Below w.heap.size w w2 := hb5.trans (hb4.mono (by simp; omega))
    have hn1 : ¬ w.heap.size = w2.heap.size := by omega
    have hn2 : ¬ w1.heap.size = w2.heap.size := by omega
    have hn3 : w.heap.size < w2.heap.size := by omega
    have hn4 : w1.heap.size < w2.heap.size := by omega
    have HB7 := hide hb7
    clear hb1 hb2 hb3 hb4 hb5 hb6 hb7
    go_wp2
    refine bodyPost_ret (v := .tuple #[.agg #[.int .u8 0, .int .i64 0, .int .i64 0, .string ByteArray.empty], .bool false]) (by simp [results, Tryd.results70, go_sem, hc2, hn3]; rfl) rfl ⟨by rw [unhide HV]; rfl, ?_⟩
    exact (((((unhide HB7).setCell (Nat.le_refl _) _).setCell (Nat.le_refl _) _).setCell (Nat.le_refl _) _).setCell (Nat.le_refl _) _).alloc (by simp; omega) _
  · rw [q1] at hne
    rw [q3] at HH2
    subst q2
    generalize (a m).getD nd0 = A0 at *
    generalize (g m).getD nd0 = G0 at *
    go_enter Tryd.func70, Tryd.ntmps70
    go_wp2_with fail
    have hb1 := (Below.refl w.heap.size w).alloc (Nat.le_refl _) (.cells #[.int .u8 0, .int .i64 0, .int .i64 0, .string ByteArray.empty] 83)
    refine (unhide HG1 _ hb1).mono ?_
    rintro e w1 ⟨rfl, hb2⟩
    have hz2 := hb2.size
    simp at hz2
    have hb3 : Below w.heap.size w w1 := hb1.trans (hb2.mono (by simp))
    have hb5 := hb3.alloc (by omega) (.cells #[.int .i64 A0.id, .int .i64 A0.parent, .string (bs A0.name)] 56)
    go_wp2_with fail
    refine (unhide HG2 _ hb5).mono ?_
    rintro e w2 ⟨rfl, hb4⟩
    have hz4 := hb4.size
    simp at hz4
    have hc1 : ∀ o, w2.cell? ⟨w1.heap.size, o, none⟩ = _ := fun o => hb4.cell (p := ⟨w1.heap.size, o, none⟩) (by simp)
    have hb6 := hb2.trans ((((Below.refl _ w1).alloc (Nat.le_refl _) _).trans (hb4.mono (by simp))).mono hb2.size)
    have hc2 : ∀ o, w2.cell? ⟨w.heap.size, o, none⟩ = _ := fun o => hb6.cell (p := ⟨w.heap.size, o, none⟩) (by simp)
    have hf2 : ∀ o, w2.frozen? ⟨w.heap.size, o, none⟩ = _ := fun o => hb6.frozen (p := ⟨w.heap.size, o, none⟩) (by simp)
    have hb7 : Below w.heap.size w w2 := hb5.trans (hb4.mono (by simp; omega))
    have hn1 : ¬ w.heap.size = w2.heap.size := by omega
    have hn2 : ¬ w1.heap.size = w2.heap.size := by omega
    have hn3 : w.heap.size < w2.heap.size := by omega
    have hn4 : w1.heap.size < w2.heap.size := by omega
    have HB7 := hide hb7
    clear hb1 hb2 hb3 hb4 hb5 hb6 hb7
    go_wp2_with fail
    refine (unhide HH2 _ ((unhide HB7).alloc (by omega) _)).mono ?_
    rintro e w3 ⟨rfl, rfl⟩
    go_wp2
    refine bodyPost_ret (v := .tuple #[.agg #[.int .u8 45, .int .i64 m, .int .i64 0, .string ByteArray.empty], .bool true]) (by simp [results, Tryd.results70, go_sem, hc2, hn3]; rfl) rfl ⟨by rw [unhide HV]; rfl, ?_⟩
    exact (((((unhide HB7).setCell (Nat.le_refl _) _).setCell (Nat.le_refl _) _).setCell (Nat.le_refl _) _).setCell (Nat.le_refl _) _).alloc (by simp; omega) _
  · rw [q1] at hne
    rw [q3] at HH2
    rw [q4] at HH1
    subst q2
    generalize (a m).getD nd0 = A0 at *
    generalize (g m).getD nd0 = G0 at *
    go_enter Tryd.func70, Tryd.ntmps70
    go_wp2_with fail
    have hb1 := (Below.refl w.heap.size w).alloc (Nat.le_refl _) (.cells #[.int .u8 0, .int .i64 0, .int .i64 0, .string ByteArray.empty] 83)
    refine (unhide HG1 _ hb1).mono ?_
    rintro e w1 ⟨rfl, hb2⟩
    have hz2 := hb2.size
    simp at hz2
    have hb3 : Below w.heap.size w w1 := hb1.trans (hb2.mono (by simp))
    have hb5 := hb3.alloc (by omega) (.cells #[.int .i64 A0.id, .int .i64 A0.parent, .string (bs A0.name)] 56)
    go_wp2_with fail
    refine (unhide HG2 _ hb5).mono ?_
    rintro e w2 ⟨rfl, hb4⟩
    have hz4 := hb4.size
    simp at hz4
    have hc1 : ∀ o, w2.cell? ⟨w1.heap.size, o, none⟩ = _ := fun o => hb4.cell (p := ⟨w1.heap.size, o, none⟩) (by simp)
    have hb6 := hb2.trans ((((Below.refl _ w1).alloc (Nat.le_refl _) _).trans (hb4.mono (by simp))).mono hb2.size)
    have hc2 : ∀ o, w2.cell? ⟨w.heap.size, o, none⟩ = _ := fun o => hb6.cell (p := ⟨w.heap.size, o, none⟩) (by simp)
    have hf2 : ∀ o, w2.frozen? ⟨w.heap.size, o, none⟩ = _ := fun o => hb6.frozen (p := ⟨w.heap.size, o, none⟩) (by simp)
    have hb7 : Below w.heap.size w w2 := hb5.trans (hb4.mono (by simp; omega))
    have hn1 : ¬ w.heap.size = w2.heap.size := by omega
    have hn2 : ¬ w1.heap.size = w2.heap.size := by omega
    have hn3 : w.heap.size < w2.heap.size := by omega
    have hn4 : w1.heap.size < w2.heap.size := by omega
    have HB7 := hide hb7
    clear hb1 hb2 hb3 hb4 hb5 hb6 hb7
    go_wp2_with fail
    refine (unhide HH2 _ ((unhide HB7).alloc (by omega) _)).mono ?_
    rintro e w3 ⟨rfl, rfl⟩
    go_wp2_with fail
    refine (unhide HH1 _ ((unhide HB7).alloc (by omega) _)).mono ?_
    rintro e w3 ⟨rfl, rfl⟩
    go_wp2
    refine bodyPost_ret (v := .tuple #[.agg #[.int .u8 43, .int .i64 G0.id, .int .i64 G0.parent, .string (bs G0.name)], .bool true]) (by simp [results, Tryd.results70, go_sem, hc2, hn3]) rfl ⟨by rw [unhide HV]; rfl, ?_⟩
    exact (((((unhide HB7).setCell (Nat.le_refl _) _).setCell (Nat.le_refl _) _).setCell (Nat.le_refl _) _).setCell (Nat.le_refl _) _).alloc (by simp; omega) _
  · rw [q1] at hne
    rw [q3] at HH2
    rw [q4] at HH1
    subst q2
    generalize (a m).getD nd0 = A0 at *
    generalize (g m).getD nd0 = G0 at *
    go_enter Tryd.func70, Tryd.ntmps70
    go_wp2_with fail
    have hb1 := (Below.refl w.heap.size w).alloc (Nat.le_refl _) (.cells #[.int .u8 0, .int .i64 0, .int .i64 0, .string ByteArray.empty] 83)
    refine (unhide HG1 _ hb1).mono ?_
    rintro e w1 ⟨rfl, hb2⟩
    have hz2 := hb2.size
    simp at hz2
    have hb3 : Below w.heap.size w w1 := hb1.trans (hb2.mono (by simp))
    have hb5 := hb3.alloc (by omega) (.cells #[.int .i64 A0.id, .int .i64 A0.parent, .string (bs A0.name)] 56)
    go_wp2_with fail
    refine (unhide HG2 _ hb5).mono ?_
    rintro e w2 ⟨rfl, hb4⟩
    have hz4 := hb4.size
    simp at hz4
    have hc1 : ∀ o, w2.cell? ⟨w1.heap.size, o, none⟩ = _ := fun o => hb4.cell (p := ⟨w1.heap.size, o, none⟩) (by simp)
    have hb6 := hb2.trans ((((Below.refl _ w1).alloc (Nat.le_refl _) _).trans (hb4.mono (by simp))).mono hb2.size)
    have hc2 : ∀ o, w2.cell? ⟨w.heap.size, o, none⟩ = _ := fun o => hb6.cell (p := ⟨w.heap.size, o, none⟩) (by simp)
    have hf2 : ∀ o, w2.frozen? ⟨w.heap.size, o, none⟩ = _ := fun o => hb6.frozen (p := ⟨w.heap.size, o, none⟩) (by simp)
    have hb7 : Below w.heap.size w w2 := hb5.trans (hb4.mono (by simp; omega))
    have hn1 : ¬ w.heap.size = w2.heap.size := by omega
    have hn2 : ¬ w1.heap.size = w2.heap.size := by omega
    have hn3 : w.heap.size < w2.heap.size := by omega
    have hn4 : w1.heap.size < w2.heap.size := by omega
    have HB7 := hide hb7
    clear hb1 hb2 hb3 hb4 hb5 hb6 hb7
    go_wp2_with fail
    refine (unhide HH2 _ ((unhide HB7).alloc (by omega) _)).mono ?_
    rintro e w3 ⟨rfl, rfl⟩
    go_wp2_with fail
    refine (unhide HH1 _ ((unhide HB7).alloc (by omega) _)).mono ?_
    rintro e w3 ⟨rfl, rfl⟩
    go_wp2
    refine bodyPost_ret (v := .tuple #[.agg #[.int .u8 61, .int .i64 G0.id, .int .i64 G0.parent, .string (bs G0.name)], .bool true]) (by simp [results, Tryd.results70, go_sem, hc2, hn3]) rfl ⟨by rw [unhide HV]; rfl, ?_⟩
    exact (((((unhide HB7).setCell (Nat.le_refl _) _).setCell (Nat.le_refl _) _).setCell (Nat.le_refl _) _).setCell (Nat.le_refl _) _).alloc (by simp; omega) _
end Go.Proofs.YtdcjimlhaklhfaaDoor

namespace Go.Proofs.YtdcjimlhaklhfaaDoor
open Go.RowKit
/-- What is laid into a slot, by another name. -/
theorem put_as {K : Act → World → Prop} {a : Act} {d : Option Nat} {v v' : Value} {w : World} (h : v = v') (k : K (a.put d v') w) : K (a.put d v) w := h ▸ k
theorem home_any (a g : Tr) (b : Nat) (id : Int) (v : Value) (w : World) (ha : TrOk a) (hg : TrOk g) (h0 : 0 ≤ id) (h1 : id ≤ 99) (hT : TreeAt (planX g v) w b a) :
    Calls Tryd.prog 70 #[.pointer (some ⟨b, 0, none⟩), .int .i64 id] w fun e w' => e = .returned (.tuple #[.agg #[.int .u8 (homeV a g id).kind.toNat, .int .i64 (homeV a g id).node.id, .int .i64 (homeV a g id).node.parent, .string (bs (homeV a g id).node.name)], .bool (homeS a g id).isSome]) ∧ Below w.heap.size w w' := by
  obtain ⟨m, rfl⟩ := Int.eq_ofNat_of_zero_le h0
  exact home_nat a g b m v w ha hg (by omega) hT
theorem get_any (t : Tr) (b o : Nat) (id : Int) (w : World) (ht : TrOk t) (h0 : 0 ≤ id) (h1 : id ≤ 99) (hT : CellsAt w b o t) (hlt : b < w.heap.size) :
    Calls Tryd.prog 87 #[.pointer (some ⟨b, o, none⟩), .int .i64 id] w fun e w' => e = .returned (.agg #[.int .i64 (getT t id).id, .int .i64 (getT t id).parent, .string (bs (getT t id).name)]) ∧ Below w.heap.size w w' := by
  obtain ⟨m, rfl⟩ := Int.eq_ofNat_of_zero_le h0
  exact get_nat t b o m w ht (by omega) hT hlt
theorem getT_parent {t : Tr} (ht : TrOk t) (id : Int) : 0 ≤ (getT t id).parent ∧ (getT t id).parent ≤ 99 := by
  unfold getT
  cases h : t id.toNat with
  | none => simp [nd0]
  | some n => have := ht.2 _ n h; exact ⟨this.2.2.2.1, this.2.2.2.2.1⟩
theorem fromAway_hit {a g : Tr} {f : Nat} {m : Int} (h : (homeS a g m).isSome = true) : fromAwayF a g (f + 1) m = m := by rw [fromAwayF, if_pos h]
theorem fromAway_go {a g : Tr} {f : Nat} {m : Int} (h : (homeS a g m).isSome = false) : fromAwayF a g (f + 1) m = fromAwayF a g f (getT a m).parent := by rw [fromAwayF, if_neg (by rw [h]; simp)]
set_option maxHeartbeats 2000000 in
set_option maxRecDepth 100000 in
theorem fromAway_any (a g : Tr) (b : Nat) (id : Int) (v : Value) (w : World) (ha : TrOk a) (hg : TrOk g) (h0 : 0 ≤ id) (h1 : id ≤ 99) (hT : TreeAt (planX g v) w b a) :
    Calls Tryd.prog 100 #[.pointer (some ⟨b, 0, none⟩), .int .i64 id] w fun e w' => e = .returned (.int .i64 (fromAwayF a g 99 id)) ∧ Below w.heap.size w w' := by
  have HT := hide hT
  have hlt := hT.lt
  generalize hF : fromAwayF a g 99 id = F
  have HF : Hid (F = fromAwayF a g 99 id) := hide hF.symm
  have HH := hide (fun W (m : Int) (q0 : 0 ≤ m) (q1 : m ≤ 99) (h : Below w.heap.size w W) => home_any a g b m v W ha hg q0 q1 (hT.below h))
  have HG := hide (fun W (m : Int) (q0 : 0 ≤ m) (q1 : m ≤ 99) (h : Below w.heap.size w W) => get_any a b 0 m W ha q0 q1 (plan_now (hT.below h)) (by have := h.size; omega))
  have HP := hide (fun m => getT_parent ha m)
  clear hT ha hg hF
  go_enter Tryd.func100, Tryd.ntmps100
  go_wp2
  go_loopw [1, 5] (fun d i wr => ∃ k : Nat, ∃ m : Int, k ≤ 99 ∧ i = .int .i64 k ∧ d = .int .i64 m ∧ 0 ≤ m ∧ m ≤ 99 ∧ Below w.heap.size w wr ∧ Hid (F = fromAwayF a g (99 - k) m)) (fun _ i _ => 100 - (intOf i).toNat)
  case atStart => exact ⟨0, id, by omega, rfl, rfl, h0, h1, Below.refl _ _, HF⟩
  case round =>
    obtain ⟨k, m, hk, rfl, rfl, hm0, hm1, hbel, HI⟩ := hrel
    have hsz := hbel.size
    by_cases hkk : k < 99
    · have hf : 99 - k = (98 - k) + 1 := by omega
      have HI2 : Hid (F = fromAwayF a g ((98 - k) + 1) m) := by apply hide; rw [← hf]; exact unhide HI
      clear hf HI
      have HH1 := hide (unhide HH wr m hm0 hm1 hbel)
      cases hq : (homeS a g m).isSome
      · have HN := hide ((unhide HI2).trans (fromAway_go hq))
        rw [hq] at HH1
        have hp := unhide HP m
        clear hq
        generalize homeV a g m = hv at *
        go_wp2_with fail
        refine (unhide HH1).mono ?_
        rintro e w1 ⟨rfl, hb1⟩
        have hz1 := hb1.size
        have hb2 := (hbel.trans (hb1.mono hsz)).alloc (by omega) (.cells #[.int .u8 hv.kind.toNat, .int .i64 hv.node.id, .int .i64 hv.node.parent, .string (bs hv.node.name)] 83)
        go_wp2_with fail
        refine (unhide HG _ m hm0 hm1 hb2).mono ?_
        rintro e w2 ⟨rfl, hb3⟩
        have hb4 := hb2.trans (hb3.mono hb2.size)
        generalize (getT a m).parent = p at *
        clear hbel hb1 hb2 hb3
        go_wp2
        refine put_as (v' := .int .i64 p) rfl ?_
        go_wp2
        go_roundw
        case rel => exact ⟨k + 1, p, by omega, by go_num, rfl, hp.1, hp.2, hb4, by apply hide; rw [show 99 - (k + 1) = 98 - k by omega]; exact unhide HN⟩
        case measure => simp [intOf]; omega
      · have HN := hide ((unhide HI2).trans (fromAway_hit hq))
        rw [hq] at HH1
        clear hq
        generalize homeV a g m = hv at *
        go_wp2_with fail
        refine (unhide HH1).mono ?_
        rintro e w1 ⟨rfl, hb1⟩
        have hz1 := hb1.size
        have HB := hide ((hbel.trans (hb1.mono hsz)).alloc (by omega) (.cells #[.int .u8 hv.kind.toNat, .int .i64 hv.node.id, .int .i64 hv.node.parent, .string (bs hv.node.name)] 83))
        clear hbel hb1
        go_wp2
        go_ret
        exact ⟨ret_int (unhide HN).symm, unhide HB⟩
    · have HN : Hid (F = 0) := by apply hide; rw [unhide HI, show 99 - k = 0 by omega]; rfl
      go_wp2
      go_ret
      exact ⟨ret_int (unhide HN).symm, hbel⟩
end Go.Proofs.YtdcjimlhaklhfaaDoor

namespace Go.Proofs.YtdcjimlhaklhfaaDoor
open Go.RowKit
theorem quiet_add2 {P : Program} {f : FuncId} {args : Array Value} {w : World} {a n : Nat} {v : Value}
    (h : Calls P f args (w.drewN (a + n)) fun e w' => e = .returned v ∧ w' = w.drewN (a + n)) : Calls P f args (w.drewN (a + n)) fun e w'' => e = .returned v ∧ ∃ m, w'' = w.drewN (a + m) :=
  h.mono fun _ _ ⟨he, hm⟩ => ⟨he, n, hm⟩
theorem inWay_1 {a g : Tr} {n : Nd} (h : isParentT a n.parent = false) : inWay a g n = n.parent := by unfold inWay; rw [h]; rfl
theorem inWay_2 {a g : Tr} {n : Nd} (h : isParentT a n.parent = true) (h2 : meetsT a n.parent n.id = true) : inWay a g n = fromAwayF a g 99 n.parent := by unfold inWay; rw [h, h2]; rfl
theorem inWay_3 {a g : Tr} {n : Nd} (h : isParentT a n.parent = true) (h2 : meetsT a n.parent n.id = false) : inWay a g n = atT a n.parent n.name := by unfold inWay; rw [h, h2]; rfl
set_option maxHeartbeats 2000000 in
set_option maxRecDepth 100000 in
theorem inWay_any (a g : Tr) (b : Nat) (n : Nd) (v : Value) (w : World) (ha : TrOk a) (hg : TrOk g) (h0 : 0 ≤ n.parent) (h1 : n.parent ≤ 99) (hT : TreeAt (planX g v) w b a) :
    Calls Tryd.prog 94 #[.pointer (some ⟨b, 0, none⟩), .agg #[.int .i64 n.id, .int .i64 n.parent, .string (bs n.name)]] w fun e w' => e = .returned (.int .i64 (inWay a g n)) ∧ Below w.heap.size w w' := by
  have hb1 := (Below.refl w.heap.size w).alloc (Nat.le_refl _) (.cells #[.int .i64 n.id, .int .i64 n.parent, .string (bs n.name)] 56)
  have HT1 := hide (hT.below hb1)
  have HP := hide (fun W (h : TreeAt (planX g v) W b a) => isParent_any a b n.parent W ha h0 h1 h)
  have HM := hide (fun W (h : TreeAt (planX g v) W b a) => meets_any a b n.parent n.id W ha h0 h1 h)
  have HA := hide (fun W (h : TreeAt (planX g v) W b a) => at_any a b n.parent n.name W h)
  have HF := hide (fun W (h : TreeAt (planX g v) W b a) => fromAway_any a g b n.parent v W ha hg h0 h1 h)
  have HB := hide hb1
  have hlt := hT.lt
  clear hb1 hT ha hg
  cases hp : isParentT a n.parent
  · rw [inWay_1 hp]
    rw [hp] at HP
    go_enter Tryd.func94, Tryd.ntmps94
    go_wp2_with fail
    go_quiet ((go_at_call 75; exact Calls.quiet_of_same (unhide HP _ (unhide HT1))))
    go_wp2
    go_ret
    exact ⟨rfl, below_drewN (unhide HB) _⟩
  · rw [hp] at HP
    cases hm : meetsT a n.parent n.id
    · rw [inWay_3 hp hm]
      rw [hm] at HM
      go_enter Tryd.func94, Tryd.ntmps94
      go_wp2_with fail
      go_quiet ((go_at_call 75; exact Calls.quiet_of_same (unhide HP _ (unhide HT1))))
      go_wp2_with fail
      go_quiet ((go_at_call 76; exact quiet_add2 (unhide HM _ (unhide HT1))))
      go_wp2_with fail
      go_quiet ((go_at_call 78; exact quiet_add2 (unhide HA _ (unhide HT1))))
      go_wp2
      go_ret
      exact ⟨rfl, below_drewN (below_drewN (below_drewN (unhide HB) _) _) _⟩
    · rw [inWay_2 hp hm]
      rw [hm] at HM
      go_enter Tryd.func94, Tryd.ntmps94
      go_wp2_with fail
      go_quiet ((go_at_call 75; exact Calls.quiet_of_same (unhide HP _ (unhide HT1))))
      go_wp2_with fail
      go_quiet ((go_at_call 76; exact quiet_add2 (unhide HM _ (unhide HT1))))
      go_wp2_with fail
      refine (unhide HF _ (by exact unhide HT1)).mono ?_
      rintro e w2 ⟨rfl, hb2⟩
      have HB2 := hide ((below_drewN (unhide HB) _).trans (hb2.mono (by simp)))
      clear hb2
      go_wp2
      go_ret
      exact ⟨rfl, unhide HB2⟩
theorem blocker_0 {a g : Tr} {id : Int} (h : homeS a g id = none) : blocker a g id = 0 ∧ homeV a g id = stZ := by unfold blocker homeV; rw [h]; exact ⟨rfl, rfl⟩
theorem blocker_1 {a g : Tr} {id : Int} {s : St} (h : homeS a g id = some s) (hk : s.kind = 45) : blocker a g id = kidT a id ∧ homeV a g id = s := by unfold blocker homeV; rw [h]; exact ⟨if_pos hk, rfl⟩
theorem blocker_2 {a g : Tr} {id : Int} {s : St} (h : homeS a g id = some s) (hk : ¬ s.kind = 45) : blocker a g id = inWay a g s.node ∧ homeV a g id = s := by unfold blocker homeV; rw [h]; exact ⟨if_neg hk, rfl⟩
set_option maxHeartbeats 2000000 in
set_option maxRecDepth 100000 in
theorem blocker_any (a g : Tr) (b : Nat) (id : Int) (v : Value) (w : World) (ha : TrOk a) (hg : TrOk g) (h0 : 0 ≤ id) (h1 : id ≤ 99) (hT : TreeAt (planX g v) w b a) :
    Calls Tryd.prog 89 #[.pointer (some ⟨b, 0, none⟩), .int .i64 id] w fun e w' => e = .returned (.int .i64 (blocker a g id)) ∧ Below w.heap.size w w' := by
  have HH := hide (home_any a g b id v w ha hg h0 h1 hT)
  have hlt := hT.lt
  cases hq : homeS a g id with
  | none =>
    obtain ⟨e1, e2⟩ := blocker_0 hq
    rw [e1]
    rw [e2, hq] at HH
    clear e1 e2 hq hT ha hg
    go_enter Tryd.func89, Tryd.ntmps89
    go_wp2_with fail
    refine (unhide HH).mono ?_
    rintro e w1 ⟨rfl, hb1⟩
    have HB := hide (hb1.alloc hb1.size (.cells #[.int .u8 stZ.kind.toNat, .int .i64 stZ.node.id, .int .i64 stZ.node.parent, .string (bs stZ.node.name)] 83))
    have hkz : stZ.kind.toNat = 0 := rfl
    clear hb1
    go_wp2
    go_ret
    exact ⟨rfl, unhide HB⟩
  | some s =>
    have hT' := hT
    rcases home_cases hq with ⟨e, hgn, m, hm⟩ | ⟨n, e, hgn, hn⟩ | ⟨n, m, e, hgn, hm, _⟩
    · obtain ⟨e1, e2⟩ := blocker_1 hq (by rw [e])
      rw [e1]
      rw [e2, hq, e] at HH
      have HK := hide (fun W (h : TreeAt (planX g v) W b a) => kid_any a b id W h)
      have HT := hide hT
      clear e1 e2 hq hT ha hg e hgn hm hT'
      go_enter Tryd.func89, Tryd.ntmps89
      go_wp2_with fail
      refine (unhide HH).mono ?_
      rintro e w1 ⟨rfl, hb1⟩
      have HB := hide (hb1.alloc hb1.size (.cells #[.int .u8 45, .int .i64 id, .int .i64 0, .string (bs [])] 83))
      have HT1 := hide ((unhide HT).below (unhide HB))
      clear hb1
      go_wp2_with fail
      refine (unhide HK _ (by exact unhide HT1)).mono ?_
      rintro e w2 ⟨rfl, rfl⟩
      go_wp2
      go_ret
      exact ⟨rfl, unhide HB⟩
    · obtain ⟨e1, e2⟩ := blocker_2 hq (by rw [e]; show ¬ ((43 : UInt8) = 45); decide)
      rw [e1]
      rw [e2, hq] at HH
      subst e
      have hb := trOk_id hg h0 hgn
      have HI := hide (fun W (h : TreeAt (planX g v) W b a) => inWay_any a g b n v W ha hg hb.2.2.2.2.2.1 hb.2.2.2.2.2.2.1 h)
      have HT := hide hT
      clear e1 e2 hq hT ha hg hgn hn hT' hb
      go_enter Tryd.func89, Tryd.ntmps89
      go_wp2_with fail
      refine (unhide HH).mono ?_
      rintro e w1 ⟨rfl, hb1⟩
      have HB := hide (hb1.alloc hb1.size (.cells #[.int .u8 43, .int .i64 n.id, .int .i64 n.parent, .string (bs n.name)] 83))
      have HT1 := hide ((unhide HT).below (unhide HB))
      clear hb1
      go_wp2_with fail
      refine (unhide HI _ (by exact unhide HT1)).mono ?_
      rintro e w2 ⟨rfl, hb2⟩
      have HB2 := hide ((unhide HB).trans (hb2.mono (by have := (unhide HB).size; exact this)))
      clear hb2
      go_wp2
      go_ret
      exact ⟨rfl, unhide HB2⟩
    · obtain ⟨e1, e2⟩ := blocker_2 hq (by rw [e]; show ¬ ((61 : UInt8) = 45); decide)
      rw [e1]
      rw [e2, hq] at HH
      subst e
      have hb := trOk_id hg h0 hgn
      have HI := hide (fun W (h : TreeAt (planX g v) W b a) => inWay_any a g b n v W ha hg hb.2.2.2.2.2.1 hb.2.2.2.2.2.2.1 h)
      have HT := hide hT
      clear e1 e2 hq hT ha hg hgn hm hT' hb
      go_enter Tryd.func89, Tryd.ntmps89
      go_wp2_with fail
      refine (unhide HH).mono ?_
      rintro e w1 ⟨rfl, hb1⟩
      have HB := hide (hb1.alloc hb1.size (.cells #[.int .u8 61, .int .i64 n.id, .int .i64 n.parent, .string (bs n.name)] 83))
      have HT1 := hide ((unhide HT).below (unhide HB))
      clear hb1
      go_wp2_with fail
      refine (unhide HI _ (by exact unhide HT1)).mono ?_
      rintro e w2 ⟨rfl, hb2⟩
      have HB2 := hide ((unhide HB).trans (hb2.mono (by have := (unhide HB).size; exact this)))
      clear hb2
      go_wp2
      go_ret
      exact ⟨rfl, unhide HB2⟩
end Go.Proofs.YtdcjimlhaklhfaaDoor

namespace Go.Proofs.YtdcjimlhaklhfaaDoor
open Go.RowKit
set_option maxHeartbeats 2000000 in
set_option maxRecDepth 100000 in
theorem firstAway_any (a g : Tr) (b : Nat) (v : Value) (w : World) (ha : TrOk a) (hg : TrOk g) (hT : TreeAt (planX g v) w b a) :
    Calls Tryd.prog 88 #[.pointer (some ⟨b, 0, none⟩)] w fun e w' => e = .returned (.int .i64 (firstAway a g)) ∧ Below w.heap.size w w' := by
  have hlt := hT.lt
  have HH := hide (fun W (m : Int) (q0 : 0 ≤ m) (q1 : m ≤ 99) (h : Below w.heap.size w W) => home_any a g b m v W ha hg q0 q1 (hT.below h))
  clear hT ha hg
  go_enter Tryd.func88, Tryd.ntmps88
  go_wp2
  go_loopw [3] (fun i wr => ∃ k : Nat, 1 ≤ k ∧ k ≤ 100 ∧ i = .int .i64 k ∧ Below w.heap.size w wr ∧ Hid (NoIn (awayIs a g) 1 k)) (fun i _ => 101 - (intOf i).toNat)
  case atStart => exact ⟨1, by omega, by omega, rfl, Below.refl _ _, hide (fun j h1 h2 => by omega)⟩
  case round =>
    obtain ⟨k, hk1, hk, rfl, hbel, HN⟩ := hrel
    have hsz := hbel.size
    by_cases hlt2 : k ≤ 99
    · have HH1 := hide (unhide HH wr k (by omega) (by omega) hbel)
      cases hq : (homeS a g k).isSome
      · have HN2 := hide (noIn_succ (unhide HN) (show awayIs a g k = false from hq))
        rw [hq] at HH1
        clear hq
        generalize homeV a g k = hv at *
        go_wp2_with fail
        refine (unhide HH1).mono ?_
        rintro e w1 ⟨rfl, hb1⟩
        have hb2 := (hbel.trans (hb1.mono hsz)).alloc (by have := hb1.size; omega) (.cells #[.int .u8 hv.kind.toNat, .int .i64 hv.node.id, .int .i64 hv.node.parent, .string (bs hv.node.name)] 83)
        clear hbel hb1
        go_wp2
        go_roundw
        case rel => exact ⟨k + 1, by omega, by omega, by go_num, hb2, HN2⟩
        case measure => simp [intOf]; omega
      · have HS : Hid (firstAway a g = k) := by
          apply hide
          have e : scan (awayIs a g) 1 100 = k := scan_hit hk1 (by omega) hq (unhide HN)
          unfold firstAway; rw [e, if_pos (by omega)]
        rw [hq] at HH1
        clear hq
        generalize homeV a g k = hv at *
        go_wp2_with fail
        refine (unhide HH1).mono ?_
        rintro e w1 ⟨rfl, hb1⟩
        have HB2 := hide ((hbel.trans (hb1.mono hsz)).alloc (by have := hb1.size; omega) (.cells #[.int .u8 hv.kind.toNat, .int .i64 hv.node.id, .int .i64 hv.node.parent, .string (bs hv.node.name)] 83))
        clear hbel hb1
        go_wp2
        go_ret
        exact ⟨ret_int (unhide HS).symm, unhide HB2⟩
    · have HS : Hid (firstAway a g = 0) := by
        apply hide
        have e : scan (awayIs a g) 1 100 = 100 := scan_none (fun j h1 h2 => unhide HN j h1 (by omega))
        unfold firstAway; rw [e, if_neg (by omega)]
      go_wp2
      go_ret
      exact ⟨ret_int (unhide HS).symm, hbel⟩
/-! The knot. -/
theorem fromAway_bd {a g : Tr} (ha : TrOk a) : ∀ (f : Nat) (p : Int), 0 ≤ p → p ≤ 99 → 0 ≤ fromAwayF a g f p ∧ fromAwayF a g f p ≤ 99 := by
  intro f
  induction f with
  | zero => intro p _ _; simp [fromAwayF]
  | succ f ih =>
    intro p h0 h1
    rw [fromAwayF]
    split
    · exact ⟨h0, h1⟩
    · have := getT_parent ha p; exact ih _ this.1 this.2
theorem blocker_bd {a g : Tr} (ha : TrOk a) (hg : TrOk g) {id : Int} (h0 : 0 ≤ id) : 0 ≤ blocker a g id ∧ blocker a g id ≤ 99 := by
  have hat : ∀ p s, 0 ≤ atT a p s ∧ atT a p s ≤ 99 := by
    intro p s; unfold atT; split <;> omega
  have hk : 0 ≤ kidT a id ∧ kidT a id ≤ 99 := by unfold kidT; split <;> omega
  unfold blocker
  cases hq : homeS a g id with
  | none => simp
  | some s =>
    simp only
    split
    · exact hk
    · rename_i hk45
      have hn : 0 ≤ s.node.parent ∧ s.node.parent ≤ 99 := by
        rcases home_cases hq with ⟨e, _⟩ | ⟨n, e, hgn, _⟩ | ⟨n, _, e, hgn, _⟩
        · rw [e] at hk45; exact absurd rfl hk45
        · have := (trOk_id hg h0 hgn).2.2.2; rw [e]; exact ⟨this.2.2.1, this.2.2.2.1⟩
        · have := (trOk_id hg h0 hgn).2.2.2; rw [e]; exact ⟨this.2.2.1, this.2.2.2.1⟩
      unfold inWay
      split
      · exact hn
      · split
        · exact fromAway_bd ha 99 _ hn.1 hn.2
        · exact hat _ _
theorem firstAway_bd (a g : Tr) : 0 ≤ firstAway a g ∧ firstAway a g ≤ 99 := by unfold firstAway; split <;> omega
theorem seek_hit' {a g : Tr} {f : Nat} {m : Int} (h : isMove a g m = true) : seekF a g (f + 1) m = m := by rw [seekF, if_pos h]
theorem seek_go {a g : Tr} {f : Nat} {m : Int} (h : isMove a g m = false) : seekF a g (f + 1) m = seekF a g f (blocker a g m) := by rw [seekF, if_neg (by rw [h]; simp)]
theorem isMove_kind (a g : Tr) (m : Int) : isMove a g m = (((homeV a g m).kind.toNat : Int) == 61) := by
  unfold isMove homeV
  cases homeS a g m with
  | none => rfl
  | some s =>
    show (s.kind == 61) = ((s.kind.toNat : Int) == 61)
    rw [Bool.eq_iff_iff, beq_iff_eq, beq_iff_eq]
    constructor
    · intro h; rw [h]; rfl
    · intro h; exact UInt8.toNat_inj.1 (by show s.kind.toNat = 61; omega)
set_option maxHeartbeats 2000000 in
set_option maxRecDepth 100000 in
theorem knot_any (a g : Tr) (b : Nat) (v : Value) (w : World) (ha : TrOk a) (hg : TrOk g) (hT : TreeAt (planX g v) w b a) :
    Calls Tryd.prog 72 #[.pointer (some ⟨b, 0, none⟩)] w fun e w' => e = .returned (.int .i64 (knotT a g)) ∧ Below w.heap.size w w' := by
  have hlt := hT.lt
  have HH := hide (fun W (m : Int) (q0 : 0 ≤ m) (q1 : m ≤ 99) (h : Below w.heap.size w W) => home_any a g b m v W ha hg q0 q1 (hT.below h))
  have HBL := hide (fun W (m : Int) (q0 : 0 ≤ m) (q1 : m ≤ 99) (h : Below w.heap.size w W) => blocker_any a g b m v W ha hg q0 q1 (hT.below h))
  have HFA := hide (firstAway_any a g b v w ha hg hT)
  have HBB := hide (fun (m : Int) (q0 : 0 ≤ m) => blocker_bd (a := a) (g := g) ha hg q0)
  have hfb := firstAway_bd a g
  have HK : Hid (knotT a g = seekF a g 99 (iter (blocker a g) 99 (firstAway a g))) := hide rfl
  clear hT ha hg
  generalize knotT a g = F at *
  generalize hfa : firstAway a g = fa at *
  clear hfa
  go_enter Tryd.func72, Tryd.ntmps72
  go_wp2_with fail
  refine (unhide HFA).mono ?_
  rintro e w0 ⟨rfl, hb0⟩
  go_wp2_with fail
  go_loopw [3, 4] (fun d i wr => ∃ k : Nat, ∃ m : Int, k ≤ 99 ∧ i = .int .i64 k ∧ d = .int .i64 m ∧ 0 ≤ m ∧ m ≤ 99 ∧ Below w.heap.size w wr ∧ Hid (F = seekF a g 99 (iter (blocker a g) (99 - k) m))) (fun _ i _ => 100 - (intOf i).toNat)
  case atStart => exact ⟨0, fa, by omega, rfl, rfl, hfb.1, hfb.2, hb0, HK⟩
  case round =>
    obtain ⟨k, m, hk, rfl, rfl, hm0, hm1, hbel, HI⟩ := hrel
    have hsz := hbel.size
    by_cases hkk : k < 99
    · have HI2 : Hid (F = seekF a g 99 (iter (blocker a g) (98 - k) (blocker a g m))) := by
        apply hide; rw [unhide HI, show 99 - k = (98 - k) + 1 by omega]; rfl
      have hbb := unhide HBB m hm0
      have HB1 := hide (unhide HBL wr m hm0 hm1 hbel)
      generalize blocker a g m = y at *
      clear HI
      go_wp2_with fail
      refine (unhide HB1).mono ?_
      rintro e w1 ⟨rfl, hb1⟩
      have hb2 := hbel.trans (hb1.mono hsz)
      clear hbel hb1
      go_wp2
      go_roundw
      case rel => exact ⟨k + 1, y, by omega, by go_num, rfl, hbb.1, hbb.2, hb2, by apply hide; rw [show 99 - (k + 1) = 98 - k by omega]; exact unhide HI2⟩
      case measure => simp [intOf]; omega
    · have HI2 : Hid (F = seekF a g 99 m) := by
        apply hide; rw [unhide HI, show 99 - k = 0 by omega]; rfl
      clear HI
      go_wp2_with fail
      go_loopw [3, 5] (fun d i wr => ∃ k : Nat, ∃ m : Int, k ≤ 99 ∧ i = .int .i64 k ∧ d = .int .i64 m ∧ 0 ≤ m ∧ m ≤ 99 ∧ Below w.heap.size w wr ∧ Hid (F = seekF a g (99 - k) m)) (fun _ i _ => 100 - (intOf i).toNat)
      case atStart => exact ⟨0, m, by omega, rfl, rfl, hm0, hm1, hbel, HI2⟩
      case round =>
        obtain ⟨k, m, hk, rfl, rfl, hm0, hm1, hbel, HI⟩ := hrel
        have hsz := hbel.size
        by_cases hkk : k < 99
        · have HI2 : Hid (F = seekF a g ((98 - k) + 1) m) := by
            apply hide; rw [unhide HI, show 99 - k = (98 - k) + 1 by omega]
          have HH1 := hide (unhide HH wr m hm0 hm1 hbel)
          have hmk := isMove_kind a g m
          cases hq : isMove a g m
          · have HN := hide ((unhide HI2).trans (seek_go hq))
            rw [hq] at hmk
            have hmk2 := hmk.symm
            have hbb := unhide HBB m hm0
            have HB1 := hide (fun W h => unhide HBL W m hm0 hm1 h)
            clear hq hmk HI HI2
            generalize blocker a g m = y at *
            generalize homeV a g m = hv at *
            go_wp2_with fail
            refine (unhide HH1).mono ?_
            rintro e w1 ⟨rfl, hb1⟩
            have hb2 := (hbel.trans (hb1.mono hsz)).alloc (by have := hb1.size; omega) (.cells #[.int .u8 hv.kind.toNat, .int .i64 hv.node.id, .int .i64 hv.node.parent, .string (bs hv.node.name)] 83)
            clear hbel hb1
            go_wp2_with fail
            refine (unhide HB1 _ hb2).mono ?_
            rintro e w2 ⟨rfl, hb3⟩
            have hb4 := hb2.trans (hb3.mono hb2.size)
            clear hb2 hb3
            go_wp2
            go_roundw
            case rel => exact ⟨k + 1, y, by omega, by go_num, rfl, hbb.1, hbb.2, hb4, by apply hide; rw [show 99 - (k + 1) = 98 - k by omega]; exact unhide HN⟩
            case measure => simp [intOf]; omega
          · have HN := hide ((unhide HI2).trans (seek_hit' hq))
            rw [hq] at hmk
            have hmk2 := hmk.symm
            clear hq hmk HI HI2
            generalize homeV a g m = hv at *
            go_wp2_with fail
            refine (unhide HH1).mono ?_
            rintro e w1 ⟨rfl, hb1⟩
            have HB2 := hide ((hbel.trans (hb1.mono hsz)).alloc (by have := hb1.size; omega) (.cells #[.int .u8 hv.kind.toNat, .int .i64 hv.node.id, .int .i64 hv.node.parent, .string (bs hv.node.name)] 83))
            clear hbel hb1
            go_wp2
            go_ret
            exact ⟨ret_int (unhide HN).symm, unhide HB2⟩
        · have HN : Hid (F = 0) := by apply hide; rw [unhide HI, show 99 - k = 0 by omega]; rfl
          go_wp2
          go_ret
          exact ⟨ret_int (unhide HN).symm, hbel⟩
end Go.Proofs.YtdcjimlhaklhfaaDoor

namespace Go.Proofs.YtdcjimlhaklhfaaDoor
open Go.RowKit
theorem step_append_own {P : Program} {ops : Array Oper} {o : Oper} {a : Act} {w : World} {K : Act → World → Prop} {Q : Exit → Act → World → Prop} {E : Prop}
    (hg : o.guard = none) (s x : Operand) (t : TypeId) (hop : o.op = Op.call { callee := Callee.builtin Builtin.append, args := #[s, x], argTypes := #[t, t] })
    (e : TypeId) (i : TypeInfo) (z : Value) (size bytes : Nat) (h1 : P.underlying t = some (.slice e)) (h2 : P.info? e = some i) (h3 : i.zero = some z) (h4 : i.size = size) (h5 : i.bytes = bytes) (h6 : z.cells.size = size) (h7 : 0 < size)
    (base : Nat) (v : Value) (n : Nat) (xs : List Value) (hs : a.eval s = v) (hown : w.ownsRow base e size v n xs)
    (ad : Addr) (m c : Nat) (news : List Value) (hx : a.eval x = .slice (some ad) m c) (hn : news.length = m * size) (hc : ∀ j u, news[j]? = some u → w.cell? (ad.add j) = some u) (h1c : ∀ u ∈ news, u.oneCell' = true)
    (b1 : n + m ≤ maxLen) (b2 : (n + m) * bytes ≤ 140737488355328) (hbase : base ≤ w.heap.size)
    (hK : ∀ v' w', w'.ownsRow base e size v' (n + m) (xs ++ news) → w.grownBy w' v.ownBlock → K (a.put o.dst v') w') :
    if Region.wanted o (yielded ops a.tmps) = true then Oper.wp P o a w K Q else E := by
  have hw : Region.wanted o (yielded ops a.tmps) = true := by simp [Region.wanted, hg]
  rw [if_pos hw]
  obtain ⟨v', w', hrun, r1, r2, _⟩ := run_append_own (P := P) w base t o.type e i z size bytes h1 h2 h3 h4 h5 h6 h7 v n xs hown ad m c news hn hc h1c b1 b2 hbase
  unfold Oper.wp
  simp [execOp, hop, resolve, invoke, builtin, hs, hx, hrun, Result.andThen]
  exact hK v' w' r1 r2
theorem own_grown {w w' : World} {base : Nat} {e : TypeId} {size : Nat} {v : Value} {n : Nat} {xs : List Value} {c : Nat} (h : w.ownsRow base e size v n xs) (hg : w.grownBy w' (some c)) (hc : c < base) : w'.ownsRow base e size v n xs := by
  obtain ⟨h1, h2⟩ := h
  refine ⟨h1, ?_⟩
  rcases h2 with h2 | ⟨g, cap, cur, hv, hgb, hh, r⟩
  · exact Or.inl h2
  · exact Or.inr ⟨g, cap, cur, hv, hgb, by rw [hg.block g (lt_of_block hh) (fun e => by cases e; omega)]; exact hh, r⟩
theorem cell_grown {w w' : World} {c b : Nat} (hg : w.grownBy w' (some c)) (hb : b < w.heap.size) (hne : b ≠ c) (o : Nat) : w'.cell? ⟨b, o, none⟩ = w.cell? ⟨b, o, none⟩ :=
  World.cell?_of_block (a := ⟨b, o, none⟩) (hg.block b hb (fun e => hne (by cases e; rfl)))
theorem own_form {w : World} {base : Nat} {e : TypeId} {size : Nat} {v : Value} {n : Nat} {xs : List Value} (h : w.ownsRow base e size v (n + 1) xs) : ∃ g cap, v = .slice (some ⟨g, 0, none⟩) (n + 1) cap ∧ base ≤ g := by
  rcases h.2 with ⟨_, h2⟩ | ⟨g, cap, _, hv, hg, _⟩
  · omega
  · exact ⟨g, cap, hv, hg⟩
theorem own_block {w : World} {base : Nat} {e : TypeId} {size : Nat} {v : Value} {n : Nat} {xs : List Value} (h : w.ownsRow base e size v n xs) {c : Nat} (hc : c < base) : some c ≠ v.ownBlock := by
  rcases h.2 with ⟨rfl, _⟩ | ⟨g, cap, _, rfl, hg, _⟩
  · intro e; cases e
  · intro e; simp [Value.ownBlock] at e; omega
theorem own_set {w : World} {base : Nat} {e : TypeId} {size : Nat} {v : Value} {n : Nat} {xs : List Value} (h : w.ownsRow base e size v n xs) {c : Nat} (hc : c < base) (o : Nat) (u : Value) : (w.setCell ⟨c, o, none⟩ u).ownsRow base e size v n xs := by
  obtain ⟨h1, h2⟩ := h
  refine ⟨h1, ?_⟩
  rcases h2 with h2 | ⟨g, cap, cur, hv, hgb, hh, r⟩
  · exact Or.inl h2
  · exact Or.inr ⟨g, cap, cur, hv, hgb, by rw [heap_setCell_other _ _ _ _ (show g ≠ c by omega)]; exact hh, r⟩
theorem plan_set {w : World} {b : Nat} {a g : Tr} {v v' : Value} (h : TreeAt (planX g v) w b a) : TreeAt (planX g v') (w.setCell ⟨b, 800, none⟩ v') b a := by
  unfold TreeAt
  rw [heap_setCell_same w b 800 _ _ v' h]
  have e : (treeCells a ++ (treeCells g ++ [v])).set 800 v' = treeCells a ++ (treeCells g ++ [v']) := by
    rw [List.set_append_right _ _ (by rw [treeCells_length]; omega), treeCells_length, List.set_append_right _ _ (by rw [treeCells_length]; omega), treeCells_length]
    simp
  simp only [planX, List.setIfInBounds_toArray, e]
theorem plan_grown {x : Ext} {w2 w4 : World} {b : Nat} {a : Tr} {o : Obj} {r : Option Nat} (h : TreeAt x w2 b a) (hg : (World.drew (w2.alloc o)).grownBy w4 r) (hr : some b ≠ r) : TreeAt x w4 b a := by
  have hlt := h.lt
  have h1 : TreeAt x (World.drew (w2.alloc o)) b a := h.below (below_drewN ((Below.refl w2.heap.size w2).alloc (Nat.le_refl _) o) 1)
  unfold TreeAt
  rw [hg.block b h1.lt hr]; exact h1
def PlanAt (w : World) (b : Nat) (g : Tr) (p : Pl) : Prop := ∃ v, TreeAt (planX g v) w b p.now ∧ w.ownsRow (b + 1) 83 4 v p.done.length (stCells p.done)
def tryP (p : Pl) (s : St) : Pl := if stepE p.now s = 0 then ⟨stepT p.now s, p.done ++ [s]⟩ else p
theorem tryP_yes {p : Pl} {s : St} (h : stepE p.now s = 0) : tryP p s = ⟨stepT p.now s, p.done ++ [s]⟩ := by unfold tryP; rw [if_pos h]
theorem tryP_no {p : Pl} {s : St} (h : ¬ stepE p.now s = 0) : tryP p s = p ∧ stepT p.now s = p.now := by unfold tryP stepT; rw [if_neg h, if_neg h]; exact ⟨rfl, rfl⟩
set_option maxHeartbeats 2000000 in
set_option maxRecDepth 100000 in
theorem attempt_any (g : Tr) (p : Pl) (b : Nat) (s : St) (w : World) (ha : TrOk p.now) (hs : StOk s) (hP : PlanAt w b g p) (hl : p.done.length ≤ 30000) :
    Calls Tryd.prog 71 #[.pointer (some ⟨b, 0, none⟩), .agg #[.int .u8 s.kind.toNat, .int .i64 s.node.id, .int .i64 s.node.parent, .string (bs s.node.name)]] w fun e w' => e = .returned (.bool (stepE p.now s == 0)) ∧ PlanAt w' b g (tryP p s) ∧ Below b w w' := by
  obtain ⟨v, hT, hown⟩ := hP
  obtain ⟨i0, hi, hz0, hz1, hz2⟩ := info_parts Tryd.infoStep
  have hlt := hT.lt
  have HDO := hide (fun W (h : TreeAt (planX g v) W b p.now) => do_any p.now b s W ha h hs)
  have hb1 := (Below.refl w.heap.size w).alloc (Nat.le_refl _) (.cells #[.int .u8 s.kind.toNat, .int .i64 s.node.id, .int .i64 s.node.parent, .string (bs s.node.name)] 83)
  have HT1 := hide (hT.below hb1)
  have HOWN := hide (own_below hown hb1)
  clear ha hs
  by_cases hE : stepE p.now s = 0
  · rw [tryP_yes hE]
    rw [hE] at HDO ⊢
    clear hT hown hb1
    go_enter Tryd.func71, Tryd.ntmps71
    go_wp2_with fail
    go_region_with (go_at_call 43; refine (unhide HDO _ (by exact unhide HT1)).mono ?_; rintro e w2 ⟨rfl, hT2, hg2⟩)
    have hlw : w.heap.size + 1 ≤ w2.heap.size := by have := hg2.size; simpa using this
    have HB2 : Hid (Below b w w2) := hide (((below_drewN ((Below.refl b w).alloc (by omega) (.cells #[.int .u8 s.kind.toNat, .int .i64 s.node.id, .int .i64 s.node.parent, .string (bs s.node.name)] 83)) 1)).grown hg2 (by simp; omega) (fun k hk => by cases hk; omega))
    have HOWN2 := hide (own_grown (show World.ownsRow (World.drew (w.alloc _)) _ _ _ _ _ _ from unhide HOWN) hg2 (by omega))
    have hcs : ∀ o, w2.cell? ⟨w.heap.size, o, none⟩ = (w.alloc _).cell? ⟨w.heap.size, o, none⟩ := fun o => cell_grown hg2 (by simp) (by omega) o
    have hdone := plan_done hT2
    have hfz : ∀ o, w2.frozen? ⟨b, o, none⟩ = false := hT2.free
    have HT2 := hide hT2
    clear hT2 hg2
    go_wp2_with fail
    have HOWN3 : Hid (World.ownsRow (World.drew (w2.alloc (.cells #[.int .u8 s.kind.toNat, .int .i64 s.node.id, .int .i64 s.node.parent, .string (bs s.node.name)] 83))) (b + 1) 83 4 v p.done.length (stCells p.done)) := hide (own_below (unhide HOWN2) (below_drewN ((Below.refl w2.heap.size w2).alloc (Nat.le_refl _) _) 1))
    have HNEW : Hid (∀ j x, [Value.int .u8 s.kind.toNat, .int .i64 s.node.id, .int .i64 s.node.parent, .string (bs s.node.name)][j]? = some x → (World.drew (w2.alloc (.cells #[.int .u8 s.kind.toNat, .int .i64 s.node.id, .int .i64 s.node.parent, .string (bs s.node.name)] 83))).cell? ((⟨w2.heap.size, 0, none⟩ : Addr).add j) = some x) := hide (fun j x hx => World.news_of_block (w := w2.alloc (.cells #[.int .u8 s.kind.toNat, .int .i64 s.node.id, .int .i64 s.node.parent, .string (bs s.node.name)] 83)) (cs := #[.int .u8 s.kind.toNat, .int .i64 s.node.id, .int .i64 s.node.parent, .string (bs s.node.name)]) (heap_alloc_new w2 _) j x hx)
    have hbs : b + 1 ≤ w2.heap.size + 1 := by omega
    have hbw : b < w2.heap.size := by omega
    have hbn : ¬ b = w2.heap.size := by omega
    go_region_law (refine step_append_own rfl (.tmp 17) (.tmp 19) 62 rfl 83 i0 (.agg #[.int .u8 0, .int .i64 0, .int .i64 0, .string ByteArray.empty]) 4 40 Tryd.underlying62 hi hz0 hz1 hz2 rfl (by decide) (b + 1) v p.done.length (stCells p.done) (by simp [Act.eval]) (unhide HOWN3) ⟨w2.heap.size, 0, none⟩ 1 1 [.int .u8 s.kind.toNat, .int .i64 s.node.id, .int .i64 s.node.parent, .string (bs s.node.name)] (by simp [Act.eval]) rfl (unhide HNEW) (by simp [Value.oneCell']) (by unfold maxLen; omega) (by omega) (by simp; omega) ?_; intro v' w4 hown4 hgrow; obtain ⟨g4, cap4, rfl, hg4⟩ := own_form hown4; have hT4 : TreeAt (planX g v) w4 b (stepT p.now s) := plan_grown (unhide HT2) hgrow (own_block (unhide HOWN3) (by omega)); have hd4 := plan_done hT4; have hf4 := hT4.free 800; have HT4 := hide hT4; have HOWN4 := hide hown4; have HG4 := hide hgrow; clear hT4 hown4 hgrow)
    all_goals
      go_wp2
      go_ret
      refine ⟨rfl, ⟨_, plan_set (unhide HT4), ?_⟩, ?_⟩
      · have := own_set (unhide HOWN4) (show b < b + 1 by omega) 800 (.slice (some ⟨g4, 0, none⟩) (p.done.length + 1) cap4)
        show World.ownsRow _ _ _ _ _ (p.done ++ [s]).length (stCells (p.done ++ [s]))
        rw [stCells_snoc, List.length_append]; exact this
      · refine Below.setCell ((below_drewN ((unhide HB2).alloc (by omega) _) 1).grown (unhide HG4) (by simp; omega) (fun k hk => by have := own_ge (unhide HOWN3) k hk; omega)) (Nat.le_refl _) _
  · obtain ⟨e1, e2⟩ := tryP_no hE
    rw [e1]
    rw [e2] at HDO
    have hE2 : (stepE p.now s == 0) = false := by simpa using hE
    have hE3 : (stepE p.now s != 0) = true := by simpa using hE
    clear hT hown hb1 e1 e2
    generalize stepE p.now s = E at *
    rw [hE2]
    go_enter Tryd.func71, Tryd.ntmps71
    go_wp2_with fail
    go_region_with (go_at_call 43; refine (unhide HDO _ (by exact unhide HT1)).mono ?_; rintro e w2 ⟨rfl, hT2, hg2⟩)
    have HB2 : Hid (Below b w w2) := hide (((below_drewN ((Below.refl b w).alloc (by omega) (.cells #[.int .u8 s.kind.toNat, .int .i64 s.node.id, .int .i64 s.node.parent, .string (bs s.node.name)] 83)) 1)).grown hg2 (by simp; omega) (fun k hk => by cases hk; omega))
    have HOWN2 := hide (own_grown (show World.ownsRow (World.drew (w.alloc _)) _ _ _ _ _ _ from unhide HOWN) hg2 (by omega))
    have HT2 := hide hT2
    clear hT2 hg2
    go_wp2
    go_ret
    exact ⟨rfl, ⟨v, unhide HT2, unhide HOWN2⟩, unhide HB2⟩
end Go.Proofs.YtdcjimlhaklhfaaDoor
