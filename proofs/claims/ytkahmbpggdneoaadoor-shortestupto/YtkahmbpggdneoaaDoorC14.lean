import Derived.Test.YtkahmbpggdneoaaDoorC13
import Derived.Test.YtkahmbpggdneoaaDoorC7
import Derived.Test.YtkahmbpggdneoaaDoorC12
namespace Go.Proofs.YtkahmbpggdneoaaDoor
open Go.RowKit
/-! Growing trees: the parts. -/
set_option maxHeartbeats 1000000 in
theorem pick_any (c : Int) (w : World) (h0 : -9223372036854775808 ≤ c) (h1 : c ≤ 9223372036854775807) :
    Calls Tryd.prog 32 #[.int .i64 c, .int .i64 1099511627776] w fun e w' => ∃ v : Int, e = .returned (.int .i64 v) ∧ 0 ≤ v ∧ v < 1099511627776 ∧ w' = w := by
  by_cases hc : c < 0
  · go_enter Tryd.func32, Tryd.ntmps32
    go_wp2
    go_ret
    refine ⟨_, rfl, ?_, ?_, rfl⟩
    · rw [← Int.neg_tmod, Int.tmod_eq_emod_of_nonneg (by omega)]; omega
    · rw [← Int.neg_tmod, Int.tmod_eq_emod_of_nonneg (by omega)]; omega
  · go_enter Tryd.func32, Tryd.ntmps32
    go_wp2
    go_ret
    refine ⟨_, rfl, ?_, ?_, rfl⟩
    · omega
    · omega
def WordOk (s : Str) : Prop := s.all plainB = true ∧ 1 ≤ s.length ∧ s.length ≤ 8
set_option maxHeartbeats 1000000 in
theorem word_any (v : Int) (w : World) (h0 : 0 ≤ v) (_h1 : v < 1099511627776) :
    Calls Tryd.prog 53 #[.int .i64 v] w fun e w' => ∃ s : Str, e = .returned (.string (bs s)) ∧ WordOk s ∧ w' = w := by
  have hv : v % 5 = 0 ∨ v % 5 = 1 ∨ v % 5 = 2 ∨ v % 5 = 3 ∨ v % 5 = 4 := by omega
  rcases hv with h | h | h | h | h
  all_goals
    have ht : v.tmod 5 = _ := (Int.tmod_eq_emod_of_nonneg h0).trans h
    clear h
    go_enter Tryd.func53, Tryd.ntmps53
    go_wp2
    go_ret
  · exact ⟨[97], rfl, ⟨by decide, by decide, by decide⟩, rfl⟩
  · exact ⟨[98], rfl, ⟨by decide, by decide, by decide⟩, rfl⟩
  · exact ⟨[116], rfl, ⟨by decide, by decide, by decide⟩, rfl⟩
  · exact ⟨[99, 46, 57], rfl, ⟨by decide, by decide, by decide⟩, rfl⟩
  · exact ⟨[108, 111, 110, 103, 110, 97, 109, 101], rfl, ⟨by decide, by decide, by decide⟩, rfl⟩
theorem plainLen_word {s : Str} (hs : s.all plainB = true) (r : Str) (hr : ∀ c l, r = c :: l → plainB c = false) : plainLen (s ++ r) = s.length :=
  plainLen_stop (s ++ r) s.length (by simp) (by simpa using hs) (fun c l h => hr c l (by simpa using h))
theorem word_name {s : Str} (hs : WordOk s) (id : Int) : isName s id = true := by
  have e : plainLen s = s.length := by have := plainLen_word hs.1 [] (fun c l h => by cases h); simpa using this
  unfold isName; rw [e]; simp [hs.2.1, hs.2.2]
theorem own_len {s : Str} (hs : WordOk s) (l : Str) : plainLen (s ++ 126 :: l) = s.length :=
  plainLen_word hs.1 (126 :: l) (fun c r h => by cases h; decide)
theorem own_name {s : Str} (hs : WordOk s) (id : Int) : isName (s ++ 126 :: digs id) id = true := by
  unfold isName; rw [own_len hs]; simp [hs.2.1, hs.2.2]
theorem own_only {s : Str} (hs : WordOk s) {x y : Int} (hx0 : 0 ≤ x) (hx : x ≤ 99) (hy0 : 0 ≤ y) (hy : y ≤ 99) (h : isName (s ++ 126 :: digs x) y = true) : x = y := by
  unfold isName at h; rw [own_len hs] at h
  simp only [List.length_append, List.length_cons, Bool.and_eq_true, Bool.or_eq_true, beq_iff_eq, List.drop_left] at h
  rcases h.2 with h | h
  · omega
  · obtain ⟨a, rfl⟩ := Int.eq_ofNat_of_zero_le hx0
    obtain ⟨b, rfl⟩ := Int.eq_ofNat_of_zero_le hy0
    have := digs_inj a (by omega) b (by omega) (by simpa using h)
    rw [this]
theorem add_126 (a : Str) (ha : a.length ≤ 1000000) (W : World) : (Op.stringOp .add (bs a) ⟨#[126]⟩).run Tryd.prog W = .ok (.string (bs (a ++ [126]))) W := add_bs a [126] ha (by simp) W
def nmIs (ns : List Nd) (p : Int) (s : Str) (i : Nat) : Bool := (ndAt ns i).parent == p && (ndAt ns i).name == s
set_option maxHeartbeats 2000000 in
theorem named_any (ns : List Nd) (id p v : Int) (ao : Option Addr) (cap : Nat) (w : World) (hrow : Row w ao ns.length 3 (ndCells ns)) (hl : ns.length ≤ 4000) (hok : ∀ n ∈ ns, NdOk n) (hno : ∀ n ∈ ns, n.id ≠ id) (h1 : 1 ≤ id) (h2 : id ≤ 99) (hv0 : 0 ≤ v) (hv1 : v < 1099511627776) :
    Calls Tryd.prog 34 #[.slice ao ns.length cap, .int .i64 id, .int .i64 p, .int .i64 v] w fun e w' => (∃ nm : Str, e = .returned (.string (bs nm)) ∧ isName nm id = true ∧ ∀ n ∈ ns, n.parent = p → n.name ≠ nm) ∧ Below w.heap.size w w' := by
  have HROW := hide hrow
  have HOK := hide hok
  have HNO := hide hno
  have HW := hide (fun W => word_any v W hv0 hv1)
  have HD := hide (fun W => digits_digs id W (by omega) h2)
  have l1 := digs_len id
  have HOWN : Hid (∀ s, WordOk s → ∀ n ∈ ns, n.parent = p → n.name ≠ s ++ 126 :: digs id) := hide (fun s hs n hn _ e => by
    have hb := hok n hn
    have h3 := hb.2.2.2.2
    rw [e] at h3
    exact hno n hn (own_only hs (by omega) h2 (by have := hb.1; omega) hb.2.1 h3).symm)
  have HDG := hide (show digs id = digs id from rfl)
  clear hrow hok hno
  have hd5 : v.tdiv 5 = v / 5 := Int.tdiv_eq_ediv_of_nonneg hv0
  have hq0 : 0 ≤ v / 5 := by omega
  have hd4 : (v / 5).tmod 4 = v / 5 % 4 := Int.tmod_eq_emod_of_nonneg hq0
  have hqq : v / 5 % 4 = 0 ∨ ¬ v / 5 % 4 = 0 := by omega
  generalize hdd : digs id = dg at *
  go_enter Tryd.func34, Tryd.ntmps34
  go_wp2_with fail
  refine (unhide HW _).mono ?_
  rintro e w1 ⟨s, rfl, hs, rfl⟩
  have hsl := hs.2.2
  have a1 := add_126 s (by omega)
  have a2 := add_bs (s ++ [126]) dg (by simp; omega) (by omega)
  have HE : Hid (s ++ [126] ++ dg = s ++ 126 :: dg) := hide (by simp)
  generalize s ++ [126] ++ dg = own at *
  generalize s ++ [126] = own0 at *
  go_wp2_with fail
  refine (unhide HD _).mono ?_
  rintro e w2 ⟨rfl, hb2⟩
  have HB := hide hb2
  have HS := hide hs
  clear hs hb2
  rcases hqq with hq | hq
  · go_wp2
    go_ret
    refine ⟨⟨own, rfl, ?_, ?_⟩, unhide HB⟩
    · rw [unhide HE, ← hdd]; exact own_name (unhide HS) id
    · rw [unhide HE]; exact unhide HOWN s (unhide HS)
  · go_wp2
    go_loop [11] (fun i => ∃ k : Nat, k ≤ ns.length ∧ i = .int .i64 k ∧ Hid (NoIn (nmIs ns p s) 0 k)) (fun i => ns.length - (intOf i).toNat)
    case atStart => exact ⟨0, Nat.zero_le _, rfl, hide (fun j h1 h2 => by omega)⟩
    case round =>
      obtain ⟨k, hk, rfl, HN⟩ := hrel
      by_cases hlt : k < ns.length
      · obtain ⟨g, hao, hg, c0, c1, c2⟩ := nd_cells (unhide HROW) (unhide HB) hlt
        rw [hao]
        clear hao
        have HU : Hid (nmIs ns p s k = ((ns[k]).parent == p && (ns[k]).name == s)) := by apply hide; unfold nmIs; rw [ndAt_get _ _ hlt]
        generalize ns[k] = nd at *
        cases hp : (nd.parent == p)
        · have HN2 := hide (noIn_succ (unhide HN) (by rw [unhide HU, hp]; rfl))
          go_wp2
          go_round
          case rel => exact ⟨k + 1, by omega, by go_num, HN2⟩
          case measure => simp [intOf]; omega
        · cases hn : (nd.name == s)
          · have HN2 := hide (noIn_succ (unhide HN) (by rw [unhide HU, hp, hn]; rfl))
            have hn2 : ((bs nd.name).toList == (bs s).toList) = false := by rw [names_eq]; exact hn
            clear hn
            go_wp2
            go_round
            case rel => exact ⟨k + 1, by omega, by go_num, HN2⟩
            case measure => simp [intOf]; omega
          · have hn2 : ((bs nd.name).toList == (bs s).toList) = true := by rw [names_eq]; exact hn
            clear hn
            go_wp2
            go_ret
            refine ⟨⟨own, rfl, ?_, ?_⟩, unhide HB⟩
            · rw [unhide HE, ← hdd]; exact own_name (unhide HS) id
            · rw [unhide HE]; exact unhide HOWN s (unhide HS)
      · go_wp2
        go_ret
        refine ⟨⟨s, rfl, word_name (unhide HS) id, ?_⟩, unhide HB⟩
        intro n hn hp e
        obtain ⟨j, hj, rfl⟩ := mem_ndAt hn
        have := unhide HN j (by omega) (by omega)
        unfold nmIs at this
        rw [hp, e] at this; simp at this
end Go.Proofs.YtkahmbpggdneoaaDoor

namespace Go.Proofs.YtkahmbpggdneoaaDoor
open Go.RowKit
theorem Tryd.infoSpot : (Tryd.prog.info? 46).map (fun i => (i.zero, i.size, i.bytes)) = some (some (.agg #[.int .i64 0, .int .i64 0, .string ByteArray.empty]), 3, 32) := by kernel_rfl
theorem Tryd.infoInt : (Tryd.prog.info? 3).map (fun i => (i.zero, i.size, i.bytes)) = some (some (.int .i64 0), 1, 8) := by kernel_rfl
def intV (x : Int) : Value := .int .i64 x
def FolderOf (ns : List Nd) (f : Int) : Prop := f = 0 ∨ (f % 2 = 0 ∧ ∃ n ∈ ns, n.id = f)
theorem own_first (w : World) (x : Int) (base : Nat) (hb : base ≤ w.heap.size) : (w.alloc (.cells #[.int .i64 x] 3)).ownsRow base 3 1 (.slice (some ⟨w.heap.size, 0, none⟩) 1 1) 1 [.int .i64 x] := by
  refine ⟨rfl, Or.inr ⟨w.heap.size, 1, #[.int .i64 x], rfl, hb, heap_alloc_new w _, Nat.le_refl _, by unfold maxLen; omega, rfl, rfl⟩⟩
set_option maxHeartbeats 2000000 in
theorem folders_any (ns : List Nd) (ao : Option Addr) (cap : Nat) (w : World) (hrow : Row w ao ns.length 3 (ndCells ns)) (hl : ns.length ≤ 4000) (hid : ∀ n ∈ ns, 0 ≤ n.id) :
    Calls Tryd.prog 33 #[.slice ao ns.length cap] w fun e w' => (∃ fs : List Int, ∃ ao' cap', e = .returned (.slice ao' fs.length cap') ∧ Row w' ao' fs.length 1 (fs.map intV) ∧ 1 ≤ fs.length ∧ fs.length ≤ ns.length + 1 ∧ ∀ f ∈ fs, FolderOf ns f) ∧ Below w.heap.size w w' := by
  obtain ⟨i0, hi, hz0, hz1, hz2⟩ := info_parts Tryd.infoInt
  have HROW := hide hrow
  have HID := hide hid
  clear hrow hid
  go_enter Tryd.func33, Tryd.ntmps33
  go_wp2
  go_loopw [3, 4] (fun v i wr => ∃ k : Nat, ∃ fs : List Int, k ≤ ns.length ∧ i = .int .i64 k ∧ wr.ownsRow w.heap.size 3 1 v fs.length (fs.map intV) ∧ Below w.heap.size w wr ∧ 1 ≤ fs.length ∧ fs.length ≤ k + 1 ∧ Hid (∀ f ∈ fs, FolderOf ns f)) (fun _ i _ => ns.length - (intOf i).toNat)
  case atStart => exact ⟨0, [0], Nat.zero_le _, rfl, own_first w 0 _ (Nat.le_refl _), (Below.refl _ _).alloc (Nat.le_refl _) _, by simp, by simp, hide (fun f hf => by simp at hf; exact .inl hf)⟩
  case round =>
    obtain ⟨k, fs, hk, rfl, hown, hbel, hf1, hf2, HF⟩ := hrel
    have hsz := hbel.size
    by_cases hlt : k < ns.length
    · obtain ⟨g, hao, hg, c0, _, _⟩ := nd_cells (unhide HROW) hbel hlt
      have hid0 := unhide HID _ (List.getElem_mem hlt)
      have hmem := List.getElem_mem hlt
      have HM := hide hmem
      rw [hao]
      clear hao hmem
      have ht : (ns[k]).id.tmod 2 = (ns[k]).id % 2 := Int.tmod_eq_emod_of_nonneg hid0
      generalize ns[k] = nd at *
      by_cases he : nd.id % 2 = 0
      · have he' : (nd.id % 2 == 0) = true := by simpa using he
        have HF2 : Hid (∀ f ∈ fs ++ [nd.id], FolderOf ns f) := hide (fun f hf => by
          rcases List.mem_append.1 hf with hf | hf
          · exact unhide HF f hf
          · simp at hf; exact .inr ⟨by rw [hf]; exact he, nd, unhide HM, hf.symm⟩)
        go_wp2_with (first
          | (at_builtin; (refine wpList_append_own _ rfl _ _ 35 rfl w.heap.size 3 i0 (.int .i64 0) 1 8 Tryd.underlying35 hi hz0 hz1 hz2 rfl (by decide) _ _ _ rfl (own_below hown ((Below.refl _ _).alloc (by simp) _)) ⟨wr.heap.size, 0, none⟩ 1 1 [.int .i64 nd.id] rfl rfl (news_one _ _) (by simp [Value.oneCell']) (by unfold maxLen; omega) (by omega) (by simp; omega) ?_))
          | go_in)
        intro v' w4 hown' hgrow _
        have hb4 : Below w.heap.size w w4 := (hbel.alloc (by omega) _).grown hgrow (by simp; omega) (own_ge hown)
        have hown2 : w4.ownsRow w.heap.size 3 1 v' (fs ++ [nd.id]).length ((fs ++ [nd.id]).map intV) := by rw [List.map_append, List.length_append]; exact hown'
        clear hgrow hown hbel hown' c0
        go_wp2
        go_roundw
        case rel => exact ⟨k + 1, _, by omega, by go_num, hown2, hb4, by simp, by simp; omega, HF2⟩
        case measure => simp [intOf]; omega
      · have he' : (nd.id % 2 == 0) = false := by simpa using he
        go_wp2
        go_roundw
        case rel => exact ⟨k + 1, fs, by omega, by go_num, hown, hbel, hf1, by omega, HF⟩
        case measure => simp [intOf]; omega
    · go_wp2
      go_ret
      obtain ⟨ao', cap', rfl, hr⟩ := row_of_owns hown
      exact ⟨⟨fs, ao', cap', rfl, hr, hf1, by omega, unhide HF⟩, hbel⟩
/-- The numbers that a tree is grown of, in memory. -/
def IntsAt (w : World) (ao : Option Addr) (len : Nat) : Prop :=
  0 < len → ∃ b off, ao = some ⟨b, off, none⟩ ∧ b < w.heap.size ∧ ∀ i, i < len → ∃ x : Int, -9223372036854775808 ≤ x ∧ x ≤ 9223372036854775807 ∧ w.cell? ⟨b, off + i, none⟩ = some (.int .i64 x)
theorem grow_step {ns : List Nd} {t : Tr} (hr : Rep ns t) (hv : Valid t) {id p : Int} {nm : Str} (h1 : 1 ≤ id) (h2 : id ≤ 99) (hno : ∀ n ∈ ns, n.id ≠ id) (hp : FolderOf ns p) (hn : isName nm id = true) (hfree : ∀ n ∈ ns, n.parent = p → n.name ≠ nm) :
    ∃ t', Rep (ns ++ [⟨id, p, nm⟩]) t' ∧ Valid t' := by
  have hpar : isParentT t p = true := by
    rcases hp with rfl | ⟨he, n, hn, rfl⟩
    · exact isParent_iff.2 (.inl rfl)
    · obtain ⟨i, hi⟩ := (rep_mem hr hv.ok).1 hn
      have := hv.ok.2 i n hi
      exact isParent_iff.2 (.inr ⟨he, n, by rw [show n.id.toNat = i by omega]; exact hi⟩)
  have hpb : 0 ≤ p ∧ p ≤ 99 := by
    rcases hp with rfl | ⟨_, n, hn, rfl⟩
    · omega
    · have := hr.ok n hn; exact ⟨by have := this.1; omega, this.2.1⟩
  have hN : NdOk ⟨id, p, nm⟩ := ⟨h1, h2, hpb.1, hpb.2, hn⟩
  have hl : layR ns ⟨id, p, nm⟩ true = ns ++ [⟨id, p, nm⟩] := by
    unfold layR
    rw [List.filter_eq_self.2 (fun n hn => by unfold otherB; rw [bne_iff_ne]; exact hno n hn)]; rfl
  refine ⟨trPut t ⟨id, p, nm⟩, by rw [← hl]; exact rep_put hr hv.ok hN, valid_put hv hN hpar (fun hh => ?_) (fun i m hm hp' hn' => ?_)⟩
  · exfalso
    obtain ⟨n, hn⟩ := hasT_iff.1 hh
    have hb := hv.ok.2 _ n hn
    have h1' : (1 : Int) ≤ id := h1
    have hid : n.id = id := by
      have := hb.1
      show n.id = id
      rw [this]; exact Int.toNat_of_nonneg (by omega)
    exact hno n ((rep_mem hr hv.ok).2 ⟨_, hn⟩) hid
  · exact absurd hn' (hfree m ((rep_mem hr hv.ok).2 ⟨i, hm⟩) hp')
theorem rep_nil : Rep [] tr0 := ⟨fun n m hn => by simp at hn, by simp, fun n hn => by simp at hn, fun i => rfl⟩
theorem valid_0 : Valid tr0 := ⟨trOk_0, fun i n h => (by cases h), fun i n h => (by cases h), fun i j n m h => (by cases h)⟩
theorem int_cell {w wr : World} {ao : Option Addr} {fs : List Int} (hrow : Row w ao fs.length 1 (fs.map intV)) (hb : Below w.heap.size w wr) {k : Nat} (hk : k < fs.length) :
    ∃ g, ao = some ⟨g, 0, none⟩ ∧ g < w.heap.size ∧ wr.cell? ⟨g, k, none⟩ = some (.int .i64 fs[k]) := by
  obtain ⟨g, h1, h2, h3⟩ := hrow.2 (by omega)
  refine ⟨g, h1, h2, ?_⟩
  rw [hb.cell (p := ⟨g, k, none⟩) h2]
  exact h3 k _ (by simp [hk, intV])
set_option maxHeartbeats 4000000 in
set_option maxRecDepth 100000 in
theorem grow_any (ao : Option Addr) (len cap : Nat) (w : World) (hin : IntsAt w ao len) (hlen : len ≤ 140737488355328) :
    Calls Tryd.prog 16 #[.slice ao len cap] w fun e w' => (∃ ns t ao' cap', e = .returned (.slice ao' ns.length cap') ∧ Row w' ao' ns.length 3 (ndCells ns) ∧ Rep ns t ∧ Valid t) ∧ Below w.heap.size w w' := by
  obtain ⟨i0, hi, hz0, hz1, hz2⟩ := info_parts Tryd.infoSpot
  have HIN := hide hin
  clear hin
  go_enter Tryd.func16, Tryd.ntmps16
  go_wp2
  go_loopw [3, 4] (fun v i wr => ∃ k : Nat, ∃ ns : List Nd, ∃ t : Tr, k ≤ len ∧ i = .int .i64 k ∧ wr.ownsRow w.heap.size 46 3 v ns.length (ndCells ns) ∧ Below w.heap.size w wr ∧ Hid (Rep ns t) ∧ Hid (Valid t)) (fun _ i _ => len - (intOf i).toNat)
  case atStart => exact ⟨0, [], tr0, Nat.zero_le _, rfl, World.ownsRow_nil _ _ _ _, Below.refl _ _, hide rep_nil, hide valid_0⟩
  case round =>
    obtain ⟨k, ns, t, hk, rfl, hown, hbel, HR, HV⟩ := hrel
    have hsz := hbel.size
    have hnl := rep_len (unhide HR)
    by_cases hlt : k < len
    · obtain ⟨b, off, hao, hb, hcells⟩ := unhide HIN (by omega)
      obtain ⟨x, hx0, hx1, hc⟩ := hcells k hlt
      clear hcells
      rw [← hbel.cell (p := ⟨b, _, none⟩) hb] at hc
      rw [hao]
      clear hao
      obtain ⟨so, sc, rfl, hsrow⟩ := row_of_owns hown
      have HPK := hide (fun W => pick_any x W hx0 hx1)
      have HSR := hide hsrow
      have HFI := hide (fun id W (h : Row W so ns.length 3 (ndCells ns)) => find_any ns id so sc W h (by omega))
      have HFO := hide (fun W (h : Row W so ns.length 3 (ndCells ns)) => folders_any ns so sc W h (by omega) (fun n hn => by have := ((unhide HR).ok n hn).1; omega))
      have HOWN := hide hown
      clear hown hsrow
      go_wp2_with fail
      refine (unhide HPK _).mono ?_
      rintro e w1 ⟨v, rfl, hv0, hv1, rfl⟩
      have t1 : v.tmod 99 = v % 99 := Int.tmod_eq_emod_of_nonneg hv0
      have t2 : v.tdiv 99 = v / 99 := Int.tdiv_eq_ediv_of_nonneg hv0
      have hq0 : 0 ≤ v / 99 := by omega
      have hq1 : v / 99 < 1099511627776 := by omega
      have hi1 : 1 ≤ 1 + v % 99 := by omega
      have hi2 : 1 + v % 99 ≤ 99 := by omega
      go_wp2_with fail
      generalize 1 + v % 99 = id at *
      generalize v / 99 = q at *
      clear t1 t2 hc
      refine (unhide HFI id _ (unhide HSR)).mono ?_
      rintro e w2 ⟨rfl, rfl⟩
      by_cases hf : findN ns id < ns.length
      · have q2 := (lookR_some hf).2
        rw [q2]
        have hfn : (0 : Int) ≤ findN ns id := by omega
        generalize findN ns id = fn at *
        clear q2 hf
        go_wp2
        go_roundw
        case rel => exact ⟨k + 1, ns, t, by omega, by go_num, unhide HOWN, hbel, HR, HV⟩
        case measure => simp [intOf]; omega
      · obtain ⟨q1, q2⟩ := lookR_none hf
        rw [q2]
        have HNO := hide (lookR_no q1)
        clear q1 q2 hf
        go_wp2_with fail
        refine (unhide HFO _ (unhide HSR)).mono ?_
        rintro e w3 ⟨⟨fs, fo, fc, rfl, hfr, hf1, hf2, hff⟩, hb3⟩
        have t3 : q.tmod (fs.length : Int) = q % (fs.length : Int) := Int.tmod_eq_emod_of_nonneg hq0
        have t4 : q.tdiv (fs.length : Int) = q / (fs.length : Int) := Int.tdiv_eq_ediv_of_nonneg hq0
        have hr0 : 0 ≤ q % (fs.length : Int) := Int.emod_nonneg _ (by omega)
        have hr1 : q % (fs.length : Int) < fs.length := Int.emod_lt_of_pos _ (by omega)
        obtain ⟨j, hj⟩ := Int.eq_ofNat_of_zero_le hr0
        have hjl : j < fs.length := by omega
        obtain ⟨fg, hfo, hfg, hfc⟩ := int_cell hfr (Below.refl _ _) hjl
        have hFol := hff _ (List.getElem_mem hjl)
        have hd0 : 0 ≤ q / (fs.length : Int) := Int.ediv_nonneg hq0 (by omega)
        have hd1 : q / (fs.length : Int) < 1099511627776 := by
          have := Int.ediv_le_self (fs.length : Int) hq0; omega
        rw [hj] at t3
        have hfl : ¬ (fs.length : Int) = 0 := by omega
        have hj1 : (j : Int) < fs.length := by omega
        have HB3 := hide (hbel.trans (hb3.mono hsz))
        have HSR3 := hide (Row.below (unhide HSR) hb3)
        have HOWN3 := hide (own_below (unhide HOWN) hb3)
        have hz3 := hb3.size
        have HFol := hide hFol
        rw [hfo]
        clear hff hfr hb3 hFol hfo hj hr0 hr1
        generalize q / (fs.length : Int) = d at *
        generalize fs[j] = p at *
        have HNM := hide (fun W (h : Row W so ns.length 3 (ndCells ns)) => named_any ns id p d so sc W h (by omega) (unhide HR).ok (unhide HNO) hi1 hi2 hd0 hd1)
        go_wp2_with fail
        refine (unhide HNM _ (unhide HSR3)).mono ?_
        rintro e w4 ⟨⟨nm, rfl, hn1, hn2⟩, hb4⟩
        obtain ⟨t', hR', hV'⟩ := grow_step (unhide HR) (unhide HV) hi1 hi2 (unhide HNO) (unhide HFol) hn1 hn2
        have HR' := hide hR'
        have HV' := hide hV'
        have HB4 := hide ((unhide HB3).trans (hb4.mono (unhide HB3).size))
        have HOWN4 := hide (own_below (unhide HOWN3) hb4)
        have hz4 := hb4.size
        clear hn1 hn2 hb4 hR' hV' hfc
        go_wp2_with (first
          | (at_builtin; (refine wpList_append_own _ rfl _ _ 41 rfl w.heap.size 46 i0 (.agg #[.int .i64 0, .int .i64 0, .string ByteArray.empty]) 3 32 Tryd.underlying41 hi hz0 hz1 hz2 rfl (by decide) _ _ _ rfl (own_below (unhide HOWN4) ((Below.refl _ _).alloc (by simp) _)) ⟨w4.heap.size, 0, none⟩ 1 1 [.int .i64 id, .int .i64 p, .string (bs nm)] rfl rfl (news_three _ _ _ _) (by simp [Value.oneCell']) (by unfold maxLen; omega) (by omega) (by simp; omega) ?_))
          | go_in)
        intro v' w5 hown' hgrow _
        have hb5 : Below w.heap.size w w5 := ((unhide HB4).alloc (by omega) _).grown hgrow (by simp; omega) (own_ge (unhide HOWN4))
        have hown2 : w5.ownsRow w.heap.size 46 3 v' (ns ++ [(⟨id, p, nm⟩ : Nd)]).length (ndCells (ns ++ [(⟨id, p, nm⟩ : Nd)])) := by rw [ndCells_snoc, List.length_append]; exact hown'
        clear hgrow hown' hbel
        go_wp2
        go_roundw
        case rel => exact ⟨k + 1, _, t', by omega, by go_num, hown2, hb5, HR', HV'⟩
        case measure => simp [intOf]; omega
    · obtain ⟨ao', cap', rfl, hr⟩ := row_of_owns hown
      have HRO := hide hr
      clear hr hown
      go_wp2
      go_ret
      exact ⟨⟨ns, t, ao', cap', rfl, unhide HRO, unhide HR, unhide HV⟩, hbel⟩
theorem grown_any (ao : Option Addr) (len cap : Nat) (w : World) (hin : IntsAt w ao len) (hlen : len ≤ 140737488355328) :
    Calls Tryd.prog 13 #[.slice ao len cap] w fun e w' => (∃ t, e = .returned (.string (bs (textT t))) ∧ Valid t) ∧ Below w.heap.size w w' := by
  have HG := hide (grow_any ao len cap w hin hlen)
  clear hin
  go_enter Tryd.func13, Tryd.ntmps13
  go_wp2_with fail
  refine (unhide HG).mono ?_
  rintro e w1 ⟨⟨ns, t, ao', cap', rfl, hrow, hR, hV⟩, hb1⟩
  have et : trOf ns = t := funext hR.look
  have HT := hide (print_any ns ao' cap' w1 hrow (by have := rep_len hR; omega) (by rw [et]; exact hV.ok))
  rw [et] at HT
  have HV := hide hV
  clear hrow hR hV et
  go_wp2_with fail
  refine (unhide HT).mono ?_
  rintro e w2 ⟨rfl, hb2⟩
  go_wp2
  go_ret
  exact ⟨⟨t, rfl, unhide HV⟩, hb1.trans (hb2.mono hb1.size)⟩
theorem right_any (t : Tr) (w : World) (hv : Valid t) :
    Calls Tryd.prog 14 #[.string (bs (textT t))] w fun e w' => e = .returned (.bool true) ∧ Below w.heap.size w w' := by
  have HC := hide (check_any (bs (textT t)) w)
  rw [sl_bs, (check_text hv).1] at HC
  go_enter Tryd.func14, Tryd.ntmps14
  go_wp2_with fail
  refine (unhide HC).mono ?_
  rintro e w1 ⟨rfl, hb1⟩
  go_wp2
  go_ret
  exact ⟨rfl, hb1⟩
end Go.Proofs.YtkahmbpggdneoaaDoor

namespace Go.Proofs.YtkahmbpggdneoaaDoor
open Go.RowKit
theorem IntsAt.below {w w' : World} {ao : Option Addr} {len : Nat} (h : IntsAt w ao len) (hb : Below w.heap.size w w') : IntsAt w' ao len := by
  intro hpos
  obtain ⟨b, off, h1, h2, h3⟩ := h hpos
  refine ⟨b, off, h1, by have := hb.size; omega, fun i hi => ?_⟩
  obtain ⟨x, x0, x1, hc⟩ := h3 i hi
  exact ⟨x, x0, x1, by rw [hb.cell (p := ⟨b, _, none⟩) h2]; exact hc⟩
theorem compileE_valid {a g : Tr} (ha : Valid a) (hg : Valid g) : compileE (textT a) (textT g) = 0 := by
  have h1 := (check_text ha).1
  have h2 := (check_text hg).1
  have l1 := textTo_len ha.ok 99
  have l2 := textTo_len hg.ok 99
  unfold compileE textT at *
  rw [if_neg (by omega), h1, h2]; rfl
theorem compileT_valid {a g : Tr} (ha : Valid a) (hg : Valid g) : compileT (textT a) (textT g) = scriptText (makeT a g) := by
  unfold compileT
  rw [if_pos (compileE_valid ha hg), (check_text ha).2, (check_text hg).2]
theorem make_self {g : Tr} (hg : Valid g) : makeT g g = [] := by
  have h := seg_come (makeT_seg hg hg) hg.ok
  have h0 : toCome g g = 0 := by
    have h1 := sum_bd (f := weight g g) (c := 0) (List.range' 1 99) (fun i _ => by rw [weight_home rfl]; omega)
    unfold toCome; omega
  have : (makeT g g).length = 0 := by omega
  exact List.length_eq_zero_iff.1 this
set_option maxHeartbeats 4000000 in
set_option maxRecDepth 100000 in
theorem reached_law (ao bo : Option Addr) (la lb ca cb : Nat) (w : World) (ha : IntsAt w ao la) (hb : IntsAt w bo lb) (hla : la ≤ 140737488355328) (hlb : lb ≤ 140737488355328) :
    Calls Tryd.prog 5 #[.slice ao la ca, .slice bo lb cb] w fun e w' => e = .returned (.bool true) ∧ Below w.heap.size w w' := by
  have HGA := hide (grown_any ao la ca w ha hla)
  have HGB := hide (fun W (h : Below w.heap.size w W) => grown_any bo lb cb W (hb.below h) hlb)
  clear ha hb
  go_enter Tryd.func5, Tryd.ntmps5
  go_wp2_with fail
  refine (unhide HGA).mono ?_
  rintro e w1 ⟨⟨a, rfl, hva⟩, hb1⟩
  go_wp2_with fail
  refine (unhide HGB _ hb1).mono ?_
  rintro e w2 ⟨⟨g, rfl, hvg⟩, hb2⟩
  have HB2 := hide (hb1.trans (hb2.mono hb1.size))
  clear hb1 hb2 HGA HGB
  have HRA := hide (fun W => right_any a W hva)
  have HRG := hide (fun W => right_any g W hvg)
  have HC1 := hide (fun W => compile_any (bs (textT a)) (bs (textT g)) W)
  have HC2 := hide (fun W => compile_any (bs (textT g)) (bs (textT a)) W)
  have HC3 := hide (fun W => compile_any (bs (textT g)) (bs (textT g)) W)
  rw [sl_bs, sl_bs, compileE_valid hva hvg] at HC1
  rw [sl_bs, sl_bs, compileE_valid hvg hva] at HC2
  rw [sl_bs, compileE_valid hvg hvg, compileT_valid hvg hvg, make_self hvg] at HC3
  have HA1 := hide (fun W => apply_any (bs (textT a)) (bs (compileT (textT a) (textT g))) W)
  rw [sl_bs, sl_bs, apply_compile (compileE_valid hva hvg)] at HA1
  have HA2 := hide (fun W => apply_any (bs (textT g)) (bs (compileT (textT g) (textT a))) W)
  rw [sl_bs, sl_bs, apply_compile (compileE_valid hvg hva)] at HA2
  clear hva hvg
  have hs0 : scriptText [] = [] := rfl
  rw [hs0] at HC3
  generalize compileT (textT a) (textT g) = s1 at *
  generalize compileT (textT g) (textT a) = s2 at *
  generalize textT a = A at *
  generalize textT g = G at *
  have e1 : ((bs G).toList == (bs G).toList) = true := by simp
  have e2 : ((bs A).toList == (bs A).toList) = true := by simp
  have e3 : ((bs s1).toList == (bs s1).toList) = true := by simp
  have e4 : (bs ([] : Str)).toList = [] := by rw [tl_sl, sl_bs]
  go_wp2_with fail
  refine (unhide HRA _).mono ?_
  rintro e w3 ⟨rfl, hb3⟩
  have HB3 := hide ((unhide HB2).trans (hb3.mono (unhide HB2).size))
  clear hb3
  go_wp2_with fail
  refine (unhide HRG _).mono ?_
  rintro e w4 ⟨rfl, hb4⟩
  have HB4 := hide ((unhide HB3).trans (hb4.mono (unhide HB3).size))
  clear hb4
  go_wp2_with fail
  refine (unhide HC1 _).mono ?_
  rintro e w5 ⟨rfl, hb5⟩
  have HB5 := hide ((unhide HB4).trans (hb5.mono (unhide HB4).size))
  clear hb5
  go_wp2_with fail
  refine (unhide HA1 _).mono ?_
  rintro e w6 ⟨rfl, hb6⟩
  have HB6 := hide ((unhide HB5).trans (hb6.mono (unhide HB5).size))
  clear hb6
  go_wp2_with fail
  refine (unhide HC2 _).mono ?_
  rintro e w7 ⟨rfl, hb7⟩
  have HB7 := hide ((unhide HB6).trans (hb7.mono (unhide HB6).size))
  clear hb7
  go_wp2_with fail
  refine (unhide HA2 _).mono ?_
  rintro e w8 ⟨rfl, hb8⟩
  have HB8 := hide ((unhide HB7).trans (hb8.mono (unhide HB7).size))
  clear hb8
  go_wp2_with fail
  refine (unhide HC3 _).mono ?_
  rintro e w9 ⟨rfl, hb9⟩
  have HB9 := hide ((unhide HB8).trans (hb9.mono (unhide HB8).size))
  clear hb9
  go_wp2_with fail
  refine (unhide HC1 _).mono ?_
  rintro e w10 ⟨rfl, hb10⟩
  have HB10 := hide ((unhide HB9).trans (hb10.mono (unhide HB9).size))
  clear hb10
  go_wp2
  go_ret
  exact ⟨rfl, unhide HB10⟩
end Go.Proofs.YtkahmbpggdneoaaDoor
