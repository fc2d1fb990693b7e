import Derived.Test.YtkahmbpggdneoaaDoorKG3
import Derived.Test.YtkahmbpggdneoaaDoorCPure3
namespace Go.Proofs.YtkahmbpggdneoaaDoor
open Go.RowKit
/-! Growing trees: the parts. -/
set_option maxHeartbeats 1000000 in
theorem pick_any (c : Int) (w : World) (h0 : -9223372036854775808 ≤ c) (h1 : c ≤ 9223372036854775807) :
    Calls Tryd.prog 32 #[.int .i64 c, .int .i64 1099511627776] w fun e w' => ∃ v : Int, e = .returned (.int .i64 v) ∧ 0 ≤ v ∧ v < 1099511627776 ∧ w' = w := by
  by_cases hc : c < 0
  · go_enter Tryd.func32, Tryd.ntmps32
    go_wp2
    go_ret
    refine ⟨_, rfl, ?_, ?_, rfl⟩
    · rw [← Int.neg_tmod, Int.tmod_eq_emod_of_nonneg (by omega)]; omega
    · rw [← Int.neg_tmod, Int.tmod_eq_emod_of_nonneg (by omega)]; omega
  · go_enter Tryd.func32, Tryd.ntmps32
    go_wp2
    go_ret
    refine ⟨_, rfl, ?_, ?_, rfl⟩
    · omega
    · omega
def WordOk (s : Str) : Prop := s.all plainB = true ∧ 1 ≤ s.length ∧ s.length ≤ 8
set_option maxHeartbeats 1000000 in
theorem word_any (v : Int) (w : World) (h0 : 0 ≤ v) (_h1 : v < 1099511627776) :
    Calls Tryd.prog 53 #[.int .i64 v] w fun e w' => ∃ s : Str, e = .returned (.string (bs s)) ∧ WordOk s ∧ w' = w := by
  have hv : v % 5 = 0 ∨ v % 5 = 1 ∨ v % 5 = 2 ∨ v % 5 = 3 ∨ v % 5 = 4 := by omega
  rcases hv with h | h | h | h | h
  all_goals
    have ht : v.tmod 5 = _ := (Int.tmod_eq_emod_of_nonneg h0).trans h
    clear h
    go_enter Tryd.func53, Tryd.ntmps53
    go_wp2
    go_ret
  · exact ⟨[97], rfl, ⟨by decide, by decide, by decide⟩, rfl⟩
  · exact ⟨[98], rfl, ⟨by decide, by decide, by decide⟩, rfl⟩
  · exact ⟨[116], rfl, ⟨by decide, by decide, by decide⟩, rfl⟩
  · exact ⟨[99, 46, 57], rfl, ⟨by decide, by decide, by decide⟩, rfl⟩
  · exact ⟨[108, 111, 110, 103, 110, 97, 109, 101], rfl, ⟨by decide, by decide, by decide⟩, rfl⟩
theorem plainLen_word {s : Str} (hs : s.all plainB = true) (r : Str) (hr : ∀ c l, r = c :: l → plainB c = false) : plainLen (s ++ r) = s.length :=
  plainLen_stop (s ++ r) s.length (by simp) (by simpa using hs) (fun c l h => hr c l (by simpa using h))
theorem word_name {s : Str} (hs : WordOk s) (id : Int) : isName s id = true := by
  have e : plainLen s = s.length := by have := plainLen_word hs.1 [] (fun c l h => by cases h); simpa using this
  unfold isName; rw [e]; simp [hs.2.1, hs.2.2]
theorem own_len {s : Str} (hs : WordOk s) (l : Str) : plainLen (s ++ 126 :: l) = s.length :=
  plainLen_word hs.1 (126 :: l) (fun c r h => by cases h; decide)
theorem own_name {s : Str} (hs : WordOk s) (id : Int) : isName (s ++ 126 :: digs id) id = true := by
  unfold isName; rw [own_len hs]; simp [hs.2.1, hs.2.2]
theorem own_only {s : Str} (hs : WordOk s) {x y : Int} (hx0 : 0 ≤ x) (hx : x ≤ 99) (hy0 : 0 ≤ y) (hy : y ≤ 99) (h : isName (s ++ 126 :: digs x) y = true) : x = y := by
  unfold isName at h; rw [own_len hs] at h
  simp only [List.length_append, List.length_cons, Bool.and_eq_true, Bool.or_eq_true, beq_iff_eq, List.drop_left] at h
  rcases h.2 with h | h
  · omega
  · obtain ⟨a, rfl⟩ := Int.eq_ofNat_of_zero_le hx0
    obtain ⟨b, rfl⟩ := Int.eq_ofNat_of_zero_le hy0
    have := digs_inj a (by omega) b (by omega) (by simpa using h)
    rw [this]
theorem add_126 (a : Str) (ha : a.length ≤ 1000000) (W : World) : (Op.stringOp .add (bs a) ⟨#[126]⟩).run Tryd.prog W = .ok (.string (bs (a ++ [126]))) W := add_bs a [126] ha (by simp) W
def nmIs (ns : List Nd) (p : Int) (s : Str) (i : Nat) : Bool := (ndAt ns i).parent == p && (ndAt ns i).name == s
set_option maxHeartbeats 2000000 in
theorem named_any (ns : List Nd) (id p v : Int) (ao : Option Addr) (cap : Nat) (w : World) (hrow : Row w ao ns.length 3 (ndCells ns)) (hl : ns.length ≤ 4000) (hok : ∀ n ∈ ns, NdOk n) (hno : ∀ n ∈ ns, n.id ≠ id) (h1 : 1 ≤ id) (h2 : id ≤ 99) (hv0 : 0 ≤ v) (hv1 : v < 1099511627776) :
    Calls Tryd.prog 34 #[.slice ao ns.length cap, .int .i64 id, .int .i64 p, .int .i64 v] w fun e w' => (∃ nm : Str, e = .returned (.string (bs nm)) ∧ isName nm id = true ∧ ∀ n ∈ ns, n.parent = p → n.name ≠ nm) ∧ Below w.heap.size w w' := by
  have HROW := hide hrow
  have HOK := hide hok
  have HNO := hide hno
  have HW := hide (fun W => word_any v W hv0 hv1)
  have HD := hide (fun W => digits_digs id W (by omega) h2)
  have l1 := digs_len id
  have HOWN : Hid (∀ s, WordOk s → ∀ n ∈ ns, n.parent = p → n.name ≠ s ++ 126 :: digs id) := hide (fun s hs n hn _ e => by
    have hb := hok n hn
    have h3 := hb.2.2.2.2
    rw [e] at h3
    exact hno n hn (own_only hs (by omega) h2 (by have := hb.1; omega) hb.2.1 h3).symm)
  have HDG := hide (show digs id = digs id from rfl)
  clear hrow hok hno
  have hd5 : v.tdiv 5 = v / 5 := Int.tdiv_eq_ediv_of_nonneg hv0
  have hq0 : 0 ≤ v / 5 := by omega
  have hd4 : (v / 5).tmod 4 = v / 5 % 4 := Int.tmod_eq_emod_of_nonneg hq0
  have hqq : v / 5 % 4 = 0 ∨ ¬ v / 5 % 4 = 0 := by omega
  generalize hdd : digs id = dg at *
  go_enter Tryd.func34, Tryd.ntmps34
  go_wp2_with fail
  refine (unhide HW _).mono ?_
  rintro e w1 ⟨s, rfl, hs, rfl⟩
  have hsl := hs.2.2
  have a1 := add_126 s (by omega)
  have a2 := add_bs (s ++ [126]) dg (by simp; omega) (by omega)
  have HE : Hid (s ++ [126] ++ dg = s ++ 126 :: dg) := hide (by simp)
  generalize s ++ [126] ++ dg = own at *
  generalize s ++ [126] = own0 at *
  go_wp2_with fail
  refine (unhide HD _).mono ?_
  rintro e w2 ⟨rfl, hb2⟩
  have HB := hide hb2
  have HS := hide hs
  clear hs hb2
  rcases hqq with hq | hq
  · go_wp2
    go_ret
    refine ⟨⟨own, rfl, ?_, ?_⟩, unhide HB⟩
    · rw [unhide HE, ← hdd]; exact own_name (unhide HS) id
    · rw [unhide HE]; exact unhide HOWN s (unhide HS)
  · go_wp2
    go_loop [11] (fun i => ∃ k : Nat, k ≤ ns.length ∧ i = .int .i64 k ∧ Hid (NoIn (nmIs ns p s) 0 k)) (fun i => ns.length - (intOf i).toNat)
    case atStart => exact ⟨0, Nat.zero_le _, rfl, hide (fun j h1 h2 => by omega)⟩
    case round =>
      obtain ⟨k, hk, rfl, HN⟩ := hrel
      by_cases hlt : k < ns.length
      · obtain ⟨g, hao, hg, c0, c1, c2⟩ := nd_cells (unhide HROW) (unhide HB) hlt
        rw [hao]
        clear hao
        have HU : Hid (nmIs ns p s k = ((ns[k]).parent == p && (ns[k]).name == s)) := by apply hide; unfold nmIs; rw [ndAt_get _ _ hlt]
        generalize ns[k] = nd at *
        cases hp : (nd.parent == p)
        · have HN2 := hide (noIn_succ (unhide HN) (by rw [unhide HU, hp]; rfl))
          go_wp2
          go_round
          case rel => exact ⟨k + 1, by omega, by go_num, HN2⟩
          case measure => simp [intOf]; omega
        · cases hn : (nd.name == s)
          · have HN2 := hide (noIn_succ (unhide HN) (by rw [unhide HU, hp, hn]; rfl))
            have hn2 : ((bs nd.name).toList == (bs s).toList) = false := by rw [names_eq]; exact hn
            clear hn
            go_wp2
            go_round
            case rel => exact ⟨k + 1, by omega, by go_num, HN2⟩
            case measure => simp [intOf]; omega
          · have hn2 : ((bs nd.name).toList == (bs s).toList) = true := by rw [names_eq]; exact hn
            clear hn
            go_wp2
            go_ret
            refine ⟨⟨own, rfl, ?_, ?_⟩, unhide HB⟩
            · rw [unhide HE, ← hdd]; exact own_name (unhide HS) id
            · rw [unhide HE]; exact unhide HOWN s (unhide HS)
      · go_wp2
        go_ret
        refine ⟨⟨s, rfl, word_name (unhide HS) id, ?_⟩, unhide HB⟩
        intro n hn hp e
        obtain ⟨j, hj, rfl⟩ := mem_ndAt hn
        have := unhide HN j (by omega) (by omega)
        unfold nmIs at this
        rw [hp, e] at this; simp at this
end Go.Proofs.YtkahmbpggdneoaaDoor
