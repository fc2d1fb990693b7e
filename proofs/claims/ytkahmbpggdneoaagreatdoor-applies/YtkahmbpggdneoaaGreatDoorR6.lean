import Derived.Test.YtkahmbpggdneoaaGreatDoorR5
namespace Go.Proofs.YtkahmbpggdneoaaGreatDoor
open Go.RowKit
theorem row_of_owns2 {w : World} {base : Nat} {e : TypeId} {size : Nat} {v : Value} {n : Nat} {xs : List Value} (h : w.ownsRow base e size v n xs) : ∃ ao cap, v = .slice ao n cap ∧ Row w ao n size xs ∧ n ≤ cap := by
  obtain ⟨ao, cap, hv, hr⟩ := row_of_owns h
  refine ⟨ao, cap, hv, hr, ?_⟩
  rcases h.2 with ⟨h1, h2⟩ | ⟨g, cap', cur, h1, _, _, h3, _⟩
  · omega
  · rw [hv] at h1; injection h1 with _ _ h4; omega
theorem node3_other {ps : List Str} (h : ps.length ≠ 3) : node3 ps = none := by
  unfold node3
  split
  · simp at h
  · rfl
set_option maxHeartbeats 1000000 in
theorem rnode_no (ao : Option Addr) (n cap : Nat) (w : World) (h3 : n ≠ 3) :
    Calls Tryz.prog 64 #[.slice ao n cap] w fun e w' => e = .returned (.tuple #[.agg #[.int .i64 0, .int .i64 0, .string ByteArray.empty], .bool false]) ∧ Below w.heap.size w w' := by
  have hne : ((n : Int) != 3) = true := by rw [bne_iff_ne]; omega
  go_enter Tryz.func64, Tryz.ntmps64
  go_wp2
  refine bodyPost_ret (v := .tuple #[.agg #[.int .i64 0, .int .i64 0, .string ByteArray.empty], .bool false]) (by simp [results, Tryz.results64, go_sem]; rfl) rfl ⟨rfl, ?_⟩
  exact (Below.refl _ _).alloc (Nat.le_refl _) _
theorem rnode_any (ps : List Str) (ao : Option Addr) (cap : Nat) (w : World) (hrow : Row w ao ps.length 1 (ps.map strV)) (hl : ∀ p ∈ ps, p.length ≤ 4000) :
    Calls Tryz.prog 64 #[.slice ao ps.length cap] w fun e w' => (∃ x y z, e = .returned (.tuple #[.agg #[.int .i64 x, .int .i64 y, .string z], .bool (node3 ps).isSome]) ∧ (∀ n, node3 ps = some n → x = n.id ∧ y = n.parent ∧ z = bs n.name)) ∧ Below w.heap.size w w' := by
  by_cases h3 : ps.length = 3
  · obtain ⟨a, b, c, rfl⟩ := len3 h3
    obtain ⟨g, rfl, hg, hc⟩ := hrow.2 (by simp)
    exact rnode_yes a b c g cap w (by rw [bs_size]; exact hl a (by simp)) (by rw [bs_size]; exact hl b (by simp)) (by rw [bs_size]; exact hl c (by simp)) hg (hc 0 _ rfl) (hc 1 _ rfl) (hc 2 _ rfl)
  · refine (rnode_no ao ps.length cap w h3).mono ?_
    rintro e w' ⟨rfl, hb⟩
    exact ⟨⟨0, 0, _, by rw [node3_other h3]; rfl, fun n hn => by rw [node3_other h3] at hn; cases hn⟩, hb⟩
theorem rparts_len (r : Str) (h : r.length ≤ 4000) : ∀ p ∈ rparts r, p.length ≤ 4000 := by
  intro p hp
  unfold rparts at hp
  split at hp
  · have := part_len _ p hp; have := bodyS_len r; omega
  · simp at hp
theorem rd_short {rs : List Str} {k : Nat} {ns : List Nd} (h : RdInv rs k ns) (hk : k < rs.length) (hn : recNode rs[k] = none) : (readNodes rs).length = k ∧ (readNodes rs).length < rs.length := by
  rw [rdInv_no h hk hn]; exact ⟨h.1, by rw [h.1]; exact hk⟩
theorem rd_full {rs : List Str} {k : Nat} {ns : List Nd} (h : RdInv rs k ns) (hk : ¬ k < rs.length) : ¬ (readNodes rs).length < rs.length ∧ readNodes rs = ns ∧ ns.length = k := by
  refine ⟨?_, rdInv_end h hk, h.1⟩
  rw [rdInv_end h hk, h.1]; exact hk
set_option maxHeartbeats 2000000 in
theorem nodes_any (s : ByteArray) (w : World) (hs : s.size ≤ 4000) :
    Calls Tryz.prog 40 #[.string s] w fun e w' => (((readNodes (cut (sl s))).length < (cut (sl s)).length ∧ e = .returned (.tuple #[.slice none 0 0, .int .i64 (readNodes (cut (sl s))).length])) ∨ (¬ (readNodes (cut (sl s))).length < (cut (sl s)).length ∧ ∃ ao cap, e = .returned (.tuple #[.slice ao (readNodes (cut (sl s))).length cap, .int .i64 (-1)]) ∧ Row w' ao (readNodes (cut (sl s))).length 3 (ndCells (readNodes (cut (sl s)))) ∧ (readNodes (cut (sl s))).length ≤ cap)) ∧ Below w.heap.size w w' := by
  obtain ⟨i0, hi, hz0, hz1, hz2⟩ := info_parts Tryz.infoRNode
  have HC := hide (fun W => rcut_any s W hs)
  have hrl : (cut (sl s)).length ≤ 4000 := by have := cut_length_le (sl s); rw [sl_length] at this; omega
  have HRM : Hid (∀ r ∈ cut (sl s), r.length ≤ 4000) := hide (fun r hr => by have := cut_mem_len (sl s) r hr; rw [sl_length] at this; omega)
  generalize cut (sl s) = rs at *
  go_enter Tryz.func40, Tryz.ntmps40
  go_wp2_with fail
  refine (unhide HC _).mono ?_
  rintro e w1 ⟨ao, cap, rfl, hrow, hb1⟩
  have HROW := hide hrow
  have HB1 := hide hb1
  clear hrow hb1
  go_wp2
  go_loopw [4, 6] (fun v i wr => ∃ k : Nat, ∃ ns : List Nd, k ≤ rs.length ∧ i = .int .i64 k ∧ wr.ownsRow w1.heap.size 64 3 v k (ndCells ns) ∧ Below w1.heap.size w1 wr ∧ Hid (RdInv rs k ns)) (fun _ i _ => rs.length - (intOf i).toNat)
  case atStart => exact ⟨0, [], Nat.zero_le _, rfl, World.ownsRow_nil _ _ _ _, Below.refl _ _, hide ⟨rfl, rfl⟩⟩
  case round =>
    obtain ⟨k, ns, hk, rfl, hown, hbel, HI⟩ := hrel
    by_cases hlt : k < rs.length
    · obtain ⟨g, hao, hg, hcell⟩ := str_cell (unhide HROW) hbel hlt
      rw [hao]
      have hrl2 : (rs[k]).length ≤ 4000 := unhide HRM _ (List.getElem_mem hlt)
      have HP := hide (fun W => rparts_any (bs rs[k]) W (by rw [bs_size]; exact hrl2))
      rw [sl_bs] at HP
      have HND := hide (fun ao cap W (hh : Row W ao (rparts rs[k]).length 1 ((rparts rs[k]).map strV)) => rnode_any (rparts rs[k]) ao cap W hh (rparts_len _ hrl2))
      have HREC := hide (recNode_node3 rs[k])
      have hsz := hbel.size
      clear hao
      generalize hr : rs[k] = r at *
      have HR := hide hr; clear hr
      generalize rparts r = ps at *
      go_wp2_with fail
      refine (unhide HP _).mono ?_
      rintro e w2 ⟨ao2, cap2, rfl, hrow2, hb2⟩
      have HROW2 := hide hrow2; clear hrow2
      go_wp2_with fail
      refine (unhide HND _ _ _ (unhide HROW2)).mono ?_
      rintro e w3 ⟨⟨x, y, z, rfl, hxyz⟩, hb3⟩
      have hb23 := hb2.trans (hb3.mono hb2.size)
      have HOWN := hide (own_below hown hb23)
      have HB3 := hide (hbel.trans (hb23.mono hsz))
      have hz3 : wr.heap.size ≤ w3.heap.size := hb23.size
      have HX := hide hxyz
      clear hxyz hb2 hb3 hb23 HP HND HROW2
      generalize node3 ps = R at *
      cases R with
      | none =>
        have HS := hide (rd_short (unhide HI) hlt (by rw [unhide HR, unhide HREC]))
        go_wp2
        go_ret2
        refine ⟨.inl ⟨(unhide HS).2, by rw [(unhide HS).1]; rfl⟩, ?_⟩
        exact (unhide HB1).trans (((unhide HB3).alloc (by omega) _).mono (unhide HB1).size)
      | some nd =>
        have HN := hide (rdInv_yes (unhide HI) hlt (n := nd) (by rw [unhide HR, unhide HREC]))
        obtain ⟨rfl, rfl, rfl⟩ := unhide HX nd rfl
        clear HX
        go_wp2_with (first
          | (at_builtin; (refine wpList_append_own _ rfl _ _ 41 rfl w1.heap.size 64 i0 (.agg #[.int .i64 0, .int .i64 0, .string ByteArray.empty]) 3 32 Tryz.underlying41 hi hz0 hz1 hz2 rfl (by decide) _ _ _ rfl (own_below (unhide HOWN) (((Below.refl _ _).alloc (Nat.le_refl _) _).alloc (by simp) _)) ⟨w3.heap.size + 1, 0, none⟩ 1 1 [.int .i64 nd.id, .int .i64 nd.parent, .string (bs nd.name)] rfl rfl (news_three' _ _ _ _ _) (by simp [Value.oneCell']) (by unfold maxLen; omega) (by omega) (by have := hbel.size; simp; omega) ?_))
          | go_in)
        intro v' w4 hown' hgrow _
        have hb4 : Below w1.heap.size w1 w4 := ((((unhide HB3).alloc (by omega) _).alloc (by simp; omega) _)).grown hgrow (by simp; omega) (own_ge hown)
        have hown2 : w4.ownsRow w1.heap.size 64 3 v' (k + 1) (ndCells (ns ++ [nd])) := by rw [ndCells_snoc]; exact hown'
        clear hgrow hown hbel hown'
        go_wp2
        go_roundw
        case rel => exact ⟨k + 1, _, by omega, by go_num, hown2, hb4, HN⟩
        case measure => simp [intOf]; omega
    · have HF := hide (rd_full (unhide HI) hlt)
      go_wp2
      go_ret2
      obtain ⟨f1, f2, f3⟩ := unhide HF
      obtain ⟨ao', cap', rfl, hr, hcap⟩ := row_of_owns2 hown
      rw [f2]
      rw [← f3] at hr
      refine ⟨.inr ⟨by rw [← f2]; exact f1, ao', cap', by rw [f3]; rfl, hr, by rw [f3]; exact hcap⟩, (unhide HB1).trans (hbel.mono (unhide HB1).size)⟩
end Go.Proofs.YtkahmbpggdneoaaGreatDoor
