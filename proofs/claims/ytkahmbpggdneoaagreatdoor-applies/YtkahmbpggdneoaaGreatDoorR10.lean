import Derived.Test.YtkahmbpggdneoaaGreatDoorR9
namespace Go.Proofs.YtkahmbpggdneoaaGreatDoor
open Go.RowKit
theorem Tryz.infoRStep : (Tryz.prog.info? 82).map (fun i => (i.zero, i.size, i.bytes)) = some (some (.agg #[.int .u8 0, .int .i64 0, .int .i64 0, .string ByteArray.empty]), 4, 40) := by kernel_rfl
theorem rs_short {rs : List Str} {k : Nat} {ns : List St} (h : RsInv rs k ns) (hk : k < rs.length) (hn : readStep rs[k] = none) : (readSteps rs).length = k ∧ (readSteps rs).length < rs.length := by
  obtain ⟨h1, h2, _⟩ := rsInv_no h hk hn
  rw [h1, h2]; exact ⟨rfl, hk⟩
theorem rs_full {rs : List Str} {k : Nat} {ns : List St} (h : RsInv rs k ns) (hk : ¬ k < rs.length) (hk' : k ≤ rs.length) : ¬ (readSteps rs).length < rs.length ∧ readSteps rs = ns ∧ ns.length = k := by
  obtain ⟨h1, h2, _⟩ := rsInv_end h hk hk'
  exact ⟨by rw [h1, h2]; exact hk, h1, h2⟩
set_option maxHeartbeats 2000000 in
theorem rsteps_any (s : ByteArray) (w : World) (hs : s.size ≤ 4000) :
    Calls Tryz.prog 34 #[.string s] w fun e w' => (((readSteps (cut (sl s))).length < (cut (sl s)).length ∧ e = .returned (.tuple #[.slice none 0 0, .int .i64 (readSteps (cut (sl s))).length])) ∨ (¬ (readSteps (cut (sl s))).length < (cut (sl s)).length ∧ ∃ ao cap, e = .returned (.tuple #[.slice ao (readSteps (cut (sl s))).length cap, .int .i64 (-1)]) ∧ Row w' ao (readSteps (cut (sl s))).length 4 (stCells (readSteps (cut (sl s)))))) ∧ Below w.heap.size w w' := by
  obtain ⟨i0, hi, hz0, hz1, hz2⟩ := info_parts Tryz.infoRStep
  have HC := hide (fun W => rcut_any s W hs)
  have hrl : (cut (sl s)).length ≤ 4000 := by have := cut_length_le (sl s); rw [sl_length] at this; omega
  have HRM : Hid (∀ r ∈ cut (sl s), r.length ≤ 4000) := hide (fun r hr => by have := cut_mem_len (sl s) r hr; rw [sl_length] at this; omega)
  generalize cut (sl s) = rs at *
  go_enter Tryz.func34, Tryz.ntmps34
  go_wp2_with fail
  refine (unhide HC _).mono ?_
  rintro e w1 ⟨ao, cap, rfl, hrow, hb1⟩
  have HROW := hide hrow
  have HB1 := hide hb1
  clear hrow hb1
  go_wp2
  go_loopw [4, 6] (fun v i wr => ∃ k : Nat, ∃ ss : List St, k ≤ rs.length ∧ i = .int .i64 k ∧ wr.ownsRow w1.heap.size 82 4 v k (stCells ss) ∧ Below w1.heap.size w1 wr ∧ Hid (RsInv rs k ss)) (fun _ i _ => rs.length - (intOf i).toNat)
  case atStart => exact ⟨0, [], Nat.zero_le _, rfl, World.ownsRow_nil _ _ _ _, Below.refl _ _, hide ⟨rfl, rfl⟩⟩
  case round =>
    obtain ⟨k, ss, hk, rfl, hown, hbel, HI⟩ := hrel
    by_cases hlt : k < rs.length
    · obtain ⟨g, hao, hg, hcell⟩ := str_cell (unhide HROW) hbel hlt
      rw [hao]
      have hrl2 : (rs[k]).length ≤ 4000 := unhide HRM _ (List.getElem_mem hlt)
      have HP := hide (fun W => rstep_any (bs rs[k]) W (by rw [bs_size]; exact hrl2))
      rw [sl_bs] at HP
      have hsz := hbel.size
      clear hao
      generalize hr : rs[k] = r at *
      have HR := hide hr; clear hr
      go_wp2_with fail
      refine (unhide HP _).mono ?_
      rintro e w3 ⟨⟨x0, x1, x2, x3, rfl, hx⟩, hb3⟩
      have HOWN := hide (own_below hown hb3)
      have HB3 := hide (hbel.trans (hb3.mono hsz))
      have hz3 : wr.heap.size ≤ w3.heap.size := hb3.size
      have HX := hide hx
      clear hx hb3 HP
      cases hR : readStep r with
      | none =>
        have HS := hide (rs_short (unhide HI) hlt (by rw [unhide HR]; exact hR))
        clear hR
        go_wp2
        go_ret2
        refine ⟨.inl ⟨(unhide HS).2, by rw [(unhide HS).1]; rfl⟩, ?_⟩
        exact (unhide HB1).trans (((unhide HB3).alloc (by omega) _).mono (unhide HB1).size)
      | some st =>
        have HN := hide (rsInv_yes (unhide HI) hlt (n := st) (by rw [unhide HR]; exact hR))
        obtain ⟨rfl, rfl, rfl, rfl⟩ := unhide HX st hR
        clear HX hR
        go_wp2_with (first
          | (at_builtin; (refine wpList_append_own _ rfl _ _ 76 rfl w1.heap.size 82 i0 (.agg #[.int .u8 0, .int .i64 0, .int .i64 0, .string ByteArray.empty]) 4 40 Tryz.underlying76 hi hz0 hz1 hz2 rfl (by decide) _ _ _ rfl (own_below (unhide HOWN) (((Below.refl _ _).alloc (Nat.le_refl _) _).alloc (by simp) _)) ⟨w3.heap.size + 1, 0, none⟩ 1 1 [.int .u8 st.kind.toNat, .int .i64 st.node.id, .int .i64 st.node.parent, .string (bs st.node.name)] rfl rfl (news_four' _ _ _ _ _ _) (by simp [Value.oneCell']) (by unfold maxLen; omega) (by omega) (by have := hbel.size; simp; omega) ?_))
          | go_in)
        intro v' w4 hown' hgrow _
        have hb4 : Below w1.heap.size w1 w4 := ((((unhide HB3).alloc (by omega) _).alloc (by simp; omega) _)).grown hgrow (by simp; omega) (own_ge hown)
        have hown2 : w4.ownsRow w1.heap.size 82 4 v' (k + 1) (stCells (ss ++ [st])) := by rw [stCells_snoc]; exact hown'
        clear hgrow hown hbel hown'
        go_wp2
        go_roundw
        case rel => exact ⟨k + 1, _, by omega, by go_num, hown2, hb4, HN⟩
        case measure => simp [intOf]; omega
    · have HF := hide (rs_full (unhide HI) hlt hk)
      go_wp2
      go_ret2
      obtain ⟨f1, f2, f3⟩ := unhide HF
      obtain ⟨ao', cap', rfl, hr⟩ := row_of_owns hown
      rw [f2]
      rw [← f3] at hr
      refine ⟨.inr ⟨by rw [← f2]; exact f1, ao', cap', by rw [f3]; rfl, hr⟩, (unhide HB1).trans (hbel.mono (unhide HB1).size)⟩
end Go.Proofs.YtkahmbpggdneoaaGreatDoor
