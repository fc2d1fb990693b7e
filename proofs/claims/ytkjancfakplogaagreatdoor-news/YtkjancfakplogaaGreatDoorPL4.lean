import Derived.Test.YtkjancfakplogaaGreatDoorPL3
namespace Go.Proofs.YtkjancfakplogaaGreatDoor
open Go.RowKit
theorem Tryz.infoOp : (Tryz.prog.info? 139).map (fun i => (i.zero, i.size, i.bytes)) = some (some (.agg #[.int .i64 0, .int .i64 0, .int .i64 0, .int .i64 0, .string ByteArray.empty]), 5, 48) := by kernel_rfl
theorem news_five {w : World} (a b c d f : Value) (t : TypeId) : ∀ j x, [a, b, c, d, f][j]? = some x → (w.alloc (.cells #[a, b, c, d, f] t)).cell? ((⟨w.heap.size, 0, none⟩ : Addr).add j) = some x := by
  intro j x hx
  exact World.news_of_block (cs := #[a, b, c, d, f]) (heap_alloc_new w _) j x hx
theorem news_five' {w : World} (o : Obj) (a b c d f : Value) (t : TypeId) : ∀ j x, [a, b, c, d, f][j]? = some x → ((w.alloc o).alloc (.cells #[a, b, c, d, f] t)).cell? ((⟨w.heap.size + 1, 0, none⟩ : Addr).add j) = some x := by
  have := @news_five (w.alloc o) a b c d f t
  simpa using this
/-- What Read answers. -/
def ReadRes (r : Option (List Lo)) (e : Ending) (w' : World) : Prop := match r with
  | none => e = .returned (.tuple #[.slice none 0 0, .bool false])
  | some l => ∃ ao cap, e = .returned (.tuple #[.slice ao l.length cap, .bool true]) ∧ Row w' ao l.length 5 (loCells l)
set_option maxHeartbeats 2000000 in
theorem opsRead_any (s : ByteArray) (w : World) (hs : s.size ≤ 4000) :
    Calls Tryz.prog 50 #[.string s] w fun e w' => ReadRes (readOps (cut (sl s))) e w' ∧ Below w.heap.size w w' := by
  obtain ⟨i0, hi, hz0, hz1, hz2⟩ := info_parts Tryz.infoOp
  have HC := hide (cut_any s w hs)
  have hn : (cut (sl s)).length ≤ 4000 := by have := cut_length_le (sl s); rw [sl_length] at this; omega
  have HL : Hid (∀ r ∈ cut (sl s), r.length ≤ 4000) := hide (fun r hr => by have := cut_mem_len (sl s) r hr; rw [sl_length] at this; omega)
  generalize cut (sl s) = rs at *
  go_enter Tryz.func50, Tryz.ntmps50
  go_wp2_with fail
  refine (unhide HC).mono ?_
  rintro e w0 ⟨ao, cap, rfl, hrow, hbel0⟩
  have HROW := hide hrow; clear hrow
  have hs0 := hbel0.size
  have HB0 := hide hbel0; clear hbel0
  go_wp2
  go_loopw [4, 12] (fun v i wr => ∃ k : Nat, ∃ acc : List Lo, k ≤ rs.length ∧ i = .int .i64 k ∧ wr.ownsRow w0.heap.size 139 5 v k (loCells acc) ∧ Below w0.heap.size w0 wr ∧ Hid (LoInv rs k acc)) (fun _ i _ => rs.length - (intOf i).toNat)
  case atStart => exact ⟨0, [], Nat.zero_le _, rfl, World.ownsRow_nil _ _ _ _, Below.refl _ _, hide (loInv_0 rs)⟩
  case round =>
    obtain ⟨k, acc, hk, rfl, hown, hbel, HI⟩ := hrel
    by_cases hlt : k < rs.length
    · obtain ⟨g, hao, hg, hcell⟩ := str_cell (unhide HROW) hbel hlt
      rw [hao]
      have hrl : (rs[k]).length ≤ 4000 := unhide HL _ (List.getElem_mem hlt)
      have HRD := hide (fun W => readOp_any (bs rs[k]) W (by rw [bs_size]; exact hrl))
      rw [sl_bs] at HRD
      have hsz := hbel.size
      clear hao
      generalize hr : rs[k] = r at *
      have HR := hide hr; clear hr
      generalize hR : readOp r = R at *
      have HRR := hide hR; clear hR
      cases R with
      | none =>
        go_wp2_with fail
        refine (unhide HRD _).mono ?_
        rintro e w2 ⟨⟨a, b, c, d, z, rfl, _⟩, hb2⟩
        have HN := hide (loInv_no (unhide HI) hlt (by rw [unhide HR, unhide HRR]))
        have HB3 := hide (hbel.trans (hb2.mono hbel.size))
        have hz3 := hb2.size
        go_wp2
        go_ret2
        refine ⟨by rw [unhide HN]; rfl, ?_⟩
        exact (unhide HB0).trans (((unhide HB3).alloc (by omega) _).mono hs0)
      | some nd =>
        go_wp2_with fail
        refine (unhide HRD _).mono ?_
        rintro e w2 ⟨⟨a, b, c, d, z, rfl, hx⟩, hb2⟩
        obtain ⟨rfl, rfl, rfl, rfl, rfl⟩ := hx nd rfl
        have HB3 := hide (hbel.trans (hb2.mono hbel.size))
        have HOWN := hide (own_below hown hb2)
        have hz3 := hb2.size
        go_wp2_with (first
          | (at_builtin; (refine wpList_append_own _ rfl _ _ 100 rfl w0.heap.size 139 i0 (.agg #[.int .i64 0, .int .i64 0, .int .i64 0, .int .i64 0, .string ByteArray.empty]) 5 48 Tryz.underlying100 hi hz0 hz1 hz2 rfl (by decide) _ _ _ rfl (own_below (unhide HOWN) (((Below.refl _ _).alloc (Nat.le_refl _) _).alloc (by simp) _)) ⟨w2.heap.size + 1, 0, none⟩ 1 1 (loC nd) rfl rfl (news_five' _ _ _ _ _ _ _) (by simp [Value.oneCell', loC]) (by unfold maxLen; omega) (by omega) (by have := hbel.size; simp; omega) ?_))
          | go_in)
        intro v' w3 hown' hgrow _
        have HN := hide (loInv_yes (unhide HI) hlt (x := nd) (by rw [unhide HR, unhide HRR]))
        have hb4 : Below w0.heap.size w0 w3 := ((((unhide HB3).alloc (by have := hbel.size; omega) _).alloc (by have := hbel.size; simp; omega) _)).grown hgrow (by have := hbel.size; simp; omega) (own_ge hown)
        have hown2 : w3.ownsRow w0.heap.size 139 5 v' (k + 1) (loCells (acc ++ [nd])) := by rw [loCells_snoc]; exact hown'
        clear hgrow hown hbel hown' hb2
        go_wp2
        go_roundw
        case rel => exact ⟨k + 1, _, by omega, by go_num, hown2, hb4, HN⟩
        case measure => simp [intOf]; omega
    · have HN := hide (loInv_end (unhide HI) hlt)
      have HI1 := hide (unhide HI).1
      go_wp2
      obtain ⟨ao', cap', rfl, hr⟩ := row_of_owns hown
      go_ret2
      refine ⟨?_, (unhide HB0).trans (hbel.mono hs0)⟩
      rw [unhide HN]
      rw [← unhide HI1] at hr
      exact ⟨ao', cap', by rw [unhide HI1]; rfl, hr⟩
end Go.Proofs.YtkjancfakplogaaGreatDoor
