import Derived.Test.YtkjancfakplogaaGreatDoorPL4
namespace Go.Proofs.YtkjancfakplogaaGreatDoor
open Go.RowKit
/-- An op's cells in a block of its own. -/
def OpAt (w : World) (g : Nat) (x : Lo) : Prop := g < w.heap.size ∧ w.cell? ⟨g, 0, none⟩ = some (.int .i64 x.count) ∧ w.cell? ⟨g, 1, none⟩ = some (.int .i64 x.site) ∧ w.cell? ⟨g, 2, none⟩ = some (.int .i64 x.node.id) ∧ w.cell? ⟨g, 3, none⟩ = some (.int .i64 x.node.parent) ∧ w.cell? ⟨g, 4, none⟩ = some (.string (bs x.node.name))
theorem OpAt.below {w w' : World} {g B : Nat} {x : Lo} (h : OpAt w g x) (hb : Below B w w') (hB : g < B) : OpAt w' g x := by
  obtain ⟨h0, h1, h2, h3, h4, h5⟩ := h
  have hs := hb.size
  refine ⟨by omega, ?_, ?_, ?_, ?_, ?_⟩
  · rw [hb.cell (p := ⟨g, 0, none⟩) hB]; exact h1
  · rw [hb.cell (p := ⟨g, 1, none⟩) hB]; exact h2
  · rw [hb.cell (p := ⟨g, 2, none⟩) hB]; exact h3
  · rw [hb.cell (p := ⟨g, 3, none⟩) hB]; exact h4
  · rw [hb.cell (p := ⟨g, 4, none⟩) hB]; exact h5
theorem opAt_new (w : World) (x : Lo) (t : TypeId) : OpAt (w.alloc (.cells #[.int .i64 x.count, .int .i64 x.site, .int .i64 x.node.id, .int .i64 x.node.parent, .string (bs x.node.name)] t)) w.heap.size x := by
  refine ⟨by simp, news_five _ _ _ _ _ _ 0 _ rfl, news_five _ _ _ _ _ _ 1 _ rfl, news_five _ _ _ _ _ _ 2 _ rfl, news_five _ _ _ _ _ _ 3 _ rfl, news_five _ _ _ _ _ _ 4 _ rfl⟩
theorem Row.below' {w w' : World} {ao : Option Addr} {n size : Nat} {xs : List Value} {B : Nat} (h : Row w ao n size xs) (hb : Below B w w') (hB : w.heap.size ≤ B) : Row w' ao n size xs := h.below (hb.mono hB)
theorem fresh_take (L list : List Lo) (k : Nat) (h : k < list.length) : fresh L (list.take (k + 1)) = freshS L (fresh L (list.take k)) list[k] := by
  rw [List.take_succ_eq_append_getElem h, fresh_snoc]
theorem freshS_no {L acc : List Lo} {x : Lo} (h : hasStamp L x = true ∨ hasStamp acc x = true) : freshS L acc x = acc := by
  unfold freshS; rw [if_pos]; rw [Bool.or_eq_true]; exact h
theorem freshS_yes {L acc : List Lo} {x : Lo} (h : hasStamp L x = false) (g : hasStamp acc x = false) : freshS L acc x = acc ++ [x] := by
  unfold freshS; rw [if_neg]; rw [h, g]; simp
set_option maxHeartbeats 4000000 in
theorem fresh_any (L list : List Lo) (b o : Nat) (ao bo : Option Addr) (ca cb : Nat) (w : World) (hlog : w.cell? ⟨b, o, none⟩ = some (.slice ao L.length ca)) (hb : b < w.heap.size) (hL : Row w ao L.length 5 (loCells L)) (hl : Row w bo list.length 5 (loCells list)) (hL0 : L.length ≤ 4000) (hl0 : list.length ≤ 4000) :
    Calls Tryz.prog 80 #[.pointer (some ⟨b, o, none⟩), .slice bo list.length cb] w fun e w' => ∃ fo cf, e = .returned (.slice fo (fresh L list).length cf) ∧ w'.ownsRow w.heap.size 139 5 (.slice fo (fresh L list).length cf) (fresh L list).length (loCells (fresh L list)) ∧ Below w.heap.size w w' := by
  obtain ⟨i0, hi, hz0, hz1, hz2⟩ := info_parts Tryz.infoOp
  have HL := hide hL; clear hL
  have HLI := hide hl; clear hl
  have HLOG := hide hlog; clear hlog
  go_enter Tryz.func80, Tryz.ntmps80
  go_wp2
  go_loopw [5, 12] (fun v i wr => ∃ k : Nat, k ≤ list.length ∧ i = .int .i64 k ∧ wr.ownsRow w.heap.size 139 5 v (fresh L (list.take k)).length (loCells (fresh L (list.take k))) ∧ Below w.heap.size w wr) (fun _ i _ => list.length - (intOf i).toNat)
  case atStart => exact ⟨0, Nat.zero_le _, rfl, World.ownsRow_nil _ _ _ _, Below.refl _ _⟩
  case round =>
    obtain ⟨k, hk, rfl, hown, hbel⟩ := hrel
    have hfl := fresh_len L (list.take k)
    rw [List.length_take] at hfl
    by_cases hlt : k < list.length
    · obtain ⟨g, hao, hg, c0, c1, c2, c3, c4⟩ := lo_cells (unhide HLI) hbel (Nat.le_refl _) hlt
      rw [hao]
      clear hao
      have HST := hide (fresh_take L list k hlt)
      generalize list[k] = x at *
      have hclog : wr.cell? ⟨b, o, none⟩ = some (.slice ao L.length ca) := by rw [hbel.cell (p := ⟨b, o, none⟩) hb]; exact unhide HLOG
      have hsz := hbel.size
      have hbr : b < wr.heap.size := by omega
      generalize fresh L (list.take k) = acc at *
      obtain ⟨fo, cf, rfl, hrow⟩ := row_of_owns hown
      have HOP := hide (opAt_new wr x 139)
      have hB1 := hbel.alloc hsz (.cells #[.int .i64 x.count, .int .i64 x.site, .int .i64 x.node.id, .int .i64 x.node.parent, .string (bs x.node.name)] 139)
      have HH1 := hide (fun W (h : Row W ao L.length 5 (loCells L)) => hasStamp_any L x ao ca W h (by omega))
      have HH2 := hide (fun W (h : Row W fo acc.length 5 (loCells acc)) => hasStamp_any acc x fo cf W h (by omega))
      have HRL : Hid (Row (wr.alloc (.cells #[.int .i64 x.count, .int .i64 x.site, .int .i64 x.node.id, .int .i64 x.node.parent, .string (bs x.node.name)] 139)).drew ao L.length 5 (loCells L)) := hide ((unhide HL).below hB1.drew)
      have HNO := hide (@freshS_no L acc x)
      have HYE := hide (@freshS_yes L acc x)
      generalize hasStamp L x = p at *
      generalize hasStamp acc x = q at *
      have HB1 := hide hB1.drew; clear hB1
      have HOWN := hide (own_below hown ((Below.refl wr.heap.size wr).alloc (Nat.le_refl _) (.cells #[.int .i64 x.count, .int .i64 x.site, .int .i64 x.node.id, .int .i64 x.node.parent, .string (bs x.node.name)] 139)).drew)
      clear hown
      have HROW := hide (hrow.below ((Below.refl wr.heap.size wr).alloc (Nat.le_refl _) (.cells #[.int .i64 x.count, .int .i64 x.site, .int .i64 x.node.id, .int .i64 x.node.parent, .string (bs x.node.name)] 139)).drew)
      clear hrow
      go_wp2
      go_region_with (go_at_call 110; refine (unhide HH1 _ (by exact unhide HRL)).mono ?_; rintro e w2 ⟨rfl, hb2⟩; have hop2 := OpAt.below (w := (wr.alloc (.cells #[.int .i64 x.count, .int .i64 x.site, .int .i64 x.node.id, .int .i64 x.node.parent, .string (bs x.node.name)] 139)).drew) (unhide HOP) hb2 (by simp [heap_drew]); obtain ⟨hz2', d0, d1, d2, d3, d4⟩ := hop2; clear c0 c1 c2 c3 c4 hclog)
      all_goals
        have HW2 := hide ((unhide HB1).trans (hb2.mono (unhide HB1).size))
        have HOWN2 := hide (own_below (unhide HOWN) hb2)
        have HROW2 := hide ((unhide HROW).below hb2)
        have HOP2 : Hid (OpAt w2 wr.heap.size x) := hide ⟨hz2', d0, d1, d2, d3, d4⟩
        clear hb2
        go_wp2_with fail
        refine (unhide HH2 _ (by exact unhide HROW2)).mono ?_
        rintro e w3 ⟨rfl, hb3⟩
        have hop3 := (unhide HOP2).below hb3 hz2'
        obtain ⟨hz3, e0, e1, e2, e3, e4⟩ := hop3
        clear d0 d1 d2 d3 d4
        have HW3 := hide ((unhide HW2).trans (hb3.mono (unhide HW2).size))
        have HOWN3 := hide (own_below (unhide HOWN2) hb3)
        clear hb3
        have hsz3 := (unhide HW3).size
        rcases (show p = true ∨ (p = false ∧ q = true) ∨ (p = false ∧ q = false) from by cases p <;> cases q <;> simp) with hp | ⟨hp, hq⟩ | ⟨hp, hq⟩
        · have HA : Hid (fresh L (list.take (k + 1)) = acc) := hide ((unhide HST).trans (unhide HNO (.inl hp)))
          subst hp
          go_wp2
          go_roundw
          case rel => exact ⟨k + 1, by omega, by go_num, by rw [unhide HA]; exact unhide HOWN3, unhide HW3⟩
          case measure => simp [intOf]; omega
        · have HA : Hid (fresh L (list.take (k + 1)) = acc) := hide ((unhide HST).trans (unhide HNO (.inr hq)))
          subst hp hq
          go_wp2
          go_roundw
          case rel => exact ⟨k + 1, by omega, by go_num, by rw [unhide HA]; exact unhide HOWN3, unhide HW3⟩
          case measure => simp [intOf]; omega
        · have HA : Hid (fresh L (list.take (k + 1)) = acc ++ [x]) := hide ((unhide HST).trans (unhide HYE hp hq))
          subst hp hq
          go_wp2_with (first
            | (at_builtin; (refine wpList_append_own _ rfl _ _ 100 rfl w.heap.size 139 i0 (.agg #[.int .i64 0, .int .i64 0, .int .i64 0, .int .i64 0, .string ByteArray.empty]) 5 48 Tryz.underlying100 hi hz0 hz1 hz2 rfl (by decide) _ _ _ rfl (own_below (unhide HOWN3) ((Below.refl _ _).alloc (Nat.le_refl _) _)) ⟨w3.heap.size, 0, none⟩ 1 1 (loC x) rfl rfl (news_five _ _ _ _ _ _) (by simp [Value.oneCell', loC]) (by unfold maxLen; omega) (by omega) (by simp; omega) ?_))
            | go_in)
          intro v' w4 hown' hgrow _
          have hb4 : Below w.heap.size w w4 := ((unhide HW3).alloc hsz3 _).grown hgrow (by simp; omega) (own_ge (unhide HOWN3))
          have hown2 : w4.ownsRow w.heap.size 139 5 v' (fresh L (list.take (k + 1))).length (loCells (fresh L (list.take (k + 1)))) := by rw [unhide HA, loCells_snoc, List.length_append]; exact hown'
          clear hgrow hown'
          go_wp2
          go_roundw
          case rel => exact ⟨k + 1, by omega, by go_num, hown2, hb4⟩
          case measure => simp [intOf]; omega
    · have HE : Hid (fresh L list = fresh L (list.take k)) := by apply hide; rw [List.take_of_length_le (by omega)]
      generalize fresh L (list.take k) = acc at *
      obtain ⟨fo, cf, rfl, hr⟩ := row_of_owns hown
      go_wp2
      go_ret
      refine ⟨fo, cf, by rw [unhide HE]; rfl, ?_, hbel⟩
      rw [unhide HE]; exact hown
end Go.Proofs.YtkjancfakplogaaGreatDoor
