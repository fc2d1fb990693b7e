import Derived.Test.YtkjancfakplogaaGreatDoorPL7
namespace Go.Proofs.YtkjancfakplogaaGreatDoor
open Go.RowKit
theorem row_of {w : World} {base : Nat} {e : TypeId} {size : Nat} {fo : Option Addr} {n cap : Nat} {xs : List Value} (h : w.ownsRow base e size (.slice fo n cap) n xs) : Row w fo n size xs := by
  obtain ⟨ao, c, e', hr⟩ := row_of_owns h
  cases e'; exact hr
theorem joinAll_take (L fr : List Lo) (k : Nat) (h : k < fr.length) : joinAll L (fr.take (k + 1)) = ins fr[k] (joinAll L (fr.take k)) := by
  rw [List.take_succ_eq_append_getElem h, joinAll_snoc]
theorem newTo_take {L fr : List Lo} (h : NewTo L fr) (k : Nat) : NewTo L (fr.take k) :=
  ⟨fun x hx => h.1 x (List.mem_of_mem_take hx), h.2.sublist (List.take_sublist _ _)⟩
/-- The replica's block and its log's. -/
abbrev Foot (b : Nat) (v : Value) : Nat → Prop := fun k => k = b ∨ v.ownBlock = some k
/-- A log's new row: as it was, or new. -/
def Moved (w : World) (v v' : Value) : Prop := v'.ownBlock = v.ownBlock ∨ ∃ g, v'.ownBlock = some g ∧ w.heap.size ≤ g
set_option maxHeartbeats 2000000 in
theorem join_any (L list : List Lo) (b : Nat) (site : Int) (v : Value) (bo : Option Addr) (cb : Nat) (w : World) (hR : RepAt w b site v) (hown : w.ownsRow 0 139 5 v L.length (loCells L)) (hs : Sorted L) (hL0 : L.length ≤ 150) (hl : Row w bo list.length 5 (loCells list)) (hl0 : list.length ≤ 4000) :
    Calls Tryz.prog 51 #[.pointer (some ⟨b, 1, none⟩), .slice bo list.length cb] w fun e w' =>
      if 150 < L.length + (fresh L list).length then e = .returned (.tuple #[.int .i64 0, .int .i64 13]) ∧ Below w.heap.size w w'
      else e = .returned (.tuple #[.int .i64 (fresh L list).length, .int .i64 0]) ∧ ∃ v', RepAt w' b site v' ∧ w'.ownsRow 0 139 5 v' (joinAll L (fresh L list)).length (loCells (joinAll L (fresh L list))) ∧ Keeps (Foot b v) w w' ∧ Moved w v v' := by
  obtain ⟨ao, ca, rfl, hrow⟩ := row_of_owns hown
  have HFR := hide (fresh_any L list b 1 ao bo ca cb w hR.cell1 hR.lt hrow hl (by omega) hl0)
  have hfl := fresh_len L list
  have HNEW := hide (fresh_new L list)
  clear hrow hl
  generalize fresh L list = fr at *
  have HR := hide hR; clear hR
  have HOWN := hide hown; clear hown
  have hbl := (unhide HR).lt
  have HSO := hide hs; clear hs
  by_cases hbig : 150 < L.length + fr.length
  · simp only [if_pos hbig]
    have hd : decide ((150 : Int) < (L.length : Int) + (fr.length : Int)) = true := by rw [decide_eq_true_eq]; omega
    go_enter Tryz.func51, Tryz.ntmps51
    go_wp2_with fail
    refine (unhide HFR).mono ?_
    rintro e w1 ⟨fo, cf, rfl, hownf, hb1⟩
    have r1 := ((unhide HR).below hb1 hbl).cell1
    clear hownf
    go_wp2
    go_ret2
    exact ⟨rfl, hb1⟩
  · simp only [if_neg hbig]
    have hd : decide ((150 : Int) < (L.length : Int) + (fr.length : Int)) = false := by rw [decide_eq_false_iff_not]; omega
    go_enter Tryz.func51, Tryz.ntmps51
    go_wp2_with fail
    refine (unhide HFR).mono ?_
    rintro e w1 ⟨fo, cf, rfl, hownf, hb1⟩
    have hR1 := (unhide HR).below hb1 hbl
    have r1 := hR1.cell1
    have HR1 := hide hR1; clear hR1
    have HOWN1 := hide (own_below (unhide HOWN) hb1)
    have hs1 := hb1.size
    have HFO : Hid (∀ k, (Value.slice fo fr.length cf).ownBlock = some k → w.heap.size ≤ k ∧ k < w1.heap.size) := hide (fun k hk => hownf.lt k hk)
    have HVL : Hid (∀ k, (Value.slice ao L.length ca).ownBlock = some k → k < w.heap.size) := hide (fun k hk => ((unhide HOWN).lt k hk).2)
    have HOF := hide hownf; clear hownf
    have HB1 := hide hb1; clear hb1
    go_wp2
    go_loopw [23] (fun i wr => ∃ k : Nat, ∃ v' : Value, k ≤ fr.length ∧ i = .int .i64 k ∧ Hid (RepAt wr b site v') ∧ Hid (wr.ownsRow 0 139 5 v' (joinAll L (fr.take k)).length (loCells (joinAll L (fr.take k)))) ∧ Hid (Keeps (Foot b (.slice ao L.length ca)) w1 wr) ∧ Hid (Moved w1 (.slice ao L.length ca) v') ∧ Hid (wr.ownsRow w.heap.size 139 5 (.slice fo fr.length cf) fr.length (loCells fr))) (fun i _ => fr.length - (intOf i).toNat)
    case atStart => exact ⟨0, _, Nat.zero_le _, rfl, HR1, HOWN1, hide (Keeps.refl _ _), hide (.inl rfl), HOF⟩
    case round =>
      obtain ⟨k, v', hk, rfl, HRr, HOr, HKr, HMr, HFr⟩ := hrel
      clear r1
      by_cases hlt : k < fr.length
      · obtain ⟨g, hao, hg, c0, c1, c2, c3, c4⟩ := lo_cells (row_of (unhide HFr)) (Below.refl wr.heap.size wr) (Nat.le_refl _) hlt
        have HG : Hid ((Value.slice fo fr.length cf).ownBlock = some g) := by apply hide; rw [hao]; rfl
        have HAO := hide hao
        rw [hao]
        clear hao
        have HJ := hide (joinAll_take L fr k hlt)
        have HJL : Hid ((joinAll L (fr.take k)).length ≤ 4000) := by apply hide; rw [joinAll_len, List.length_take]; omega
        have HSR : Hid (Sorted (joinAll L (fr.take k))) := hide (joinAll_sorted (unhide HSO) _ (newTo_take (unhide HNEW) k))
        generalize fr[k] = x at *
        have hbr := (unhide HRr).lt
        have hB2 : Below wr.heap.size wr (wr.alloc (.cells #[.int .i64 x.count, .int .i64 x.site, .int .i64 x.node.id, .int .i64 x.node.parent, .string (bs x.node.name)] 139)) := (Below.refl _ _).alloc (Nat.le_refl _) _
        have HI := hide (insert_any (joinAll L (fr.take k)) x b site v' (wr.alloc (.cells #[.int .i64 x.count, .int .i64 x.site, .int .i64 x.node.id, .int .i64 x.node.parent, .string (bs x.node.name)] 139)) ((unhide HRr).below hB2 hbr) (own_below (unhide HOr) hB2) (unhide HSR) (unhide HJL))
        have HB2 := hide hB2; clear hB2
        go_wp2_with fail
        refine (unhide HI).mono ?_
        rintro e w3 ⟨rfl, v3, hR3, hO3, hK3, hM3⟩
        have hw1r := (unhide HKr).size
        have HKK : Hid (Keeps (Foot b (.slice ao L.length ca)) w1 w3) := by
          apply hide
          refine ((unhide HKr).trans (Keeps.of_below (S := fun _ => False) (unhide HB2) (fun k h1 h2 => by omega)) (fun k _ h => h.elim)).trans hK3 (fun j hj h => ?_)
          rcases h with h | h
          · exact .inl h
          · rcases unhide HMr with hm | ⟨q, hm, hq⟩
            · exact .inr (hm ▸ h)
            · rw [hm] at h; cases h; omega
        have HMM : Hid (Moved w1 (.slice ao L.length ca) v3) := by
          apply hide
          rcases hM3 with h | ⟨q, h, hq⟩
          · rcases unhide HMr with hm | ⟨q, hm, hq⟩
            · exact .inl (h.trans hm)
            · exact .inr ⟨q, h.trans hm, hq⟩
          · exact .inr ⟨q, h, by have := (unhide HB2).size; omega⟩
        have HFF : Hid (w3.ownsRow w.heap.size 139 5 (.slice fo fr.length cf) fr.length (loCells fr)) := by
          apply hide
          refine own_kept (own_below (unhide HFr) (unhide HB2)) hK3 (fun j hj h => ?_)
          have h1 := unhide HFO j hj
          rcases h with h | h
          · omega
          · rcases unhide HMr with hm | ⟨q, hm, hq⟩
            · rw [hm] at h; have := unhide HVL j h; omega
            · rw [hm] at h; cases h; omega
        have HO3 : Hid (w3.ownsRow 0 139 5 v3 (joinAll L (fr.take (k + 1))).length (loCells (joinAll L (fr.take (k + 1))))) := by
          apply hide; rw [unhide HJ, ins_len]; exact hO3
        have HR3 := hide hR3
        clear hR3 hO3 hK3 hM3 c0 c1 c2 c3 c4
        go_wp2
        go_roundw
        case rel => exact ⟨k + 1, v3, by omega, by go_num, HR3, HO3, HKK, HMM, by have h := HFF; rw [unhide HAO] at h; exact h⟩
        case measure => simp [intOf]; omega
      · have HE : Hid (joinAll L fr = joinAll L (fr.take k)) := by apply hide; rw [List.take_of_length_le (by omega)]
        go_wp2
        go_ret2
        refine ⟨rfl, v', unhide HRr, by rw [unhide HE]; exact unhide HOr, ?_, ?_⟩
        · exact (Keeps.of_below (S := fun _ => False) (unhide HB1) (fun k h1 h2 => by omega) |>.mono (fun _ _ h => h.elim)).trans (unhide HKr) (fun _ _ h => h)
        · rcases unhide HMr with h | ⟨q, h, hq⟩
          · exact .inl h
          · exact .inr ⟨q, h, by omega⟩
end Go.Proofs.YtkjancfakplogaaGreatDoor
