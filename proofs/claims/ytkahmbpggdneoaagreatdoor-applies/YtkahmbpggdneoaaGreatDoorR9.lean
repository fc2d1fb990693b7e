import Derived.Test.YtkahmbpggdneoaaGreatDoorR8
import Derived.Test.YtkahmbpggdneoaaGreatDoorW15
import Derived.Test.YtkahmbpggdneoaaGreatDoorKPure1
namespace Go.Proofs.YtkahmbpggdneoaaGreatDoor
open Go.RowKit
/-- A step of a kind's byte and the parts behind it. -/
def stR (k : UInt8) (ps : List Str) : Option St :=
  match ps with
  | [a] => if k = 45 then (if (number a 1 99).2 then some ⟨45, ⟨(number a 1 99).1, 0, []⟩⟩ else none) else none
  | _ => if k = 43 ∨ k = 61 then (node3 ps).map (fun n => ⟨k, n⟩) else none
theorem stR_one {k : UInt8} {a : Str} (h : k = 45) : stR k [a] = if (number a 1 99).2 then some ⟨45, ⟨(number a 1 99).1, 0, []⟩⟩ else none := by simp only [stR]; rw [if_pos h]
theorem stR_node {k : UInt8} {ps : List Str} (h : k = 43 ∨ k = 61) : stR k ps = (node3 ps).map (fun n => ⟨k, n⟩) := by
  unfold stR
  split
  · rw [if_neg (by rcases h with rfl | rfl <;> decide)]; rfl
  · rw [if_pos h]
theorem stR_none {k : UInt8} {ps : List Str} (h : ¬ (k = 43 ∨ k = 61)) (h1 : ps.length = 1 → ¬ k = 45) : stR k ps = none := by
  unfold stR
  split
  · rw [if_neg (h1 rfl)]
  · rw [if_neg h]
theorem number_blank {l : Str} (h : 32 ∈ l) : (number l 1 99).2 = false := by
  have ha : l.all digB = false := by
    rw [List.all_eq_false]
    exact ⟨32, h, by decide⟩
  rw [number_none (numGo_bad 99 l 0 ha)]
theorem readStep_R (k : UInt8) (r : Str) (hr : r ≠ []) : readStep (k :: r) = stR k (rparts r) := by
  have hbb : bodyB (k :: r) = bodyB r := by
    unfold bodyB
    cases r with
    | nil => exact absurd rfl hr
    | cons a r => rw [List.getLast?_cons_cons]
  unfold readStep
  rw [hbb]
  cases hb : bodyB r
  · rw [rparts_no hb]
    unfold stR; simp [node3]
  · have hS : bodyS (k :: r) = k :: r.dropLast := by
      unfold bodyS; rw [hbb, hb]
      cases r with
      | nil => exact absurd rfl hr
      | cons a r => rfl
    rw [hS, rparts_yes hb]
    show stOf (k :: r.dropLast) = _
    generalize r.dropLast = B
    by_cases hk : k = 43 ∨ k = 61
    · rw [stR_node hk, stOf_node hk]; rfl
    · by_cases hk2 : k = 45
      · subst hk2
        rw [stOf_del]
        by_cases hm : 32 ∈ B
        · rw [number_blank hm]
          have key : ∀ ps, joined ps = B → stR 45 ps = none := by
            intro ps hj
            unfold stR
            split
            · have e : _ = B := hj
              simp only [joined] at e
              rw [e, number_blank hm]; rfl
            · rfl
          rw [key _ (joined_parts B)]; rfl
        · rw [parts_one (fun x hx e => hm (e ▸ hx)), stR_one rfl]
      · rw [stOf_other hk hk2, stR_none hk (fun _ => hk2)]
theorem readStep_short (l : Str) (h : l.length < 2) : readStep l = none := by
  match l, h with
  | [], _ => rfl
  | [k], _ =>
    unfold readStep
    split
    · have : bodyS [k] = [] := by unfold bodyS; split <;> rfl
      rw [this]; rfl
    · rfl
theorem numR_pos {a : Str} (h : (number a 1 99).2 = true) : 1 ≤ numR a 1 99 ∧ numR a 1 99 ≤ 99 ∧ numR a 1 99 = (number a 1 99).1 := by
  rw [numR_yes h]; exact ⟨number_lo a 1 99 h, (number_bd a 1 99 (by omega)).2, rfl⟩
set_option maxHeartbeats 2000000 in
theorem rstep_long (k : UInt8) (r : Str) (w : World) (hr : r ≠ []) (hl : (k :: r).length ≤ 4000) :
    Calls Tryz.prog 54 #[.string (bs (k :: r))] w fun e w' => StRes (k :: r) e ∧ Below w.heap.size w w' := by
  have hlr : r.length ≤ 4000 := by simp at hl; omega
  have HP := hide (fun W => rparts_any (bs r) W (by rw [bs_size]; exact hlr))
  rw [sl_bs] at HP
  have HPL := hide (rparts_len r hlr)
  have HST := hide (readStep_R k r hr)
  have hr0 : 0 < r.length := List.length_pos_iff.2 hr
  have hsz : (bs (k :: r)).size = r.length + 1 := by rw [bs_size]; rfl
  have h2 : ¬ ((bs (k :: r)).size : Int) < 2 := by omega
  have htail : (bs (k :: r)).extract 1 (r.length + 1) = bs r := by have := tail_bs k r; rwa [hsz] at this
  have hpos : 0 < (bs (k :: r)).size := by omega
  have hne := ne_nil_at (bs (k :: r)) hpos
  have hhead := head_bs k r hpos
  have hp1 : (1 : Int) ≤ (bs (k :: r)).size := by omega
  clear hl hlr hr
  generalize rparts r = ps at *
  by_cases hk : k = 43 ∨ k = 61
  · have HND := hide (fun ao cap W (hh : Row W ao ps.length 1 (ps.map strV)) => rnode_any ps ao cap W hh (unhide HPL))
    have HST2 := hide ((unhide HST).trans (stR_node hk))
    have hk4 : ((k.toNat : Int) == 45) = false := by rcases hk with h | h <;> (rw [h]; rfl)
    have hkk : ((k.toNat : Int) != 43) = false ∨ (((k.toNat : Int) != 43) = true ∧ ((k.toNat : Int) != 61) = false) := by
      rcases hk with h | h
      · left; rw [h]; rfl
      · right; rw [h]; exact ⟨rfl, rfl⟩
    clear hk HST
    rcases hkk with hkk | ⟨hk1, hkk⟩
    all_goals
      go_enter Tryz.func54, Tryz.ntmps54
      go_wp2_with fail
      refine (unhide HP _).mono ?_
      rintro e w1 ⟨ao, cap, rfl, hrow, hb1⟩
      have HROW := hide hrow
      clear hrow
      go_wp2_with fail
      refine (unhide HND _ _ _ (unhide HROW)).mono ?_
      rintro e w2 ⟨⟨x, y, z, rfl, hx⟩, hb2⟩
      have HX := hide hx
      clear hx
      have hb12 := hb1.trans (hb2.mono hb1.size)
      obtain ⟨hc, hf⟩ := bcell hb12
      have hz : w.heap.size + 1 ≤ w2.heap.size := by have := hb12.size; simp at this; omega
      have HB0 : Hid (Below w.heap.size w w2) := hide (((Below.refl _ _).alloc (Nat.le_refl _) _).trans (hb12.mono (by simp)))
      have hzl : w.heap.size < w2.heap.size := by omega
      have hzn : ¬ w.heap.size = w2.heap.size := by omega
      clear hb1 hb2 hb12
      generalize node3 ps = R at *
      go_wp2
      refine bodyPost_ret (v := .tuple #[.agg #[.int .u8 k.toNat, .int .i64 x, .int .i64 y, .string z], .bool R.isSome]) (by simp [results, Tryz.results54, go_sem, hc, hzl]) rfl ⟨?_, ?_⟩
      · cases R with
        | none => exact stRes_none (unhide HST2) _ _ _ _
        | some n =>
          obtain ⟨e1, e2, e3⟩ := unhide HX n rfl
          rw [e1, e2, e3]
          exact stRes_some (unhide HST2)
      · exact (((((unhide HB0).setCell (Nat.le_refl _) _).setCell (Nat.le_refl _) _).setCell (Nat.le_refl _) _).setCell (Nat.le_refl _) _).alloc (by simp; omega) _
  · have hk1 : ((k.toNat : Int) != 43) = true := by
      rw [bne_iff_ne]; intro h; exact hk (.inl (UInt8.toNat_inj.1 (by simpa using (by omega : k.toNat = 43))))
    have hk2 : ((k.toNat : Int) != 61) = true := by
      rw [bne_iff_ne]; intro h; exact hk (.inr (UInt8.toNat_inj.1 (by simpa using (by omega : k.toNat = 61))))
    by_cases hk3 : k = 45
    · by_cases hp : ps.length = 1
      · obtain ⟨a, rfl⟩ := List.length_eq_one_iff.1 hp
        have HNU := hide (fun W => rnumber_any (bs a) 1 99 W (by rw [bs_size]; exact unhide HPL a (by simp)) (by omega) (by omega))
        rw [sl_bs] at HNU
        have HST2 := hide ((unhide HST).trans (stR_one hk3))
        have hk4 : ((k.toNat : Int) == 45) = true := by rw [hk3]; rfl
        have hk5 : (k.toNat : Int) = 45 := by rw [hk3]; rfl
        have hnp : ((number a 1 99).2 = true ∧ 0 < numR a 1 99 ∧ numR a 1 99 = (number a 1 99).1) ∨ ((number a 1 99).2 = false ∧ numR a 1 99 = -1) := by
          cases hq : (number a 1 99).2
          · exact .inr ⟨rfl, numR_neg hq⟩
          · obtain ⟨p1, p2, p3⟩ := numR_pos hq
            exact .inl ⟨rfl, by omega, p3⟩
        clear hk HST hk1 hk2 hk3 hp
        generalize (number a 1 99).1 = x at *
        generalize (number a 1 99).2 = q at *
        generalize numR a 1 99 = y at *
        go_enter Tryz.func54, Tryz.ntmps54
        go_wp2_with fail
        refine (unhide HP _).mono ?_
        rintro e w1 ⟨ao, cap, rfl, hrow, hb1⟩
        obtain ⟨g, hao, hg, hcell⟩ := str_cell hrow (Below.refl _ _) (k := 0) (by simp)
        subst hao
        have hcell2 : w1.cell? ⟨g, 0, none⟩ = some (.string (bs a)) := hcell
        clear hcell hrow
        simp only [List.length_singleton]
        go_wp2_with fail
        refine (unhide HNU _).mono ?_
        rintro e w2 ⟨rfl, hb2⟩
        have hb12 := hb1.trans (hb2.mono hb1.size)
        obtain ⟨hc, hf⟩ := bcell hb12
        have hz : w.heap.size + 1 ≤ w2.heap.size := by have := hb12.size; simp at this; omega
        have HB0 : Hid (Below w.heap.size w w2) := hide (((Below.refl _ _).alloc (Nat.le_refl _) _).trans (hb12.mono (by simp)))
        have hzl : w.heap.size < w2.heap.size := by omega
        clear hb1 hb2 hb12
        rcases hnp with ⟨rfl, hy, rfl⟩ | ⟨rfl, rfl⟩
        · go_wp2
          refine bodyPost_ret (v := .tuple #[.agg #[.int .u8 45, .int .i64 y, .int .i64 0, .string ⟨#[]⟩], .bool true]) (by simp [results, Tryz.results54, go_sem, hc]) rfl ⟨?_, ?_⟩
          · exact stRes_some (st := ⟨45, ⟨y, 0, []⟩⟩) (unhide HST2)
          · exact ((((unhide HB0).setCell (Nat.le_refl _) _).setCell (Nat.le_refl _) _).setCell (Nat.le_refl _) _).setCell (Nat.le_refl _) _
        · go_wp2
          refine bodyPost_ret (v := .tuple #[.agg #[.int .u8 45, .int .i64 (-1), .int .i64 0, .string ⟨#[]⟩], .bool false]) (by simp [results, Tryz.results54, go_sem, hc]) rfl ⟨?_, ?_⟩
          · exact stRes_none (unhide HST2) _ _ _ _
          · exact ((((unhide HB0).setCell (Nat.le_refl _) _).setCell (Nat.le_refl _) _).setCell (Nat.le_refl _) _).setCell (Nat.le_refl _) _
      · have hk4 : ((k.toNat : Int) == 45) = true := by rw [hk3]; rfl
        have hp4 : ((ps.length : Int) == 1) = false := by rw [beq_eq_false_iff_ne]; omega
        have HST2 := hide ((unhide HST).trans (stR_none hk (fun h => absurd h hp)))
        clear hk HST hk3 hp
        go_enter Tryz.func54, Tryz.ntmps54
        go_wp2_with fail
        refine (unhide HP _).mono ?_
        rintro e w1 ⟨ao, cap, rfl, hrow, hb1⟩
        obtain ⟨hc, hf⟩ := bcell hb1
        have hz : w.heap.size + 1 ≤ w1.heap.size := by have := hb1.size; simp at this; omega
        have HB0 : Hid (Below w.heap.size w w1) := hide (((Below.refl _ _).alloc (Nat.le_refl _) _).trans (hb1.mono (by simp)))
        have hzl : w.heap.size < w1.heap.size := by omega
        clear hb1 hrow
        go_wp2
        refine bodyPost_ret (v := .tuple #[.agg #[.int .u8 0, .int .i64 0, .int .i64 0, .string ByteArray.empty], .bool false]) (by simp [results, Tryz.results54, go_sem, hc]; rfl) rfl ⟨stRes_none (unhide HST2) _ _ _ _, ?_⟩
        exact ((((unhide HB0).setCell (Nat.le_refl _) _).setCell (Nat.le_refl _) _).setCell (Nat.le_refl _) _).setCell (Nat.le_refl _) _
    · have hk4 : ((k.toNat : Int) == 45) = false := by
        rw [beq_eq_false_iff_ne]; intro h; exact hk3 (UInt8.toNat_inj.1 (by simpa using (by omega : k.toNat = 45)))
      have HST2 := hide ((unhide HST).trans (stR_none hk (fun _ => hk3)))
      clear hk hk3 HST
      go_enter Tryz.func54, Tryz.ntmps54
      go_wp2_with fail
      refine (unhide HP _).mono ?_
      rintro e w1 ⟨ao, cap, rfl, hrow, hb1⟩
      obtain ⟨hc, hf⟩ := bcell hb1
      have hz : w.heap.size + 1 ≤ w1.heap.size := by have := hb1.size; simp at this; omega
      have HB0 : Hid (Below w.heap.size w w1) := hide (((Below.refl _ _).alloc (Nat.le_refl _) _).trans (hb1.mono (by simp)))
      have hzl : w.heap.size < w1.heap.size := by omega
      clear hb1 hrow
      go_wp2
      refine bodyPost_ret (v := .tuple #[.agg #[.int .u8 0, .int .i64 0, .int .i64 0, .string ByteArray.empty], .bool false]) (by simp [results, Tryz.results54, go_sem, hc]; rfl) rfl ⟨stRes_none (unhide HST2) _ _ _ _, ?_⟩
      exact ((((unhide HB0).setCell (Nat.le_refl _) _).setCell (Nat.le_refl _) _).setCell (Nat.le_refl _) _).setCell (Nat.le_refl _) _
set_option maxHeartbeats 1000000 in
theorem rstep_short (s : ByteArray) (w : World) (h : s.size < 2) :
    Calls Tryz.prog 54 #[.string s] w fun e w' => StRes (sl s) e ∧ Below w.heap.size w w' := by
  have HST := hide (readStep_short (sl s) (by rw [sl_length]; exact h))
  have h2 : (s.size : Int) < 2 := by omega
  go_enter Tryz.func54, Tryz.ntmps54
  go_wp2
  refine bodyPost_ret (v := .tuple #[.agg #[.int .u8 0, .int .i64 0, .int .i64 0, .string ByteArray.empty], .bool false]) (by simp [results, Tryz.results54, go_sem]; rfl) rfl ⟨stRes_none (unhide HST) _ _ _ _, ?_⟩
  exact (Below.refl _ _).alloc (Nat.le_refl _) _
theorem rstep_any (s : ByteArray) (w : World) (hs : s.size ≤ 4000) :
    Calls Tryz.prog 54 #[.string s] w fun e w' => StRes (sl s) e ∧ Below w.heap.size w w' := by
  by_cases h : s.size < 2
  · exact rstep_short s w h
  · obtain ⟨l, rfl⟩ : ∃ l, s = bs l := ⟨sl s, (bs_sl s).symm⟩
    rw [sl_bs]
    rw [bs_size] at h hs
    match l, h, hs with
    | [], h, _ => simp at h
    | [k], h, _ => simp at h
    | k :: a :: r, _, hs => exact rstep_long k (a :: r) w (by simp) hs
end Go.Proofs.YtkahmbpggdneoaaGreatDoor
