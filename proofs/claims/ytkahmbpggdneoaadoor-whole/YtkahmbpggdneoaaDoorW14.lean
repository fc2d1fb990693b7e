import Derived.Test.YtkahmbpggdneoaaDoorW13
namespace Go.Proofs.YtkahmbpggdneoaaDoor
open Go.RowKit
def StRes (l : Str) (e : Ending) : Prop := ∃ (k i p : Int) (z : ByteArray), e = .returned (.tuple #[.agg #[.int .u8 k, .int .i64 i, .int .i64 p, .string z], .bool (readStep l).isSome]) ∧ ∀ st, readStep l = some st → k = st.kind.toNat ∧ i = st.node.id ∧ p = st.node.parent ∧ z = bs st.node.name
theorem stRes_none {l : Str} (h : readStep l = none) (k i p : Int) (z : ByteArray) : StRes l (.returned (.tuple #[.agg #[.int .u8 k, .int .i64 i, .int .i64 p, .string z], .bool false])) :=
  ⟨k, i, p, z, by rw [h]; rfl, fun st hs => by rw [h] at hs; cases hs⟩
theorem stRes_some {l : Str} {st : St} (h : readStep l = some st) : StRes l (.returned (.tuple #[.agg #[.int .u8 st.kind.toNat, .int .i64 st.node.id, .int .i64 st.node.parent, .string (bs st.node.name)], .bool true])) :=
  ⟨_, _, _, _, by rw [h]; rfl, fun st' hs => by rw [h] at hs; cases hs; exact ⟨rfl, rfl, rfl, rfl⟩⟩
theorem tail_bs (k : UInt8) (r : Str) : (bs (k :: r)).extract 1 (bs (k :: r)).size = bs r := by
  rw [bs_extract, sl_bs, bs_size, List.take_of_length_le (Nat.le_refl _)]; rfl
theorem head_bs (k : UInt8) (r : Str) (h : 0 < (bs (k :: r)).size) : (bs (k :: r))[0]'h = k := rfl
theorem beq_u8 {k : UInt8} {n : Nat} (h : n < 256) : ((k.toNat : Int) == (n : Int)) = decide (k = UInt8.ofNat n) := by
  rw [Bool.eq_iff_iff]; simp only [beq_iff_eq, decide_eq_true_eq]
  constructor
  · intro e; apply UInt8.toNat_inj.1; rw [UInt8.toNat_ofNat']; omega
  · intro e; subst e; rw [UInt8.toNat_ofNat']; omega
set_option maxHeartbeats 1000000 in
theorem readStep_empty (s : ByteArray) (w : World) (hs : s.size ≤ 4000) (h : bodyB (sl s) = false ∨ bodyS (sl s) = []) :
    Calls Tryd.prog 42 #[.string s] w fun e w' => StRes (sl s) e ∧ Below w.heap.size w w' := by
  have HB := hide (fun W => body_any s W hs)
  have HN : Hid (readStep (sl s) = none) := by
    apply hide; unfold readStep
    rcases h with h | h
    · rw [h]; rfl
    · rw [h]; split <;> rfl
  have hst : bodyB (sl s) = false ∨ (bodyB (sl s) = true ∧ bodyS (sl s) = []) := by
    rcases h with h | h
    · exact .inl h
    · cases hb : bodyB (sl s)
      · exact .inl rfl
      · exact .inr ⟨rfl, h⟩
  clear h
  generalize bodyB (sl s) = bb at *
  generalize bodyS (sl s) = B at *
  rcases hst with hst | ⟨hst, hB⟩
  · subst hst
    go_enter Tryd.func42, Tryd.ntmps42
    go_wp2_with fail
    refine (unhide HB _).mono ?_
    rintro e w1 ⟨rfl, rfl⟩
    go_wp2
    refine bodyPost_ret (v := .tuple #[.agg #[.int .u8 0, .int .i64 0, .int .i64 0, .string ByteArray.empty], .bool false]) (by simp [results, Tryd.results42, go_sem]; rfl) rfl ⟨stRes_none (unhide HN) _ _ _ _, ?_⟩
    exact (Below.refl _ _).alloc (Nat.le_refl _) _
  · subst hst hB
    have hne : (bs ([] : Str)).toList = [] := by rw [tl_sl, sl_bs]
    have hne2 : (bs ([] : Str)).toList.isEmpty = true := by rw [hne]; rfl
    go_enter Tryd.func42, Tryd.ntmps42
    go_wp2_with fail
    refine (unhide HB _).mono ?_
    rintro e w1 ⟨rfl, rfl⟩
    go_wp2
    refine bodyPost_ret (v := .tuple #[.agg #[.int .u8 0, .int .i64 0, .int .i64 0, .string ByteArray.empty], .bool false]) (by simp [results, Tryd.results42, go_sem]; rfl) rfl ⟨stRes_none (unhide HN) _ _ _ _, ?_⟩
    exact (Below.refl _ _).alloc (Nat.le_refl _) _
theorem stOf_node {k : UInt8} {r : Str} (h : k = 43 ∨ k = 61) : stOf (k :: r) = (readNode r).map (fun n => ⟨k, n⟩) := by
  show (if k = 43 ∨ k = 61 then _ else _) = _; rw [if_pos h]
theorem stOf_del {r : Str} : stOf (45 :: r) = if (number r 1 99).2 then some ⟨45, ⟨(number r 1 99).1, 0, []⟩⟩ else none := by
  show (if (45 : UInt8) = 43 ∨ (45 : UInt8) = 61 then (readNode r).map (fun n => (⟨45, n⟩ : St)) else if (45 : UInt8) = 45 then (if (number r 1 99).2 then some (⟨45, ⟨(number r 1 99).1, 0, []⟩⟩ : St) else none) else none) = _
  rw [if_neg (by decide), if_pos rfl]
theorem stOf_other {k : UInt8} {r : Str} (h : ¬ (k = 43 ∨ k = 61)) (h2 : ¬ k = 45) : stOf (k :: r) = none := by
  show (if k = 43 ∨ k = 61 then _ else if k = 45 then _ else _) = _; rw [if_neg h, if_neg h2]
set_option maxHeartbeats 2000000 in
theorem readStep_full (s : ByteArray) (w : World) (hs : s.size ≤ 4000) (k : UInt8) (r : Str) (hb : bodyB (sl s) = true) (hB : bodyS (sl s) = k :: r) :
    Calls Tryd.prog 42 #[.string s] w fun e w' => StRes (sl s) e ∧ Below w.heap.size w w' := by
  have HB := hide (fun W => body_any s W hs)
  have hlen : (k :: r).length ≤ 4000 := by have := bodyS_len (sl s); rw [hB, sl_length] at this; omega
  have hr4 : (bs r).size ≤ 4000 := by rw [bs_size]; simp at hlen; omega
  have HST : Hid (readStep (sl s) = stOf (k :: r)) := by apply hide; unfold readStep; rw [hb, hB]; rfl
  rw [hb, hB] at HB
  have hpos : 0 < (bs (k :: r)).size := by rw [bs_size]; simp
  have hne := ne_nil_at (bs (k :: r)) hpos
  have hne2 : (bs (k :: r)).toList.isEmpty = false := by rw [List.isEmpty_eq_false_iff]; exact hne
  have htail := tail_bs k r
  have hhead := head_bs k r hpos
  have hp1 : (1 : Int) ≤ (bs (k :: r)).size := by omega
  clear hb hB hlen
  by_cases hk : k = 43 ∨ k = 61
  · have HRN := hide (fun W => readNode_any (bs r) W hr4)
    rw [sl_bs] at HRN
    have HST2 := hide ((unhide HST).trans (stOf_node hk))
    have hkk : ((k.toNat : Int) == 43) = true ∨ (((k.toNat : Int) == 43) = false ∧ ((k.toNat : Int) == 61) = true) := by
      rcases hk with h | h
      · left; rw [h]; rfl
      · right; rw [h]; exact ⟨rfl, rfl⟩
    clear hk HST
    generalize readNode r = R at *
    rcases hkk with hkk | ⟨hk1, hkk⟩
    all_goals
      go_enter Tryd.func42, Tryd.ntmps42
      go_wp2_with fail
      refine (unhide HB _).mono ?_
      rintro e w1 ⟨rfl, rfl⟩
      go_wp2_with fail
      refine (unhide HRN _).mono ?_
      rintro e w2 ⟨rfl, hb2⟩
      obtain ⟨hc, hf⟩ := bcell hb2
      have hz : w.heap.size + 1 ≤ w2.heap.size := by have := hb2.size; simp at this; omega
      have HB0 : Hid (Below w.heap.size w w2) := hide (((Below.refl _ _).alloc (Nat.le_refl _) _).trans (hb2.mono (by simp)))
      have hzl : w.heap.size < w2.heap.size := by omega
      have hzn : ¬ w.heap.size = w2.heap.size := by omega
      clear hb2
      go_wp2
      refine bodyPost_ret (v := .tuple #[.agg #[.int .u8 k.toNat, .int .i64 (R.getD nd0).id, .int .i64 (R.getD nd0).parent, .string (bs (R.getD nd0).name)], .bool R.isSome]) (by simp [results, Tryd.results42, go_sem, hc, hzl]) rfl ⟨?_, ?_⟩
      · cases R with
        | none => exact stRes_none (unhide HST2) _ _ _ _
        | some n => exact stRes_some (unhide HST2)
      · exact (((((unhide HB0).setCell (Nat.le_refl _) _).setCell (Nat.le_refl _) _).setCell (Nat.le_refl _) _).setCell (Nat.le_refl _) _).alloc (by simp; omega) _
  · have hk1 : ((k.toNat : Int) == 43) = false := by
      rw [beq_eq_false_iff_ne]; intro h; exact hk (.inl (UInt8.toNat_inj.1 (by simpa using (by omega : k.toNat = 43))))
    have hk2 : ((k.toNat : Int) == 61) = false := by
      rw [beq_eq_false_iff_ne]; intro h; exact hk (.inr (UInt8.toNat_inj.1 (by simpa using (by omega : k.toNat = 61))))
    by_cases hk3 : k = 45
    · subst hk3
      have HNU := hide (fun W => number_any (bs r) 1 99 W hr4 (by omega) (by omega))
      rw [sl_bs] at HNU
      have HST2 := hide ((unhide HST).trans stOf_del)
      clear hk HST hk1 hk2
      generalize (number r 1 99).1 = x at *
      generalize (number r 1 99).2 = q at *
      go_enter Tryd.func42, Tryd.ntmps42
      go_wp2_with fail
      refine (unhide HB _).mono ?_
      rintro e w1 ⟨rfl, rfl⟩
      go_wp2_with fail
      refine (unhide HNU _).mono ?_
      rintro e w2 ⟨rfl, rfl⟩
      go_wp2
      refine bodyPost_ret (v := .tuple #[.agg #[.int .u8 45, .int .i64 x, .int .i64 0, .string ⟨#[]⟩], .bool q]) (by simp [results, Tryd.results42, go_sem]) rfl ⟨?_, ?_⟩
      · cases q with
        | false => exact stRes_none (unhide HST2) _ _ _ _
        | true => exact stRes_some (st := ⟨45, ⟨x, 0, []⟩⟩) (unhide HST2)
      · exact (Below.refl _ _).alloc (Nat.le_refl _) _
    · have hk4 : ((k.toNat : Int) == 45) = false := by
        rw [beq_eq_false_iff_ne]; intro h; exact hk3 (UInt8.toNat_inj.1 (by simpa using (by omega : k.toNat = 45)))
      have HST2 := hide ((unhide HST).trans (stOf_other hk hk3))
      clear hk hk3 HST
      go_enter Tryd.func42, Tryd.ntmps42
      go_wp2_with fail
      refine (unhide HB _).mono ?_
      rintro e w1 ⟨rfl, rfl⟩
      go_wp2
      refine bodyPost_ret (v := .tuple #[.agg #[.int .u8 0, .int .i64 0, .int .i64 0, .string ByteArray.empty], .bool false]) (by simp [results, Tryd.results42, go_sem]; rfl) rfl ⟨stRes_none (unhide HST2) _ _ _ _, ?_⟩
      exact (Below.refl _ _).alloc (Nat.le_refl _) _
theorem readStep_any (s : ByteArray) (w : World) (hs : s.size ≤ 4000) :
    Calls Tryd.prog 42 #[.string s] w fun e w' => StRes (sl s) e ∧ Below w.heap.size w w' := by
  cases hb : bodyB (sl s)
  · exact readStep_empty s w hs (.inl hb)
  · cases hB : bodyS (sl s) with
    | nil => exact readStep_empty s w hs (.inr hB)
    | cons k r => exact readStep_full s w hs k r hb hB
end Go.Proofs.YtkahmbpggdneoaaDoor
