import Derived.Test.YtdcjimlhaklhfaaDoorHd3
import Derived.Test.YtdcjimlhaklhfaaDoorHd2
namespace Go.Proofs.YtdcjimlhaklhfaaDoor
open Go.RowKit
def StRes (l : Str) (e : Ending) : Prop := ∃ (k i p : Int) (z : ByteArray), e = .returned (.tuple #[.agg #[.int .u8 k, .int .i64 i, .int .i64 p, .string z], .bool (readStep l).isSome]) ∧ ∀ st, readStep l = some st → k = st.kind.toNat ∧ i = st.node.id ∧ p = st.node.parent ∧ z = bs st.node.name
theorem stRes_none {l : Str} (h : readStep l = none) (k i p : Int) (z : ByteArray) : StRes l (.returned (.tuple #[.agg #[.int .u8 k, .int .i64 i, .int .i64 p, .string z], .bool false])) :=
  ⟨k, i, p, z, by rw [h]; rfl, fun st hs => by rw [h] at hs; cases hs⟩
theorem stRes_some {l : Str} {st : St} (h : readStep l = some st) : StRes l (.returned (.tuple #[.agg #[.int .u8 st.kind.toNat, .int .i64 st.node.id, .int .i64 st.node.parent, .string (bs st.node.name)], .bool true])) :=
  ⟨_, _, _, _, by rw [h]; rfl, fun st' hs => by rw [h] at hs; cases hs; exact ⟨rfl, rfl, rfl, rfl⟩⟩
theorem tail_bs (k : UInt8) (r : Str) : (bs (k :: r)).extract 1 (bs (k :: r)).size = bs r := by
  rw [bs_extract, sl_bs, bs_size, List.take_of_length_le (Nat.le_refl _)]; rfl
theorem head_bs (k : UInt8) (r : Str) (h : 0 < (bs (k :: r)).size) : (bs (k :: r))[0]'h = k := rfl
theorem beq_u8 {k : UInt8} {n : Nat} (h : n < 256) : ((k.toNat : Int) == (n : Int)) = decide (k = UInt8.ofNat n) := by
  rw [Bool.eq_iff_iff]; simp only [beq_iff_eq, decide_eq_true_eq]
  constructor
  · intro e; apply UInt8.toNat_inj.1; rw [UInt8.toNat_ofNat']; omega
  · intro e; subst e; rw [UInt8.toNat_ofNat']; omega
set_option maxHeartbeats 1000000 in
theorem readStep_empty (s : ByteArray) (w : World) (hs : s.size ≤ 4000) (h : bodyB (sl s) = false ∨ bodyS (sl s) = []) :
    Calls Tryd.prog 42 #[.string s] w fun e w' => StRes (sl s) e ∧ Below w.heap.size w w' := by
  have HB := hide (fun W => body_any s W hs)
  have HN : Hid (readStep (sl s) = none) := by
    apply hide; unfold readStep
    rcases h with h | h
    · rw [h]; rfl
    · rw [h]; split <;> rfl
  have hst : bodyB (sl s) = false ∨ (bodyB (sl s) = true ∧ bodyS (sl s) = []) := by
    rcases h with h | h
    · exact .inl h
    · cases hb : bodyB (sl s)
      · exact .inl rfl
      · exact .inr ⟨rfl, h⟩
  clear h
  generalize bodyB (sl s) = bb at *
  generalize bodyS (sl s) = B at *
  rcases hst with hst | ⟨hst, hB⟩
  · subst hst
    go_enter Tryd.func42, Tryd.ntmps42
    go_wp2_with fail
    refine (unhide HB _).mono ?_
    rintro e w1 ⟨rfl, rfl⟩
    go_wp2
    refine bodyPost_ret (v := .tuple #[.agg #[.int .u8 0, .int .i64 0, .int .i64 0, .string ByteArray.empty], .bool false]) (by simp [results, Tryd.results42, go_sem]; rfl) rfl ⟨stRes_none (unhide HN) _ _ _ _, ?_⟩
    exact (Below.refl _ _).alloc (Nat.le_refl _) _
  · subst hst hB
    have hne : (bs ([] : Str)).toList = [] := by rw [tl_sl, sl_bs]
    have hne2 : (bs ([] : Str)).toList.isEmpty = true := by rw [hne]; rfl
    go_enter Tryd.func42, Tryd.ntmps42
    go_wp2_with fail
    refine (unhide HB _).mono ?_
    rintro e w1 ⟨rfl, rfl⟩
    go_wp2
    refine bodyPost_ret (v := .tuple #[.agg #[.int .u8 0, .int .i64 0, .int .i64 0, .string ByteArray.empty], .bool false]) (by simp [results, Tryd.results42, go_sem]; rfl) rfl ⟨stRes_none (unhide HN) _ _ _ _, ?_⟩
    exact (Below.refl _ _).alloc (Nat.le_refl _) _
theorem stOf_node {k : UInt8} {r : Str} (h : k = 43 ∨ k = 61) : stOf (k :: r) = (readNode r).map (fun n => ⟨k, n⟩) := by
  show (if k = 43 ∨ k = 61 then _ else _) = _; rw [if_pos h]
theorem stOf_del {r : Str} : stOf (45 :: r) = if (number r 1 99).2 then some ⟨45, ⟨(number r 1 99).1, 0, []⟩⟩ else none := by
  show (if (45 : UInt8) = 43 ∨ (45 : UInt8) = 61 then (readNode r).map (fun n => (⟨45, n⟩ : St)) else if (45 : UInt8) = 45 then (if (number r 1 99).2 then some (⟨45, ⟨(number r 1 99).1, 0, []⟩⟩ : St) else none) else none) = _
  rw [if_neg (by decide), if_pos rfl]
theorem stOf_other {k : UInt8} {r : Str} (h : ¬ (k = 43 ∨ k = 61)) (h2 : ¬ k = 45) : stOf (k :: r) = none := by
  show (if k = 43 ∨ k = 61 then _ else if k = 45 then _ else _) = _; rw [if_neg h, if_neg h2]
set_option maxHeartbeats 2000000 in
theorem readStep_full (s : ByteArray) (w : World) (hs : s.size ≤ 4000) (k : UInt8) (r : Str) (hb : bodyB (sl s) = true) (hB : bodyS (sl s) = k :: r) :
    Calls Tryd.prog 42 #[.string s] w fun e w' => StRes (sl s) e ∧ Below w.heap.size w w' := by
  have HB := hide (fun W => body_any s W hs)
  have hlen : (k :: r).length ≤ 4000 := by have := bodyS_len (sl s); rw [hB, sl_length] at this; omega
  have hr4 : (bs r).size ≤ 4000 := by rw [bs_size]; simp at hlen; omega
  have HST : Hid (readStep (sl s) = stOf (k :: r)) := by apply hide; unfold readStep; rw [hb, hB]; rfl
  rw [hb, hB] at HB
  have hpos : 0 < (bs (k :: r)).size := by rw [bs_size]; simp
  have hne := ne_nil_at (bs (k :: r)) hpos
  have hne2 : (bs (k :: r)).toList.isEmpty = false := by rw [List.isEmpty_eq_false_iff]; exact hne
  have htail := tail_bs k r
  have hhead := head_bs k r hpos
  have hp1 : (1 : Int) ≤ (bs (k :: r)).size := by omega
  clear hb hB hlen
  by_cases hk : k = 43 ∨ k = 61
  · have HRN := hide (fun W => readNode_any (bs r) W hr4)
    rw [sl_bs] at HRN
    have HST2 := hide ((unhide HST).trans (stOf_node hk))
    have hkk : ((k.toNat : Int) == 43) = true ∨ (((k.toNat : Int) == 43) = false ∧ ((k.toNat : Int) == 61) = true) := by
      rcases hk with h | h
      · left; rw [h]; rfl
      · right; rw [h]; exact ⟨rfl, rfl⟩
    clear hk HST
    generalize readNode r = R at *
    rcases hkk with hkk | ⟨hk1, hkk⟩
    all_goals
      go_enter Tryd.func42, Tryd.ntmps42
      go_wp2_with fail
      refine (unhide HB _).mono ?_
      rintro e w1 ⟨rfl, rfl⟩
      go_wp2_with fail
      refine (unhide HRN _).mono ?_
      rintro e w2 ⟨rfl, hb2⟩
      obtain ⟨hc, hf⟩ := bcell hb2
      have hz : w.heap.size + 1 ≤ w2.heap.size := by have := hb2.size; simp at this; omega
      have HB0 : Hid (Below w.heap.size w w2) := hide (((Below.refl _ _).alloc (Nat.le_refl _) _).trans (hb2.mono (by simp)))
      have hzl : w.heap.size < w2.heap.size := by omega
      have hzn : ¬ w.heap.size = w2.heap.size := by omega
      clear hb2
      go_wp2
      refine bodyPost_ret (v := .tuple #[.agg #[.int .u8 k.toNat, .int .i64 (R.getD nd0).id, .int .i64 (R.getD nd0).parent, .string (bs (R.getD nd0).name)], .bool R.isSome]) (by simp [results, Tryd.results42, go_sem, hc, hzl]) rfl ⟨?_, ?_⟩
      · cases R with
        | none => exact stRes_none (unhide HST2) _ _ _ _
        | some n => exact stRes_some (unhide HST2)
      · exact (((((unhide HB0).setCell (Nat.le_refl _) _).setCell (Nat.le_refl _) _).setCell (Nat.le_refl _) _).setCell (Nat.le_refl _) _).alloc (by simp; omega) _
  · have hk1 : ((k.toNat : Int) == 43) = false := by
      rw [beq_eq_false_iff_ne]; intro h; exact hk (.inl (UInt8.toNat_inj.1 (by simpa using (by omega : k.toNat = 43))))
    have hk2 : ((k.toNat : Int) == 61) = false := by
      rw [beq_eq_false_iff_ne]; intro h; exact hk (.inr (UInt8.toNat_inj.1 (by simpa using (by omega : k.toNat = 61))))
    by_cases hk3 : k = 45
    · subst hk3
      have HNU := hide (fun W => number_any (bs r) 1 99 W hr4 (by omega) (by omega))
      rw [sl_bs] at HNU
      have HST2 := hide ((unhide HST).trans stOf_del)
      clear hk HST hk1 hk2
      generalize (number r 1 99).1 = x at *
      generalize (number r 1 99).2 = q at *
      go_enter Tryd.func42, Tryd.ntmps42
      go_wp2_with fail
      refine (unhide HB _).mono ?_
      rintro e w1 ⟨rfl, rfl⟩
      go_wp2_with fail
      refine (unhide HNU _).mono ?_
      rintro e w2 ⟨rfl, rfl⟩
      go_wp2
      refine bodyPost_ret (v := .tuple #[.agg #[.int .u8 45, .int .i64 x, .int .i64 0, .string ⟨#[]⟩], .bool q]) (by simp [results, Tryd.results42, go_sem]) rfl ⟨?_, ?_⟩
      · cases q with
        | false => exact stRes_none (unhide HST2) _ _ _ _
        | true => exact stRes_some (st := ⟨45, ⟨x, 0, []⟩⟩) (unhide HST2)
      · exact (Below.refl _ _).alloc (Nat.le_refl _) _
    · have hk4 : ((k.toNat : Int) == 45) = false := by
        rw [beq_eq_false_iff_ne]; intro h; exact hk3 (UInt8.toNat_inj.1 (by simpa using (by omega : k.toNat = 45)))
      have HST2 := hide ((unhide HST).trans (stOf_other hk hk3))
      clear hk hk3 HST
      go_enter Tryd.func42, Tryd.ntmps42
      go_wp2_with fail
      refine (unhide HB _).mono ?_
      rintro e w1 ⟨rfl, rfl⟩
      go_wp2
      refine bodyPost_ret (v := .tuple #[.agg #[.int .u8 0, .int .i64 0, .int .i64 0, .string ByteArray.empty], .bool false]) (by simp [results, Tryd.results42, go_sem]; rfl) rfl ⟨stRes_none (unhide HST2) _ _ _ _, ?_⟩
      exact (Below.refl _ _).alloc (Nat.le_refl _) _
theorem readStep_any (s : ByteArray) (w : World) (hs : s.size ≤ 4000) :
    Calls Tryd.prog 42 #[.string s] w fun e w' => StRes (sl s) e ∧ Below w.heap.size w w' := by
  cases hb : bodyB (sl s)
  · exact readStep_empty s w hs (.inl hb)
  · cases hB : bodyS (sl s) with
    | nil => exact readStep_empty s w hs (.inr hB)
    | cons k r => exact readStep_full s w hs k r hb hB
end Go.Proofs.YtdcjimlhaklhfaaDoor

namespace Go.Proofs.YtdcjimlhaklhfaaDoor
open Go.RowKit
theorem row_of_owns3 {w : World} {base : Nat} {e : TypeId} {size : Nat} {v : Value} {n : Nat} {xs : List Value} (h : w.ownsRow base e size v n xs) : ∃ ao cap, v = .slice ao n cap ∧ Row w ao n size xs ∧ ∀ g, ao = some ⟨g, 0, none⟩ → base ≤ g := by
  obtain ⟨ao, cap, hv, hr⟩ := row_of_owns h
  refine ⟨ao, cap, hv, hr, fun g hg => ?_⟩
  subst hv
  exact own_ge h g (by rw [hg]; rfl)
theorem Tryd.infoStep : (Tryd.prog.info? 83).map (fun i => (i.zero, i.size, i.bytes)) = some (some (.agg #[.int .u8 0, .int .i64 0, .int .i64 0, .string ByteArray.empty]), 4, 40) := by kernel_rfl
theorem news_four' {w : World} (o : Obj) (a b c d : Value) (t : TypeId) : ∀ j x, [a, b, c, d][j]? = some x → ((w.alloc o).alloc (.cells #[a, b, c, d] t)).cell? ((⟨w.heap.size + 1, 0, none⟩ : Addr).add j) = some x := by
  intro j x hx
  have := World.news_of_block (cs := #[a, b, c, d]) (heap_alloc_new (w.alloc o) (.cells #[a, b, c, d] t)) j x hx
  simpa using this
def RsInv (rs : List Str) (k : Nat) (ss : List St) : Prop := ss.length = k ∧ readSteps rs = ss ++ readSteps (rs.drop k)
theorem rsInv_yes {rs : List Str} {k : Nat} {ss : List St} (h : RsInv rs k ss) (hk : k < rs.length) {n : St} (hn : readStep rs[k] = some n) : RsInv rs (k + 1) (ss ++ [n]) := by
  refine ⟨by simp [h.1], ?_⟩
  rw [h.2, List.drop_eq_getElem_cons hk, readSteps, hn]; simp
theorem rsInv_no {rs : List Str} {k : Nat} {ss : List St} (h : RsInv rs k ss) (hk : k < rs.length) (hn : readStep rs[k] = none) : readSteps rs = ss ∧ ss.length = k ∧ decide ((readSteps rs).length = rs.length) = false := by
  have e : readSteps rs = ss := by rw [h.2, List.drop_eq_getElem_cons hk, readSteps, hn]; simp
  refine ⟨e, h.1, ?_⟩
  rw [e, h.1]; exact decide_eq_false (by omega)
theorem rsInv_end {rs : List Str} {k : Nat} {ss : List St} (h : RsInv rs k ss) (hk : ¬ k < rs.length) (hk' : k ≤ rs.length) : readSteps rs = ss ∧ ss.length = k ∧ decide ((readSteps rs).length = rs.length) = true := by
  have e : readSteps rs = ss := by rw [h.2, List.drop_eq_nil_of_le (by omega)]; simp [readSteps]
  refine ⟨e, h.1, ?_⟩
  rw [e, h.1]; exact decide_eq_true (by omega)
set_option maxHeartbeats 2000000 in
theorem stepsRead_any (s : ByteArray) (w : World) (hs : s.size ≤ 4000) :
    Calls Tryd.prog 22 #[.string s] w fun e w' => (∃ ao cap, e = .returned (.tuple #[.slice ao (readSteps (cut (sl s))).length cap, .bool (decide ((readSteps (cut (sl s))).length = (cut (sl s)).length))]) ∧ Row w' ao (readSteps (cut (sl s))).length 4 (stCells (readSteps (cut (sl s)))) ∧ ∀ g, ao = some ⟨g, 0, none⟩ → w.heap.size ≤ g) ∧ Below w.heap.size w w' := by
  obtain ⟨i0, hi, hz0, hz1, hz2⟩ := info_parts Tryd.infoStep
  have HC := hide (fun W => cut_any s W hs)
  have hrl : (cut (sl s)).length ≤ 4000 := by have := cut_length_le (sl s); rw [sl_length] at this; omega
  have HRM : Hid (∀ r ∈ cut (sl s), r.length ≤ 4000) := hide (fun r hr => by have := cut_mem_len (sl s) r hr; rw [sl_length] at this; omega)
  generalize cut (sl s) = rs at *
  go_enter Tryd.func22, Tryd.ntmps22
  go_wp2_with fail
  refine (unhide HC _).mono ?_
  rintro e w1 ⟨ao, cap, rfl, hrow, hb1⟩
  have HROW := hide hrow
  have HB1 := hide hb1
  have hsz1 := hb1.size
  clear hrow hb1
  go_wp2
  go_loopw [4, 12] (fun v i wr => ∃ k : Nat, ∃ ss : List St, k ≤ rs.length ∧ i = .int .i64 k ∧ wr.ownsRow w1.heap.size 83 4 v k (stCells ss) ∧ Below w1.heap.size w1 wr ∧ Hid (RsInv rs k ss)) (fun _ i _ => rs.length - (intOf i).toNat)
  case atStart => exact ⟨0, [], Nat.zero_le _, rfl, World.ownsRow_nil _ _ _ _, Below.refl _ _, hide ⟨rfl, rfl⟩⟩
  case round =>
    obtain ⟨k, ss, hk, rfl, hown, hbel, HI⟩ := hrel
    by_cases hlt : k < rs.length
    · obtain ⟨g, hao, hg, hcell⟩ := str_cell (unhide HROW) hbel hlt
      rw [hao]
      have hrl2 : (rs[k]).length ≤ 4000 := unhide HRM _ (List.getElem_mem hlt)
      have HP := hide (fun W => readStep_any (bs rs[k]) W (by rw [bs_size]; exact hrl2))
      rw [sl_bs] at HP
      have hsz := hbel.size
      clear hao
      generalize hr : rs[k] = r at *
      have HR := hide hr; clear hr
      go_wp2_with fail
      refine (unhide HP _).mono ?_
      rintro e w3 ⟨⟨x0, x1, x2, x3, rfl, hx⟩, hb3⟩
      have HOWN := hide (own_below hown hb3)
      have HB3 := hide (hbel.trans (hb3.mono hsz))
      have hz3 : wr.heap.size ≤ w3.heap.size := hb3.size
      have HX := hide hx
      clear hx hb3 HP
      cases hR : readStep r with
      | none =>
        have HS := hide (rsInv_no (unhide HI) hlt (by rw [unhide HR]; exact hR))
        clear hR
        go_wp2
        go_ret2
        obtain ⟨f1, f2, f3⟩ := unhide HS
        have hE := (Below.refl w3.heap.size w3).alloc (Nat.le_refl _) (.cells #[.int .u8 x0, .int .i64 x1, .int .i64 x2, .string x3] 83)
        obtain ⟨ao', cap', rfl, hr, hge⟩ := row_of_owns3 (own_below (unhide HOWN) hE)
        rw [f3, f1]
        rw [← f2] at hr
        exact ⟨⟨ao', cap', by rw [f2]; rfl, hr, fun g hg => by have := hge g hg; omega⟩, (unhide HB1).trans (((unhide HB3).trans (hE.mono (by omega))).mono hsz1)⟩
      | some st =>
        have HN := hide (rsInv_yes (unhide HI) hlt (n := st) (by rw [unhide HR]; exact hR))
        obtain ⟨rfl, rfl, rfl, rfl⟩ := unhide HX st hR
        clear HX hR
        go_wp2_with (first
          | (at_builtin; (refine wpList_append_own _ rfl _ _ 62 rfl w1.heap.size 83 i0 (.agg #[.int .u8 0, .int .i64 0, .int .i64 0, .string ByteArray.empty]) 4 40 Tryd.underlying62 hi hz0 hz1 hz2 rfl (by decide) _ _ _ rfl (own_below (unhide HOWN) (((Below.refl _ _).alloc (Nat.le_refl _) _).alloc (by simp) _)) ⟨w3.heap.size + 1, 0, none⟩ 1 1 [.int .u8 st.kind.toNat, .int .i64 st.node.id, .int .i64 st.node.parent, .string (bs st.node.name)] rfl rfl (news_four' _ _ _ _ _ _) (by simp [Value.oneCell']) (by unfold maxLen; omega) (by omega) (by have := hbel.size; simp; omega) ?_))
          | go_in)
        intro v' w4 hown' hgrow _
        have hb4 : Below w1.heap.size w1 w4 := ((((unhide HB3).alloc (by omega) _).alloc (by simp; omega) _)).grown hgrow (by simp; omega) (own_ge hown)
        have hown2 : w4.ownsRow w1.heap.size 83 4 v' (k + 1) (stCells (ss ++ [st])) := by rw [stCells_snoc]; exact hown'
        clear hgrow hown hbel hown'
        go_wp2
        go_roundw
        case rel => exact ⟨k + 1, _, by omega, by go_num, hown2, hb4, HN⟩
        case measure => simp [intOf]; omega
    · have HF := hide (rsInv_end (unhide HI) hlt hk)
      go_wp2
      go_ret2
      obtain ⟨f1, f2, f3⟩ := unhide HF
      obtain ⟨ao', cap', rfl, hr, hge⟩ := row_of_owns3 hown
      rw [f3, f1]
      rw [← f2] at hr
      exact ⟨⟨ao', cap', by rw [f2]; rfl, hr, fun g hg => by have := hge g hg; omega⟩, (unhide HB1).trans (hbel.mono hsz1)⟩
/-! Texts. -/
theorem bs_app (a b : Str) : bs a ++ bs b = bs (a ++ b) := by
  rw [← bs_sl (bs a ++ bs b), sl_append, sl_bs, sl_bs]
theorem add_bs (a b : Str) (ha : a.length ≤ 1000000) (hb : b.length ≤ 1000000) (W : World) : (Op.stringOp .add (bs a) (bs b)).run Tryd.prog W = .ok (.string (bs (a ++ b))) W := by
  rw [run_string_add_sum (P := Tryd.prog) W _ _ (by rw [bs_size, bs_size]; omega), bs_app]
theorem add_32 (a : Str) (ha : a.length ≤ 1000000) (W : World) : (Op.stringOp .add (bs a) ⟨#[32]⟩).run Tryd.prog W = .ok (.string (bs (a ++ [32]))) W := add_bs a [32] ha (by simp) W
theorem add_59 (a : Str) (ha : a.length ≤ 1000000) (W : World) : (Op.stringOp .add (bs a) ⟨#[59]⟩).run Tryd.prog W = .ok (.string (bs (a ++ [59]))) W := add_bs a [59] ha (by simp) W
set_option maxHeartbeats 1000000 in
theorem nodeText_any (n : Nd) (w : World) (h1 : 0 ≤ n.id ∧ n.id ≤ 99) (h2 : 0 ≤ n.parent ∧ n.parent ≤ 99) (hn : n.name.length ≤ 4000) :
    Calls Tryd.prog 44 #[.agg #[.int .i64 n.id, .int .i64 n.parent, .string (bs n.name)]] w fun e w' => e = .returned (.string (bs (nodeText n))) ∧ Below w.heap.size w w' := by
  have HI := hide (fun W => itoa_any n.id W h1.1 h1.2)
  have HP := hide (fun W => itoa_any n.parent W h2.1 h2.2)
  have l1 := digs_len n.id
  have l2 := digs_len n.parent
  have HN : Hid (nodeText n = digs n.id ++ [32] ++ digs n.parent ++ [32] ++ n.name ++ [59]) := hide rfl
  generalize digs n.id = a at *
  generalize digs n.parent = b at *
  have a1 := add_32 a (by omega)
  have a2 := add_bs (a ++ [32]) b (by simp; omega) (by omega)
  have a3 := add_32 (a ++ [32] ++ b) (by simp; omega)
  have a4 := add_bs (a ++ [32] ++ b ++ [32]) n.name (by simp; omega) (by omega)
  have a5 := add_59 (a ++ [32] ++ b ++ [32] ++ n.name) (by simp; omega)
  generalize a ++ [32] ++ b ++ [32] ++ n.name ++ [59] = r5 at *
  generalize a ++ [32] ++ b ++ [32] ++ n.name = r4 at *
  generalize a ++ [32] ++ b ++ [32] = r3 at *
  generalize a ++ [32] ++ b = r2 at *
  generalize a ++ [32] = r1 at *
  go_enter Tryd.func44, Tryd.ntmps44
  go_wp2_with fail
  refine (unhide HI _).mono ?_
  rintro e w1 ⟨rfl, rfl⟩
  go_wp2_with fail
  refine (unhide HP _).mono ?_
  rintro e w1 ⟨rfl, rfl⟩
  go_wp2
  go_ret
  exact ⟨ret_str (by rw [unhide HN]), (Below.refl _ _).alloc (Nat.le_refl _) _⟩
set_option maxHeartbeats 1000000 in
theorem text_any {x : Ext} (t : Tr) (b : Nat) (w : World) (ht : TrOk t) (hT : TreeAt x w b t) :
    Calls Tryd.prog 24 #[.pointer (some ⟨b, 0, none⟩)] w fun e w' => e = .returned (.string (bs (textT t))) ∧ Below w.heap.size w w' := by
  have HT := hide hT; clear hT
  have HO := hide ht; clear ht
  go_enter Tryd.func24, Tryd.ntmps24
  go_wp2
  go_loopw [3, 4] (fun x i wr => ∃ k : Nat, ∃ S : Str, k ≤ 99 ∧ i = .int .i64 ((k : Int) + 1) ∧ x = .string (bs S) ∧ Below w.heap.size w wr ∧ Hid (S = textTo t k)) (fun _ i _ => 101 - (intOf i).toNat)
  case atStart => exact ⟨0, [], by omega, rfl, rfl, Below.refl _ _, hide rfl⟩
  case round =>
    obtain ⟨k, S, hk, rfl, rfl, hbel, HS⟩ := hrel
    by_cases hlt : k < 99
    · have hTr := (unhide HT).below hbel
      have c0 := hTr.here (k + 1) (by omega)
      have c1 := hTr.id (k + 1) (by omega)
      have c2 := hTr.parent (k + 1) (by omega)
      have c3 := hTr.name (k + 1) (by omega)
      have HSU := hide (textTo_succ t k)
      have hSl : S.length ≤ 18 * 99 := by rw [unhide HS]; have := textTo_len (unhide HO) k; omega
      have hk0 : (0 : Int) ≤ (k : Int) + 1 := by omega
      have hk1 : (k : Int) + 1 < 100 := by omega
      have hk2 : ((k : Int) + 1).toNat = k + 1 := by omega
      have hsz := hbel.size
      clear hTr
      have HTA : Hid (textAt t (k + 1) = match t (k + 1) with | none => [] | some n => nodeText n) := hide rfl
      cases hq : t (k + 1) with
      | none =>
        have HS2 : Hid (S = textTo t (k + 1)) := by apply hide; rw [unhide HSU, unhide HTA, hq, unhide HS]; simp
        rw [hq] at c0 c1 c2 c3
        clear hq
        go_wp2
        go_roundw
        case rel => exact ⟨k + 1, S, by omega, by go_num, rfl, hbel, HS2⟩
        case measure => simp [intOf]; omega
      | some n =>
        have hb := (unhide HO).2 (k + 1) n hq
        have HS2 : Hid (S ++ nodeText n = textTo t (k + 1)) := by apply hide; rw [unhide HSU, unhide HTA, hq, unhide HS]
        have hnl := nodeText_len hb.2.2.2.2.2
        have HNT := hide (fun W => nodeText_any n W ⟨by omega, by omega⟩ ⟨hb.2.2.2.1, hb.2.2.2.2.1⟩ (by have := name_len hb.2.2.2.2.2; omega))
        have hadd := add_bs S (nodeText n) (by omega) (by omega)
        rw [hq] at c0 c1 c2 c3
        clear hq hb
        generalize nodeText n = nt at *
        go_wp2_with fail
        refine (unhide HNT _).mono ?_
        rintro e w2 ⟨rfl, hb2⟩
        have HB2 := hide (hbel.trans (hb2.mono hsz))
        clear hb2 hbel c0 c1 c2 c3
        go_wp2
        go_roundw
        case rel => exact ⟨k + 1, _, by omega, by go_num, rfl, unhide HB2, HS2⟩
        case measure => simp [intOf]; omega
    · have hk99 : k = 99 := by omega
      subst hk99
      go_wp2
      go_ret
      exact ⟨ret_str (by rw [unhide HS]; rfl), hbel⟩
end Go.Proofs.YtdcjimlhaklhfaaDoor

namespace Go.Proofs.YtdcjimlhaklhfaaDoor
open Go.RowKit
theorem below_grown {w w1 w2 : World} {b : Nat} (h : Below w.heap.size w w1) (hg : w1.grownBy w2 (some b)) (hb : w.heap.size ≤ b) : Below w.heap.size w w2 :=
  h.grown hg h.size (fun k hk => by cases hk; exact hb)
theorem doAllT_ok : ∀ (ss : List St) (t : Tr), TrOk t → (∀ s ∈ ss, StOk s) → TrOk (doAllT ss t) := by
  intro ss
  induction ss with
  | nil => intro t h _; exact h
  | cons s ss ih =>
    intro t h hs
    unfold doAllT
    split
    · exact ih _ (stepT_ok h (hs s (by simp))) (fun x hx => hs x (by simp [hx]))
    · exact h
theorem ret_sii {a : Str} {n : Nat} {e : Int} {r : Str × Nat × Int} (h : r = (a, n, e)) : Ending.returned (.tuple #[.string (bs a), .int .i64 n, .int .i64 e]) = .returned (.tuple #[.string (bs r.1), .int .i64 r.2.1, .int .i64 r.2.2]) := by rw [h]
theorem applyT_long {l sc : Str} (h : 4000 < l.length ∨ 4000 < sc.length) : applyT l sc = ([], 0, 1) := by unfold applyT; rw [if_pos h]
theorem applyT_check {l sc : Str} (h : ¬ (4000 < l.length ∨ 4000 < sc.length)) (h2 : (checkT l).1 ≠ 0) : applyT l sc = ([], (checkT l).2, (checkT l).1) := by unfold applyT; rw [if_neg h, if_pos h2]
theorem applyT_step {l sc : Str} (h : ¬ (4000 < l.length ∨ 4000 < sc.length)) (h2 : ¬ (checkT l).1 ≠ 0) (h3 : (readSteps (cut sc)).length < (cut sc).length) : applyT l sc = ([], (readSteps (cut sc)).length, 7) := by unfold applyT; rw [if_neg h, if_neg h2, if_pos h3]
theorem applyT_do {l sc : Str} (h : ¬ (4000 < l.length ∨ 4000 < sc.length)) (h2 : ¬ (checkT l).1 ≠ 0) (h3 : ¬ (readSteps (cut sc)).length < (cut sc).length) (h4 : (doAllE (readSteps (cut sc)) (gather (readNodes (cut l))) 0).1 ≠ 0) : applyT l sc = ([], (doAllE (readSteps (cut sc)) (gather (readNodes (cut l))) 0).2, (doAllE (readSteps (cut sc)) (gather (readNodes (cut l))) 0).1) := by unfold applyT; rw [if_neg h, if_neg h2, if_neg h3, if_pos h4]
theorem applyT_ok {l sc : Str} (h : ¬ (4000 < l.length ∨ 4000 < sc.length)) (h2 : ¬ (checkT l).1 ≠ 0) (h3 : ¬ (readSteps (cut sc)).length < (cut sc).length) (h4 : ¬ (doAllE (readSteps (cut sc)) (gather (readNodes (cut l))) 0).1 ≠ 0) : applyT l sc = (textT (doAllT (readSteps (cut sc)) (gather (readNodes (cut l)))), 0, 0) := by unfold applyT; rw [if_neg h, if_neg h2, if_neg h3, if_neg h4]
set_option maxHeartbeats 2000000 in
theorem apply_any (s sc : ByteArray) (w : World) :
    Calls Tryd.prog 9 #[.string s, .string sc] w fun e w' => e = .returned (.tuple #[.string (bs (applyT (sl s) (sl sc)).1), .int .i64 (applyT (sl s) (sl sc)).2.1, .int .i64 (applyT (sl s) (sl sc)).2.2]) ∧ Below w.heap.size w w' := by
  by_cases hL : 4000 < s.size ∨ 4000 < sc.size
  · have HA := hide (applyT_long (l := sl s) (sc := sl sc) (by rw [sl_length, sl_length]; exact hL))
    generalize applyT (sl s) (sl sc) = A at *
    have hL' : 4000 < s.size ∨ (¬ 4000 < s.size ∧ 4000 < sc.size) := by omega
    clear hL
    rcases hL' with h | ⟨h, h'⟩
    all_goals
      go_enter Tryd.func9, Tryd.ntmps9
      go_wp2
      go_ret3
      exact ⟨ret_sii (unhide HA), Below.refl _ _⟩
  · have hLl : ¬ (4000 < (sl s).length ∨ 4000 < (sl sc).length) := by rw [sl_length, sl_length]; exact hL
    have h4 : ¬ 4000 < s.size := by omega
    have h5 : ¬ 4000 < sc.size := by omega
    have HRD := hide (fun W => read_any s W)
    by_cases hC : (checkT (sl s)).1 ≠ 0
    · have HA := hide (applyT_check hLl hC)
      have hC' : ((checkT (sl s)).1 != 0) = true := by rw [bne_iff_ne]; exact hC
      generalize applyT (sl s) (sl sc) = A at *
      generalize checkT (sl s) = c at *
      generalize readT (sl s) = T at *
      clear hC hL hLl
      go_enter Tryd.func9, Tryd.ntmps9
      go_wp2_with fail
      refine (unhide HRD _).mono ?_
      rintro e w1 ⟨rfl, hb1⟩
      have HN := hide (treeAt_new w1)
      have HB1 := hide hb1; clear hb1
      go_wp2_with (refine wpList_store_mid (by rfl) 59 (.tmp 7) (.tmp 23) (by rfl) w1.heap.size 0 (treeCells T).toArray (by rfl) (by rfl) (by exact treeAt_there (unhide HN) T) (treeSize' T) (treeOne T) ?_)
      go_ret3
      exact ⟨ret_sii (unhide HA), below_setCells ((unhide HB1).alloc (unhide HB1).size _) (unhide HB1).size (by have := (unhide HB1).size; simp; omega) _ _⟩
    · have hc0 : (checkT (sl s)).1 = 0 := Classical.not_not.1 hC
      have hTG : readT (sl s) = gather (readNodes (cut (sl s))) := by unfold readT; rw [if_pos hc0]
      have hOK := gather_ok (cut (sl s))
      rw [hc0, hTG] at HRD
      have HSR := hide (fun W => stepsRead_any sc W (by omega))
      have HSO := hide (readSteps_ok (cut (sl sc)))
      have hsl := readSteps_length (cut (sl sc))
      have hcl : (cut (sl sc)).length ≤ 4000 := by have := cut_length_le (sl sc); rw [sl_length] at this; omega
      by_cases hS : (readSteps (cut (sl sc))).length < (cut (sl sc)).length
      · have HA := hide (applyT_step hLl hC hS)
        have hd : decide ((readSteps (cut (sl sc))).length = (cut (sl sc)).length) = false := decide_eq_false (by omega)
        rw [hd] at HSR
        generalize applyT (sl s) (sl sc) = A at *
        generalize gather (readNodes (cut (sl s))) = T at *
        generalize (checkT (sl s)).2 = c2 at *
        generalize readSteps (cut (sl sc)) = ss at *
        clear hC hL hLl hc0 hTG hd
        go_enter Tryd.func9, Tryd.ntmps9
        go_wp2_with fail
        refine (unhide HRD _).mono ?_
        rintro e w1 ⟨rfl, hb1⟩
        have HN := hide (treeAt_new w1)
        have HB1 := hide hb1; clear hb1
        have HB2 : Hid (Below w.heap.size w ((w1.alloc (.cells Tryd.zeroCells59 59)).setCells w1.heap.size 0 (treeCells T))) := hide (below_setCells ((unhide HB1).alloc (unhide HB1).size _) (unhide HB1).size (by have := (unhide HB1).size; simp; omega) _ _)
        go_wp2_with (refine wpList_store_mid (by rfl) 59 (.tmp 7) (.tmp 23) (by rfl) w1.heap.size 0 (treeCells T).toArray (by rfl) (by rfl) (by exact treeAt_there (unhide HN) T) (treeSize' T) (treeOne T) ?_)
        refine (unhide HSR _).mono ?_
        rintro e w3 ⟨⟨ao, cap, rfl, hrow, hge⟩, hb3⟩
        have HB3 := hide ((unhide HB2).trans (hb3.mono (unhide HB2).size))
        clear hrow hge hb3
        go_wp2
        go_ret3
        exact ⟨ret_sii (unhide HA), unhide HB3⟩
      · have hd : decide ((readSteps (cut (sl sc))).length = (cut (sl sc)).length) = true := decide_eq_true (by omega)
        rw [hd] at HSR
        have HDA := hide (fun b ao cap W h1 h2 h3 => doAll_any (x := ext0) (gather (readNodes (cut (sl s)))) b (readSteps (cut (sl sc))) ao cap W hOK h1 h2 h3 (unhide HSO) (by omega))
        have HTO := hide (doAllT_ok (readSteps (cut (sl sc))) _ hOK (unhide HSO))
        have HTX := hide (fun b W h => text_any (x := ext0) (doAllT (readSteps (cut (sl sc))) (gather (readNodes (cut (sl s))))) b W (unhide HTO) h)
        by_cases hE : (doAllE (readSteps (cut (sl sc))) (gather (readNodes (cut (sl s)))) 0).1 ≠ 0
        · have HA := hide (applyT_do hLl hC hS hE)
          have hE' : ((doAllE (readSteps (cut (sl sc))) (gather (readNodes (cut (sl s)))) 0).1 != 0) = true := by rw [bne_iff_ne]; exact hE
          generalize applyT (sl s) (sl sc) = A at *
          generalize doAllE (readSteps (cut (sl sc))) (gather (readNodes (cut (sl s)))) 0 = E at *
          generalize doAllT (readSteps (cut (sl sc))) (gather (readNodes (cut (sl s)))) = T2 at *
          generalize gather (readNodes (cut (sl s))) = T at *
          generalize (checkT (sl s)).2 = c2 at *
          generalize readSteps (cut (sl sc)) = ss at *
          clear hC hL hLl hc0 hTG hd hE hS
          go_enter Tryd.func9, Tryd.ntmps9
          go_wp2_with fail
          refine (unhide HRD _).mono ?_
          rintro e w1 ⟨rfl, hb1⟩
          have HN := hide (treeAt_new w1)
          have HB1 := hide hb1; clear hb1
          have HB2 : Hid (Below w.heap.size w ((w1.alloc (.cells Tryd.zeroCells59 59)).setCells w1.heap.size 0 (treeCells T))) := hide (below_setCells ((unhide HB1).alloc (unhide HB1).size _) (unhide HB1).size (by have := (unhide HB1).size; simp; omega) _ _)
          have HT2 : Hid (TreeAt ext0 ((w1.alloc (.cells Tryd.zeroCells59 59)).setCells w1.heap.size 0 (treeCells T)) w1.heap.size T) := hide (treeAt_stored (unhide HN) T)
          go_wp2_with (refine wpList_store_mid (by rfl) 59 (.tmp 7) (.tmp 23) (by rfl) w1.heap.size 0 (treeCells T).toArray (by rfl) (by rfl) (by exact treeAt_there (unhide HN) T) (treeSize' T) (treeOne T) ?_)
          refine (unhide HSR _).mono ?_
          rintro e w3 ⟨⟨ao, cap, rfl, hrow, hge⟩, hb3⟩
          have HB3 := hide ((unhide HB2).trans (hb3.mono (unhide HB2).size))
          have HT3 := hide ((unhide HT2).below hb3)
          have HR3 := hide hrow
          have HNE : Hid (∀ g, ao = some ⟨g, 0, none⟩ → g ≠ w1.heap.size) := hide (fun g hg => by have h1 := hge g hg; have h2 := (unhide HT2).lt; omega)
          clear hrow hge hb3
          go_wp2_with fail
          refine (unhide HDA _ _ _ _ (unhide HT3) (unhide HR3) (unhide HNE)).mono ?_
          rintro e w4 ⟨rfl, hT4, hg4⟩
          have HB4 := hide (below_grown (unhide HB3) hg4 (unhide HB1).size)
          clear hT4 hg4
          go_wp2
          go_ret3
          exact ⟨ret_sii (unhide HA), unhide HB4⟩
        · have HA := hide (applyT_ok hLl hC hS hE)
          have hE' : ((doAllE (readSteps (cut (sl sc))) (gather (readNodes (cut (sl s)))) 0).1 != 0) = false := by rw [bne_eq_false_iff_eq]; exact Classical.not_not.1 hE
          generalize applyT (sl s) (sl sc) = A at *
          generalize doAllE (readSteps (cut (sl sc))) (gather (readNodes (cut (sl s)))) 0 = E at *
          generalize doAllT (readSteps (cut (sl sc))) (gather (readNodes (cut (sl s)))) = T2 at *
          generalize gather (readNodes (cut (sl s))) = T at *
          generalize (checkT (sl s)).2 = c2 at *
          generalize readSteps (cut (sl sc)) = ss at *
          clear hC hL hLl hc0 hTG hd hE hS
          go_enter Tryd.func9, Tryd.ntmps9
          go_wp2_with fail
          refine (unhide HRD _).mono ?_
          rintro e w1 ⟨rfl, hb1⟩
          have HN := hide (treeAt_new w1)
          have HB1 := hide hb1; clear hb1
          have HB2 : Hid (Below w.heap.size w ((w1.alloc (.cells Tryd.zeroCells59 59)).setCells w1.heap.size 0 (treeCells T))) := hide (below_setCells ((unhide HB1).alloc (unhide HB1).size _) (unhide HB1).size (by have := (unhide HB1).size; simp; omega) _ _)
          have HT2 : Hid (TreeAt ext0 ((w1.alloc (.cells Tryd.zeroCells59 59)).setCells w1.heap.size 0 (treeCells T)) w1.heap.size T) := hide (treeAt_stored (unhide HN) T)
          go_wp2_with (refine wpList_store_mid (by rfl) 59 (.tmp 7) (.tmp 23) (by rfl) w1.heap.size 0 (treeCells T).toArray (by rfl) (by rfl) (by exact treeAt_there (unhide HN) T) (treeSize' T) (treeOne T) ?_)
          refine (unhide HSR _).mono ?_
          rintro e w3 ⟨⟨ao, cap, rfl, hrow, hge⟩, hb3⟩
          have HB3 := hide ((unhide HB2).trans (hb3.mono (unhide HB2).size))
          have HT3 := hide ((unhide HT2).below hb3)
          have HR3 := hide hrow
          have HNE : Hid (∀ g, ao = some ⟨g, 0, none⟩ → g ≠ w1.heap.size) := hide (fun g hg => by have h1 := hge g hg; have h2 := (unhide HT2).lt; omega)
          clear hrow hge hb3
          go_wp2_with fail
          refine (unhide HDA _ _ _ _ (unhide HT3) (unhide HR3) (unhide HNE)).mono ?_
          rintro e w4 ⟨rfl, hT4, hg4⟩
          have HT4 := hide hT4
          have HB4 := hide (below_grown (unhide HB3) hg4 (unhide HB1).size)
          clear hT4 hg4
          go_wp2_with fail
          refine (unhide HTX _ _ (unhide HT4)).mono ?_
          rintro e w5 ⟨rfl, hb5⟩
          have HB5 := hide ((unhide HB4).trans (hb5.mono (unhide HB4).size))
          clear hb5
          go_wp2
          go_ret3
          exact ⟨ret_sii (unhide HA), unhide HB5⟩
end Go.Proofs.YtdcjimlhaklhfaaDoor

namespace Go.Proofs.YtdcjimlhaklhfaaDoor
open Go.RowKit
theorem apply_first : applyT [] [43, 50, 32, 48, 32, 97, 59] = ([50, 32, 48, 32, 97, 59], 0, 0) := by decide +kernel
theorem apply_empty (l : Str) : applyT l [] = if (checkT l).1 = 0 then (l, 0, 0) else ([], (checkT l).2, (checkT l).1) := by
  by_cases h : (checkT l).1 = 0
  · rw [if_pos h]
    obtain ⟨_, h1, _, _, _⟩ := check_parts h
    have e := applyT_ok (l := l) (sc := []) (by simp; exact h1) (by simpa using h) (show ¬ (readSteps (cut [])).length < (cut []).length by decide) (fun hh => hh rfl)
    rw [e]
    show (textT (gather (readNodes (cut l))), 0, 0) = _
    rw [text_check h]
  · rw [if_neg h]
    unfold applyT
    by_cases h1 : 4000 < l.length ∨ 4000 < ([] : Str).length
    · rw [if_pos h1]
      have h2 : 4000 < l.length := by simpa using h1
      have : checkT l = (1, 0) := by unfold checkT; rw [if_pos h2]
      rw [this]
    · rw [if_neg h1, if_pos h]
theorem check_zero {l : Str} (h : (checkT l).1 = 0) : (checkT l).2 = 0 := by rw [(check_parts h).1]
theorem apply_long {l s : Str} (h : 4000 < s.length) : applyT l s = ([], 0, 1) := applyT_long (.inr h)
theorem apply_bad {l s : Str} (h : (applyT l s).2.2 ≠ 0) : (applyT l s).1 = [] ∧ (s.length ≤ 4000 → (checkT l).1 ≠ 0 → (applyT l s).2.2 = (checkT l).1) := by
  by_cases h1 : 4000 < l.length ∨ 4000 < s.length
  · rw [applyT_long h1]
    refine ⟨rfl, fun hs _ => ?_⟩
    have h2 : 4000 < l.length := by omega
    have : checkT l = (1, 0) := by unfold checkT; rw [if_pos h2]
    rw [this]
  · by_cases h2 : (checkT l).1 ≠ 0
    · rw [applyT_check h1 h2]; exact ⟨rfl, fun _ _ => rfl⟩
    · by_cases h3 : (readSteps (cut s)).length < (cut s).length
      · rw [applyT_step h1 h2 h3]; exact ⟨rfl, fun _ hh => absurd hh h2⟩
      · by_cases h4 : (doAllE (readSteps (cut s)) (gather (readNodes (cut l))) 0).1 ≠ 0
        · rw [applyT_do h1 h2 h3 h4]; exact ⟨rfl, fun _ hh => absurd hh h2⟩
        · rw [applyT_ok h1 h2 h3 h4] at h; exact absurd rfl h
theorem apply_good {l s : Str} (h : (applyT l s).2.2 = 0) : ¬ (4000 < l.length ∨ 4000 < s.length) ∧ (checkT l).1 = 0 ∧ ¬ (readSteps (cut s)).length < (cut s).length ∧ (doAllE (readSteps (cut s)) (gather (readNodes (cut l))) 0).1 = 0 ∧ applyT l s = (textT (doAllT (readSteps (cut s)) (gather (readNodes (cut l)))), 0, 0) := by
  by_cases h1 : 4000 < l.length ∨ 4000 < s.length
  · rw [applyT_long h1] at h; simp at h
  · by_cases h2 : (checkT l).1 ≠ 0
    · rw [applyT_check h1 h2] at h; exact absurd h h2
    · by_cases h3 : (readSteps (cut s)).length < (cut s).length
      · rw [applyT_step h1 h2 h3] at h; simp at h
      · by_cases h4 : (doAllE (readSteps (cut s)) (gather (readNodes (cut l))) 0).1 ≠ 0
        · rw [applyT_do h1 h2 h3 h4] at h; exact absurd h h4
        · exact ⟨h1, Classical.not_not.1 h2, h3, Classical.not_not.1 h4, applyT_ok h1 h2 h3 h4⟩
theorem doAll_app : ∀ (ss ts : List St) (t : Tr) (i : Nat), (doAllE ss t i).1 = 0 → doAllE (ss ++ ts) t i = doAllE ts (doAllT ss t) (i + ss.length) ∧ doAllT (ss ++ ts) t = doAllT ts (doAllT ss t) := by
  intro ss
  induction ss with
  | nil => intro ts t i _; exact ⟨rfl, rfl⟩
  | cons s ss ih =>
    intro ts t i h
    by_cases hs : stepE t s = 0
    · rw [doAllE, if_pos hs] at h
      obtain ⟨h1, h2⟩ := ih ts (stepT t s) (i + 1) h
      have e : doAllT (s :: ss) t = doAllT ss (stepT t s) := by rw [doAllT, if_pos hs]
      rw [e, ← h2]
      refine ⟨?_, by rw [List.cons_append, doAllT, if_pos hs]⟩
      rw [List.cons_append, doAllE, if_pos hs, h1, show i + (s :: ss).length = i + 1 + ss.length by simp; omega]
    · rw [doAllE, if_neg hs] at h; exact absurd h hs
theorem doAll_shift : ∀ (ts : List St) (t : Tr) (i k : Nat), (doAllE ts t (i + k)).1 = (doAllE ts t i).1 ∧ ((doAllE ts t i).1 ≠ 0 → (doAllE ts t (i + k)).2 = (doAllE ts t i).2 + k) ∧ ((doAllE ts t i).1 = 0 → (doAllE ts t i).2 = 0) := by
  intro ts
  induction ts with
  | nil => intro t i k; simp [doAllE]
  | cons s ts ih =>
    intro t i k
    by_cases hs : stepE t s = 0
    · simp only [doAllE, if_pos hs]
      have := ih (stepT t s) (i + 1) k
      rw [show i + k + 1 = i + 1 + k by omega]
      exact this
    · rw [show doAllE (s :: ts) t (i + k) = (stepE t s, i + k) by rw [doAllE, if_neg hs], show doAllE (s :: ts) t i = (stepE t s, i) by rw [doAllE, if_neg hs]]
      exact ⟨rfl, fun _ => rfl, fun h => absurd h hs⟩
theorem readSteps_closed : ∀ (rs : List Str), ¬ (readSteps rs).length < rs.length → ∀ r ∈ rs, bodyB r = true := by
  intro rs
  induction rs with
  | nil => intro _ r hr; simp at hr
  | cons a rs ih =>
    intro h r hr
    unfold readSteps at h
    cases ha : readStep a with
    | none => rw [ha] at h; simp at h
    | some s =>
      rw [ha] at h
      simp only [List.length_cons] at h
      rcases List.mem_cons.1 hr with rfl | hr
      · unfold readStep at ha
        split at ha
        · assumption
        · cases ha
      · exact ih (by omega) r hr
theorem readSteps_app : ∀ (rs qs : List Str), ¬ (readSteps rs).length < rs.length → readSteps (rs ++ qs) = readSteps rs ++ readSteps qs := by
  intro rs
  induction rs with
  | nil => intro qs _; rfl
  | cons a rs ih =>
    intro qs h
    unfold readSteps at h
    cases ha : readStep a with
    | none => rw [ha] at h; simp at h
    | some s =>
      rw [ha] at h
      simp only [List.length_cons] at h
      rw [List.cons_append, readSteps, readSteps, ha]
      simp only [List.cons_append]
      rw [ih qs (by omega)]
theorem check_place (l : Str) : (checkT l).2 ≤ 4000 := by
  unfold checkT
  split
  · simp
  · rename_i h
    have h1 := cut_length_le l
    have h2 := readNodes_length (cut l)
    simp only []
    split
    · simp only; omega
    · split
      · have := scan_le (unordered (readNodes (cut l))) 1 (readNodes (cut l)).length
        simp only; omega
      · generalize readNodes (cut l) = ns at *
        have s1 := scan_le (orphan (gather ns) ns) 0 ns.length
        have s2 := scan_le (looped (gather ns) ns) 0 ns.length
        have s3 := scan_le (twice ns) 0 ns.length
        unfold misplaced
        split
        · simp only; omega
        · split
          · simp only; omega
          · split
            · simp only; omega
            · simp
theorem doAll_place : ∀ (ts : List St) (t : Tr) (i : Nat), (doAllE ts t i).2 ≤ i + ts.length := by
  intro ts
  induction ts with
  | nil => intro t i; simp [doAllE]
  | cons s ts ih =>
    intro t i
    rw [doAllE]
    split
    · have := ih (stepT t s) (i + 1); simp; omega
    · simp
theorem apply_place (l s : Str) : (applyT l s).2.1 ≤ 4000 := by
  by_cases h1 : 4000 < l.length ∨ 4000 < s.length
  · rw [applyT_long h1]; simp
  · have c1 := cut_length_le s
    have c2 := readSteps_length (cut s)
    by_cases h2 : (checkT l).1 ≠ 0
    · rw [applyT_check h1 h2]; exact check_place l
    · by_cases h3 : (readSteps (cut s)).length < (cut s).length
      · rw [applyT_step h1 h2 h3]; simp only; omega
      · by_cases h4 : (doAllE (readSteps (cut s)) (gather (readNodes (cut l))) 0).1 ≠ 0
        · rw [applyT_do h1 h2 h3 h4]
          have := doAll_place (readSteps (cut s)) (gather (readNodes (cut l))) 0
          simp only; omega
        · rw [applyT_ok h1 h2 h3 h4]; simp
/-- What is done of a script is done of its two parts. -/
theorem apply_split {l s t : Str} (h : (applyT l s).2.2 = 0) (hlen : s.length + t.length ≤ 4000) :
    (applyT l (s ++ t)).1 = (applyT (applyT l s).1 t).1 ∧ (applyT l (s ++ t)).2.2 = (applyT (applyT l s).1 t).2.2 ∧
    ((applyT l (s ++ t)).2.2 = 0 ∧ (applyT l (s ++ t)).2.1 = 0 ∧ (applyT (applyT l s).1 t).2.1 = 0 ∨ (applyT l (s ++ t)).2.2 ≠ 0 ∧ (applyT l (s ++ t)).2.1 = (applyT (applyT l s).1 t).2.1 + (cut s).length) := by
  obtain ⟨h1, h2, h3, h4, h5⟩ := apply_good h
  have hv := valid_of_check h2
  have hs := readSteps_ok (cut s)
  have hv1 := valid_all (readSteps (cut s)) _ hv hs
  obtain ⟨hc, hg⟩ := check_text hv1
  have hul : (textT (doAllT (readSteps (cut s)) (gather (readNodes (cut l))))).length ≤ 4000 := by
    have := textTo_len hv1.ok 99; unfold textT; omega
  have hcut : cut (s ++ t) = cut s ++ cut t := cut_app (readSteps_closed _ h3) t
  have hrd : readSteps (cut s ++ cut t) = readSteps (cut s) ++ readSteps (cut t) := readSteps_app _ _ h3
  have hsl : (readSteps (cut s)).length = (cut s).length := by have := readSteps_length (cut s); omega
  obtain ⟨ha, hb⟩ := doAll_app (readSteps (cut s)) (readSteps (cut t)) (gather (readNodes (cut l))) 0 h4
  rw [h5]
  simp only
  generalize hU : textT (doAllT (readSteps (cut s)) (gather (readNodes (cut l)))) = U at *
  have hL : ¬ (4000 < l.length ∨ 4000 < (s ++ t).length) := by rw [List.length_append]; omega
  have hLu : ¬ (4000 < U.length ∨ 4000 < t.length) := by omega
  have hC : ¬ (checkT l).1 ≠ 0 := by simpa using h2
  have hCu : ¬ (checkT U).1 ≠ 0 := by rw [hc]; simp
  have hql := readSteps_length (cut t)
  by_cases q3 : (readSteps (cut t)).length < (cut t).length
  · rw [applyT_step hL hC (by rw [hcut, hrd, List.length_append, List.length_append]; omega), applyT_step hLu hCu q3]
    refine ⟨rfl, rfl, .inr ⟨by simp, ?_⟩⟩
    simp only
    rw [hcut, hrd, List.length_append]; omega
  · have q3' : ¬ (readSteps (cut (s ++ t))).length < (cut (s ++ t)).length := by rw [hcut, hrd, List.length_append, List.length_append]; omega
    have eE : doAllE (readSteps (cut (s ++ t))) (gather (readNodes (cut l))) 0 = doAllE (readSteps (cut t)) (gather (readNodes (cut U))) (readSteps (cut s)).length := by
      rw [hcut, hrd, ha, hg, Nat.zero_add]
    have eT : doAllT (readSteps (cut (s ++ t))) (gather (readNodes (cut l))) = doAllT (readSteps (cut t)) (gather (readNodes (cut U))) := by
      rw [hcut, hrd, hb, hg]
    have hsh := doAll_shift (readSteps (cut t)) (gather (readNodes (cut U))) 0 (readSteps (cut s)).length
    rw [Nat.zero_add] at hsh
    by_cases q4 : (doAllE (readSteps (cut t)) (gather (readNodes (cut U))) 0).1 ≠ 0
    · rw [applyT_do hL hC q3' (by rw [eE, hsh.1]; exact q4), applyT_do hLu hCu q3 q4, eE]
      refine ⟨rfl, hsh.1, .inr ⟨by simp only; rw [hsh.1]; exact q4, ?_⟩⟩
      simp only
      rw [hsh.2.1 q4, hsl]
    · rw [applyT_ok hL hC q3' (by rw [eE, hsh.1]; exact q4), applyT_ok hLu hCu q3 q4, eT]
      exact ⟨rfl, rfl, .inl ⟨rfl, rfl, rfl⟩⟩
end Go.Proofs.YtdcjimlhaklhfaaDoor

namespace Go.Proofs.YtdcjimlhaklhfaaDoor
open Go.RowKit
set_option maxHeartbeats 1000000 in
theorem kcut_any (s : ByteArray) (w : World) (hs : s.size ≤ 4000) :
    Calls Tryd.prog 11 #[.string s] w fun e w' => ∃ ao cap, e = .returned (.slice ao (cut (sl s)).length cap) ∧ Row w' ao (cut (sl s)).length 1 ((cut (sl s)).map strV) ∧ Below w.heap.size w w' := by
  obtain ⟨i0, hi, hz0, hz1, hz2⟩ := info_parts Tryd.infoStr
  have hsz : (0 : Int) ≤ s.size := by omega
  go_enter Tryd.func11, Tryd.ntmps11
  go_wp2
  go_loopw [3, 4, 5] (fun v st i wr => ∃ k t n : Nat, ∃ xs : List Value, k ≤ s.size ∧ t ≤ k ∧ n ≤ k ∧ i = .int .i64 k ∧ st = .int .i64 t ∧ wr.ownsRow w.heap.size 9 1 v n xs ∧ Below w.heap.size w wr ∧ Hid (CutInv s k t n xs)) (fun _ _ i _ => s.size - (intOf i).toNat)
  case atStart => exact ⟨0, 0, 0, [], Nat.zero_le _, Nat.le_refl _, Nat.le_refl _, rfl, rfl, World.ownsRow_nil _ _ _ _, Below.refl _ _, hide ⟨by simp [cutTo], by simp [cutTo], by simp [cutTo]⟩⟩
  case round =>
    obtain ⟨k, t, n, xs, hk, ht, hn, rfl, rfl, hown, hbel, HI⟩ := hrel
    by_cases hlt : k < s.size
    · by_cases hc : s[k] = 59
      · have HN := hide (cutInv_hit (unhide HI) hlt hc)
        go_wp2_with (first
          | (at_builtin; refine wpList_append_own _ rfl _ _ 27 rfl w.heap.size 9 i0 (.string ByteArray.empty) 1 16 Tryd.underlying27 hi hz0 hz1 hz2 rfl (by decide) _ _ _ rfl (hown.alloc _) ⟨wr.heap.size, 0, none⟩ 1 1 [.string (s.extract t (k + 1))] rfl rfl (news_one _ _) (by simp [Value.oneCell']) (by unfold maxLen; omega) (by omega) (by have := hbel.size; simp; omega) ?_)
          | go_in)
        intro v' w1 hown' hgrow _
        have hb1 := below_app hbel (by have := hbel.size; omega) hown hgrow
        clear hgrow hown hbel
        go_wp2
        go_roundw
        case rel => exact ⟨k + 1, k + 1, n + 1, _, by omega, by omega, by omega, by go_num, by go_num, hown', hb1, HN⟩
        case measure => simp [intOf]; omega
      · have HN := hide (cutInv_miss (unhide HI) hlt hc)
        have hc' : (((s[k]).toNat : Int) == 59) = false := by
          rw [beq_eq_false_iff_ne]; intro h; exact hc (UInt8.toNat_inj.1 (by simpa using (by omega : (s[k]).toNat = 59)))
        have HC := hide hc; clear hc
        go_wp2
        go_roundw
        case rel => exact ⟨k + 1, t, n, _, by omega, by omega, by omega, by go_num, rfl, hown, hbel, HN⟩
        case measure => simp [intOf]; omega
    · have hks : k = s.size := by omega
      subst hks
      by_cases hts : t < s.size
      · have HN := hide (cutInv_last (unhide HI) hts)
        go_wp2_with (first
          | (at_builtin; refine wpList_append_own _ rfl _ _ 27 rfl w.heap.size 9 i0 (.string ByteArray.empty) 1 16 Tryd.underlying27 hi hz0 hz1 hz2 rfl (by decide) _ _ _ rfl (hown.alloc _) ⟨wr.heap.size, 0, none⟩ 1 1 [.string (s.extract t s.size)] rfl rfl (news_one _ _) (by simp [Value.oneCell']) (by unfold maxLen; omega) (by omega) (by have := hbel.size; simp; omega) ?_)
          | go_in)
        intro v' w1 hown' hgrow _
        have hb1 := below_app hbel (by have := hbel.size; omega) hown hgrow
        clear hgrow hown hbel
        go_wp2
        go_ret
        obtain ⟨e1, e2⟩ := unhide HN
        obtain ⟨ao, cap, rfl, hr⟩ := row_of_owns hown'
        rw [e1, e2] at hr
        exact ⟨ao, cap, by rw [← e1]; rfl, hr, hb1⟩
      · have HN := hide (cutInv_end (unhide HI) hts)
        go_wp2
        go_ret
        obtain ⟨e1, e2⟩ := unhide HN
        obtain ⟨ao, cap, rfl, hr⟩ := row_of_owns hown
        rw [e1, e2] at hr
        exact ⟨ao, cap, by rw [← e1]; rfl, hr, hbel⟩

theorem nil_list : (bs ([] : Str)).toList = [] := by rw [tl_sl, sl_bs]
theorem nil_empty : (bs ([] : Str)).toList.isEmpty = true := by rw [nil_list]; rfl
theorem one_list : ((bs [50, 32, 48, 32, 97, 59]).toList == [50, 32, 48, 32, 97, 59]) = true := by rw [tl_sl, sl_bs]; rfl
set_option maxRecDepth 100000 in
set_option maxHeartbeats 4000000 in
theorem parts_law (tr s t : ByteArray) (w : World) (ht : t.size ≤ 140737488355328) :
    Calls Tryd.prog 3 #[.string tr, .string s, .string t] w fun e w' => e = .returned (.bool true) ∧ Below w.heap.size w w' := by
  have HA0 : Hid (∀ W, Calls Tryd.prog 9 #[.string ⟨#[]⟩, .string ⟨#[43, 50, 32, 48, 32, 97, 59]⟩] W fun e w' => e = .returned (.tuple #[.string (bs [50, 32, 48, 32, 97, 59]), .int .i64 0, .int .i64 0]) ∧ Below W.heap.size W w') := by
    apply hide; intro W
    have h := apply_any ⟨#[]⟩ ⟨#[43, 50, 32, 48, 32, 97, 59]⟩ W
    rw [show applyT (sl ⟨#[]⟩) (sl ⟨#[43, 50, 32, 48, 32, 97, 59]⟩) = ([50, 32, 48, 32, 97, 59], 0, 0) from apply_first] at h
    exact h
  have HC := hide (fun W => check_any tr W)
  have HA2 := hide (fun W => apply_any tr s W)
  have HA1 := hide (fun W => apply_any tr ⟨#[]⟩ W)
  rw [show applyT (sl tr) (sl ⟨#[]⟩) = _ from apply_empty (sl tr)] at HA1
  have hone := one_list
  have hnil := nil_list
  have hnile := nil_empty
  have htt : (tr.toList == tr.toList) = true := by simp
  by_cases hc : (checkT (sl tr)).1 = 0
  · rw [if_pos hc, bs_sl] at HA1
    rw [hc, check_zero hc] at HC
    by_cases hs : 4000 < s.size
    · rw [apply_long (by rw [sl_length]; exact hs)] at HA2
      clear hc
      go_enter Tryd.func3, Tryd.ntmps3
      go_wp2_with fail
      refine (unhide HA0 _).mono ?_
      rintro e w1 ⟨rfl, hb1⟩
      have HB1 := hide hb1
      clear hb1
      go_wp2_with fail
      refine (unhide HC _).mono ?_
      rintro e w2 ⟨rfl, hb2⟩
      have HB2 := hide ((unhide HB1).trans (hb2.mono (unhide HB1).size))
      clear hb2
      go_wp2_with fail
      refine (unhide HA1 _).mono ?_
      rintro e w3 ⟨rfl, hb3⟩
      have HB3 := hide ((unhide HB2).trans (hb3.mono (unhide HB2).size))
      clear hb3
      go_wp2_with fail
      refine (unhide HA2 _).mono ?_
      rintro e w4 ⟨rfl, hb4⟩
      have HB4 := hide ((unhide HB3).trans (hb4.mono (unhide HB3).size))
      clear hb4
      go_wp2
      go_ret
      exact ⟨ret_bool (by simp), unhide HB4⟩
    · by_cases h2 : (applyT (sl tr) (sl s)).2.2 = 0
      · obtain ⟨_, _, _, _, g5⟩ := apply_good h2
        have HSP := hide (fun h => apply_split (l := sl tr) (s := sl s) (t := sl t) h2 h)
        have HU : Hid ((applyT (sl tr) (sl s)).1 = textT (doAllT (readSteps (cut (sl s))) (gather (readNodes (cut (sl tr))))) ∧ (applyT (sl tr) (sl s)).2.1 = 0) := by apply hide; rw [g5]; exact ⟨rfl, rfl⟩
        have hadd : ∀ W : World, (Op.stringOp .add s t).run Tryd.prog W = .ok (.string (s ++ t)) W := fun W => run_string_add_sum (P := Tryd.prog) W _ _ (by omega)
        have HA3 := hide (fun W => apply_any tr (s ++ t) W)
        have HA4 := hide (fun W => apply_any (bs (applyT (sl tr) (sl s)).1) t W)
        rw [sl_bs] at HA4
        rw [h2] at HA2
        have hslst : sl (s ++ t) = sl s ++ sl t := sl_append s t
        rw [hslst] at HA3
        have HK := hide (fun W => kcut_any s W (by omega))
        clear hslst g5 HU
        by_cases hst : 4000 < s.size + t.size
        · rw [apply_long (by rw [List.length_append, sl_length, sl_length]; exact hst)] at HA3
          clear hc h2 HSP HA4 HK
          generalize applyT (sl tr) (sl s) = A2 at *
          go_enter Tryd.func3, Tryd.ntmps3
          go_wp2_with fail
          refine (unhide HA0 _).mono ?_
          rintro e w1 ⟨rfl, hb1⟩
          have HB1 := hide hb1
          clear hb1
          go_wp2_with fail
          refine (unhide HC _).mono ?_
          rintro e w2 ⟨rfl, hb2⟩
          have HB2 := hide ((unhide HB1).trans (hb2.mono (unhide HB1).size))
          clear hb2
          go_wp2_with fail
          refine (unhide HA1 _).mono ?_
          rintro e w3 ⟨rfl, hb3⟩
          have HB3 := hide ((unhide HB2).trans (hb3.mono (unhide HB2).size))
          clear hb3
          go_wp2_with fail
          refine (unhide HA2 _).mono ?_
          rintro e w4 ⟨rfl, hb4⟩
          have HB4 := hide ((unhide HB3).trans (hb4.mono (unhide HB3).size))
          clear hb4
          go_wp2_with fail
          refine (unhide HA3 _).mono ?_
          rintro e w5 ⟨rfl, hb5⟩
          have HB5 := hide ((unhide HB4).trans (hb5.mono (unhide HB4).size))
          clear hb5
          go_wp2
          go_ret
          exact ⟨ret_bool (by simp), unhide HB5⟩
        · have hsp := unhide HSP (by rw [sl_length, sl_length]; omega)
          clear HSP hc h2
          obtain ⟨p1, p2, p3⟩ := hsp
          have hpl := apply_place (applyT (sl tr) (sl s)).1 (sl t)
          have hcl : (cut (sl s)).length ≤ 4000 := by have := cut_length_le (sl s); rw [sl_length] at this; omega
          generalize applyT (sl tr) (sl s) = A2 at *
          generalize applyT (sl tr) (sl s ++ sl t) = A3 at *
          generalize applyT A2.1 (sl t) = A4 at *
          obtain ⟨v, i, f⟩ := A3
          obtain ⟨x, j, g⟩ := A4
          simp only at p1 p2 p3 HA3 HA4 hpl
          subst p1 p2
          generalize (cut (sl s)).length = cl at *
          have hvv : ((bs v).toList == (bs v).toList) = true := by simp
          rcases p3 with ⟨rfl, rfl, rfl⟩ | ⟨p4, p5⟩
          · go_enter Tryd.func3, Tryd.ntmps3
            go_wp2_with fail
            refine (unhide HA0 _).mono ?_
            rintro e w1 ⟨rfl, hb1⟩
            have HB1 := hide hb1
            clear hb1
            go_wp2_with fail
            refine (unhide HC _).mono ?_
            rintro e w2 ⟨rfl, hb2⟩
            have HB2 := hide ((unhide HB1).trans (hb2.mono (unhide HB1).size))
            clear hb2
            go_wp2_with fail
            refine (unhide HA1 _).mono ?_
            rintro e w3 ⟨rfl, hb3⟩
            have HB3 := hide ((unhide HB2).trans (hb3.mono (unhide HB2).size))
            clear hb3
            go_wp2_with fail
            refine (unhide HA2 _).mono ?_
            rintro e w4 ⟨rfl, hb4⟩
            have HB4 := hide ((unhide HB3).trans (hb4.mono (unhide HB3).size))
            clear hb4
            go_wp2_with fail
            refine (unhide HA3 _).mono ?_
            rintro e w5 ⟨rfl, hb5⟩
            have HB5 := hide ((unhide HB4).trans (hb5.mono (unhide HB4).size))
            clear hb5
            go_wp2_with fail
            refine (unhide HA4 _).mono ?_
            rintro e w6 ⟨rfl, hb6⟩
            have HB6 := hide ((unhide HB5).trans (hb6.mono (unhide HB5).size))
            clear hb6
            go_wp2_with fail
            refine (unhide HK _).mono ?_
            rintro e w7 ⟨ao, cap, rfl, hrow, hb7⟩
            have HB7 := hide ((unhide HB6).trans (hb7.mono (unhide HB6).size))
            clear hb7 hrow
            go_wp2
            go_ret
            exact ⟨ret_bool (by simp), unhide HB7⟩
          · have hf0 : (f == 0) = false := by simpa using p4
            have hf1 : (f != 0) = true := by simpa using p4
            have hij : ((i : Int) == (j : Int) + (cl : Int)) = true := by rw [beq_iff_eq]; omega
            clear p4 p5
            go_enter Tryd.func3, Tryd.ntmps3
            go_wp2_with fail
            refine (unhide HA0 _).mono ?_
            rintro e w1 ⟨rfl, hb1⟩
            have HB1 := hide hb1
            clear hb1
            go_wp2_with fail
            refine (unhide HC _).mono ?_
            rintro e w2 ⟨rfl, hb2⟩
            have HB2 := hide ((unhide HB1).trans (hb2.mono (unhide HB1).size))
            clear hb2
            go_wp2_with fail
            refine (unhide HA1 _).mono ?_
            rintro e w3 ⟨rfl, hb3⟩
            have HB3 := hide ((unhide HB2).trans (hb3.mono (unhide HB2).size))
            clear hb3
            go_wp2_with fail
            refine (unhide HA2 _).mono ?_
            rintro e w4 ⟨rfl, hb4⟩
            have HB4 := hide ((unhide HB3).trans (hb4.mono (unhide HB3).size))
            clear hb4
            go_wp2_with fail
            refine (unhide HA3 _).mono ?_
            rintro e w5 ⟨rfl, hb5⟩
            have HB5 := hide ((unhide HB4).trans (hb5.mono (unhide HB4).size))
            clear hb5
            go_wp2_with fail
            refine (unhide HA4 _).mono ?_
            rintro e w6 ⟨rfl, hb6⟩
            have HB6 := hide ((unhide HB5).trans (hb6.mono (unhide HB5).size))
            clear hb6
            go_wp2_with fail
            refine (unhide HK _).mono ?_
            rintro e w7 ⟨ao, cap, rfl, hrow, hb7⟩
            have HB7 := hide ((unhide HB6).trans (hb7.mono (unhide HB6).size))
            clear hb7 hrow
            go_wp2
            go_ret
            exact ⟨ret_bool (by simp), unhide HB7⟩
      · have hb := apply_bad h2
        have hb1 := hb.1
        rw [hb1] at HA2
        have h2n : ((applyT (sl tr) (sl s)).2.2 != 0) = true := by rw [bne_iff_ne]; exact h2
        clear hb hb1 hc h2
        generalize applyT (sl tr) (sl s) = A2 at *
        go_enter Tryd.func3, Tryd.ntmps3
        go_wp2_with fail
        refine (unhide HA0 _).mono ?_
        rintro e w1 ⟨rfl, hb1⟩
        have HB1 := hide hb1
        clear hb1
        go_wp2_with fail
        refine (unhide HC _).mono ?_
        rintro e w2 ⟨rfl, hb2⟩
        have HB2 := hide ((unhide HB1).trans (hb2.mono (unhide HB1).size))
        clear hb2
        go_wp2_with fail
        refine (unhide HA1 _).mono ?_
        rintro e w3 ⟨rfl, hb3⟩
        have HB3 := hide ((unhide HB2).trans (hb3.mono (unhide HB2).size))
        clear hb3
        go_wp2_with fail
        refine (unhide HA2 _).mono ?_
        rintro e w4 ⟨rfl, hb4⟩
        have HB4 := hide ((unhide HB3).trans (hb4.mono (unhide HB3).size))
        clear hb4
        go_wp2
        go_ret
        exact ⟨ret_bool (by simp), unhide HB4⟩
  · rw [if_neg hc] at HA1
    have hcn : ((checkT (sl tr)).1 != 0) = true := by rw [bne_iff_ne]; exact hc
    have hce : ((checkT (sl tr)).1 == 0) = false := by rw [beq_eq_false_iff_ne]; exact hc
    by_cases hs : 4000 < s.size
    · rw [apply_long (by rw [sl_length]; exact hs)] at HA2
      clear hc
      generalize checkT (sl tr) = c at *
      go_enter Tryd.func3, Tryd.ntmps3
      go_wp2_with fail
      refine (unhide HA0 _).mono ?_
      rintro e w1 ⟨rfl, hb1⟩
      have HB1 := hide hb1
      clear hb1
      go_wp2_with fail
      refine (unhide HC _).mono ?_
      rintro e w2 ⟨rfl, hb2⟩
      have HB2 := hide ((unhide HB1).trans (hb2.mono (unhide HB1).size))
      clear hb2
      go_wp2_with fail
      refine (unhide HA1 _).mono ?_
      rintro e w3 ⟨rfl, hb3⟩
      have HB3 := hide ((unhide HB2).trans (hb3.mono (unhide HB2).size))
      clear hb3
      go_wp2_with fail
      refine (unhide HA2 _).mono ?_
      rintro e w4 ⟨rfl, hb4⟩
      have HB4 := hide ((unhide HB3).trans (hb4.mono (unhide HB3).size))
      clear hb4
      go_wp2
      go_ret
      exact ⟨ret_bool (by simp), unhide HB4⟩
    · have h2 : (applyT (sl tr) (sl s)).2.2 ≠ 0 := fun h => hc (apply_good h).2.1
      have hb := apply_bad h2
      have hb1 := hb.1
      have hb2 := hb.2 (by rw [sl_length]; omega) hc
      rw [hb1, hb2] at HA2
      clear hb hb1 hb2 hc h2
      generalize checkT (sl tr) = c at *
      generalize applyT (sl tr) (sl s) = A2 at *
      go_enter Tryd.func3, Tryd.ntmps3
      go_wp2_with fail
      refine (unhide HA0 _).mono ?_
      rintro e w1 ⟨rfl, hb1⟩
      have HB1 := hide hb1
      clear hb1
      go_wp2_with fail
      refine (unhide HC _).mono ?_
      rintro e w2 ⟨rfl, hb2⟩
      have HB2 := hide ((unhide HB1).trans (hb2.mono (unhide HB1).size))
      clear hb2
      go_wp2_with fail
      refine (unhide HA1 _).mono ?_
      rintro e w3 ⟨rfl, hb3⟩
      have HB3 := hide ((unhide HB2).trans (hb3.mono (unhide HB2).size))
      clear hb3
      go_wp2_with fail
      refine (unhide HA2 _).mono ?_
      rintro e w4 ⟨rfl, hb4⟩
      have HB4 := hide ((unhide HB3).trans (hb4.mono (unhide HB3).size))
      clear hb4
      go_wp2
      go_ret
      exact ⟨ret_bool (by simp), unhide HB4⟩
end Go.Proofs.YtdcjimlhaklhfaaDoor
