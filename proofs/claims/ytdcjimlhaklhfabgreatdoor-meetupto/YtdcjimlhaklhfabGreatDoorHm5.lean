import Derived.Test.YtdcjimlhaklhfabGreatDoorHm4
import Derived.Deep.RegionWith
import Derived.Test.YtdcjimlhaklhfabGreatDoorHm3
import Derived.Deep.RegionHeld3
namespace Go.Proofs.YtdcjimlhaklhfabGreatDoor
open Go.RowKit
def StRes (l : Str) (e : Ending) : Prop := ∃ (k i p : Int) (z : ByteArray), e = .returned (.tuple #[.agg #[.int .u8 k, .int .i64 i, .int .i64 p, .string z], .bool (readStep l).isSome]) ∧ ∀ st, readStep l = some st → k = st.kind.toNat ∧ i = st.node.id ∧ p = st.node.parent ∧ z = bs st.node.name
theorem stRes_none {l : Str} (h : readStep l = none) (k i p : Int) (z : ByteArray) : StRes l (.returned (.tuple #[.agg #[.int .u8 k, .int .i64 i, .int .i64 p, .string z], .bool false])) :=
  ⟨k, i, p, z, by rw [h]; rfl, fun st hs => by rw [h] at hs; cases hs⟩
theorem stRes_some {l : Str} {st : St} (h : readStep l = some st) : StRes l (.returned (.tuple #[.agg #[.int .u8 st.kind.toNat, .int .i64 st.node.id, .int .i64 st.node.parent, .string (bs st.node.name)], .bool true])) :=
  ⟨_, _, _, _, by rw [h]; rfl, fun st' hs => by rw [h] at hs; cases hs; exact ⟨rfl, rfl, rfl, rfl⟩⟩
theorem tail_bs (k : UInt8) (r : Str) : (bs (k :: r)).extract 1 (bs (k :: r)).size = bs r := by
  rw [bs_extract, sl_bs, bs_size, List.take_of_length_le (Nat.le_refl _)]; rfl
theorem head_bs (k : UInt8) (r : Str) (h : 0 < (bs (k :: r)).size) : (bs (k :: r))[0]'h = k := rfl
theorem beq_u8 {k : UInt8} {n : Nat} (h : n < 256) : ((k.toNat : Int) == (n : Int)) = decide (k = UInt8.ofNat n) := by
  rw [Bool.eq_iff_iff]; simp only [beq_iff_eq, decide_eq_true_eq]
  constructor
  · intro e; apply UInt8.toNat_inj.1; rw [UInt8.toNat_ofNat']; omega
  · intro e; subst e; rw [UInt8.toNat_ofNat']; omega
set_option maxHeartbeats 1000000 in
theorem readStep_empty (s : ByteArray) (w : World) (hs : s.size ≤ 4000) (h : bodyB (sl s) = false ∨ bodyS (sl s) = []) :
    Calls Tryz.prog 101 #[.string s] w fun e w' => StRes (sl s) e ∧ Below w.heap.size w w' := by
  have HB := hide (fun W => body_any s W hs)
  have HN : Hid (readStep (sl s) = none) := by
    apply hide; unfold readStep
    rcases h with h | h
    · rw [h]; rfl
    · rw [h]; split <;> rfl
  have hst : bodyB (sl s) = false ∨ (bodyB (sl s) = true ∧ bodyS (sl s) = []) := by
    rcases h with h | h
    · exact .inl h
    · cases hb : bodyB (sl s)
      · exact .inl rfl
      · exact .inr ⟨rfl, h⟩
  clear h
  generalize bodyB (sl s) = bb at *
  generalize bodyS (sl s) = B at *
  rcases hst with hst | ⟨hst, hB⟩
  · subst hst
    go_enter Tryz.func101, Tryz.ntmps101
    go_wp2_with fail
    refine (unhide HB _).mono ?_
    rintro e w1 ⟨rfl, rfl⟩
    go_wp2
    refine bodyPost_ret (v := .tuple #[.agg #[.int .u8 0, .int .i64 0, .int .i64 0, .string ByteArray.empty], .bool false]) (by simp [results, Tryz.results101, go_sem]; rfl) rfl ⟨stRes_none (unhide HN) _ _ _ _, ?_⟩
    exact (Below.refl _ _).alloc (Nat.le_refl _) _
  · subst hst hB
    have hne : (bs ([] : Str)).toList = [] := by rw [tl_sl, sl_bs]
    have hne2 : (bs ([] : Str)).toList.isEmpty = true := by rw [hne]; rfl
    go_enter Tryz.func101, Tryz.ntmps101
    go_wp2_with fail
    refine (unhide HB _).mono ?_
    rintro e w1 ⟨rfl, rfl⟩
    go_wp2
    refine bodyPost_ret (v := .tuple #[.agg #[.int .u8 0, .int .i64 0, .int .i64 0, .string ByteArray.empty], .bool false]) (by simp [results, Tryz.results101, go_sem]; rfl) rfl ⟨stRes_none (unhide HN) _ _ _ _, ?_⟩
    exact (Below.refl _ _).alloc (Nat.le_refl _) _
theorem stOf_node {k : UInt8} {r : Str} (h : k = 43 ∨ k = 61) : stOf (k :: r) = (readNode r).map (fun n => ⟨k, n⟩) := by
  show (if k = 43 ∨ k = 61 then _ else _) = _; rw [if_pos h]
theorem stOf_del {r : Str} : stOf (45 :: r) = if (number r 1 99).2 then some ⟨45, ⟨(number r 1 99).1, 0, []⟩⟩ else none := by
  show (if (45 : UInt8) = 43 ∨ (45 : UInt8) = 61 then (readNode r).map (fun n => (⟨45, n⟩ : St)) else if (45 : UInt8) = 45 then (if (number r 1 99).2 then some (⟨45, ⟨(number r 1 99).1, 0, []⟩⟩ : St) else none) else none) = _
  rw [if_neg (by decide), if_pos rfl]
theorem stOf_other {k : UInt8} {r : Str} (h : ¬ (k = 43 ∨ k = 61)) (h2 : ¬ k = 45) : stOf (k :: r) = none := by
  show (if k = 43 ∨ k = 61 then _ else if k = 45 then _ else _) = _; rw [if_neg h, if_neg h2]
set_option maxHeartbeats 2000000 in
theorem readStep_full (s : ByteArray) (w : World) (hs : s.size ≤ 4000) (k : UInt8) (r : Str) (hb : bodyB (sl s) = true) (hB : bodyS (sl s) = k :: r) :
    Calls Tryz.prog 101 #[.string s] w fun e w' => StRes (sl s) e ∧ Below w.heap.size w w' := by
  have HB := hide (fun W => body_any s W hs)
  have hlen : (k :: r).length ≤ 4000 := by have := bodyS_len (sl s); rw [hB, sl_length] at this; omega
  have hr4 : (bs r).size ≤ 4000 := by rw [bs_size]; simp at hlen; omega
  have HST : Hid (readStep (sl s) = stOf (k :: r)) := by apply hide; unfold readStep; rw [hb, hB]; rfl
  rw [hb, hB] at HB
  have hpos : 0 < (bs (k :: r)).size := by rw [bs_size]; simp
  have hne := ne_nil_at (bs (k :: r)) hpos
  have hne2 : (bs (k :: r)).toList.isEmpty = false := by rw [List.isEmpty_eq_false_iff]; exact hne
  have htail := tail_bs k r
  have hhead := head_bs k r hpos
  have hp1 : (1 : Int) ≤ (bs (k :: r)).size := by omega
  clear hb hB hlen
  by_cases hk : k = 43 ∨ k = 61
  · have HRN := hide (fun W => readNode_any (bs r) W hr4)
    rw [sl_bs] at HRN
    have HST2 := hide ((unhide HST).trans (stOf_node hk))
    have hkk : ((k.toNat : Int) == 43) = true ∨ (((k.toNat : Int) == 43) = false ∧ ((k.toNat : Int) == 61) = true) := by
      rcases hk with h | h
      · left; rw [h]; rfl
      · right; rw [h]; exact ⟨rfl, rfl⟩
    clear hk HST
    generalize readNode r = R at *
    rcases hkk with hkk | ⟨hk1, hkk⟩
    all_goals
      go_enter Tryz.func101, Tryz.ntmps101
      go_wp2_with fail
      refine (unhide HB _).mono ?_
      rintro e w1 ⟨rfl, rfl⟩
      go_wp2_with fail
      refine (unhide HRN _).mono ?_
      rintro e w2 ⟨rfl, hb2⟩
      obtain ⟨hc, hf⟩ := bcell hb2
      have hz : w.heap.size + 1 ≤ w2.heap.size := by have := hb2.size; simp at this; omega
      have HB0 : Hid (Below w.heap.size w w2) := hide (((Below.refl _ _).alloc (Nat.le_refl _) _).trans (hb2.mono (by simp)))
      have hzl : w.heap.size < w2.heap.size := by omega
      have hzn : ¬ w.heap.size = w2.heap.size := by omega
      clear hb2
      go_wp2
      refine bodyPost_ret (v := .tuple #[.agg #[.int .u8 k.toNat, .int .i64 (R.getD nd0).id, .int .i64 (R.getD nd0).parent, .string (bs (R.getD nd0).name)], .bool R.isSome]) (by simp [results, Tryz.results101, go_sem, hc, hzl]) rfl ⟨?_, ?_⟩
      · cases R with
        | none => exact stRes_none (unhide HST2) _ _ _ _
        | some n => exact stRes_some (unhide HST2)
      · exact (((((unhide HB0).setCell (Nat.le_refl _) _).setCell (Nat.le_refl _) _).setCell (Nat.le_refl _) _).setCell (Nat.le_refl _) _).alloc (by simp; omega) _
  · have hk1 : ((k.toNat : Int) == 43) = false := by
      rw [beq_eq_false_iff_ne]; intro h; exact hk (.inl (UInt8.toNat_inj.1 (by simpa using (by omega : k.toNat = 43))))
    have hk2 : ((k.toNat : Int) == 61) = false := by
      rw [beq_eq_false_iff_ne]; intro h; exact hk (.inr (UInt8.toNat_inj.1 (by simpa using (by omega : k.toNat = 61))))
    by_cases hk3 : k = 45
    · subst hk3
      have HNU := hide (fun W => number_any (bs r) 1 99 W hr4 (by omega) (by omega))
      rw [sl_bs] at HNU
      have HST2 := hide ((unhide HST).trans stOf_del)
      clear hk HST hk1 hk2
      generalize (number r 1 99).1 = x at *
      generalize (number r 1 99).2 = q at *
      go_enter Tryz.func101, Tryz.ntmps101
      go_wp2_with fail
      refine (unhide HB _).mono ?_
      rintro e w1 ⟨rfl, rfl⟩
      go_wp2_with fail
      refine (unhide HNU _).mono ?_
      rintro e w2 ⟨rfl, rfl⟩
      go_wp2
      refine bodyPost_ret (v := .tuple #[.agg #[.int .u8 45, .int .i64 x, .int .i64 0, .string ⟨#[]⟩], .bool q]) (by simp [results, Tryz.results101, go_sem]) rfl ⟨?_, ?_⟩
      · cases q with
        | false => exact stRes_none (unhide HST2) _ _ _ _
        | true => exact stRes_some (st := ⟨45, ⟨x, 0, []⟩⟩) (unhide HST2)
      · exact (Below.refl _ _).alloc (Nat.le_refl _) _
    · have hk4 : ((k.toNat : Int) == 45) = false := by
        rw [beq_eq_false_iff_ne]; intro h; exact hk3 (UInt8.toNat_inj.1 (by simpa using (by omega : k.toNat = 45)))
      have HST2 := hide ((unhide HST).trans (stOf_other hk hk3))
      clear hk hk3 HST
      go_enter Tryz.func101, Tryz.ntmps101
      go_wp2_with fail
      refine (unhide HB _).mono ?_
      rintro e w1 ⟨rfl, rfl⟩
      go_wp2
      refine bodyPost_ret (v := .tuple #[.agg #[.int .u8 0, .int .i64 0, .int .i64 0, .string ByteArray.empty], .bool false]) (by simp [results, Tryz.results101, go_sem]; rfl) rfl ⟨stRes_none (unhide HST2) _ _ _ _, ?_⟩
      exact (Below.refl _ _).alloc (Nat.le_refl _) _
theorem readStep_any (s : ByteArray) (w : World) (hs : s.size ≤ 4000) :
    Calls Tryz.prog 101 #[.string s] w fun e w' => StRes (sl s) e ∧ Below w.heap.size w w' := by
  cases hb : bodyB (sl s)
  · exact readStep_empty s w hs (.inl hb)
  · cases hB : bodyS (sl s) with
    | nil => exact readStep_empty s w hs (.inr hB)
    | cons k r => exact readStep_full s w hs k r hb hB
end Go.Proofs.YtdcjimlhaklhfabGreatDoor

namespace Go.Proofs.YtdcjimlhaklhfabGreatDoor
open Go.RowKit
theorem row_of_owns3 {w : World} {base : Nat} {e : TypeId} {size : Nat} {v : Value} {n : Nat} {xs : List Value} (h : w.ownsRow base e size v n xs) : ∃ ao cap, v = .slice ao n cap ∧ Row w ao n size xs ∧ ∀ g, ao = some ⟨g, 0, none⟩ → base ≤ g := by
  obtain ⟨ao, cap, hv, hr⟩ := row_of_owns h
  refine ⟨ao, cap, hv, hr, fun g hg => ?_⟩
  subst hv
  exact own_ge h g (by rw [hg]; rfl)
theorem Tryz.infoStep : (Tryz.prog.info? 169).map (fun i => (i.zero, i.size, i.bytes)) = some (some (.agg #[.int .u8 0, .int .i64 0, .int .i64 0, .string ByteArray.empty]), 4, 40) := by kernel_rfl
theorem news_four' {w : World} (o : Obj) (a b c d : Value) (t : TypeId) : ∀ j x, [a, b, c, d][j]? = some x → ((w.alloc o).alloc (.cells #[a, b, c, d] t)).cell? ((⟨w.heap.size + 1, 0, none⟩ : Addr).add j) = some x := by
  intro j x hx
  have := World.news_of_block (cs := #[a, b, c, d]) (heap_alloc_new (w.alloc o) (.cells #[a, b, c, d] t)) j x hx
  simpa using this
def RsInv (rs : List Str) (k : Nat) (ss : List St) : Prop := ss.length = k ∧ readSteps rs = ss ++ readSteps (rs.drop k)
theorem rsInv_yes {rs : List Str} {k : Nat} {ss : List St} (h : RsInv rs k ss) (hk : k < rs.length) {n : St} (hn : readStep rs[k] = some n) : RsInv rs (k + 1) (ss ++ [n]) := by
  refine ⟨by simp [h.1], ?_⟩
  rw [h.2, List.drop_eq_getElem_cons hk, readSteps, hn]; simp
theorem rsInv_no {rs : List Str} {k : Nat} {ss : List St} (h : RsInv rs k ss) (hk : k < rs.length) (hn : readStep rs[k] = none) : readSteps rs = ss ∧ ss.length = k ∧ decide ((readSteps rs).length = rs.length) = false := by
  have e : readSteps rs = ss := by rw [h.2, List.drop_eq_getElem_cons hk, readSteps, hn]; simp
  refine ⟨e, h.1, ?_⟩
  rw [e, h.1]; exact decide_eq_false (by omega)
theorem rsInv_end {rs : List Str} {k : Nat} {ss : List St} (h : RsInv rs k ss) (hk : ¬ k < rs.length) (hk' : k ≤ rs.length) : readSteps rs = ss ∧ ss.length = k ∧ decide ((readSteps rs).length = rs.length) = true := by
  have e : readSteps rs = ss := by rw [h.2, List.drop_eq_nil_of_le (by omega)]; simp [readSteps]
  refine ⟨e, h.1, ?_⟩
  rw [e, h.1]; exact decide_eq_true (by omega)
set_option maxHeartbeats 2000000 in
theorem stepsRead_any (s : ByteArray) (w : World) (hs : s.size ≤ 4000) :
    Calls Tryz.prog 65 #[.string s] w fun e w' => (∃ ao cap, e = .returned (.tuple #[.slice ao (readSteps (cut (sl s))).length cap, .bool (decide ((readSteps (cut (sl s))).length = (cut (sl s)).length))]) ∧ Row w' ao (readSteps (cut (sl s))).length 4 (stCells (readSteps (cut (sl s)))) ∧ ∀ g, ao = some ⟨g, 0, none⟩ → w.heap.size ≤ g) ∧ Below w.heap.size w w' := by
  obtain ⟨i0, hi, hz0, hz1, hz2⟩ := info_parts Tryz.infoStep
  have HC := hide (fun W => cut_any s W hs)
  have hrl : (cut (sl s)).length ≤ 4000 := by have := cut_length_le (sl s); rw [sl_length] at this; omega
  have HRM : Hid (∀ r ∈ cut (sl s), r.length ≤ 4000) := hide (fun r hr => by have := cut_mem_len (sl s) r hr; rw [sl_length] at this; omega)
  generalize cut (sl s) = rs at *
  go_enter Tryz.func65, Tryz.ntmps65
  go_wp2_with fail
  refine (unhide HC _).mono ?_
  rintro e w1 ⟨ao, cap, rfl, hrow, hb1⟩
  have HROW := hide hrow
  have HB1 := hide hb1
  have hsz1 := hb1.size
  clear hrow hb1
  go_wp2
  go_loopw [4, 12] (fun v i wr => ∃ k : Nat, ∃ ss : List St, k ≤ rs.length ∧ i = .int .i64 k ∧ wr.ownsRow w1.heap.size 169 4 v k (stCells ss) ∧ Below w1.heap.size w1 wr ∧ Hid (RsInv rs k ss)) (fun _ i _ => rs.length - (intOf i).toNat)
  case atStart => exact ⟨0, [], Nat.zero_le _, rfl, World.ownsRow_nil _ _ _ _, Below.refl _ _, hide ⟨rfl, rfl⟩⟩
  case round =>
    obtain ⟨k, ss, hk, rfl, hown, hbel, HI⟩ := hrel
    by_cases hlt : k < rs.length
    · obtain ⟨g, hao, hg, hcell⟩ := str_cell (unhide HROW) hbel hlt
      rw [hao]
      have hrl2 : (rs[k]).length ≤ 4000 := unhide HRM _ (List.getElem_mem hlt)
      have HP := hide (fun W => readStep_any (bs rs[k]) W (by rw [bs_size]; exact hrl2))
      rw [sl_bs] at HP
      have hsz := hbel.size
      clear hao
      generalize hr : rs[k] = r at *
      have HR := hide hr; clear hr
      go_wp2_with fail
      refine (unhide HP _).mono ?_
      rintro e w3 ⟨⟨x0, x1, x2, x3, rfl, hx⟩, hb3⟩
      have HOWN := hide (own_below hown hb3)
      have HB3 := hide (hbel.trans (hb3.mono hsz))
      have hz3 : wr.heap.size ≤ w3.heap.size := hb3.size
      have HX := hide hx
      clear hx hb3 HP
      cases hR : readStep r with
      | none =>
        have HS := hide (rsInv_no (unhide HI) hlt (by rw [unhide HR]; exact hR))
        clear hR
        go_wp2
        go_ret2
        obtain ⟨f1, f2, f3⟩ := unhide HS
        have hE := (Below.refl w3.heap.size w3).alloc (Nat.le_refl _) (.cells #[.int .u8 x0, .int .i64 x1, .int .i64 x2, .string x3] 169)
        obtain ⟨ao', cap', rfl, hr, hge⟩ := row_of_owns3 (own_below (unhide HOWN) hE)
        rw [f3, f1]
        rw [← f2] at hr
        exact ⟨⟨ao', cap', by rw [f2]; rfl, hr, fun g hg => by have := hge g hg; omega⟩, (unhide HB1).trans (((unhide HB3).trans (hE.mono (by omega))).mono hsz1)⟩
      | some st =>
        have HN := hide (rsInv_yes (unhide HI) hlt (n := st) (by rw [unhide HR]; exact hR))
        obtain ⟨rfl, rfl, rfl, rfl⟩ := unhide HX st hR
        clear HX hR
        go_wp2_with (first
          | (at_builtin; (refine wpList_append_own _ rfl _ _ 122 rfl w1.heap.size 169 i0 (.agg #[.int .u8 0, .int .i64 0, .int .i64 0, .string ByteArray.empty]) 4 40 Tryz.underlying122 hi hz0 hz1 hz2 rfl (by decide) _ _ _ rfl (own_below (unhide HOWN) (((Below.refl _ _).alloc (Nat.le_refl _) _).alloc (by simp) _)) ⟨w3.heap.size + 1, 0, none⟩ 1 1 [.int .u8 st.kind.toNat, .int .i64 st.node.id, .int .i64 st.node.parent, .string (bs st.node.name)] rfl rfl (news_four' _ _ _ _ _ _) (by simp [Value.oneCell']) (by unfold maxLen; omega) (by omega) (by have := hbel.size; simp; omega) ?_))
          | go_in)
        intro v' w4 hown' hgrow _
        have hb4 : Below w1.heap.size w1 w4 := ((((unhide HB3).alloc (by omega) _).alloc (by simp; omega) _)).grown hgrow (by simp; omega) (own_ge hown)
        have hown2 : w4.ownsRow w1.heap.size 169 4 v' (k + 1) (stCells (ss ++ [st])) := by rw [stCells_snoc]; exact hown'
        clear hgrow hown hbel hown'
        go_wp2
        go_roundw
        case rel => exact ⟨k + 1, _, by omega, by go_num, hown2, hb4, HN⟩
        case measure => simp [intOf]; omega
    · have HF := hide (rsInv_end (unhide HI) hlt hk)
      go_wp2
      go_ret2
      obtain ⟨f1, f2, f3⟩ := unhide HF
      obtain ⟨ao', cap', rfl, hr, hge⟩ := row_of_owns3 hown
      rw [f3, f1]
      rw [← f2] at hr
      exact ⟨⟨ao', cap', by rw [f2]; rfl, hr, fun g hg => by have := hge g hg; omega⟩, (unhide HB1).trans (hbel.mono hsz1)⟩
/-! Texts. -/
theorem bs_app (a b : Str) : bs a ++ bs b = bs (a ++ b) := by
  rw [← bs_sl (bs a ++ bs b), sl_append, sl_bs, sl_bs]
theorem add_bs (a b : Str) (ha : a.length ≤ 1000000) (hb : b.length ≤ 1000000) (W : World) : (Op.stringOp .add (bs a) (bs b)).run Tryz.prog W = .ok (.string (bs (a ++ b))) W := by
  rw [run_string_add_sum (P := Tryz.prog) W _ _ (by rw [bs_size, bs_size]; omega), bs_app]
theorem add_32 (a : Str) (ha : a.length ≤ 1000000) (W : World) : (Op.stringOp .add (bs a) ⟨#[32]⟩).run Tryz.prog W = .ok (.string (bs (a ++ [32]))) W := add_bs a [32] ha (by simp) W
theorem add_59 (a : Str) (ha : a.length ≤ 1000000) (W : World) : (Op.stringOp .add (bs a) ⟨#[59]⟩).run Tryz.prog W = .ok (.string (bs (a ++ [59]))) W := add_bs a [59] ha (by simp) W
set_option maxHeartbeats 1000000 in
theorem nodeText_any (n : Nd) (w : World) (h1 : 0 ≤ n.id ∧ n.id ≤ 99) (h2 : 0 ≤ n.parent ∧ n.parent ≤ 99) (hn : n.name.length ≤ 4000) :
    Calls Tryz.prog 64 #[.agg #[.int .i64 n.id, .int .i64 n.parent, .string (bs n.name)]] w fun e w' => e = .returned (.string (bs (nodeText n))) ∧ Below w.heap.size w w' := by
  have HI := hide (fun W => itoa_any n.id W h1.1 h1.2)
  have HP := hide (fun W => itoa_any n.parent W h2.1 h2.2)
  have l1 := digs_len n.id
  have l2 := digs_len n.parent
  have HN : Hid (nodeText n = digs n.id ++ [32] ++ digs n.parent ++ [32] ++ n.name ++ [59]) := hide rfl
  generalize digs n.id = a at *
  generalize digs n.parent = b at *
  have a1 := add_32 a (by omega)
  have a2 := add_bs (a ++ [32]) b (by simp; omega) (by omega)
  have a3 := add_32 (a ++ [32] ++ b) (by simp; omega)
  have a4 := add_bs (a ++ [32] ++ b ++ [32]) n.name (by simp; omega) (by omega)
  have a5 := add_59 (a ++ [32] ++ b ++ [32] ++ n.name) (by simp; omega)
  generalize a ++ [32] ++ b ++ [32] ++ n.name ++ [59] = r5 at *
  generalize a ++ [32] ++ b ++ [32] ++ n.name = r4 at *
  generalize a ++ [32] ++ b ++ [32] = r3 at *
  generalize a ++ [32] ++ b = r2 at *
  generalize a ++ [32] = r1 at *
  go_enter Tryz.func64, Tryz.ntmps64
  go_wp2_with fail
  refine (unhide HI _).mono ?_
  rintro e w1 ⟨rfl, rfl⟩
  go_wp2_with fail
  refine (unhide HP _).mono ?_
  rintro e w1 ⟨rfl, rfl⟩
  go_wp2
  go_ret
  exact ⟨ret_str (by rw [unhide HN]), (Below.refl _ _).alloc (Nat.le_refl _) _⟩
set_option maxHeartbeats 1000000 in
theorem text_any {x : Ext} (t : Tr) (b : Nat) (w : World) (ht : TrOk t) (hT : TreeAt x w b t) :
    Calls Tryz.prog 32 #[.pointer (some ⟨b, 0, none⟩)] w fun e w' => e = .returned (.string (bs (textT t))) ∧ Below w.heap.size w w' := by
  have HT := hide hT; clear hT
  have HO := hide ht; clear ht
  go_enter Tryz.func32, Tryz.ntmps32
  go_wp2
  go_loopw [3, 4] (fun x i wr => ∃ k : Nat, ∃ S : Str, k ≤ 99 ∧ i = .int .i64 ((k : Int) + 1) ∧ x = .string (bs S) ∧ Below w.heap.size w wr ∧ Hid (S = textTo t k)) (fun _ i _ => 101 - (intOf i).toNat)
  case atStart => exact ⟨0, [], by omega, rfl, rfl, Below.refl _ _, hide rfl⟩
  case round =>
    obtain ⟨k, S, hk, rfl, rfl, hbel, HS⟩ := hrel
    by_cases hlt : k < 99
    · have hTr := (unhide HT).below hbel
      have c0 := hTr.here (k + 1) (by omega)
      have c1 := hTr.id (k + 1) (by omega)
      have c2 := hTr.parent (k + 1) (by omega)
      have c3 := hTr.name (k + 1) (by omega)
      have HSU := hide (textTo_succ t k)
      have hSl : S.length ≤ 18 * 99 := by rw [unhide HS]; have := textTo_len (unhide HO) k; omega
      have hk0 : (0 : Int) ≤ (k : Int) + 1 := by omega
      have hk1 : (k : Int) + 1 < 100 := by omega
      have hk2 : ((k : Int) + 1).toNat = k + 1 := by omega
      have hsz := hbel.size
      clear hTr
      have HTA : Hid (textAt t (k + 1) = match t (k + 1) with | none => [] | some n => nodeText n) := hide rfl
      cases hq : t (k + 1) with
      | none =>
        have HS2 : Hid (S = textTo t (k + 1)) := by apply hide; rw [unhide HSU, unhide HTA, hq, unhide HS]; simp
        rw [hq] at c0 c1 c2 c3
        clear hq
        go_wp2
        go_roundw
        case rel => exact ⟨k + 1, S, by omega, by go_num, rfl, hbel, HS2⟩
        case measure => simp [intOf]; omega
      | some n =>
        have hb := (unhide HO).2 (k + 1) n hq
        have HS2 : Hid (S ++ nodeText n = textTo t (k + 1)) := by apply hide; rw [unhide HSU, unhide HTA, hq, unhide HS]
        have hnl := nodeText_len hb.2.2.2.2.2
        have HNT := hide (fun W => nodeText_any n W ⟨by omega, by omega⟩ ⟨hb.2.2.2.1, hb.2.2.2.2.1⟩ (by have := name_len hb.2.2.2.2.2; omega))
        have hadd := add_bs S (nodeText n) (by omega) (by omega)
        rw [hq] at c0 c1 c2 c3
        clear hq hb
        generalize nodeText n = nt at *
        go_wp2_with fail
        refine (unhide HNT _).mono ?_
        rintro e w2 ⟨rfl, hb2⟩
        have HB2 := hide (hbel.trans (hb2.mono hsz))
        clear hb2 hbel c0 c1 c2 c3
        go_wp2
        go_roundw
        case rel => exact ⟨k + 1, _, by omega, by go_num, rfl, unhide HB2, HS2⟩
        case measure => simp [intOf]; omega
    · have hk99 : k = 99 := by omega
      subst hk99
      go_wp2
      go_ret
      exact ⟨ret_str (by rw [unhide HS]; rfl), hbel⟩
end Go.Proofs.YtdcjimlhaklhfabGreatDoor

namespace Go.Proofs.YtdcjimlhaklhfabGreatDoor
open Go.RowKit
theorem below_grown {w w1 w2 : World} {b : Nat} (h : Below w.heap.size w w1) (hg : w1.grownBy w2 (some b)) (hb : w.heap.size ≤ b) : Below w.heap.size w w2 :=
  h.grown hg h.size (fun k hk => by cases hk; exact hb)
theorem doAllT_ok : ∀ (ss : List St) (t : Tr), TrOk t → (∀ s ∈ ss, StOk s) → TrOk (doAllT ss t) := by
  intro ss
  induction ss with
  | nil => intro t h _; exact h
  | cons s ss ih =>
    intro t h hs
    unfold doAllT
    split
    · exact ih _ (stepT_ok h (hs s (by simp))) (fun x hx => hs x (by simp [hx]))
    · exact h
theorem ret_sii {a : Str} {n : Nat} {e : Int} {r : Str × Nat × Int} (h : r = (a, n, e)) : Ending.returned (.tuple #[.string (bs a), .int .i64 n, .int .i64 e]) = .returned (.tuple #[.string (bs r.1), .int .i64 r.2.1, .int .i64 r.2.2]) := by rw [h]
theorem applyT_long {l sc : Str} (h : 4000 < l.length ∨ 4000 < sc.length) : applyT l sc = ([], 0, 1) := by unfold applyT; rw [if_pos h]
theorem applyT_check {l sc : Str} (h : ¬ (4000 < l.length ∨ 4000 < sc.length)) (h2 : (checkT l).1 ≠ 0) : applyT l sc = ([], (checkT l).2, (checkT l).1) := by unfold applyT; rw [if_neg h, if_pos h2]
theorem applyT_step {l sc : Str} (h : ¬ (4000 < l.length ∨ 4000 < sc.length)) (h2 : ¬ (checkT l).1 ≠ 0) (h3 : (readSteps (cut sc)).length < (cut sc).length) : applyT l sc = ([], (readSteps (cut sc)).length, 7) := by unfold applyT; rw [if_neg h, if_neg h2, if_pos h3]
theorem applyT_do {l sc : Str} (h : ¬ (4000 < l.length ∨ 4000 < sc.length)) (h2 : ¬ (checkT l).1 ≠ 0) (h3 : ¬ (readSteps (cut sc)).length < (cut sc).length) (h4 : (doAllE (readSteps (cut sc)) (gather (readNodes (cut l))) 0).1 ≠ 0) : applyT l sc = ([], (doAllE (readSteps (cut sc)) (gather (readNodes (cut l))) 0).2, (doAllE (readSteps (cut sc)) (gather (readNodes (cut l))) 0).1) := by unfold applyT; rw [if_neg h, if_neg h2, if_neg h3, if_pos h4]
theorem applyT_ok {l sc : Str} (h : ¬ (4000 < l.length ∨ 4000 < sc.length)) (h2 : ¬ (checkT l).1 ≠ 0) (h3 : ¬ (readSteps (cut sc)).length < (cut sc).length) (h4 : ¬ (doAllE (readSteps (cut sc)) (gather (readNodes (cut l))) 0).1 ≠ 0) : applyT l sc = (textT (doAllT (readSteps (cut sc)) (gather (readNodes (cut l)))), 0, 0) := by unfold applyT; rw [if_neg h, if_neg h2, if_neg h3, if_neg h4]
set_option maxHeartbeats 2000000 in
theorem apply_any (s sc : ByteArray) (w : World) :
    Calls Tryz.prog 34 #[.string s, .string sc] w fun e w' => e = .returned (.tuple #[.string (bs (applyT (sl s) (sl sc)).1), .int .i64 (applyT (sl s) (sl sc)).2.1, .int .i64 (applyT (sl s) (sl sc)).2.2]) ∧ Below w.heap.size w w' := by
  by_cases hL : 4000 < s.size ∨ 4000 < sc.size
  · have HA := hide (applyT_long (l := sl s) (sc := sl sc) (by rw [sl_length, sl_length]; exact hL))
    generalize applyT (sl s) (sl sc) = A at *
    have hL' : 4000 < s.size ∨ (¬ 4000 < s.size ∧ 4000 < sc.size) := by omega
    clear hL
    rcases hL' with h | ⟨h, h'⟩
    all_goals
      go_enter Tryz.func34, Tryz.ntmps34
      go_wp2
      go_ret3
      exact ⟨ret_sii (unhide HA), Below.refl _ _⟩
  · have hLl : ¬ (4000 < (sl s).length ∨ 4000 < (sl sc).length) := by rw [sl_length, sl_length]; exact hL
    have h4 : ¬ 4000 < s.size := by omega
    have h5 : ¬ 4000 < sc.size := by omega
    have HRD := hide (fun W => read_any s W)
    by_cases hC : (checkT (sl s)).1 ≠ 0
    · have HA := hide (applyT_check hLl hC)
      have hC' : ((checkT (sl s)).1 != 0) = true := by rw [bne_iff_ne]; exact hC
      generalize applyT (sl s) (sl sc) = A at *
      generalize checkT (sl s) = c at *
      generalize readT (sl s) = T at *
      clear hC hL hLl
      go_enter Tryz.func34, Tryz.ntmps34
      go_wp2_with fail
      refine (unhide HRD _).mono ?_
      rintro e w1 ⟨rfl, hb1⟩
      have HN := hide (treeAt_new w1)
      have HB1 := hide hb1; clear hb1
      go_wp2_with (refine wpList_store_mid (by rfl) 78 (.tmp 7) (.tmp 23) (by rfl) w1.heap.size 0 (treeCells T).toArray (by rfl) (by rfl) (by exact treeAt_there (unhide HN) T) (treeSize' T) (treeOne T) ?_)
      go_ret3
      exact ⟨ret_sii (unhide HA), below_setCells ((unhide HB1).alloc (unhide HB1).size _) (unhide HB1).size (by have := (unhide HB1).size; simp; omega) _ _⟩
    · have hc0 : (checkT (sl s)).1 = 0 := Classical.not_not.1 hC
      have hTG : readT (sl s) = gather (readNodes (cut (sl s))) := by unfold readT; rw [if_pos hc0]
      have hOK := gather_ok (cut (sl s))
      rw [hc0, hTG] at HRD
      have HSR := hide (fun W => stepsRead_any sc W (by omega))
      have HSO := hide (readSteps_ok (cut (sl sc)))
      have hsl := readSteps_length (cut (sl sc))
      have hcl : (cut (sl sc)).length ≤ 4000 := by have := cut_length_le (sl sc); rw [sl_length] at this; omega
      by_cases hS : (readSteps (cut (sl sc))).length < (cut (sl sc)).length
      · have HA := hide (applyT_step hLl hC hS)
        have hd : decide ((readSteps (cut (sl sc))).length = (cut (sl sc)).length) = false := decide_eq_false (by omega)
        rw [hd] at HSR
        generalize applyT (sl s) (sl sc) = A at *
        generalize gather (readNodes (cut (sl s))) = T at *
        generalize (checkT (sl s)).2 = c2 at *
        generalize readSteps (cut (sl sc)) = ss at *
        clear hC hL hLl hc0 hTG hd
        go_enter Tryz.func34, Tryz.ntmps34
        go_wp2_with fail
        refine (unhide HRD _).mono ?_
        rintro e w1 ⟨rfl, hb1⟩
        have HN := hide (treeAt_new w1)
        have HB1 := hide hb1; clear hb1
        have HB2 : Hid (Below w.heap.size w ((w1.alloc (.cells Tryz.zeroCells78 78)).setCells w1.heap.size 0 (treeCells T))) := hide (below_setCells ((unhide HB1).alloc (unhide HB1).size _) (unhide HB1).size (by have := (unhide HB1).size; simp; omega) _ _)
        go_wp2_with (refine wpList_store_mid (by rfl) 78 (.tmp 7) (.tmp 23) (by rfl) w1.heap.size 0 (treeCells T).toArray (by rfl) (by rfl) (by exact treeAt_there (unhide HN) T) (treeSize' T) (treeOne T) ?_)
        refine (unhide HSR _).mono ?_
        rintro e w3 ⟨⟨ao, cap, rfl, hrow, hge⟩, hb3⟩
        have HB3 := hide ((unhide HB2).trans (hb3.mono (unhide HB2).size))
        clear hrow hge hb3
        go_wp2
        go_ret3
        exact ⟨ret_sii (unhide HA), unhide HB3⟩
      · have hd : decide ((readSteps (cut (sl sc))).length = (cut (sl sc)).length) = true := decide_eq_true (by omega)
        rw [hd] at HSR
        have HDA := hide (fun b ao cap W h1 h2 h3 => doAll_any (x := ext0) (gather (readNodes (cut (sl s)))) b (readSteps (cut (sl sc))) ao cap W hOK h1 h2 h3 (unhide HSO) (by omega))
        have HTO := hide (doAllT_ok (readSteps (cut (sl sc))) _ hOK (unhide HSO))
        have HTX := hide (fun b W h => text_any (x := ext0) (doAllT (readSteps (cut (sl sc))) (gather (readNodes (cut (sl s))))) b W (unhide HTO) h)
        by_cases hE : (doAllE (readSteps (cut (sl sc))) (gather (readNodes (cut (sl s)))) 0).1 ≠ 0
        · have HA := hide (applyT_do hLl hC hS hE)
          have hE' : ((doAllE (readSteps (cut (sl sc))) (gather (readNodes (cut (sl s)))) 0).1 != 0) = true := by rw [bne_iff_ne]; exact hE
          generalize applyT (sl s) (sl sc) = A at *
          generalize doAllE (readSteps (cut (sl sc))) (gather (readNodes (cut (sl s)))) 0 = E at *
          generalize doAllT (readSteps (cut (sl sc))) (gather (readNodes (cut (sl s)))) = T2 at *
          generalize gather (readNodes (cut (sl s))) = T at *
          generalize (checkT (sl s)).2 = c2 at *
          generalize readSteps (cut (sl sc)) = ss at *
          clear hC hL hLl hc0 hTG hd hE hS
          go_enter Tryz.func34, Tryz.ntmps34
          go_wp2_with fail
          refine (unhide HRD _).mono ?_
          rintro e w1 ⟨rfl, hb1⟩
          have HN := hide (treeAt_new w1)
          have HB1 := hide hb1; clear hb1
          have HB2 : Hid (Below w.heap.size w ((w1.alloc (.cells Tryz.zeroCells78 78)).setCells w1.heap.size 0 (treeCells T))) := hide (below_setCells ((unhide HB1).alloc (unhide HB1).size _) (unhide HB1).size (by have := (unhide HB1).size; simp; omega) _ _)
          have HT2 : Hid (TreeAt ext0 ((w1.alloc (.cells Tryz.zeroCells78 78)).setCells w1.heap.size 0 (treeCells T)) w1.heap.size T) := hide (treeAt_stored (unhide HN) T)
          go_wp2_with (refine wpList_store_mid (by rfl) 78 (.tmp 7) (.tmp 23) (by rfl) w1.heap.size 0 (treeCells T).toArray (by rfl) (by rfl) (by exact treeAt_there (unhide HN) T) (treeSize' T) (treeOne T) ?_)
          refine (unhide HSR _).mono ?_
          rintro e w3 ⟨⟨ao, cap, rfl, hrow, hge⟩, hb3⟩
          have HB3 := hide ((unhide HB2).trans (hb3.mono (unhide HB2).size))
          have HT3 := hide ((unhide HT2).below hb3)
          have HR3 := hide hrow
          have HNE : Hid (∀ g, ao = some ⟨g, 0, none⟩ → g ≠ w1.heap.size) := hide (fun g hg => by have h1 := hge g hg; have h2 := (unhide HT2).lt; omega)
          clear hrow hge hb3
          go_wp2_with fail
          refine (unhide HDA _ _ _ _ (unhide HT3) (unhide HR3) (unhide HNE)).mono ?_
          rintro e w4 ⟨rfl, hT4, hg4⟩
          have HB4 := hide (below_grown (unhide HB3) hg4 (unhide HB1).size)
          clear hT4 hg4
          go_wp2
          go_ret3
          exact ⟨ret_sii (unhide HA), unhide HB4⟩
        · have HA := hide (applyT_ok hLl hC hS hE)
          have hE' : ((doAllE (readSteps (cut (sl sc))) (gather (readNodes (cut (sl s)))) 0).1 != 0) = false := by rw [bne_eq_false_iff_eq]; exact Classical.not_not.1 hE
          generalize applyT (sl s) (sl sc) = A at *
          generalize doAllE (readSteps (cut (sl sc))) (gather (readNodes (cut (sl s)))) 0 = E at *
          generalize doAllT (readSteps (cut (sl sc))) (gather (readNodes (cut (sl s)))) = T2 at *
          generalize gather (readNodes (cut (sl s))) = T at *
          generalize (checkT (sl s)).2 = c2 at *
          generalize readSteps (cut (sl sc)) = ss at *
          clear hC hL hLl hc0 hTG hd hE hS
          go_enter Tryz.func34, Tryz.ntmps34
          go_wp2_with fail
          refine (unhide HRD _).mono ?_
          rintro e w1 ⟨rfl, hb1⟩
          have HN := hide (treeAt_new w1)
          have HB1 := hide hb1; clear hb1
          have HB2 : Hid (Below w.heap.size w ((w1.alloc (.cells Tryz.zeroCells78 78)).setCells w1.heap.size 0 (treeCells T))) := hide (below_setCells ((unhide HB1).alloc (unhide HB1).size _) (unhide HB1).size (by have := (unhide HB1).size; simp; omega) _ _)
          have HT2 : Hid (TreeAt ext0 ((w1.alloc (.cells Tryz.zeroCells78 78)).setCells w1.heap.size 0 (treeCells T)) w1.heap.size T) := hide (treeAt_stored (unhide HN) T)
          go_wp2_with (refine wpList_store_mid (by rfl) 78 (.tmp 7) (.tmp 23) (by rfl) w1.heap.size 0 (treeCells T).toArray (by rfl) (by rfl) (by exact treeAt_there (unhide HN) T) (treeSize' T) (treeOne T) ?_)
          refine (unhide HSR _).mono ?_
          rintro e w3 ⟨⟨ao, cap, rfl, hrow, hge⟩, hb3⟩
          have HB3 := hide ((unhide HB2).trans (hb3.mono (unhide HB2).size))
          have HT3 := hide ((unhide HT2).below hb3)
          have HR3 := hide hrow
          have HNE : Hid (∀ g, ao = some ⟨g, 0, none⟩ → g ≠ w1.heap.size) := hide (fun g hg => by have h1 := hge g hg; have h2 := (unhide HT2).lt; omega)
          clear hrow hge hb3
          go_wp2_with fail
          refine (unhide HDA _ _ _ _ (unhide HT3) (unhide HR3) (unhide HNE)).mono ?_
          rintro e w4 ⟨rfl, hT4, hg4⟩
          have HT4 := hide hT4
          have HB4 := hide (below_grown (unhide HB3) hg4 (unhide HB1).size)
          clear hT4 hg4
          go_wp2_with fail
          refine (unhide HTX _ _ (unhide HT4)).mono ?_
          rintro e w5 ⟨rfl, hb5⟩
          have HB5 := hide ((unhide HB4).trans (hb5.mono (unhide HB4).size))
          clear hb5
          go_wp2
          go_ret3
          exact ⟨ret_sii (unhide HA), unhide HB5⟩
end Go.Proofs.YtdcjimlhaklhfabGreatDoor

namespace Go.Proofs.YtdcjimlhaklhfabGreatDoor
open Go.RowKit
set_option maxHeartbeats 400000 in
theorem get_w (t : Tr) (b m : Nat) (n : Nd) (w : World) (ht : TrW t) (hm : m ≤ 99) (hn : t m = some n) (hT : TreeAt ext0 w b t) :
    Calls Tryz.prog 98 #[.pointer (some ⟨b, 0, none⟩), .int .i64 m] w fun e w' => e = .returned (.agg #[.int .i64 n.id, .int .i64 n.parent, .string (bs n.name)]) ∧ Below w.heap.size w w' := by
  have hb1 := (Below.refl w.heap.size w).alloc (Nat.le_refl _) (.cells #[.int .i64 0, .int .i64 0, .string ByteArray.empty] 75)
  have HH := hide (has_w t b m _ ht (by omega) (hT.below hb1))
  have c1 := hT.id m (by omega)
  have c2 := hT.parent m (by omega)
  have c3 := hT.name m (by omega)
  have hlt := hT.lt
  have hne : ¬ b = w.heap.size := by omega
  have hm0 : (0 : Int) ≤ m := by omega
  have HB := hide hb1
  rw [hn] at HH c1 c2 c3
  clear hT ht hb1 hn
  go_enter Tryz.func98, Tryz.ntmps98
  go_wp2_with fail
  refine (unhide HH).mono ?_
  rintro e w1 ⟨rfl, rfl⟩
  go_wp2
  refine bodyPost_ret (v := .agg #[.int .i64 n.id, .int .i64 n.parent, .string (bs n.name)]) (by simp [results, Tryz.results98, go_sem]) rfl ⟨rfl, ?_⟩
  exact (Below.refl _ _).alloc (Nat.le_refl _) _
theorem add_126 (a : Str) (ha : a.length ≤ 1000000) (W : World) : (Op.stringOp .add ⟨#[126]⟩ (bs a)).run Tryz.prog W = .ok (.string (bs (126 :: a))) W := add_bs [126] a (by simp) ha W
set_option maxHeartbeats 2000000 in
theorem shown_any (t : Tr) (b m : Nat) (n : Nd) (w : World) (ht : TrW t) (hm1 : 1 ≤ m) (hm : m ≤ 99) (hn : t m = some n) (hT : TreeAt ext0 w b t) :
    Calls Tryz.prog 62 #[.pointer (some ⟨b, 0, none⟩), .int .i64 m] w fun e w' => e = .returned (.agg #[.int .i64 (shownNd t m).id, .int .i64 (shownNd t m).parent, .string (bs (shownNd t m).name)]) ∧ Below w.heap.size w w' := by
  have hb1 := (Below.refl w.heap.size w).alloc (Nat.le_refl _) (.cells #[.int .i64 0, .int .i64 0, .string ByteArray.empty] 75)
  have HG := hide (get_w t b m n _ ht hm hn (hT.below hb1))
  have HAT := hide (fun W (h : TreeAt ext0 W b t) => at_any t b n.parent n.name W h)
  have HS : Hid (shownNd t m = if atT t n.parent n.name = (m : Int) then n else ⟨n.id, n.parent, n.name ++ 126 :: digs m⟩) := by apply hide; unfold shownNd; rw [hn]; rfl
  have hnl := ndW_name (ht.2 m n hn).2.2.2
  have hlt := hT.lt
  have hne : ¬ b = w.heap.size := by omega
  have HIT := hide (fun W => itoa_any (m : Int) W (by omega) (by omega))
  have hdl := digs_len (m : Int)
  have HT1 := hide (hT.below hb1)
  clear hT ht hb1 hn
  generalize atT t n.parent n.name = q at *
  have a1 := add_126 (digs (m : Int)) (by omega)
  have a2 := add_bs n.name (126 :: digs (m : Int)) (by omega) (by simp; omega)
  by_cases hq : q = (m : Int)
  · have hqe : (q != (m : Int)) = false := by simpa using hq
    have HS2 : Hid (shownNd t m = n) := by apply hide; rw [unhide HS, if_pos hq]
    clear hq
    go_enter Tryz.func62, Tryz.ntmps62
    go_wp2_with fail
    refine (unhide HG).mono ?_
    rintro e w1 ⟨rfl, hb1⟩
    obtain ⟨hc, hf⟩ := bcell hb1
    have hz : w.heap.size + 1 ≤ w1.heap.size := by have := hb1.size; simp at this; omega
    have hz1 : w.heap.size < w1.heap.size := by omega
    have hz2 : ¬ w.heap.size = w1.heap.size := by omega
    have HB0 : Hid (Below w.heap.size w w1) := hide (((Below.refl _ _).alloc (Nat.le_refl _) _).trans (hb1.mono (by simp)))
    have HT2 := hide (((unhide HT1).below hb1).below ((Below.refl w1.heap.size w1).alloc (Nat.le_refl _) (.cells #[.int .i64 n.id, .int .i64 n.parent, .string (bs n.name)] 75)))
    clear hb1
    go_wp2_with fail
    refine (unhide HAT _ (by exact unhide HT2)).mono ?_
    rintro e w2 ⟨rfl, rfl⟩
    go_wp2
    refine bodyPost_ret (v := .agg #[.int .i64 n.id, .int .i64 n.parent, .string (bs n.name)]) (by simp [results, Tryz.results62, go_sem, hc, hz1]) rfl ⟨by rw [unhide HS2], ?_⟩
    exact ((((unhide HB0).setCell (by simp) _).setCell (by simp) _).setCell (by simp) _).alloc (by simp; omega) _
  · have hqe : (q != (m : Int)) = true := by simpa using hq
    have HS2 : Hid (shownNd t m = ⟨n.id, n.parent, n.name ++ 126 :: digs m⟩) := by apply hide; rw [unhide HS, if_neg hq]
    clear hq
    generalize n.name ++ 126 :: digs (m : Int) = nn at *
    go_enter Tryz.func62, Tryz.ntmps62
    go_wp2_with fail
    refine (unhide HG).mono ?_
    rintro e w1 ⟨rfl, hb1⟩
    obtain ⟨hc, hf⟩ := bcell hb1
    have hz : w.heap.size + 1 ≤ w1.heap.size := by have := hb1.size; simp at this; omega
    have hz1 : w.heap.size < w1.heap.size := by omega
    have hz2 : ¬ w.heap.size = w1.heap.size := by omega
    have HB0 : Hid (Below w.heap.size w w1) := hide (((Below.refl _ _).alloc (Nat.le_refl _) _).trans (hb1.mono (by simp)))
    have HT2 := hide (((unhide HT1).below hb1).below ((Below.refl w1.heap.size w1).alloc (Nat.le_refl _) (.cells #[.int .i64 n.id, .int .i64 n.parent, .string (bs n.name)] 75)))
    clear hb1
    go_wp2_with fail
    refine (unhide HAT _ (by exact unhide HT2)).mono ?_
    rintro e w2 ⟨rfl, rfl⟩
    go_wp2_with fail
    go_region_with (go_at_call 100; refine (unhide HIT _).mono ?_; rintro e w3 ⟨rfl, rfl⟩)
    all_goals
      go_wp2
      refine bodyPost_ret (v := .agg #[.int .i64 n.id, .int .i64 n.parent, .string (bs nn)]) (by simp [results, Tryz.results62, go_sem, hc, hz1]) rfl ⟨by rw [unhide HS2], ?_⟩
      exact (((((unhide HB0).setCell (by simp) _).setCell (by simp) _).setCell (by simp) _).alloc (by simp; omega) _).drew
end Go.Proofs.YtdcjimlhaklhfabGreatDoor

namespace Go.Proofs.YtdcjimlhaklhfabGreatDoor
open Go.RowKit
theorem dash_eq (s : Str) : ((bs s).toList == (({ data := #[45] } : ByteArray)).toList) = (s == [45]) := by
  rw [tl_sl, tl_sl, sl_bs]; rfl
set_option maxHeartbeats 1000000 in
theorem isPlace_any (n : Nd) (w : World) (h0 : 0 ≤ n.id) (h1 : n.id ≤ 99) (h2 : 0 ≤ n.parent) (h3 : n.parent ≤ 100) (hs : n.name.length ≤ 4000) :
    Calls Tryz.prog 94 #[.agg #[.int .i64 n.id, .int .i64 n.parent, .string (bs n.name)]] w fun e w' => e = .returned (.bool (placeB n)) ∧ Below w.heap.size w w' := by
  have HP : Hid (placeB n = if n.parent = 100 then n.name == [45] else (n.parent % 2 == 0 && isName n.name n.id)) := hide rfl
  have HD := hide (dash_eq n.name)
  have HNM := hide (fun W => isName_any (bs n.name) n.id W (by rw [bs_size]; exact hs) h0 h1)
  rw [sl_bs] at HNM
  have HFO := hide (fun W => isFolder_any n.parent W h2 (by omega))
  generalize isName n.name n.id = r at *
  by_cases hp : n.parent = 100
  · have hpe : (n.parent == 100) = true := by simpa using hp
    have HPP := hide hp; clear hp
    have hd := unhide HD
    go_enter Tryz.func94, Tryz.ntmps94
    go_wp2
    go_ret
    exact ⟨ret_bool (by rw [unhide HP, if_pos (unhide HPP)]; try rw [tl_sl, sl_bs]), (Below.refl _ _).alloc (Nat.le_refl _) _⟩
  · have hpe : (n.parent == 100) = false := by simpa using hp
    have HPP := hide hp; clear hp
    cases he : (n.parent % 2 == 0)
    · have HPF : Hid (placeB n = false) := by apply hide; rw [unhide HP, if_neg (unhide HPP), he]; rfl
      rw [he] at HFO
      clear he
      go_enter Tryz.func94, Tryz.ntmps94
      go_wp2_with (go_at_call 126; refine (unhide HFO _).mono ?_; rintro e w' ⟨rfl, rfl⟩)
      go_ret
      exact ⟨ret_bool (unhide HPF).symm, (Below.refl _ _).alloc (Nat.le_refl _) _⟩
    · have HPF : Hid (placeB n = r) := by apply hide; rw [unhide HP, if_neg (unhide HPP), he]; rfl
      rw [he] at HFO
      clear he
      go_enter Tryz.func94, Tryz.ntmps94
      go_wp2_with (first | (go_at_call 126; refine (unhide HFO _).mono ?_; rintro e w' ⟨rfl, rfl⟩) | (go_at_call 127; refine (unhide HNM _).mono ?_; rintro e w' ⟨rfl, nd, rfl⟩))
      go_ret
      exact ⟨ret_bool (unhide HPF).symm, below_drewN ((Below.refl _ _).alloc (Nat.le_refl _) _) _⟩
/-- What readOp answers: where it is none the op does not matter. -/
def OpRes (r : Option Lo) (e : Ending) : Prop := ∃ (a b c d : Int) (z : ByteArray), e = .returned (.tuple #[.agg #[.int .i64 a, .int .i64 b, .int .i64 c, .int .i64 d, .string z], .bool r.isSome]) ∧ ∀ x, r = some x → a = x.count ∧ b = x.site ∧ c = x.node.id ∧ d = x.node.parent ∧ z = bs x.node.name
theorem opRes_none : OpRes none (.returned (.tuple #[.agg #[.int .i64 0, .int .i64 0, .int .i64 0, .int .i64 0, .string ByteArray.empty], .bool false])) := ⟨0, 0, 0, 0, ByteArray.empty, rfl, fun x h => by cases h⟩
theorem readOp_open {r : Str} (h : bodyB r = false) : readOp r = none := by unfold readOp; rw [h]; rfl
theorem readOp_short {r : Str} (h : (parts (bodyS r)).length ≠ 5) : readOp r = none := by unfold readOp; rw [opOf_other h]; split <;> rfl
theorem readOp_five {r a b c d e : Str} (h : bodyB r = true) (h5 : parts (bodyS r) = [a, b, c, d, e]) : readOp r = opOf5 a b c d e := by unfold readOp; rw [h, h5]; rfl
set_option maxHeartbeats 2000000 in
theorem readOp_no (s : ByteArray) (w : World) (hs : s.size ≤ 4000) (hn : bodyB (sl s) = false ∨ (bodyB (sl s) = true ∧ (parts (bodyS (sl s))).length ≠ 5)) :
    Calls Tryz.prog 57 #[.string s] w fun e w' => OpRes (readOp (sl s)) e ∧ Below w.heap.size w w' := by
  have HR : Hid (readOp (sl s) = none) := by
    apply hide; rcases hn with h | ⟨_, h⟩
    · exact readOp_open h
    · exact readOp_short h
  rw [unhide HR]
  clear HR
  have hlb : (bs (bodyS (sl s))).size ≤ 4000 := by rw [bs_size]; have := bodyS_len (sl s); rw [sl_length] at this; omega
  have HBO := hide (fun W => body_any s W hs)
  have HP := hide (fun W => parts_any (bs (bodyS (sl s))) W hlb)
  rw [sl_bs] at HP
  have hne : bodyB (sl s) = false ∨ (bodyB (sl s) = true ∧ (((parts (bodyS (sl s))).length : Int) != 5) = true) := by
    rcases hn with h | ⟨h, g⟩
    · exact .inl h
    · exact .inr ⟨h, by rw [bne_iff_ne]; omega⟩
  clear hn
  generalize bodyB (sl s) = bb at *
  generalize (parts (bodyS (sl s))).length = n at *
  generalize bodyS (sl s) = body at *
  rcases hne with rfl | ⟨rfl, hne⟩
  all_goals
    go_enter Tryz.func57, Tryz.ntmps57
    go_wp2_with fail
    refine (unhide HBO _).mono ?_
    rintro e w1 ⟨rfl, rfl⟩
    go_wp2_with fail
    refine (unhide HP _).mono ?_
    rintro e w1 ⟨ao, cap, rfl, hrow, hbel⟩
    clear hrow
    obtain ⟨hc, hf⟩ := bcell hbel
    have hz : w.heap.size + 1 ≤ w1.heap.size := by have := hbel.size; simp at this; omega
    have HB0 : Hid (Below w.heap.size w w1) := hide (((Below.refl _ _).alloc (Nat.le_refl _) _).trans (hbel.mono (by simp)))
    go_wp2
    refine bodyPost_ret (v := .tuple #[.agg #[.int .i64 0, .int .i64 0, .int .i64 0, .int .i64 0, .string ByteArray.empty], .bool false]) (by simp [results, Tryz.results57, go_sem, hc]; rfl) rfl ⟨opRes_none, ?_⟩
    exact (((((unhide HB0).setCell (by simp) _).setCell (by simp) _).setCell (by simp) _).setCell (by simp) _).setCell (by simp) _
end Go.Proofs.YtdcjimlhaklhfabGreatDoor

namespace Go.Proofs.YtdcjimlhaklhfabGreatDoor
open Go.RowKit
theorem opOf5_no {a b c d e : Str} (h : (number a 1 9999).2 = false ∨ (number b 1 9).2 = false ∨ (number c 1 99).2 = false ∨ (number d 0 100).2 = false) : opOf5 a b c d e = none := by
  unfold opOf5
  rw [if_neg]
  simp only [Bool.and_eq_true, not_and]
  intro h1 
  rcases h with h | h | h | h <;> simp [h] at h1
theorem opOf5_yes {a b c d e : Str} (h1 : (number a 1 9999).2 = true) (h2 : (number b 1 9).2 = true) (h3 : (number c 1 99).2 = true) (h4 : (number d 0 100).2 = true) : opOf5 a b c d e = if placeB ⟨(number c 1 99).1, (number d 0 100).1, e⟩ then some ⟨(number a 1 9999).1, (number b 1 9).1, ⟨(number c 1 99).1, (number d 0 100).1, e⟩⟩ else none := by
  unfold opOf5
  rw [h1, h2, h3, h4]; rfl
set_option maxHeartbeats 4000000 in
set_option maxRecDepth 100000 in
theorem readOp_yes (s : ByteArray) (w : World) (hs : s.size ≤ 4000) (a b c d f : Str) (hb : bodyB (sl s) = true) (h5 : parts (bodyS (sl s)) = [a, b, c, d, f]) :
    Calls Tryz.prog 57 #[.string s] w fun e w' => OpRes (readOp (sl s)) e ∧ Below w.heap.size w w' := by
  rw [readOp_five hb h5]
  have hlb : (bs (bodyS (sl s))).size ≤ 4000 := by rw [bs_size]; have := bodyS_len (sl s); rw [sl_length] at this; omega
  have HBO := hide (fun W => body_any s W hs)
  have HP : Hid (∀ W, Calls Tryz.prog 92 #[.string (bs (bodyS (sl s)))] W fun e w' => ∃ ao cap, e = .returned (.slice ao 5 cap) ∧ Row w' ao 5 1 [.string (bs a), .string (bs b), .string (bs c), .string (bs d), .string (bs f)] ∧ Below W.heap.size W w') := by
    apply hide; intro W; have := parts_any (bs (bodyS (sl s))) W hlb; rw [sl_bs, h5] at this; exact this
  have hl : ∀ x ∈ [a, b, c, d, f], x.length ≤ 4000 := fun x hx => by
    have := part_len (bodyS (sl s)) x (by rw [h5]; exact hx)
    rw [bs_size] at hlb; omega
  have hla : (bs a).size ≤ 4000 := by rw [bs_size]; exact hl a (by simp)
  have hlb' : (bs b).size ≤ 4000 := by rw [bs_size]; exact hl b (by simp)
  have hlc : (bs c).size ≤ 4000 := by rw [bs_size]; exact hl c (by simp)
  have hld : (bs d).size ≤ 4000 := by rw [bs_size]; exact hl d (by simp)
  have hlf : f.length ≤ 4000 := hl f (by simp)
  clear hl h5
  rw [hb] at HBO
  generalize bodyS (sl s) = body at *
  clear hb
  have HA := hide (fun W => number_any (bs a) 1 9999 W hla (by omega) (by omega))
  have HB := hide (fun W => number_any (bs b) 1 9 W hlb' (by omega) (by omega))
  have HC := hide (fun W => number_any (bs c) 1 99 W hlc (by omega) (by omega))
  have HD := hide (fun W => number_any (bs d) 0 100 W hld (by omega) (by omega))
  rw [sl_bs] at HA HB HC HD
  have nc := number_bd c 1 99 (by omega)
  have nd := number_bd d 0 100 (by omega)
  have HPL := hide (fun W => isPlace_any ⟨(number c 1 99).1, (number d 0 100).1, f⟩ W nc.1 nc.2 nd.1 nd.2 hlf)
  have HNO := hide (@opOf5_no a b c d f)
  have HYE := hide (@opOf5_yes a b c d f)
  generalize opOf5 a b c d f = R at *
  generalize (number a 1 9999).1 = x1 at *
  generalize (number a 1 9999).2 = p1 at *
  generalize (number b 1 9).1 = x2 at *
  generalize (number b 1 9).2 = p2 at *
  generalize (number c 1 99).1 = x3 at *
  generalize (number c 1 99).2 = p3 at *
  generalize (number d 0 100).1 = x4 at *
  generalize (number d 0 100).2 = p4 at *
  generalize placeB ⟨x3, x4, f⟩ = q at *
  clear hlb hla hlb' hlc hld nc nd
  rcases (show p1 = false ∨ (p1 = true ∧ p2 = false) ∨ (p1 = true ∧ p2 = true ∧ p3 = false) ∨ (p1 = true ∧ p2 = true ∧ p3 = true ∧ p4 = false) ∨ (p1 = true ∧ p2 = true ∧ p3 = true ∧ p4 = true) from by cases p1 <;> cases p2 <;> cases p3 <;> cases p4 <;> simp) with h1 | ⟨h1, h2⟩ | ⟨h1, h2, h3⟩ | ⟨h1, h2, h3, h4⟩ | ⟨h1, h2, h3, h4⟩
  case inr.inr.inr.inr =>
    subst h1 h2 h3 h4
    have HR : Hid (R = if q then some ⟨x1, x2, ⟨x3, x4, f⟩⟩ else none) := hide (unhide HYE rfl rfl rfl rfl)
    clear HYE HNO
    go_enter Tryz.func57, Tryz.ntmps57
    go_wp2_with fail
    refine (unhide HBO _).mono ?_
    rintro e w1 ⟨rfl, rfl⟩
    go_wp2_with fail
    refine (unhide HP _).mono ?_
    rintro e w1 ⟨ao, cap, rfl, hrow, hbel⟩
    obtain ⟨g, hao, hg, hcel⟩ := hrow.2 (by omega)
    rw [hao]
    have c0 := hcel 0 _ rfl
    have c1 := hcel 1 _ rfl
    have c2 := hcel 2 _ rfl
    have c3 := hcel 3 _ rfl
    have c4 := hcel 4 _ rfl
    clear hcel hao hrow
    obtain ⟨hc, hf⟩ := bcell hbel
    have hz : w.heap.size + 1 ≤ w1.heap.size := by have := hbel.size; simp at this; omega
    have HB0 : Hid (Below w.heap.size w w1) := hide (((Below.refl _ _).alloc (Nat.le_refl _) _).trans (hbel.mono (by simp)))
    clear hbel
    have R0 := hide (show w1.cell? ⟨w.heap.size, 0, none⟩ = some (.int .i64 0) by rw [hc _ _ (by simp)]; simp [go_sem])
    have R1 := hide (show w1.cell? ⟨w.heap.size, 1, none⟩ = some (.int .i64 0) by rw [hc _ _ (by simp)]; simp [go_sem])
    have R2 := hide (show w1.cell? ⟨w.heap.size, 2, none⟩ = some (.int .i64 0) by rw [hc _ _ (by simp)]; simp [go_sem])
    have R3 := hide (show w1.cell? ⟨w.heap.size, 3, none⟩ = some (.int .i64 0) by rw [hc _ _ (by simp)]; simp [go_sem])
    have R4 := hide (show w1.cell? ⟨w.heap.size, 4, none⟩ = some (.string ByteArray.empty) by rw [hc _ _ (by simp)]; simp [go_sem]; rfl)
    have RF := hide (show ∀ j, w1.frozen? ⟨w.heap.size, j, none⟩ = false from fun j => by rw [hf _ _ (by simp)]; simp [go_sem])
    go_wp2_with fail
    refine (unhide HA _).mono ?_
    rintro e w2 ⟨rfl, rfl⟩
    go_wp2_with fail
    refine (unhide HB _).mono ?_
    rintro e w3 ⟨rfl, rfl⟩
    go_wp2_with fail
    refine (unhide HC _).mono ?_
    rintro e w4 ⟨rfl, rfl⟩
    go_wp2_with fail
    refine (unhide HD _).mono ?_
    rintro e w5 ⟨rfl, rfl⟩
    go_wp2
    have N0 := hide (show ((w5.alloc (.cells #[.int .i64 x3, .int .i64 x4, .string (bs f)] 75)).drew).cell? ⟨w5.heap.size, 0, none⟩ = some (.int .i64 x3) from news_three _ _ _ _ 0 _ rfl)
    have N1 := hide (show ((w5.alloc (.cells #[.int .i64 x3, .int .i64 x4, .string (bs f)] 75)).drew).cell? ⟨w5.heap.size, 1, none⟩ = some (.int .i64 x4) from news_three _ _ _ _ 1 _ rfl)
    have N2 := hide (show ((w5.alloc (.cells #[.int .i64 x3, .int .i64 x4, .string (bs f)] 75)).drew).cell? ⟨w5.heap.size, 2, none⟩ = some (.string (bs f)) from news_three _ _ _ _ 2 _ rfl)
    go_region_with (go_at_call 94; refine (unhide HPL _).mono ?_; rintro e w6 ⟨rfl, hb6⟩; have hbb := ((Below.refl w5.heap.size w5).alloc (Nat.le_refl _) _).drew.trans (hb6.mono (by simp [heap_drew])); have r0 := (hbb.cell (p := ⟨w.heap.size, 0, none⟩) hz).trans (unhide R0); have r1 := (hbb.cell (p := ⟨w.heap.size, 1, none⟩) hz).trans (unhide R1); have r2 := (hbb.cell (p := ⟨w.heap.size, 2, none⟩) hz).trans (unhide R2); have r3 := (hbb.cell (p := ⟨w.heap.size, 3, none⟩) hz).trans (unhide R3); have r4 := (hbb.cell (p := ⟨w.heap.size, 4, none⟩) hz).trans (unhide R4); have rf := fun j => (hbb.frozen (p := ⟨w.heap.size, j, none⟩) hz).trans (unhide RF j); have hz6 := hbb.size; have n0 := (hb6.cell (p := ⟨w5.heap.size, 0, none⟩) (by simp [heap_drew])).trans (unhide N0); have n1 := (hb6.cell (p := ⟨w5.heap.size, 1, none⟩) (by simp [heap_drew])).trans (unhide N1); have n2 := (hb6.cell (p := ⟨w5.heap.size, 2, none⟩) (by simp [heap_drew])).trans (unhide N2); clear hb6)
    all_goals
      go_wp2
      refine bodyPost_ret (v := .tuple #[.agg #[.int .i64 x1, .int .i64 x2, .int .i64 x3, .int .i64 x4, .string (bs f)], .bool q]) (by simp [results, Tryz.results57, go_sem, r0, r1, r2, r3, r4]) rfl ⟨?_, ?_⟩
      · exact ⟨x1, x2, x3, x4, bs f, by rw [unhide HR]; cases q <;> rfl, fun x hx => by rw [unhide HR] at hx; cases q <;> cases hx; exact ⟨rfl, rfl, rfl, rfl, rfl⟩⟩
      · exact ((((((unhide HB0).trans (hbb.mono (by omega))).setCell (by simp) _).setCell (by simp) _).setCell (by simp) _).setCell (by simp) _).setCell (by simp) _
  all_goals
    have HR : Hid (R = none) := by
      apply hide; apply unhide HNO
      first | exact .inl h1 | exact .inr (.inl h2) | exact .inr (.inr (.inl h3)) | exact .inr (.inr (.inr h4))
    clear HYE HNO
    have hR := unhide HR
    subst hR
    clear HR
  case' inr.inr.inr.inl => subst h1 h2 h3 h4
  case' inr.inr.inl => subst h1 h2 h3
  case' inr.inl => subst h1 h2
  case' inl => subst h1
  all_goals
    go_enter Tryz.func57, Tryz.ntmps57
    go_wp2_with fail
    refine (unhide HBO _).mono ?_
    rintro e w1 ⟨rfl, rfl⟩
    go_wp2_with fail
    refine (unhide HP _).mono ?_
    rintro e w1 ⟨ao, cap, rfl, hrow, hbel⟩
    obtain ⟨g, hao, hg, hcel⟩ := hrow.2 (by omega)
    rw [hao]
    have c0 := hcel 0 _ rfl
    have c1 := hcel 1 _ rfl
    have c2 := hcel 2 _ rfl
    have c3 := hcel 3 _ rfl
    have c4 := hcel 4 _ rfl
    clear hcel hao hrow
    obtain ⟨hc, hf⟩ := bcell hbel
    have hz : w.heap.size + 1 ≤ w1.heap.size := by have := hbel.size; simp at this; omega
    have HB0 : Hid (Below w.heap.size w w1) := hide (((Below.refl _ _).alloc (Nat.le_refl _) _).trans (hbel.mono (by simp)))
    clear hbel
    go_wp2_with fail
    refine (unhide HA _).mono ?_
    rintro e w2 ⟨rfl, rfl⟩
    go_wp2_with fail
    refine (unhide HB _).mono ?_
    rintro e w3 ⟨rfl, rfl⟩
    go_wp2_with fail
    refine (unhide HC _).mono ?_
    rintro e w4 ⟨rfl, rfl⟩
    go_wp2_with fail
    refine (unhide HD _).mono ?_
    rintro e w5 ⟨rfl, rfl⟩
    go_wp2
    refine bodyPost_ret (v := .tuple #[.agg #[.int .i64 0, .int .i64 0, .int .i64 0, .int .i64 0, .string ByteArray.empty], .bool false]) (by simp [results, Tryz.results57, go_sem, hc]; rfl) rfl ⟨opRes_none, ?_⟩
    exact (((((unhide HB0).setCell (by simp) _).setCell (by simp) _).setCell (by simp) _).setCell (by simp) _).setCell (by simp) _
theorem readOp_any (s : ByteArray) (w : World) (hs : s.size ≤ 4000) :
    Calls Tryz.prog 57 #[.string s] w fun e w' => OpRes (readOp (sl s)) e ∧ Below w.heap.size w w' := by
  cases hb : bodyB (sl s) with
  | false => exact readOp_no s w hs (.inl hb)
  | true =>
    by_cases h5 : (parts (bodyS (sl s))).length = 5
    · obtain ⟨a, b, c, d, e, h⟩ := len5 h5
      exact readOp_yes s w hs a b c d e hb h
    · exact readOp_no s w hs (.inr ⟨hb, h5⟩)
end Go.Proofs.YtdcjimlhaklhfabGreatDoor

namespace Go.Proofs.YtdcjimlhaklhfabGreatDoor
open Go.RowKit
theorem Tryz.infoOp : (Tryz.prog.info? 113).map (fun i => (i.zero, i.size, i.bytes)) = some (some (.agg #[.int .i64 0, .int .i64 0, .int .i64 0, .int .i64 0, .string ByteArray.empty]), 5, 48) := by kernel_rfl
theorem news_five {w : World} (a b c d f : Value) (t : TypeId) : ∀ j x, [a, b, c, d, f][j]? = some x → (w.alloc (.cells #[a, b, c, d, f] t)).cell? ((⟨w.heap.size, 0, none⟩ : Addr).add j) = some x := by
  intro j x hx
  exact World.news_of_block (cs := #[a, b, c, d, f]) (heap_alloc_new w _) j x hx
theorem news_five' {w : World} (o : Obj) (a b c d f : Value) (t : TypeId) : ∀ j x, [a, b, c, d, f][j]? = some x → ((w.alloc o).alloc (.cells #[a, b, c, d, f] t)).cell? ((⟨w.heap.size + 1, 0, none⟩ : Addr).add j) = some x := by
  have := @news_five (w.alloc o) a b c d f t
  simpa using this
/-- What Read answers. -/
def ReadRes (r : Option (List Lo)) (e : Ending) (w' : World) : Prop := match r with
  | none => e = .returned (.tuple #[.slice none 0 0, .bool false])
  | some l => ∃ ao cap, e = .returned (.tuple #[.slice ao l.length cap, .bool true]) ∧ Row w' ao l.length 5 (loCells l)
set_option maxHeartbeats 2000000 in
theorem opsRead_any (s : ByteArray) (w : World) (hs : s.size ≤ 4000) :
    Calls Tryz.prog 29 #[.string s] w fun e w' => ReadRes (readOps (cut (sl s))) e w' ∧ Below w.heap.size w w' := by
  obtain ⟨i0, hi, hz0, hz1, hz2⟩ := info_parts Tryz.infoOp
  have HC := hide (cut_any s w hs)
  have hn : (cut (sl s)).length ≤ 4000 := by have := cut_length_le (sl s); rw [sl_length] at this; omega
  have HL : Hid (∀ r ∈ cut (sl s), r.length ≤ 4000) := hide (fun r hr => by have := cut_mem_len (sl s) r hr; rw [sl_length] at this; omega)
  generalize cut (sl s) = rs at *
  go_enter Tryz.func29, Tryz.ntmps29
  go_wp2_with fail
  refine (unhide HC).mono ?_
  rintro e w0 ⟨ao, cap, rfl, hrow, hbel0⟩
  have HROW := hide hrow; clear hrow
  have hs0 := hbel0.size
  have HB0 := hide hbel0; clear hbel0
  go_wp2
  go_loopw [4, 12] (fun v i wr => ∃ k : Nat, ∃ acc : List Lo, k ≤ rs.length ∧ i = .int .i64 k ∧ wr.ownsRow w0.heap.size 113 5 v k (loCells acc) ∧ Below w0.heap.size w0 wr ∧ Hid (LoInv rs k acc)) (fun _ i _ => rs.length - (intOf i).toNat)
  case atStart => exact ⟨0, [], Nat.zero_le _, rfl, World.ownsRow_nil _ _ _ _, Below.refl _ _, hide (loInv_0 rs)⟩
  case round =>
    obtain ⟨k, acc, hk, rfl, hown, hbel, HI⟩ := hrel
    by_cases hlt : k < rs.length
    · obtain ⟨g, hao, hg, hcell⟩ := str_cell (unhide HROW) hbel hlt
      rw [hao]
      have hrl : (rs[k]).length ≤ 4000 := unhide HL _ (List.getElem_mem hlt)
      have HRD := hide (fun W => readOp_any (bs rs[k]) W (by rw [bs_size]; exact hrl))
      rw [sl_bs] at HRD
      have hsz := hbel.size
      clear hao
      generalize hr : rs[k] = r at *
      have HR := hide hr; clear hr
      generalize hR : readOp r = R at *
      have HRR := hide hR; clear hR
      cases R with
      | none =>
        go_wp2_with fail
        refine (unhide HRD _).mono ?_
        rintro e w2 ⟨⟨a, b, c, d, z, rfl, _⟩, hb2⟩
        have HN := hide (loInv_no (unhide HI) hlt (by rw [unhide HR, unhide HRR]))
        have HB3 := hide (hbel.trans (hb2.mono hbel.size))
        have hz3 := hb2.size
        go_wp2
        go_ret2
        refine ⟨by rw [unhide HN]; rfl, ?_⟩
        exact (unhide HB0).trans (((unhide HB3).alloc (by omega) _).mono hs0)
      | some nd =>
        go_wp2_with fail
        refine (unhide HRD _).mono ?_
        rintro e w2 ⟨⟨a, b, c, d, z, rfl, hx⟩, hb2⟩
        obtain ⟨rfl, rfl, rfl, rfl, rfl⟩ := hx nd rfl
        have HB3 := hide (hbel.trans (hb2.mono hbel.size))
        have HOWN := hide (own_below hown hb2)
        have hz3 := hb2.size
        go_wp2_with (first
          | (at_builtin; (refine wpList_append_own _ rfl _ _ 65 rfl w0.heap.size 113 i0 (.agg #[.int .i64 0, .int .i64 0, .int .i64 0, .int .i64 0, .string ByteArray.empty]) 5 48 Tryz.underlying65 hi hz0 hz1 hz2 rfl (by decide) _ _ _ rfl (own_below (unhide HOWN) (((Below.refl _ _).alloc (Nat.le_refl _) _).alloc (by simp) _)) ⟨w2.heap.size + 1, 0, none⟩ 1 1 (loC nd) rfl rfl (news_five' _ _ _ _ _ _ _) (by simp [Value.oneCell', loC]) (by unfold maxLen; omega) (by omega) (by have := hbel.size; simp; omega) ?_))
          | go_in)
        intro v' w3 hown' hgrow _
        have HN := hide (loInv_yes (unhide HI) hlt (x := nd) (by rw [unhide HR, unhide HRR]))
        have hb4 : Below w0.heap.size w0 w3 := ((((unhide HB3).alloc (by have := hbel.size; omega) _).alloc (by have := hbel.size; simp; omega) _)).grown hgrow (by have := hbel.size; simp; omega) (own_ge hown)
        have hown2 : w3.ownsRow w0.heap.size 113 5 v' (k + 1) (loCells (acc ++ [nd])) := by rw [loCells_snoc]; exact hown'
        clear hgrow hown hbel hown' hb2
        go_wp2
        go_roundw
        case rel => exact ⟨k + 1, _, by omega, by go_num, hown2, hb4, HN⟩
        case measure => simp [intOf]; omega
    · have HN := hide (loInv_end (unhide HI) hlt)
      have HI1 := hide (unhide HI).1
      go_wp2
      obtain ⟨ao', cap', rfl, hr⟩ := row_of_owns hown
      go_ret2
      refine ⟨?_, (unhide HB0).trans (hbel.mono hs0)⟩
      rw [unhide HN]
      rw [← unhide HI1] at hr
      exact ⟨ao', cap', by rw [unhide HI1]; rfl, hr⟩
end Go.Proofs.YtdcjimlhaklhfabGreatDoor

namespace Go.Proofs.YtdcjimlhaklhfabGreatDoor
open Go.RowKit
/-- An op's cells in a block of its own. -/
def OpAt (w : World) (g : Nat) (x : Lo) : Prop := g < w.heap.size ∧ w.cell? ⟨g, 0, none⟩ = some (.int .i64 x.count) ∧ w.cell? ⟨g, 1, none⟩ = some (.int .i64 x.site) ∧ w.cell? ⟨g, 2, none⟩ = some (.int .i64 x.node.id) ∧ w.cell? ⟨g, 3, none⟩ = some (.int .i64 x.node.parent) ∧ w.cell? ⟨g, 4, none⟩ = some (.string (bs x.node.name))
theorem OpAt.below {w w' : World} {g B : Nat} {x : Lo} (h : OpAt w g x) (hb : Below B w w') (hB : g < B) : OpAt w' g x := by
  obtain ⟨h0, h1, h2, h3, h4, h5⟩ := h
  have hs := hb.size
  refine ⟨by omega, ?_, ?_, ?_, ?_, ?_⟩
  · rw [hb.cell (p := ⟨g, 0, none⟩) hB]; exact h1
  · rw [hb.cell (p := ⟨g, 1, none⟩) hB]; exact h2
  · rw [hb.cell (p := ⟨g, 2, none⟩) hB]; exact h3
  · rw [hb.cell (p := ⟨g, 3, none⟩) hB]; exact h4
  · rw [hb.cell (p := ⟨g, 4, none⟩) hB]; exact h5
theorem opAt_new (w : World) (x : Lo) (t : TypeId) : OpAt (w.alloc (.cells #[.int .i64 x.count, .int .i64 x.site, .int .i64 x.node.id, .int .i64 x.node.parent, .string (bs x.node.name)] t)) w.heap.size x := by
  refine ⟨by simp, news_five _ _ _ _ _ _ 0 _ rfl, news_five _ _ _ _ _ _ 1 _ rfl, news_five _ _ _ _ _ _ 2 _ rfl, news_five _ _ _ _ _ _ 3 _ rfl, news_five _ _ _ _ _ _ 4 _ rfl⟩
theorem Row.below' {w w' : World} {ao : Option Addr} {n size : Nat} {xs : List Value} {B : Nat} (h : Row w ao n size xs) (hb : Below B w w') (hB : w.heap.size ≤ B) : Row w' ao n size xs := h.below (hb.mono hB)
theorem fresh_take (L list : List Lo) (k : Nat) (h : k < list.length) : fresh L (list.take (k + 1)) = freshS L (fresh L (list.take k)) list[k] := by
  rw [List.take_succ_eq_append_getElem h, fresh_snoc]
theorem freshS_no {L acc : List Lo} {x : Lo} (h : hasStamp L x = true ∨ hasStamp acc x = true) : freshS L acc x = acc := by
  unfold freshS; rw [if_pos]; rw [Bool.or_eq_true]; exact h
theorem freshS_yes {L acc : List Lo} {x : Lo} (h : hasStamp L x = false) (g : hasStamp acc x = false) : freshS L acc x = acc ++ [x] := by
  unfold freshS; rw [if_neg]; rw [h, g]; simp
set_option maxHeartbeats 4000000 in
theorem fresh_any (L list : List Lo) (b o : Nat) (ao bo : Option Addr) (ca cb : Nat) (w : World) (hlog : w.cell? ⟨b, o, none⟩ = some (.slice ao L.length ca)) (hb : b < w.heap.size) (hL : Row w ao L.length 5 (loCells L)) (hl : Row w bo list.length 5 (loCells list)) (hL0 : L.length ≤ 4000) (hl0 : list.length ≤ 4000) :
    Calls Tryz.prog 58 #[.pointer (some ⟨b, o, none⟩), .slice bo list.length cb] w fun e w' => ∃ fo cf, e = .returned (.slice fo (fresh L list).length cf) ∧ w'.ownsRow w.heap.size 113 5 (.slice fo (fresh L list).length cf) (fresh L list).length (loCells (fresh L list)) ∧ Below w.heap.size w w' := by
  obtain ⟨i0, hi, hz0, hz1, hz2⟩ := info_parts Tryz.infoOp
  have HL := hide hL; clear hL
  have HLI := hide hl; clear hl
  have HLOG := hide hlog; clear hlog
  go_enter Tryz.func58, Tryz.ntmps58
  go_wp2
  go_loopw [5, 12] (fun v i wr => ∃ k : Nat, k ≤ list.length ∧ i = .int .i64 k ∧ wr.ownsRow w.heap.size 113 5 v (fresh L (list.take k)).length (loCells (fresh L (list.take k))) ∧ Below w.heap.size w wr) (fun _ i _ => list.length - (intOf i).toNat)
  case atStart => exact ⟨0, Nat.zero_le _, rfl, World.ownsRow_nil _ _ _ _, Below.refl _ _⟩
  case round =>
    obtain ⟨k, hk, rfl, hown, hbel⟩ := hrel
    have hfl := fresh_len L (list.take k)
    rw [List.length_take] at hfl
    by_cases hlt : k < list.length
    · obtain ⟨g, hao, hg, c0, c1, c2, c3, c4⟩ := lo_cells (unhide HLI) hbel (Nat.le_refl _) hlt
      rw [hao]
      clear hao
      have HST := hide (fresh_take L list k hlt)
      generalize list[k] = x at *
      have hclog : wr.cell? ⟨b, o, none⟩ = some (.slice ao L.length ca) := by rw [hbel.cell (p := ⟨b, o, none⟩) hb]; exact unhide HLOG
      have hsz := hbel.size
      have hbr : b < wr.heap.size := by omega
      generalize fresh L (list.take k) = acc at *
      obtain ⟨fo, cf, rfl, hrow⟩ := row_of_owns hown
      have HOP := hide (opAt_new wr x 113)
      have hB1 := hbel.alloc hsz (.cells #[.int .i64 x.count, .int .i64 x.site, .int .i64 x.node.id, .int .i64 x.node.parent, .string (bs x.node.name)] 113)
      have HH1 := hide (fun W (h : Row W ao L.length 5 (loCells L)) => hasStamp_any L x ao ca W h (by omega))
      have HH2 := hide (fun W (h : Row W fo acc.length 5 (loCells acc)) => hasStamp_any acc x fo cf W h (by omega))
      have HRL : Hid (Row (wr.alloc (.cells #[.int .i64 x.count, .int .i64 x.site, .int .i64 x.node.id, .int .i64 x.node.parent, .string (bs x.node.name)] 113)).drew ao L.length 5 (loCells L)) := hide ((unhide HL).below hB1.drew)
      have HNO := hide (@freshS_no L acc x)
      have HYE := hide (@freshS_yes L acc x)
      generalize hasStamp L x = p at *
      generalize hasStamp acc x = q at *
      have HB1 := hide hB1.drew; clear hB1
      have HOWN := hide (own_below hown ((Below.refl wr.heap.size wr).alloc (Nat.le_refl _) (.cells #[.int .i64 x.count, .int .i64 x.site, .int .i64 x.node.id, .int .i64 x.node.parent, .string (bs x.node.name)] 113)).drew)
      clear hown
      have HROW := hide (hrow.below ((Below.refl wr.heap.size wr).alloc (Nat.le_refl _) (.cells #[.int .i64 x.count, .int .i64 x.site, .int .i64 x.node.id, .int .i64 x.node.parent, .string (bs x.node.name)] 113)).drew)
      clear hrow
      go_wp2
      go_region_with (go_at_call 95; refine (unhide HH1 _ (by exact unhide HRL)).mono ?_; rintro e w2 ⟨rfl, hb2⟩; have hop2 := OpAt.below (w := (wr.alloc (.cells #[.int .i64 x.count, .int .i64 x.site, .int .i64 x.node.id, .int .i64 x.node.parent, .string (bs x.node.name)] 113)).drew) (unhide HOP) hb2 (by simp [heap_drew]); obtain ⟨hz2', d0, d1, d2, d3, d4⟩ := hop2; clear c0 c1 c2 c3 c4 hclog)
      all_goals
        have HW2 := hide ((unhide HB1).trans (hb2.mono (unhide HB1).size))
        have HOWN2 := hide (own_below (unhide HOWN) hb2)
        have HROW2 := hide ((unhide HROW).below hb2)
        have HOP2 : Hid (OpAt w2 wr.heap.size x) := hide ⟨hz2', d0, d1, d2, d3, d4⟩
        clear hb2
        go_wp2_with fail
        refine (unhide HH2 _ (by exact unhide HROW2)).mono ?_
        rintro e w3 ⟨rfl, hb3⟩
        have hop3 := (unhide HOP2).below hb3 hz2'
        obtain ⟨hz3, e0, e1, e2, e3, e4⟩ := hop3
        clear d0 d1 d2 d3 d4
        have HW3 := hide ((unhide HW2).trans (hb3.mono (unhide HW2).size))
        have HOWN3 := hide (own_below (unhide HOWN2) hb3)
        clear hb3
        have hsz3 := (unhide HW3).size
        rcases (show p = true ∨ (p = false ∧ q = true) ∨ (p = false ∧ q = false) from by cases p <;> cases q <;> simp) with hp | ⟨hp, hq⟩ | ⟨hp, hq⟩
        · have HA : Hid (fresh L (list.take (k + 1)) = acc) := hide ((unhide HST).trans (unhide HNO (.inl hp)))
          subst hp
          go_wp2
          go_roundw
          case rel => exact ⟨k + 1, by omega, by go_num, by rw [unhide HA]; exact unhide HOWN3, unhide HW3⟩
          case measure => simp [intOf]; omega
        · have HA : Hid (fresh L (list.take (k + 1)) = acc) := hide ((unhide HST).trans (unhide HNO (.inr hq)))
          subst hp hq
          go_wp2
          go_roundw
          case rel => exact ⟨k + 1, by omega, by go_num, by rw [unhide HA]; exact unhide HOWN3, unhide HW3⟩
          case measure => simp [intOf]; omega
        · have HA : Hid (fresh L (list.take (k + 1)) = acc ++ [x]) := hide ((unhide HST).trans (unhide HYE hp hq))
          subst hp hq
          go_wp2_with (first
            | (at_builtin; (refine wpList_append_own _ rfl _ _ 65 rfl w.heap.size 113 i0 (.agg #[.int .i64 0, .int .i64 0, .int .i64 0, .int .i64 0, .string ByteArray.empty]) 5 48 Tryz.underlying65 hi hz0 hz1 hz2 rfl (by decide) _ _ _ rfl (own_below (unhide HOWN3) ((Below.refl _ _).alloc (Nat.le_refl _) _)) ⟨w3.heap.size, 0, none⟩ 1 1 (loC x) rfl rfl (news_five _ _ _ _ _ _) (by simp [Value.oneCell', loC]) (by unfold maxLen; omega) (by omega) (by simp; omega) ?_))
            | go_in)
          intro v' w4 hown' hgrow _
          have hb4 : Below w.heap.size w w4 := ((unhide HW3).alloc hsz3 _).grown hgrow (by simp; omega) (own_ge (unhide HOWN3))
          have hown2 : w4.ownsRow w.heap.size 113 5 v' (fresh L (list.take (k + 1))).length (loCells (fresh L (list.take (k + 1)))) := by rw [unhide HA, loCells_snoc, List.length_append]; exact hown'
          clear hgrow hown'
          go_wp2
          go_roundw
          case rel => exact ⟨k + 1, by omega, by go_num, hown2, hb4⟩
          case measure => simp [intOf]; omega
    · have HE : Hid (fresh L list = fresh L (list.take k)) := by apply hide; rw [List.take_of_length_le (by omega)]
      generalize fresh L (list.take k) = acc at *
      obtain ⟨fo, cf, rfl, hr⟩ := row_of_owns hown
      go_wp2
      go_ret
      refine ⟨fo, cf, by rw [unhide HE]; rfl, ?_, hbel⟩
      rw [unhide HE]; exact hown
end Go.Proofs.YtdcjimlhaklhfabGreatDoor
