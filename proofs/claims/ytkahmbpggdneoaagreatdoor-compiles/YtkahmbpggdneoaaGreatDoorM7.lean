import Derived.Test.YtkahmbpggdneoaaGreatDoorM6
import Derived.Test.YtkahmbpggdneoaaGreatDoorM4
import Derived.Test.YtkahmbpggdneoaaGreatDoorKPure1
import Derived.Test.YtkahmbpggdneoaaGreatDoorKPure3
namespace Go.Proofs.YtkahmbpggdneoaaGreatDoor
open Go.RowKit
/-- A step of a kind's byte and the parts behind it. -/
def stR (k : UInt8) (ps : List Str) : Option St :=
  match ps with
  | [a] => if k = 45 then (if (number a 1 99).2 then some ⟨45, ⟨(number a 1 99).1, 0, []⟩⟩ else none) else none
  | _ => if k = 43 ∨ k = 61 then (node3 ps).map (fun n => ⟨k, n⟩) else none
theorem stR_one {k : UInt8} {a : Str} (h : k = 45) : stR k [a] = if (number a 1 99).2 then some ⟨45, ⟨(number a 1 99).1, 0, []⟩⟩ else none := by simp only [stR]; rw [if_pos h]
theorem stR_node {k : UInt8} {ps : List Str} (h : k = 43 ∨ k = 61) : stR k ps = (node3 ps).map (fun n => ⟨k, n⟩) := by
  unfold stR
  split
  · rw [if_neg (by rcases h with rfl | rfl <;> decide)]; rfl
  · rw [if_pos h]
theorem stR_none {k : UInt8} {ps : List Str} (h : ¬ (k = 43 ∨ k = 61)) (h1 : ps.length = 1 → ¬ k = 45) : stR k ps = none := by
  unfold stR
  split
  · rw [if_neg (h1 rfl)]
  · rw [if_neg h]
theorem number_blank {l : Str} (h : 32 ∈ l) : (number l 1 99).2 = false := by
  have ha : l.all digB = false := by
    rw [List.all_eq_false]
    exact ⟨32, h, by decide⟩
  rw [number_none (numGo_bad 99 l 0 ha)]
theorem readStep_R (k : UInt8) (r : Str) (hr : r ≠ []) : readStep (k :: r) = stR k (rparts r) := by
  have hbb : bodyB (k :: r) = bodyB r := by
    unfold bodyB
    cases r with
    | nil => exact absurd rfl hr
    | cons a r => rw [List.getLast?_cons_cons]
  unfold readStep
  rw [hbb]
  cases hb : bodyB r
  · rw [rparts_no hb]
    unfold stR; simp [node3]
  · have hS : bodyS (k :: r) = k :: r.dropLast := by
      unfold bodyS; rw [hbb, hb]
      cases r with
      | nil => exact absurd rfl hr
      | cons a r => rfl
    rw [hS, rparts_yes hb]
    show stOf (k :: r.dropLast) = _
    generalize r.dropLast = B
    by_cases hk : k = 43 ∨ k = 61
    · rw [stR_node hk, stOf_node hk]; rfl
    · by_cases hk2 : k = 45
      · subst hk2
        rw [stOf_del]
        by_cases hm : 32 ∈ B
        · rw [number_blank hm]
          have key : ∀ ps, joined ps = B → stR 45 ps = none := by
            intro ps hj
            unfold stR
            split
            · have e : _ = B := hj
              simp only [joined] at e
              rw [e, number_blank hm]; rfl
            · rfl
          rw [key _ (joined_parts B)]; rfl
        · rw [parts_one (fun x hx e => hm (e ▸ hx)), stR_one rfl]
      · rw [stOf_other hk hk2, stR_none hk (fun _ => hk2)]
theorem readStep_short (l : Str) (h : l.length < 2) : readStep l = none := by
  match l, h with
  | [], _ => rfl
  | [k], _ =>
    unfold readStep
    split
    · have : bodyS [k] = [] := by unfold bodyS; split <;> rfl
      rw [this]; rfl
    · rfl
theorem numR_pos {a : Str} (h : (number a 1 99).2 = true) : 1 ≤ numR a 1 99 ∧ numR a 1 99 ≤ 99 ∧ numR a 1 99 = (number a 1 99).1 := by
  rw [numR_yes h]; exact ⟨number_lo a 1 99 h, (number_bd a 1 99 (by omega)).2, rfl⟩
set_option maxHeartbeats 2000000 in
theorem rstep_long (k : UInt8) (r : Str) (w : World) (hr : r ≠ []) (hl : (k :: r).length ≤ 4000) :
    Calls Tryz.prog 54 #[.string (bs (k :: r))] w fun e w' => StRes (k :: r) e ∧ Below w.heap.size w w' := by
  have hlr : r.length ≤ 4000 := by simp at hl; omega
  have HP := hide (fun W => rparts_any (bs r) W (by rw [bs_size]; exact hlr))
  rw [sl_bs] at HP
  have HPL := hide (rparts_len r hlr)
  have HST := hide (readStep_R k r hr)
  have hr0 : 0 < r.length := List.length_pos_iff.2 hr
  have hsz : (bs (k :: r)).size = r.length + 1 := by rw [bs_size]; rfl
  have h2 : ¬ ((bs (k :: r)).size : Int) < 2 := by omega
  have htail : (bs (k :: r)).extract 1 (r.length + 1) = bs r := by have := tail_bs k r; rwa [hsz] at this
  have hpos : 0 < (bs (k :: r)).size := by omega
  have hne := ne_nil_at (bs (k :: r)) hpos
  have hhead := head_bs k r hpos
  have hp1 : (1 : Int) ≤ (bs (k :: r)).size := by omega
  clear hl hlr hr
  generalize rparts r = ps at *
  by_cases hk : k = 43 ∨ k = 61
  · have HND := hide (fun ao cap W (hh : Row W ao ps.length 1 (ps.map strV)) => rnode_any ps ao cap W hh (unhide HPL))
    have HST2 := hide ((unhide HST).trans (stR_node hk))
    have hk4 : ((k.toNat : Int) == 45) = false := by rcases hk with h | h <;> (rw [h]; rfl)
    have hkk : ((k.toNat : Int) != 43) = false ∨ (((k.toNat : Int) != 43) = true ∧ ((k.toNat : Int) != 61) = false) := by
      rcases hk with h | h
      · left; rw [h]; rfl
      · right; rw [h]; exact ⟨rfl, rfl⟩
    clear hk HST
    rcases hkk with hkk | ⟨hk1, hkk⟩
    all_goals
      go_enter Tryz.func54, Tryz.ntmps54
      go_wp2_with fail
      refine (unhide HP _).mono ?_
      rintro e w1 ⟨ao, cap, rfl, hrow, hb1⟩
      have HROW := hide hrow
      clear hrow
      go_wp2_with fail
      refine (unhide HND _ _ _ (unhide HROW)).mono ?_
      rintro e w2 ⟨⟨x, y, z, rfl, hx⟩, hb2⟩
      have HX := hide hx
      clear hx
      have hb12 := hb1.trans (hb2.mono hb1.size)
      obtain ⟨hc, hf⟩ := bcell hb12
      have hz : w.heap.size + 1 ≤ w2.heap.size := by have := hb12.size; simp at this; omega
      have HB0 : Hid (Below w.heap.size w w2) := hide (((Below.refl _ _).alloc (Nat.le_refl _) _).trans (hb12.mono (by simp)))
      have hzl : w.heap.size < w2.heap.size := by omega
      have hzn : ¬ w.heap.size = w2.heap.size := by omega
      clear hb1 hb2 hb12
      generalize node3 ps = R at *
      go_wp2
      refine bodyPost_ret (v := .tuple #[.agg #[.int .u8 k.toNat, .int .i64 x, .int .i64 y, .string z], .bool R.isSome]) (by simp [results, Tryz.results54, go_sem, hc, hzl]) rfl ⟨?_, ?_⟩
      · cases R with
        | none => exact stRes_none (unhide HST2) _ _ _ _
        | some n =>
          obtain ⟨e1, e2, e3⟩ := unhide HX n rfl
          rw [e1, e2, e3]
          exact stRes_some (unhide HST2)
      · exact (((((unhide HB0).setCell (Nat.le_refl _) _).setCell (Nat.le_refl _) _).setCell (Nat.le_refl _) _).setCell (Nat.le_refl _) _).alloc (by simp; omega) _
  · have hk1 : ((k.toNat : Int) != 43) = true := by
      rw [bne_iff_ne]; intro h; exact hk (.inl (UInt8.toNat_inj.1 (by simpa using (by omega : k.toNat = 43))))
    have hk2 : ((k.toNat : Int) != 61) = true := by
      rw [bne_iff_ne]; intro h; exact hk (.inr (UInt8.toNat_inj.1 (by simpa using (by omega : k.toNat = 61))))
    by_cases hk3 : k = 45
    · by_cases hp : ps.length = 1
      · obtain ⟨a, rfl⟩ := List.length_eq_one_iff.1 hp
        have HNU := hide (fun W => rnumber_any (bs a) 1 99 W (by rw [bs_size]; exact unhide HPL a (by simp)) (by omega) (by omega))
        rw [sl_bs] at HNU
        have HST2 := hide ((unhide HST).trans (stR_one hk3))
        have hk4 : ((k.toNat : Int) == 45) = true := by rw [hk3]; rfl
        have hk5 : (k.toNat : Int) = 45 := by rw [hk3]; rfl
        have hnp : ((number a 1 99).2 = true ∧ 0 < numR a 1 99 ∧ numR a 1 99 = (number a 1 99).1) ∨ ((number a 1 99).2 = false ∧ numR a 1 99 = -1) := by
          cases hq : (number a 1 99).2
          · exact .inr ⟨rfl, numR_neg hq⟩
          · obtain ⟨p1, p2, p3⟩ := numR_pos hq
            exact .inl ⟨rfl, by omega, p3⟩
        clear hk HST hk1 hk2 hk3 hp
        generalize (number a 1 99).1 = x at *
        generalize (number a 1 99).2 = q at *
        generalize numR a 1 99 = y at *
        go_enter Tryz.func54, Tryz.ntmps54
        go_wp2_with fail
        refine (unhide HP _).mono ?_
        rintro e w1 ⟨ao, cap, rfl, hrow, hb1⟩
        obtain ⟨g, hao, hg, hcell⟩ := str_cell hrow (Below.refl _ _) (k := 0) (by simp)
        subst hao
        have hcell2 : w1.cell? ⟨g, 0, none⟩ = some (.string (bs a)) := hcell
        clear hcell hrow
        simp only [List.length_singleton]
        go_wp2_with fail
        refine (unhide HNU _).mono ?_
        rintro e w2 ⟨rfl, hb2⟩
        have hb12 := hb1.trans (hb2.mono hb1.size)
        obtain ⟨hc, hf⟩ := bcell hb12
        have hz : w.heap.size + 1 ≤ w2.heap.size := by have := hb12.size; simp at this; omega
        have HB0 : Hid (Below w.heap.size w w2) := hide (((Below.refl _ _).alloc (Nat.le_refl _) _).trans (hb12.mono (by simp)))
        have hzl : w.heap.size < w2.heap.size := by omega
        clear hb1 hb2 hb12
        rcases hnp with ⟨rfl, hy, rfl⟩ | ⟨rfl, rfl⟩
        · go_wp2
          refine bodyPost_ret (v := .tuple #[.agg #[.int .u8 45, .int .i64 y, .int .i64 0, .string ⟨#[]⟩], .bool true]) (by simp [results, Tryz.results54, go_sem, hc]) rfl ⟨?_, ?_⟩
          · exact stRes_some (st := ⟨45, ⟨y, 0, []⟩⟩) (unhide HST2)
          · exact ((((unhide HB0).setCell (Nat.le_refl _) _).setCell (Nat.le_refl _) _).setCell (Nat.le_refl _) _).setCell (Nat.le_refl _) _
        · go_wp2
          refine bodyPost_ret (v := .tuple #[.agg #[.int .u8 45, .int .i64 (-1), .int .i64 0, .string ⟨#[]⟩], .bool false]) (by simp [results, Tryz.results54, go_sem, hc]) rfl ⟨?_, ?_⟩
          · exact stRes_none (unhide HST2) _ _ _ _
          · exact ((((unhide HB0).setCell (Nat.le_refl _) _).setCell (Nat.le_refl _) _).setCell (Nat.le_refl _) _).setCell (Nat.le_refl _) _
      · have hk4 : ((k.toNat : Int) == 45) = true := by rw [hk3]; rfl
        have hp4 : ((ps.length : Int) == 1) = false := by rw [beq_eq_false_iff_ne]; omega
        have HST2 := hide ((unhide HST).trans (stR_none hk (fun h => absurd h hp)))
        clear hk HST hk3 hp
        go_enter Tryz.func54, Tryz.ntmps54
        go_wp2_with fail
        refine (unhide HP _).mono ?_
        rintro e w1 ⟨ao, cap, rfl, hrow, hb1⟩
        obtain ⟨hc, hf⟩ := bcell hb1
        have hz : w.heap.size + 1 ≤ w1.heap.size := by have := hb1.size; simp at this; omega
        have HB0 : Hid (Below w.heap.size w w1) := hide (((Below.refl _ _).alloc (Nat.le_refl _) _).trans (hb1.mono (by simp)))
        have hzl : w.heap.size < w1.heap.size := by omega
        clear hb1 hrow
        go_wp2
        refine bodyPost_ret (v := .tuple #[.agg #[.int .u8 0, .int .i64 0, .int .i64 0, .string ByteArray.empty], .bool false]) (by simp [results, Tryz.results54, go_sem, hc]; rfl) rfl ⟨stRes_none (unhide HST2) _ _ _ _, ?_⟩
        exact ((((unhide HB0).setCell (Nat.le_refl _) _).setCell (Nat.le_refl _) _).setCell (Nat.le_refl _) _).setCell (Nat.le_refl _) _
    · have hk4 : ((k.toNat : Int) == 45) = false := by
        rw [beq_eq_false_iff_ne]; intro h; exact hk3 (UInt8.toNat_inj.1 (by simpa using (by omega : k.toNat = 45)))
      have HST2 := hide ((unhide HST).trans (stR_none hk (fun _ => hk3)))
      clear hk hk3 HST
      go_enter Tryz.func54, Tryz.ntmps54
      go_wp2_with fail
      refine (unhide HP _).mono ?_
      rintro e w1 ⟨ao, cap, rfl, hrow, hb1⟩
      obtain ⟨hc, hf⟩ := bcell hb1
      have hz : w.heap.size + 1 ≤ w1.heap.size := by have := hb1.size; simp at this; omega
      have HB0 : Hid (Below w.heap.size w w1) := hide (((Below.refl _ _).alloc (Nat.le_refl _) _).trans (hb1.mono (by simp)))
      have hzl : w.heap.size < w1.heap.size := by omega
      clear hb1 hrow
      go_wp2
      refine bodyPost_ret (v := .tuple #[.agg #[.int .u8 0, .int .i64 0, .int .i64 0, .string ByteArray.empty], .bool false]) (by simp [results, Tryz.results54, go_sem, hc]; rfl) rfl ⟨stRes_none (unhide HST2) _ _ _ _, ?_⟩
      exact ((((unhide HB0).setCell (Nat.le_refl _) _).setCell (Nat.le_refl _) _).setCell (Nat.le_refl _) _).setCell (Nat.le_refl _) _
set_option maxHeartbeats 1000000 in
theorem rstep_short (s : ByteArray) (w : World) (h : s.size < 2) :
    Calls Tryz.prog 54 #[.string s] w fun e w' => StRes (sl s) e ∧ Below w.heap.size w w' := by
  have HST := hide (readStep_short (sl s) (by rw [sl_length]; exact h))
  have h2 : (s.size : Int) < 2 := by omega
  go_enter Tryz.func54, Tryz.ntmps54
  go_wp2
  refine bodyPost_ret (v := .tuple #[.agg #[.int .u8 0, .int .i64 0, .int .i64 0, .string ByteArray.empty], .bool false]) (by simp [results, Tryz.results54, go_sem]; rfl) rfl ⟨stRes_none (unhide HST) _ _ _ _, ?_⟩
  exact (Below.refl _ _).alloc (Nat.le_refl _) _
theorem rstep_any (s : ByteArray) (w : World) (hs : s.size ≤ 4000) :
    Calls Tryz.prog 54 #[.string s] w fun e w' => StRes (sl s) e ∧ Below w.heap.size w w' := by
  by_cases h : s.size < 2
  · exact rstep_short s w h
  · obtain ⟨l, rfl⟩ : ∃ l, s = bs l := ⟨sl s, (bs_sl s).symm⟩
    rw [sl_bs]
    rw [bs_size] at h hs
    match l, h, hs with
    | [], h, _ => simp at h
    | [k], h, _ => simp at h
    | k :: a :: r, _, hs => exact rstep_long k (a :: r) w (by simp) hs
end Go.Proofs.YtkahmbpggdneoaaGreatDoor

namespace Go.Proofs.YtkahmbpggdneoaaGreatDoor
open Go.RowKit
theorem Tryz.infoRStep : (Tryz.prog.info? 82).map (fun i => (i.zero, i.size, i.bytes)) = some (some (.agg #[.int .u8 0, .int .i64 0, .int .i64 0, .string ByteArray.empty]), 4, 40) := by kernel_rfl
theorem rs_short {rs : List Str} {k : Nat} {ns : List St} (h : RsInv rs k ns) (hk : k < rs.length) (hn : readStep rs[k] = none) : (readSteps rs).length = k ∧ (readSteps rs).length < rs.length := by
  obtain ⟨h1, h2, _⟩ := rsInv_no h hk hn
  rw [h1, h2]; exact ⟨rfl, hk⟩
theorem rs_full {rs : List Str} {k : Nat} {ns : List St} (h : RsInv rs k ns) (hk : ¬ k < rs.length) (hk' : k ≤ rs.length) : ¬ (readSteps rs).length < rs.length ∧ readSteps rs = ns ∧ ns.length = k := by
  obtain ⟨h1, h2, _⟩ := rsInv_end h hk hk'
  exact ⟨by rw [h1, h2]; exact hk, h1, h2⟩
set_option maxHeartbeats 2000000 in
theorem rsteps_any (s : ByteArray) (w : World) (hs : s.size ≤ 4000) :
    Calls Tryz.prog 34 #[.string s] w fun e w' => (((readSteps (cut (sl s))).length < (cut (sl s)).length ∧ e = .returned (.tuple #[.slice none 0 0, .int .i64 (readSteps (cut (sl s))).length])) ∨ (¬ (readSteps (cut (sl s))).length < (cut (sl s)).length ∧ ∃ ao cap, e = .returned (.tuple #[.slice ao (readSteps (cut (sl s))).length cap, .int .i64 (-1)]) ∧ Row w' ao (readSteps (cut (sl s))).length 4 (stCells (readSteps (cut (sl s)))))) ∧ Below w.heap.size w w' := by
  obtain ⟨i0, hi, hz0, hz1, hz2⟩ := info_parts Tryz.infoRStep
  have HC := hide (fun W => rcut_any s W hs)
  have hrl : (cut (sl s)).length ≤ 4000 := by have := cut_length_le (sl s); rw [sl_length] at this; omega
  have HRM : Hid (∀ r ∈ cut (sl s), r.length ≤ 4000) := hide (fun r hr => by have := cut_mem_len (sl s) r hr; rw [sl_length] at this; omega)
  generalize cut (sl s) = rs at *
  go_enter Tryz.func34, Tryz.ntmps34
  go_wp2_with fail
  refine (unhide HC _).mono ?_
  rintro e w1 ⟨ao, cap, rfl, hrow, hb1⟩
  have HROW := hide hrow
  have HB1 := hide hb1
  clear hrow hb1
  go_wp2
  go_loopw [4, 6] (fun v i wr => ∃ k : Nat, ∃ ss : List St, k ≤ rs.length ∧ i = .int .i64 k ∧ wr.ownsRow w1.heap.size 82 4 v k (stCells ss) ∧ Below w1.heap.size w1 wr ∧ Hid (RsInv rs k ss)) (fun _ i _ => rs.length - (intOf i).toNat)
  case atStart => exact ⟨0, [], Nat.zero_le _, rfl, World.ownsRow_nil _ _ _ _, Below.refl _ _, hide ⟨rfl, rfl⟩⟩
  case round =>
    obtain ⟨k, ss, hk, rfl, hown, hbel, HI⟩ := hrel
    by_cases hlt : k < rs.length
    · obtain ⟨g, hao, hg, hcell⟩ := str_cell (unhide HROW) hbel hlt
      rw [hao]
      have hrl2 : (rs[k]).length ≤ 4000 := unhide HRM _ (List.getElem_mem hlt)
      have HP := hide (fun W => rstep_any (bs rs[k]) W (by rw [bs_size]; exact hrl2))
      rw [sl_bs] at HP
      have hsz := hbel.size
      clear hao
      generalize hr : rs[k] = r at *
      have HR := hide hr; clear hr
      go_wp2_with fail
      refine (unhide HP _).mono ?_
      rintro e w3 ⟨⟨x0, x1, x2, x3, rfl, hx⟩, hb3⟩
      have HOWN := hide (own_below hown hb3)
      have HB3 := hide (hbel.trans (hb3.mono hsz))
      have hz3 : wr.heap.size ≤ w3.heap.size := hb3.size
      have HX := hide hx
      clear hx hb3 HP
      cases hR : readStep r with
      | none =>
        have HS := hide (rs_short (unhide HI) hlt (by rw [unhide HR]; exact hR))
        clear hR
        go_wp2
        go_ret2
        refine ⟨.inl ⟨(unhide HS).2, by rw [(unhide HS).1]; rfl⟩, ?_⟩
        exact (unhide HB1).trans (((unhide HB3).alloc (by omega) _).mono (unhide HB1).size)
      | some st =>
        have HN := hide (rsInv_yes (unhide HI) hlt (n := st) (by rw [unhide HR]; exact hR))
        obtain ⟨rfl, rfl, rfl, rfl⟩ := unhide HX st hR
        clear HX hR
        go_wp2_with (first
          | (at_builtin; (refine wpList_append_own _ rfl _ _ 76 rfl w1.heap.size 82 i0 (.agg #[.int .u8 0, .int .i64 0, .int .i64 0, .string ByteArray.empty]) 4 40 Tryz.underlying76 hi hz0 hz1 hz2 rfl (by decide) _ _ _ rfl (own_below (unhide HOWN) (((Below.refl _ _).alloc (Nat.le_refl _) _).alloc (by simp) _)) ⟨w3.heap.size + 1, 0, none⟩ 1 1 [.int .u8 st.kind.toNat, .int .i64 st.node.id, .int .i64 st.node.parent, .string (bs st.node.name)] rfl rfl (news_four' _ _ _ _ _ _) (by simp [Value.oneCell']) (by unfold maxLen; omega) (by omega) (by have := hbel.size; simp; omega) ?_))
          | go_in)
        intro v' w4 hown' hgrow _
        have hb4 : Below w1.heap.size w1 w4 := ((((unhide HB3).alloc (by omega) _).alloc (by simp; omega) _)).grown hgrow (by simp; omega) (own_ge hown)
        have hown2 : w4.ownsRow w1.heap.size 82 4 v' (k + 1) (stCells (ss ++ [st])) := by rw [stCells_snoc]; exact hown'
        clear hgrow hown hbel hown'
        go_wp2
        go_roundw
        case rel => exact ⟨k + 1, _, by omega, by go_num, hown2, hb4, HN⟩
        case measure => simp [intOf]; omega
    · have HF := hide (rs_full (unhide HI) hlt hk)
      go_wp2
      go_ret2
      obtain ⟨f1, f2, f3⟩ := unhide HF
      obtain ⟨ao', cap', rfl, hr⟩ := row_of_owns hown
      rw [f2]
      rw [← f3] at hr
      refine ⟨.inr ⟨by rw [← f2]; exact f1, ao', cap', by rw [f3]; rfl, hr⟩, (unhide HB1).trans (hbel.mono (unhide HB1).size)⟩
end Go.Proofs.YtkahmbpggdneoaaGreatDoor

namespace Go.Proofs.YtkahmbpggdneoaaGreatDoor
open Go.RowKit
def otherB (x : Nd) (n : Nd) : Bool := n.id != x.id
def layR (ns : List Nd) (x : Nd) (b : Bool) : List Nd := ns.filter (otherB x) ++ (if b then [x] else [])
def LayInv (ns : List Nd) (x : Nd) (k : Nat) (ns' : List Nd) : Prop := ns' = (ns.take k).filter (otherB x)
theorem layInv_yes {ns : List Nd} {x : Nd} {k : Nat} {ns' : List Nd} (h : LayInv ns x k ns') (hk : k < ns.length) (hq : ((ns[k]).id != x.id) = true) : LayInv ns x (k + 1) (ns' ++ [ns[k]]) := by
  unfold LayInv at *
  rw [List.take_succ_eq_append_getElem hk, List.filter_append, ← h]
  congr 1
  rw [List.filter_cons, if_pos (show otherB x ns[k] = true from hq)]; rfl
theorem layInv_no {ns : List Nd} {x : Nd} {k : Nat} {ns' : List Nd} (h : LayInv ns x k ns') (hk : k < ns.length) (hq : ((ns[k]).id != x.id) = false) : LayInv ns x (k + 1) ns' := by
  unfold LayInv at *
  rw [List.take_succ_eq_append_getElem hk, List.filter_append, ← h]
  rw [List.filter_cons, if_neg (show ¬ otherB x ns[k] = true by unfold otherB; rw [hq]; simp)]; simp
theorem layInv_end {ns : List Nd} {x : Nd} {k : Nat} {ns' : List Nd} (h : LayInv ns x k ns') (hk : ¬ k < ns.length) : layR ns x false = ns' ∧ layR ns x true = ns' ++ [x] := by
  unfold LayInv at h
  rw [List.take_of_length_le (by omega)] at h
  unfold layR; rw [← h]; simp
theorem layInv_len {ns : List Nd} {x : Nd} {k : Nat} {ns' : List Nd} (h : LayInv ns x k ns') : ns'.length ≤ k := by
  unfold LayInv at h; rw [h]
  refine Nat.le_trans (List.length_filter_le _ _) ?_
  rw [List.length_take]; omega
/-! A step, done in a list. -/
def kidAt (ns : List Nd) (id : Int) (i : Nat) : Bool := (ndAt ns i).parent == id
def kidsR (ns : List Nd) (id : Int) : Bool := decide (scan (kidAt ns id) 0 ns.length < ns.length)
def delR (ns : List Nd) (id : Int) : Int := if findR ns id < 0 then 9 else if kidsR ns id then 10 else 0
def putR (ns : List Nd) (x : Nd) : Int := if !folderR ns x.parent then 4 else if (x.parent == x.id || belowR ns x.parent x.id) then 5 else if (takenR ns x.parent x.name != 0 && takenR ns x.parent x.name != x.id) then 6 else 0
def doR (ns : List Nd) (s : St) : Int :=
  if s.kind = 45 then delR ns s.node.id
  else if s.kind = 43 ∧ 0 ≤ findR ns s.node.id then 8
  else if s.kind = 61 ∧ findR ns s.node.id < 0 then 9
  else putR ns s.node
end Go.Proofs.YtkahmbpggdneoaaGreatDoor

namespace Go.Proofs.YtkahmbpggdneoaaGreatDoor
open Go.RowKit
set_option maxHeartbeats 2000000 in
theorem lay_any (ns : List Nd) (x : Nd) (b : Bool) (ao : Option Addr) (cap : Nat) (w : World) (hrow : Row w ao ns.length 3 (ndCells ns)) (hl : ns.length ≤ 4000) :
    Calls Tryz.prog 53 #[.slice ao ns.length cap, .agg #[.int .i64 x.id, .int .i64 x.parent, .string (bs x.name)], .bool b] w fun e w' => (∃ ao' cap', e = .returned (.slice ao' (layR ns x b).length cap') ∧ Row w' ao' (layR ns x b).length 3 (ndCells (layR ns x b))) ∧ Below w.heap.size w w' := by
  obtain ⟨i0, hi, hz0, hz1, hz2⟩ := info_parts Tryz.infoRNode
  obtain ⟨w0, hw0⟩ : ∃ w0, w.alloc (Obj.cells #[.int .i64 x.id, .int .i64 x.parent, .string (bs x.name)] 64) = w0 := ⟨_, rfl⟩
  have hbw : Below w.heap.size w w0 := by rw [← hw0]; exact (Below.refl _ _).alloc (Nat.le_refl _) _
  have HBW := hide hbw
  have HROW := hide (hrow.below hbw)
  have hlt0 : w.heap.size < w0.heap.size := by rw [← hw0]; simp
  have HX : Hid (w0.cell? ⟨w.heap.size, 0, none⟩ = some (.int .i64 x.id) ∧ w0.cell? ⟨w.heap.size, 1, none⟩ = some (.int .i64 x.parent) ∧ w0.cell? ⟨w.heap.size, 2, none⟩ = some (.string (bs x.name))) := by
    apply hide; rw [← hw0]
    exact ⟨news_three _ _ _ _ 0 _ rfl, news_three _ _ _ _ 1 _ rfl, news_three _ _ _ _ 2 _ rfl⟩
  clear hrow hbw
  go_enter Tryz.func53, Tryz.ntmps53
  go_wp2
  try rw [hw0]
  clear hw0
  go_loopw [7, 8] (fun v i wr => ∃ k : Nat, ∃ ns' : List Nd, k ≤ ns.length ∧ i = .int .i64 k ∧ wr.ownsRow w0.heap.size 64 3 v ns'.length (ndCells ns') ∧ Below w0.heap.size w0 wr ∧ Hid (LayInv ns x k ns')) (fun _ i _ => ns.length - (intOf i).toNat)
  case atStart => exact ⟨0, [], Nat.zero_le _, rfl, World.ownsRow_nil _ _ _ _, Below.refl _ _, hide rfl⟩
  case round =>
    obtain ⟨k, ns', hk, rfl, hown, hbel, HI⟩ := hrel
    have hnl := layInv_len (unhide HI)
    obtain ⟨hc, _⟩ := bcell hbel
    have x0 := (hc _ 0 hlt0).trans (unhide HX).1
    have x1 := (hc _ 1 hlt0).trans (unhide HX).2.1
    have x2 := (hc _ 2 hlt0).trans (unhide HX).2.2
    clear hc
    by_cases hlt : k < ns.length
    · obtain ⟨g, hao, hg, c0, c1, c2⟩ := nd_cells (unhide HROW) hbel hlt
      rw [hao]
      have hk0 : (0 : Int) ≤ k := by omega
      have hk1 : (k : Int) < ns.length := by omega
      have hsz := hbel.size
      clear hao
      cases hq : ((ns[k]).id != x.id)
      · have HI2 := hide (layInv_no (unhide HI) hlt hq)
        generalize ns[k] = nd at *
        go_wp2
        go_quiet (fail)
        go_wp2
        go_roundw
        case rel => exact ⟨k + 1, ns', by omega, by go_num, own_below hown (below_drewN (Below.refl _ _) _), below_drewN hbel _, HI2⟩
        case measure => simp [intOf]; omega
      · have HI2 := hide (layInv_yes (unhide HI) hlt hq)
        generalize ns[k] = nd at *
        go_wp2
        go_quiet (fail)
        go_wp2_with (first
          | (at_builtin; (refine wpList_append_own _ rfl _ _ 41 rfl w0.heap.size 64 i0 (.agg #[.int .i64 0, .int .i64 0, .string ByteArray.empty]) 3 32 Tryz.underlying41 hi hz0 hz1 hz2 rfl (by decide) _ _ _ rfl (own_below hown ((below_drewN (Below.refl _ _) _).alloc (by simp) _)) ⟨wr.heap.size, 0, none⟩ 1 1 [.int .i64 nd.id, .int .i64 nd.parent, .string (bs nd.name)] rfl rfl (news_three _ _ _ _) (by simp [Value.oneCell']) (by unfold maxLen; omega) (by omega) (by simp; omega) ?_))
          | go_in)
        intro v' w4 hown' hgrow _
        have hb4 : Below w0.heap.size w0 w4 := ((below_drewN hbel _).alloc (by simp; omega) _).grown hgrow (by simp; omega) (own_ge hown)
        have hown2 : w4.ownsRow w0.heap.size 64 3 v' (ns' ++ [nd]).length (ndCells (ns' ++ [nd])) := by rw [ndCells_snoc, List.length_append]; exact hown'
        clear hgrow hown hbel hown'
        go_wp2
        go_roundw
        case rel => exact ⟨k + 1, _, by omega, by go_num, hown2, hb4, HI2⟩
        case measure => simp [intOf]; omega
    · have HF := hide (layInv_end (unhide HI) hlt)
      have hsz := hbel.size
      cases b
      · go_wp2
        go_ret
        rw [(unhide HF).1]
        obtain ⟨ao', cap', rfl, hr⟩ := row_of_owns hown
        exact ⟨⟨ao', cap', rfl, hr⟩, (unhide HBW).trans (hbel.mono (unhide HBW).size)⟩
      · go_wp2_with (first
          | (at_builtin; (refine wpList_append_own _ rfl _ _ 41 rfl w0.heap.size 64 i0 (.agg #[.int .i64 0, .int .i64 0, .string ByteArray.empty]) 3 32 Tryz.underlying41 hi hz0 hz1 hz2 rfl (by decide) _ _ _ rfl (own_below hown ((Below.refl _ _).alloc (by simp) _)) ⟨wr.heap.size, 0, none⟩ 1 1 [.int .i64 x.id, .int .i64 x.parent, .string (bs x.name)] rfl rfl (news_three _ _ _ _) (by simp [Value.oneCell']) (by unfold maxLen; omega) (by omega) (by simp; omega) ?_))
          | go_in)
        intro v' w4 hown' hgrow _
        have hb4 : Below w0.heap.size w0 w4 := (hbel.alloc (by omega) _).grown hgrow (by simp; omega) (own_ge hown)
        have hown2 : w4.ownsRow w0.heap.size 64 3 v' (ns' ++ [x]).length (ndCells (ns' ++ [x])) := by rw [ndCells_snoc, List.length_append]; exact hown'
        clear hgrow hown hbel hown'
        go_wp2
        go_ret
        rw [(unhide HF).2]
        obtain ⟨ao', cap', rfl, hr⟩ := row_of_owns hown2
        exact ⟨⟨ao', cap', rfl, hr⟩, (unhide HBW).trans (hb4.mono (unhide HBW).size)⟩
end Go.Proofs.YtkahmbpggdneoaaGreatDoor
