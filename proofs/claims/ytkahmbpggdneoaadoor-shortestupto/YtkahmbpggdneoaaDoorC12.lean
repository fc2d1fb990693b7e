import Derived.Test.YtkahmbpggdneoaaDoorC11
import Derived.Deep.Cut
namespace Go.Proofs.YtkahmbpggdneoaaDoor
open Go.RowKit
theorem add_43 (a : Str) (ha : a.length ≤ 1000000) (W : World) : (Op.stringOp .add ⟨#[43]⟩ (bs a)).run Tryd.prog W = .ok (.string (bs (43 :: a))) W := add_bs [43] a (by simp) ha W
theorem add_61 (a : Str) (ha : a.length ≤ 1000000) (W : World) : (Op.stringOp .add ⟨#[61]⟩ (bs a)).run Tryd.prog W = .ok (.string (bs (61 :: a))) W := add_bs [61] a (by simp) ha W
theorem add_45 (a : Str) (ha : a.length ≤ 1000000) (W : World) : (Op.stringOp .add ⟨#[45]⟩ (bs a)).run Tryd.prog W = .ok (.string (bs (45 :: a))) W := add_bs [45] a (by simp) ha W
set_option maxHeartbeats 2000000 in
theorem stText_any (s : St) (w : World) (hs : StOk s) :
    Calls Tryd.prog 52 #[.agg #[.int .u8 s.kind.toNat, .int .i64 s.node.id, .int .i64 s.node.parent, .string (bs s.node.name)]] w fun e w' => e = .returned (.string (bs (stText s))) ∧ Below w.heap.size w w' := by
  obtain ⟨k, n⟩ := s
  have HB := hide ((Below.refl w.heap.size w).alloc (Nat.le_refl _) (.cells #[.int .u8 k.toNat, .int .i64 n.id, .int .i64 n.parent, .string (bs n.name)] 83))
  rcases hs with ⟨hk, h1, h2, h3, h4, h5⟩ | ⟨hk, h1, h2⟩
  · simp only at hk h1 h2 h3 h4 h5 ⊢
    have hl := name_len h5
    have hnl := nodeText_len h5
    have HNT := hide (fun W => nodeText_any n W ⟨by omega, h2⟩ ⟨h3, h4⟩ (by omega))
    have HE : Hid (stText ⟨k, n⟩ = k :: nodeText n) := hide (by unfold stText; rw [if_neg (show ¬ k = 45 by rcases hk with h | h <;> rw [h] <;> decide)])
    generalize stText ⟨k, n⟩ = R at *
    generalize nodeText n = nt at *
    rcases hk with rfl | rfl
    · have a1 := add_43 nt (by omega)
      go_enter Tryd.func52, Tryd.ntmps52
      go_wp2_with fail
      refine (unhide HNT _).mono ?_
      rintro e w1 ⟨rfl, hb1⟩
      have HB1 := hide ((unhide HB).trans (hb1.mono (unhide HB).size))
      clear hb1
      go_wp2
      go_ret
      exact ⟨ret_str (by rw [unhide HE]), unhide HB1⟩
    · have a1 := add_61 nt (by omega)
      go_enter Tryd.func52, Tryd.ntmps52
      go_wp2_with fail
      refine (unhide HNT _).mono ?_
      rintro e w1 ⟨rfl, hb1⟩
      have HB1 := hide ((unhide HB).trans (hb1.mono (unhide HB).size))
      clear hb1
      go_wp2
      go_ret
      exact ⟨ret_str (by rw [unhide HE]), unhide HB1⟩
  · simp only at hk h1 h2 ⊢
    subst hk
    have HIT := hide (fun W => itoa_any n.id W (by omega) h2)
    have l1 := digs_len n.id
    have a1 := add_45 (digs n.id) (by omega)
    have a2 := add_59 (45 :: digs n.id) (by simp; omega)
    have HE : Hid (stText ⟨45, n⟩ = 45 :: digs n.id ++ [59]) := hide (by unfold stText; rw [if_pos rfl])
    generalize stText ⟨45, n⟩ = R at *
    generalize 45 :: digs n.id ++ [59] = d3 at *
    generalize 45 :: digs n.id = d2 at *
    generalize digs n.id = d1 at *
    go_enter Tryd.func52, Tryd.ntmps52
    go_wp2_with fail
    refine (unhide HIT _).mono ?_
    rintro e w1 ⟨rfl, rfl⟩
    go_wp2
    go_ret
    exact ⟨ret_str (by rw [unhide HE]), unhide HB⟩
theorem script_snoc (ss : List St) (k : Nat) (h : k < ss.length) : scriptText (ss.take (k + 1)) = scriptText (ss.take k) ++ stText ss[k] := by
  unfold scriptText; rw [List.take_succ_eq_append_getElem h, List.flatMap_append]; simp
set_option maxHeartbeats 2000000 in
theorem script_any (ss : List St) (ao : Option Addr) (cap : Nat) (w : World) (hrow : Row w ao ss.length 4 (stCells ss)) (hs : ∀ s ∈ ss, StOk s) (hl : ss.length ≤ 20000) :
    Calls Tryd.prog 31 #[.slice ao ss.length cap] w fun e w' => e = .returned (.string (bs (scriptText ss))) ∧ Below w.heap.size w w' := by
  have HROW := hide hrow
  have HS := hide hs
  clear hrow hs
  go_enter Tryd.func31, Tryd.ntmps31
  go_wp2
  go_loopw [3, 8] (fun x i wr => ∃ k : Nat, ∃ S : Str, k ≤ ss.length ∧ i = .int .i64 k ∧ x = .string (bs S) ∧ Below w.heap.size w wr ∧ Hid (S = scriptText (ss.take k))) (fun _ i _ => ss.length - (intOf i).toNat)
  case atStart => exact ⟨0, [], by omega, rfl, rfl, Below.refl _ _, hide rfl⟩
  case round =>
    obtain ⟨k, S, hk, rfl, rfl, hbel, HI⟩ := hrel
    by_cases hlt : k < ss.length
    · obtain ⟨g, hao, hg, c0, c1, c2, c3⟩ := st_cells (Row.below (unhide HROW) hbel) hlt
      rw [hao]
      clear hao
      have hsok := unhide HS _ (List.getElem_mem hlt)
      have HI2 : Hid (S ++ stText ss[k] = scriptText (ss.take (k + 1))) := by apply hide; rw [script_snoc _ _ hlt, unhide HI]
      have hSl : S.length ≤ 19 * 20000 := by
        rw [unhide HI]
        have := script_len (ss.take k) (fun s h => unhide HS s (List.mem_of_mem_take h))
        rw [List.length_take] at this; omega
      have htl := stText_len hsok
      have HT := hide (fun W => stText_any ss[k] W hsok)
      have hadd := add_bs S (stText ss[k]) (by omega) (by omega)
      have hsz := hbel.size
      clear hsok
      generalize stText ss[k] = tx at *
      generalize ss[k] = st at *
      have HB1 := hide (hbel.alloc hsz (.cells #[.int .u8 st.kind.toNat, .int .i64 st.node.id, .int .i64 st.node.parent, .string (bs st.node.name)] 83))
      clear hbel
      go_wp2_with fail
      refine (unhide HT _).mono ?_
      rintro e w2 ⟨rfl, hb2⟩
      have hb3 := (unhide HB1).trans (hb2.mono (unhide HB1).size)
      clear hb2 c0 c1 c2 c3
      go_wp2
      go_roundw
      case rel => exact ⟨k + 1, _, by omega, by go_num, rfl, hb3, HI2⟩
      case measure => simp [intOf]; omega
    · have HE : Hid (scriptText ss = S) := by apply hide; rw [unhide HI, List.take_of_length_le (by omega)]
      go_wp2
      go_ret
      exact ⟨ret_str (by rw [unhide HE]), hbel⟩
theorem ret_si {a b : ByteArray} {x y : Int} (h : a = b) (g : x = y) : Ending.returned (.tuple #[.string a, .int .i64 x]) = .returned (.tuple #[.string b, .int .i64 y]) := by rw [h, g]
theorem compileT_no {f t : Str} (h : compileE f t ≠ 0) : compileT f t = [] := by unfold compileT; rw [if_neg h]
theorem makeT_ok {a g : Tr} (hg : TrOk g) (ha : TrOk a) : (∀ s ∈ makeT a g, StOk s) ∧ (makeT a g).length ≤ 20000 := by
  have key : ∀ (f : Nat) (p : Pl), TrOk p.now → (∀ s ∈ p.done, StOk s) → (∀ s ∈ makeF g f p, StOk s) ∧ (makeF g f p).length ≤ p.done.length + 100 * f := by
    have htry : ∀ (p : Pl) (s : St), StOk s → (∀ s ∈ p.done, StOk s) → ∀ x ∈ (tryP p s).done, StOk x := by
      intro p s hs hp x hx
      unfold tryP at hx
      split at hx
      · rcases List.mem_append.1 hx with hx | hx
        · exact hp x hx
        · rw [List.mem_singleton.1 hx]; exact hs
      · exact hp x hx
    have hgo : ∀ (l : List Nat) (p : Pl × Bool), (∀ i ∈ l, 1 ≤ i ∧ i ≤ 99) → TrOk p.1.now → (∀ s ∈ p.1.done, StOk s) → ∀ s ∈ (l.foldl (goOne g) p).1.done, StOk s := by
      intro l
      induction l with
      | nil => intro p _ _ h; exact h
      | cons i l ih =>
        intro p hl hp h
        rw [List.foldl_cons]
        have hi := hl i (by simp)
        obtain ⟨q, m⟩ := p
        cases hs : homeS q.now g i with
        | none => rw [goOne_none hs]; exact ih (q, m) (fun j hj => hl j (by simp [hj])) hp h
        | some s =>
          rw [goOne_some hs]
          have hk := (home_ok hg (show (1 : Int) ≤ i by omega) (by omega) hs).1
          exact ih (tryP q s, m || (stepE q.now s == 0)) (fun j hj => hl j (by simp [hj])) (tryP_ok hp hk) (htry q s hk h)
    have hgo2 : ∀ p : Pl, TrOk p.now → (∀ s ∈ p.done, StOk s) → ∀ s ∈ (goHomeT g p).1.done, StOk s := by
      intro p h1 h2
      have hE : goHomeT g p = (List.range' 1 99).foldl (goOne g) (p, false) := by unfold goHomeT; rfl
      rw [hE]
      exact hgo _ (p, false) (fun i hi => by rw [List.mem_range'_1] at hi; omega) h1 h2
    have hpk : ∀ p : Pl, TrOk p.now → (∀ s ∈ p.done, StOk s) → ∀ s ∈ (parkT g p).1.done, StOk s := by
      intro p h1 h2
      by_cases h0 : knotT p.now g = 0
      · rw [parkT_no h0]; exact h2
      · rw [parkT_yes h0]
        have hb := knot_bd h1 hg
        exact htry p _ (park_ok (by omega) hb.2) h2
    intro f
    induction f with
    | zero => intro p h1 h2; exact ⟨h2, by simp [makeF]⟩
    | succ f ih =>
      intro p h1 h2
      have l1 := goHomeT_len hg h1
      have l2 := parkT_len hg l1.2
      have o1 := hgo2 p h1 h2
      have o2 := hpk _ l1.2 o1
      cases hq : (goHomeT g p).2
      · cases hq2 : (parkT g (goHomeT g p).1).2
        · rw [makeF_3 hq hq2]; exact ⟨o2, by omega⟩
        · rw [makeF_2 hq hq2]
          have := ih _ l2.2 o2
          exact ⟨this.1, by omega⟩
      · rw [makeF_1 hq]
        have := ih _ l1.2 o1
        exact ⟨this.1, by omega⟩
  have := key 199 ⟨a, []⟩ ha (by simp)
  unfold makeT
  exact ⟨this.1, by have h := this.2; simp at h; omega⟩
end Go.Proofs.YtkahmbpggdneoaaDoor

namespace Go.Proofs.YtkahmbpggdneoaaDoor
open Go.RowKit
theorem compileE_long {f t : Str} (h : 4000 < f.length ∨ 4000 < t.length) : compileE f t = 1 := by unfold compileE; rw [if_pos h]
theorem compileE_from {f t : Str} (h : ¬ (4000 < f.length ∨ 4000 < t.length)) (h2 : (checkT f).1 ≠ 0) : compileE f t = (checkT f).1 := by unfold compileE; rw [if_neg h, if_pos h2]
theorem compileE_to {f t : Str} (h : ¬ (4000 < f.length ∨ 4000 < t.length)) (h2 : (checkT f).1 = 0) : compileE f t = (checkT t).1 := by unfold compileE; rw [if_neg h, if_neg (fun hh => hh h2)]
set_option maxHeartbeats 4000000 in
set_option maxRecDepth 100000 in
theorem compile_any (s t : ByteArray) (w : World) :
    Calls Tryd.prog 15 #[.string s, .string t] w fun e w' => e = .returned (.tuple #[.string (bs (compileT (sl s) (sl t))), .int .i64 (compileE (sl s) (sl t))]) ∧ Below w.heap.size w w' := by
  by_cases hL : 4000 < s.size ∨ 4000 < t.size
  · have hE := compileE_long (f := sl s) (t := sl t) (by rw [sl_length, sl_length]; exact hL)
    rw [compileT_no (by rw [hE]; decide), hE]
    have hL' : 4000 < s.size ∨ (¬ 4000 < s.size ∧ 4000 < t.size) := by omega
    clear hL hE
    rcases hL' with h | ⟨h, h'⟩
    all_goals
      go_enter Tryd.func15, Tryd.ntmps15
      go_wp2
      go_ret2
      exact ⟨rfl, Below.refl _ _⟩
  · have hLl : ¬ (4000 < (sl s).length ∨ 4000 < (sl t).length) := by rw [sl_length, sl_length]; exact hL
    have h4 : ¬ 4000 < s.size := by omega
    have h5 : ¬ 4000 < t.size := by omega
    have HRS := hide (fun W => read_any s W)
    have HRT := hide (fun W => read_any t W)
    by_cases hC : (checkT (sl s)).1 ≠ 0
    · have hE := compileE_from hLl hC
      rw [compileT_no (by rw [hE]; exact hC), hE]
      have hC' : ((checkT (sl s)).1 != 0) = true := by rw [bne_iff_ne]; exact hC
      clear hE hC hLl hL
      generalize checkT (sl s) = c at *
      generalize readT (sl s) = T at *
      go_enter Tryd.func15, Tryd.ntmps15
      go_wp2_with fail
      refine (unhide HRS _).mono ?_
      rintro e w1 ⟨rfl, hb1⟩
      have HN := hide (treeAt_new w1)
      have HB1 := hide hb1; clear hb1
      go_wp2_with (refine wpList_store_mid (by rfl) 59 (.tmp 6) (.tmp 23) (by rfl) w1.heap.size 0 (treeCells T).toArray (by rfl) (by rfl) (by exact treeAt_there (unhide HN) T) (treeSize' T) (treeOne T) ?_)
      go_ret2
      exact ⟨rfl, below_setCells ((unhide HB1).alloc (unhide HB1).size _) (unhide HB1).size (by have := (unhide HB1).size; simp; omega) _ _⟩
    · have hc0 : (checkT (sl s)).1 = 0 := Classical.not_not.1 hC
      have hTS : readT (sl s) = gather (readNodes (cut (sl s))) := by unfold readT; rw [if_pos hc0]
      have hE := compileE_to hLl hc0
      rw [hc0] at HRS
      by_cases hD : (checkT (sl t)).1 ≠ 0
      · rw [compileT_no (by rw [hE]; exact hD), hE]
        have hD' : ((checkT (sl t)).1 != 0) = true := by rw [bne_iff_ne]; exact hD
        clear hE hC hLl hL hc0 hTS hD
        generalize checkT (sl t) = d at *
        generalize (checkT (sl s)).2 = c2 at *
        generalize readT (sl s) = T at *
        generalize readT (sl t) = U at *
        go_enter Tryd.func15, Tryd.ntmps15
        go_wp2_with fail
        refine (unhide HRS _).mono ?_
        rintro e w1 ⟨rfl, hb1⟩
        have HN := hide (treeAt_new w1)
        have HB1 := hide hb1; clear hb1
        have HB2 : Hid (Below w.heap.size w ((w1.alloc (.cells Tryd.zeroCells59 59)).setCells w1.heap.size 0 (treeCells T))) := hide (below_setCells ((unhide HB1).alloc (unhide HB1).size _) (unhide HB1).size (by have := (unhide HB1).size; simp; omega) _ _)
        go_wp2_with (refine wpList_store_mid (by rfl) 59 (.tmp 6) (.tmp 23) (by rfl) w1.heap.size 0 (treeCells T).toArray (by rfl) (by rfl) (by exact treeAt_there (unhide HN) T) (treeSize' T) (treeOne T) ?_)
        generalize Value.agg (treeCells T).toArray = vT
        refine (unhide HRT _).mono ?_
        rintro e w3 ⟨rfl, hb3⟩
        have HB3 := hide ((unhide HB2).trans (hb3.mono (unhide HB2).size))
        clear hb3
        have HN3 := hide (treeAt_new w3)
        go_wp2_with (refine wpList_store_mid (by rfl) 59 (.tmp 9) (.tmp 32) (by rfl) w3.heap.size 0 (treeCells U).toArray (by rfl) (by rfl) (by exact treeAt_there (unhide HN3) U) (treeSize' U) (treeOne U) ?_)
        go_ret2
        exact ⟨rfl, below_setCells ((unhide HB3).alloc (unhide HB3).size _) (unhide HB3).size (by have := (unhide HB3).size; simp; omega) _ _⟩
      · have hd0 : (checkT (sl t)).1 = 0 := Classical.not_not.1 hD
        have hTT : readT (sl t) = gather (readNodes (cut (sl t))) := by unfold readT; rw [if_pos hd0]
        rw [hd0] at HRT hE
        have hCT : compileT (sl s) (sl t) = scriptText (makeT (readT (sl s)) (readT (sl t))) := by unfold compileT; rw [if_pos hE, hTS, hTT]
        have hO1 : TrOk (readT (sl s)) := by rw [hTS]; exact gather_ok _
        have hO2 : TrOk (readT (sl t)) := by rw [hTT]; exact gather_ok _
        rw [hCT, hE]
        have HMK := hide (fun W => make_any (readT (sl s)) (readT (sl t)) W hO1 hO2)
        have hmo := makeT_ok hO2 hO1
        have HTX := hide (fun ao cap W (h : Row W ao (makeT (readT (sl s)) (readT (sl t))).length 4 (stCells (makeT (readT (sl s)) (readT (sl t))))) => script_any (makeT (readT (sl s)) (readT (sl t))) ao cap W h hmo.1 hmo.2)
        clear hE hC hLl hL hc0 hTS hD hTT hCT hO1 hO2 hmo hd0
        generalize (checkT (sl s)).2 = c2 at *
        generalize (checkT (sl t)).2 = d2 at *
        generalize makeT (readT (sl s)) (readT (sl t)) = M at *
        generalize readT (sl s) = T at *
        generalize readT (sl t) = U at *
        go_enter Tryd.func15, Tryd.ntmps15
        go_wp2_with fail
        refine (unhide HRS _).mono ?_
        rintro e w1 ⟨rfl, hb1⟩
        have HN := hide (treeAt_new w1)
        have HB1 := hide hb1; clear hb1
        have HB2 : Hid (Below w.heap.size w ((w1.alloc (.cells Tryd.zeroCells59 59)).setCells w1.heap.size 0 (treeCells T))) := hide (below_setCells ((unhide HB1).alloc (unhide HB1).size _) (unhide HB1).size (by have := (unhide HB1).size; simp; omega) _ _)
        have HT2 : Hid (TreeAt ext0 ((w1.alloc (.cells Tryd.zeroCells59 59)).setCells w1.heap.size 0 (treeCells T)) w1.heap.size T) := hide (treeAt_stored (unhide HN) T)
        go_wp2_with (refine wpList_store_mid (by rfl) 59 (.tmp 6) (.tmp 23) (by rfl) w1.heap.size 0 (treeCells T).toArray (by rfl) (by rfl) (by exact treeAt_there (unhide HN) T) (treeSize' T) (treeOne T) ?_)
        generalize Value.agg (treeCells T).toArray = vT
        refine (unhide HRT _).mono ?_
        rintro e w3 ⟨rfl, hb3⟩
        have HB3 := hide ((unhide HB2).trans (hb3.mono (unhide HB2).size))
        have HT3 := hide ((unhide HT2).below hb3)
        clear hb3
        have HN3 := hide (treeAt_new w3)
        have hbx := below_setCells ((Below.refl w3.heap.size w3).alloc (Nat.le_refl _) (.cells Tryd.zeroCells59 59)) (g := w3.heap.size) (Nat.le_refl _) (by simp) 0 (treeCells U)
        have HB4 : Hid (Below w.heap.size w ((w3.alloc (.cells Tryd.zeroCells59 59)).setCells w3.heap.size 0 (treeCells U))) := hide ((unhide HB3).trans (hbx.mono (unhide HB3).size))
        have HR1 := hide (treeAt_range ((unhide HT3).below hbx))
        have HR2 := hide (treeAt_range (treeAt_stored (unhide HN3) U))
        clear hbx
        go_upto_region 9 with (refine wpList_store_mid (by rfl) 59 (.tmp 9) (.tmp 32) (by rfl) w3.heap.size 0 (treeCells U).toArray (by rfl) (by rfl) (by exact treeAt_there (unhide HN3) U) (treeSize' U) (treeOne U) ?_)
        generalize Value.agg (treeCells U).toArray = vU
        generalize hW4 : (w3.alloc (.cells Tryd.zeroCells59 59)).setCells w3.heap.size 0 (treeCells U) = w4 at *
        go_wp2_with (first
          | (refine wpList_load_mid (by rfl) 59 (.tmp 6) (by rfl) w1.heap.size 0 (by rfl) (treeCells T) _ (unhide HR1) Tryd.underlying59 (by rfl) (treeSize T) ?_)
          | (refine wpList_load_mid (by rfl) 59 (.tmp 9) (by rfl) w3.heap.size 0 (by rfl) (treeCells U) _ (unhide HR2) Tryd.underlying59 (by rfl) (treeSize U) ?_))
        refine (unhide HMK _).mono ?_
        rintro e w5 ⟨⟨ao, cap, rfl, hrow⟩, hb5⟩
        generalize Value.agg (treeCells T).toArray = vT2
        generalize Value.agg (treeCells U).toArray = vU2
        have HROW := hide hrow
        have HB5 := hide ((unhide HB4).trans (hb5.mono (unhide HB4).size))
        clear hrow hb5 hW4
        go_wp2_with fail
        refine (unhide HTX _ _ _ (unhide HROW)).mono ?_
        rintro e w6 ⟨rfl, hb6⟩
        have HB6 := hide ((unhide HB5).trans (hb6.mono (unhide HB5).size))
        clear hb6
        go_wp2
        go_ret2
        exact ⟨rfl, unhide HB6⟩
end Go.Proofs.YtkahmbpggdneoaaDoor
