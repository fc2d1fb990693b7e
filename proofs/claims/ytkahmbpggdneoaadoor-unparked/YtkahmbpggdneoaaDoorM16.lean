import Derived.Test.YtkahmbpggdneoaaDoorM14
import Derived.Laws.StructEq
namespace Go.Proofs.YtkahmbpggdneoaaDoor
open Go.RowKit
theorem nd_neq (m n : Nd) : ((m.id == n.id) && ((m.parent == n.parent) && ((bs m.name).toList == (bs n.name).toList))) = ndEq m n := by
  unfold ndEq; rw [names_eq]
theorem Tryd.nodeGuard : Tryd.prog.eqGuardType Tryd.prog.depth 110 = false := by kernel_rfl
theorem Tryd.nodeHeld : Tryd.prog.stoodInHeld 110 = false := by kernel_rfl
theorem node_eq_run (m n : Nd) (W : World) : (Op.equalIn 10000 110 (.agg #[.int .i64 m.id, .int .i64 m.parent, .string (bs m.name)]) (.agg #[.int .i64 n.id, .int .i64 n.parent, .string (bs n.name)])).run Tryd.prog W = .ok (ndEq m n) W := by
  rw [run_equalIn_agg W 9999 110 _ _ (by simp [Program.fieldsOf, Tryd.underlying110]) Tryd.nodeHeld]
  simp [Program.fieldsOf, Tryd.underlying110, Op.eqFields, go_sem]
  rw [← nd_neq]
  by_cases h1 : m.id = n.id <;> by_cases h2 : m.parent = n.parent <;> by_cases h3 : (bs m.name).toList = (bs n.name).toList <;> simp [h1, h2, h3]
set_option maxHeartbeats 4000000 in
set_option maxRecDepth 100000 in
theorem homes_any (a b : List Nd) (ao bo : Option Addr) (ca cb : Nat) (w : World) (ha : Row w ao a.length 3 (ndCells a)) (hb : Row w bo b.length 3 (ndCells b)) (hla : a.length ≤ 4000) (hlb : b.length ≤ 4000) :
    Calls Tryd.prog 47 #[.slice ao a.length ca, .slice bo b.length cb] w fun e w' => (∃ ao' cap', e = .returned (.slice ao' (homesR a b).length cap') ∧ Row w' ao' (homesR a b).length 4 (stCells (homesR a b))) ∧ Below w.heap.size w w' := by
  obtain ⟨i0, hi, hz0, hz1, hz2⟩ := info_parts Tryd.infoRStep
  have HA := hide ha
  have HB := hide hb
  clear ha hb
  go_enter Tryd.func47, Tryd.ntmps47
  go_wp2
  go_loopw [5, 6] (fun v i wr => ∃ k : Nat, ∃ out : List St, k ≤ b.length ∧ i = .int .i64 k ∧ wr.ownsRow w.heap.size 115 4 v out.length (stCells out) ∧ Below w.heap.size w wr ∧ Hid (HbInv a b k out)) (fun _ i _ => b.length - (intOf i).toNat)
  case atStart => exact ⟨0, [], Nat.zero_le _, rfl, World.ownsRow_nil _ _ _ _, Below.refl _ _, hide rfl⟩
  case round =>
    obtain ⟨k, out, hk, rfl, hown, hbel, HI⟩ := hrel
    have hnl := hbInv_len (unhide HI) hk
    have hsz := hbel.size
    by_cases hlt : k < b.length
    · obtain ⟨g, hao, hg, c0, c1, c2⟩ := nd_cells (unhide HB) hbel hlt
      have HF := hide (find_any a (b[k]).id ao ca wr ((unhide HA).below hbel) hla)
      rw [hao]
      clear hao
      by_cases hf : findN a (b[k]).id < a.length
      · obtain ⟨q1, q2⟩ := lookR_some hf
        obtain ⟨g2, hao2, hg2, d0, d1, d2⟩ := nd_cells (unhide HA) hbel hf
        rw [q2] at HF
        rw [hao2] at HF ⊢
        clear hao2 q2
        cases hq : ndEq (a[findN a (b[k]).id]) (b[k])
        · have HI2 := hide (hbInv_next (unhide HI) hlt (homeB_else q1 hq))
          have hq3 := (nd_neq (a[findN a (b[k]).id]) (b[k])).trans hq
          clear q1
          generalize hfn : findN a (b[k]).id = fn at *
          clear hfn
          have hfn0 : (0 : Int) ≤ fn := by omega
          have hfn1 : (fn : Int) < a.length := by omega
          generalize a[fn] = m at *
          generalize b[k] = n at *
          have hne := node_eq_run m n
          have hgd := Tryd.nodeGuard
          rw [hq] at hne
          go_wp2_with fail
          refine (unhide HF).mono ?_
          rintro e w' ⟨rfl, rfl⟩
          go_wp2
          go_quiet (fail)
          go_wp2_with (first
            | (at_builtin; (refine wpList_append_own _ rfl _ _ 92 rfl w.heap.size 115 i0 (.agg #[.int .u8 0, .int .i64 0, .int .i64 0, .string ByteArray.empty]) 4 40 Tryd.underlying92 hi hz0 hz1 hz2 rfl (by decide) _ _ _ rfl (own_below hown ((below_drewN (Below.refl _ _) _).alloc (by simp) _)) ⟨w'.heap.size, 0, none⟩ 1 1 [.int .u8 61, .int .i64 n.id, .int .i64 n.parent, .string (bs n.name)] rfl rfl (news_four _ _ _ _ _) (by simp [Value.oneCell']) (by unfold maxLen; omega) (by omega) (by simp; omega) ?_))
            | go_in)
          intro v' w4 hown' hgrow _
          have hb4 : Below w.heap.size w w4 := ((below_drewN hbel _).alloc (by simp; omega) _).grown hgrow (by simp; omega) (own_ge hown)
          have hown2 : w4.ownsRow w.heap.size 115 4 v' (out ++ [(⟨61, n⟩ : St)]).length (stCells (out ++ [(⟨61, n⟩ : St)])) := by rw [stCells_snoc, List.length_append]; exact hown'
          clear hgrow hown hbel hown'
          go_wp2
          go_roundw
          case rel => exact ⟨k + 1, _, by omega, by go_num, hown2, hb4, HI2⟩
          case measure => simp [intOf]; omega
        · have HI2 := hide (hbInv_next (unhide HI) hlt (homeB_same q1 hq))
          rw [List.append_nil] at HI2
          clear q1
          generalize hfn : findN a (b[k]).id = fn at *
          clear hfn
          have hfn0 : (0 : Int) ≤ fn := by omega
          have hfn1 : (fn : Int) < a.length := by omega
          generalize a[fn] = m at *
          generalize b[k] = n at *
          have hne := node_eq_run m n
          have hgd := Tryd.nodeGuard
          rw [hq] at hne
          go_wp2_with fail
          refine (unhide HF).mono ?_
          rintro e w' ⟨rfl, rfl⟩
          go_wp2
          go_quiet (fail)
          go_wp2
          go_roundw
          case rel => exact ⟨k + 1, out, by omega, by go_num, own_below hown (below_drewN (Below.refl _ _) _), below_drewN hbel _, HI2⟩
          case measure => simp [intOf]; omega
      · obtain ⟨q1, q2⟩ := lookR_none hf
        have HI2 := hide (hbInv_next (unhide HI) hlt (homeB_new q1))
        rw [q2] at HF
        clear q1 q2 hf
        generalize b[k] = n at *
        go_wp2_with fail
        refine (unhide HF).mono ?_
        rintro e w' ⟨rfl, rfl⟩
        go_wp2_with (first
          | (at_builtin; (refine wpList_append_own _ rfl _ _ 92 rfl w.heap.size 115 i0 (.agg #[.int .u8 0, .int .i64 0, .int .i64 0, .string ByteArray.empty]) 4 40 Tryd.underlying92 hi hz0 hz1 hz2 rfl (by decide) _ _ _ rfl (own_below hown ((Below.refl _ _).alloc (by simp) _)) ⟨w'.heap.size, 0, none⟩ 1 1 [.int .u8 43, .int .i64 n.id, .int .i64 n.parent, .string (bs n.name)] rfl rfl (news_four _ _ _ _ _) (by simp [Value.oneCell']) (by unfold maxLen; omega) (by omega) (by simp; omega) ?_))
          | go_in)
        intro v' w4 hown' hgrow _
        have hb4 : Below w.heap.size w w4 := (hbel.alloc (by omega) _).grown hgrow (by simp; omega) (own_ge hown)
        have hown2 : w4.ownsRow w.heap.size 115 4 v' (out ++ [(⟨43, n⟩ : St)]).length (stCells (out ++ [(⟨43, n⟩ : St)])) := by rw [stCells_snoc, List.length_append]; exact hown'
        clear hgrow hown hbel hown'
        go_wp2
        go_roundw
        case rel => exact ⟨k + 1, _, by omega, by go_num, hown2, hb4, HI2⟩
        case measure => simp [intOf]; omega
    · have HI2 := hide (hbInv_end (unhide HI) hlt)
      clear HI hk
      go_wp2
      clear hlt
      go_loopw [5, 8] (fun v i wr => ∃ k : Nat, ∃ out : List St, k ≤ a.length ∧ i = .int .i64 k ∧ wr.ownsRow w.heap.size 115 4 v out.length (stCells out) ∧ Below w.heap.size w wr ∧ Hid (HaInv a b k out)) (fun _ i _ => a.length - (intOf i).toNat)
      case atStart => exact ⟨0, out, Nat.zero_le _, rfl, hown, hbel, HI2⟩
      case round =>
        clear HI2 hbel hown hnl hsz
        obtain ⟨k, out, hk, rfl, hown, hbel, HI⟩ := hrel
        have hnl := haInv_len (unhide HI) hk
        have hsz := hbel.size
        by_cases hlt : k < a.length
        · obtain ⟨g, hao, hg, c0, c1, c2⟩ := nd_cells (unhide HA) hbel hlt
          have HF := hide (find_any b (a[k]).id bo cb wr ((unhide HB).below hbel) hlb)
          rw [hao]
          clear hao
          by_cases hf : findN b (a[k]).id < b.length
          · obtain ⟨q1, q2⟩ := lookR_some hf
            have HI2 := hide (haInv_next (unhide HI) hlt (homeA_kept q1))
            rw [List.append_nil] at HI2
            rw [q2] at HF
            clear q1 q2
            generalize findN b (a[k]).id = fn at *
            generalize a[k] = n at *
            go_wp2_with fail
            refine (unhide HF).mono ?_
            rintro e w' ⟨rfl, rfl⟩
            go_wp2
            go_roundw
            case rel => exact ⟨k + 1, out, by omega, by go_num, hown, hbel, HI2⟩
            case measure => simp [intOf]; omega
          · obtain ⟨q1, q2⟩ := lookR_none hf
            have HI2 := hide (haInv_next (unhide HI) hlt (homeA_gone q1))
            rw [q2] at HF
            clear q1 q2 hf
            generalize a[k] = n at *
            go_wp2_with fail
            refine (unhide HF).mono ?_
            rintro e w' ⟨rfl, rfl⟩
            go_wp2_with (first
              | (at_builtin; (refine wpList_append_own _ rfl _ _ 92 rfl w.heap.size 115 i0 (.agg #[.int .u8 0, .int .i64 0, .int .i64 0, .string ByteArray.empty]) 4 40 Tryd.underlying92 hi hz0 hz1 hz2 rfl (by decide) _ _ _ rfl (own_below hown ((Below.refl _ _).alloc (by simp) _)) ⟨w'.heap.size, 0, none⟩ 1 1 [.int .u8 45, .int .i64 n.id, .int .i64 0, .string ⟨#[]⟩] rfl rfl (news_four _ _ _ _ _) (by simp [Value.oneCell']) (by unfold maxLen; omega) (by omega) (by simp; omega) ?_))
              | go_in)
            intro v' w4 hown' hgrow _
            have hb4 : Below w.heap.size w w4 := (hbel.alloc (by omega) _).grown hgrow (by simp; omega) (own_ge hown)
            have hown2 : w4.ownsRow w.heap.size 115 4 v' (out ++ [(⟨45, ⟨n.id, 0, []⟩⟩ : St)]).length (stCells (out ++ [(⟨45, ⟨n.id, 0, []⟩⟩ : St)])) := by rw [stCells_snoc, List.length_append]; exact hown'
            clear hgrow hown hbel hown'
            go_wp2
            go_roundw
            case rel => exact ⟨k + 1, _, by omega, by go_num, hown2, hb4, HI2⟩
            case measure => simp [intOf]; omega
        · have HE := hide (haInv_end (unhide HI) hlt)
          go_wp2
          go_ret
          rw [unhide HE]
          obtain ⟨ao', cap', rfl, hr⟩ := row_of_owns hown
          exact ⟨⟨ao', cap', rfl, hr⟩, hbel⟩
end Go.Proofs.YtkahmbpggdneoaaDoor

namespace Go.Proofs.YtkahmbpggdneoaaDoor
open Go.RowKit
set_option maxHeartbeats 1000000 in
theorem homesCount_any (s t : ByteArray) (w : World) (hs : s.size ≤ 4000) (ht : t.size ≤ 4000) (h1 : ¬ (readNodes (cut (sl s))).length < (cut (sl s)).length) (h2 : ¬ (readNodes (cut (sl t))).length < (cut (sl t)).length) :
    Calls Tryd.prog 28 #[.string s, .string t] w fun e w' => e = .returned (.int .i64 (homesR (readNodes (cut (sl s))) (readNodes (cut (sl t)))).length) ∧ Below w.heap.size w w' := by
  have HN1 := hide (fun W => nodes_any s W hs)
  have HN2 := hide (fun W => nodes_any t W ht)
  have hl1 : (readNodes (cut (sl s))).length ≤ 4000 := by have h3 := readNodes_length (cut (sl s)); have := cut_length_le (sl s); rw [sl_length] at this; omega
  have hl2 : (readNodes (cut (sl t))).length ≤ 4000 := by have h3 := readNodes_length (cut (sl t)); have := cut_length_le (sl t); rw [sl_length] at this; omega
  generalize readNodes (cut (sl s)) = a at *
  generalize readNodes (cut (sl t)) = b at *
  have HH := hide (fun ao bo ca cb W ha hb => homes_any a b ao bo ca cb W ha hb hl1 hl2)
  have hhl := homesR_len a b
  generalize homesR a b = L at *
  go_enter Tryd.func28, Tryd.ntmps28
  go_wp2_with fail
  refine (unhide HN1 _).mono ?_
  rintro e w1 ⟨⟨hno, _⟩ | ⟨_, ao, ca, rfl, hr1, _⟩, hb1⟩
  · exact absurd hno h1
  · have HR1 := hide hr1
    have HB1 := hide hb1
    clear hr1 hb1
    go_wp2_with fail
    refine (unhide HN2 _).mono ?_
    rintro e w2 ⟨⟨hno, _⟩ | ⟨_, bo, cb, rfl, hr2, _⟩, hb2⟩
    · exact absurd hno h2
    · have HR1' := hide ((unhide HR1).below hb2)
      have HR2 := hide hr2
      have HB2 := hide ((unhide HB1).trans (hb2.mono (unhide HB1).size))
      clear hr2 hb2
      go_wp2_with fail
      refine (unhide HH _ _ _ _ _ (unhide HR1') (unhide HR2)).mono ?_
      rintro e w3 ⟨⟨ao', cap', rfl, hr3⟩, hb3⟩
      clear hr3
      go_wp2
      go_ret
      exact ⟨rfl, (unhide HB2).trans (hb3.mono (unhide HB2).size)⟩
end Go.Proofs.YtkahmbpggdneoaaDoor
