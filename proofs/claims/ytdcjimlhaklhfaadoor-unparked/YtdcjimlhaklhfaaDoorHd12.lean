import Derived.Test.YtdcjimlhaklhfaaDoorHd2
import Derived.Test.YtdcjimlhaklhfaaDoorHd11
import Derived.Test.YtdcjimlhaklhfaaDoorHd1
import Derived.Test.YtdcjimlhaklhfaaDoorHd4
import Derived.Test.YtdcjimlhaklhfaaDoorHd9
import Derived.Laws.StructEq
import Derived.BigQuiet
import Derived.Deep.RegionWith
namespace Go.Proofs.YtdcjimlhaklhfaaDoor
open Go.RowKit
theorem Tryd.infoRStep : (Tryd.prog.info? 115).map (fun i => (i.zero, i.size, i.bytes)) = some (some (.agg #[.int .u8 0, .int .i64 0, .int .i64 0, .string ByteArray.empty]), 4, 40) := by kernel_rfl
end Go.Proofs.YtdcjimlhaklhfaaDoor

namespace Go.Proofs.YtdcjimlhaklhfaaDoor
open Go.RowKit
theorem news_four {w : World} (a b c d : Value) (t : TypeId) : ∀ j x, [a, b, c, d][j]? = some x → (w.alloc (.cells #[a, b, c, d] t)).cell? ((⟨w.heap.size, 0, none⟩ : Addr).add j) = some x := by
  intro j x hx
  exact World.news_of_block (cs := #[a, b, c, d]) (heap_alloc_new w _) j x hx
/-- What Compile refuses. -/
def refusalT (f t : Str) : Int := if 4000 < f.length ∨ 4000 < t.length then 1 else if (checkT f).1 ≠ 0 then (checkT f).1 else (checkT t).1
theorem refusalT_long {f t : Str} (h : 4000 < f.length ∨ 4000 < t.length) : refusalT f t = 1 := by unfold refusalT; rw [if_pos h]
theorem refusalT_from {f t : Str} (h : ¬ (4000 < f.length ∨ 4000 < t.length)) (h2 : (checkT f).1 ≠ 0) : refusalT f t = (checkT f).1 := by unfold refusalT; rw [if_neg h, if_pos h2]
theorem refusalT_to {f t : Str} (h : ¬ (4000 < f.length ∨ 4000 < t.length)) (h2 : (checkT f).1 = 0) : refusalT f t = (checkT t).1 := by unfold refusalT; rw [if_neg h, if_neg (fun hh => hh h2)]
set_option maxHeartbeats 1000000 in
theorem refusal_any (s t : ByteArray) (w : World) :
    Calls Tryd.prog 25 #[.string s, .string t] w fun e w' => e = .returned (.int .i64 (refusalT (sl s) (sl t))) ∧ Below w.heap.size w w' := by
  by_cases hL : 4000 < s.size ∨ 4000 < t.size
  · have HA := hide (refusalT_long (f := sl s) (t := sl t) (by rw [sl_length, sl_length]; exact hL))
    generalize refusalT (sl s) (sl t) = A at *
    have hL' : 4000 < s.size ∨ (¬ 4000 < s.size ∧ 4000 < t.size) := by omega
    clear hL
    rcases hL' with h | ⟨h, h'⟩
    all_goals
      go_enter Tryd.func25, Tryd.ntmps25
      go_wp2
      go_ret
      exact ⟨ret_int (unhide HA).symm, Below.refl _ _⟩
  · have hLl : ¬ (4000 < (sl s).length ∨ 4000 < (sl t).length) := by rw [sl_length, sl_length]; exact hL
    have h4 : ¬ 4000 < s.size := by omega
    have h5 : ¬ 4000 < t.size := by omega
    have HC1 := hide (fun W => rcheck_any s W)
    have HC2 := hide (fun W => rcheck_any t W)
    rw [check_same] at HC1 HC2
    by_cases hC : (checkT (sl s)).1 ≠ 0
    · have HA := hide (refusalT_from hLl hC)
      have hC' : ((checkT (sl s)).1 != 0) = true := by rw [bne_iff_ne]; exact hC
      generalize refusalT (sl s) (sl t) = A at *
      generalize checkT (sl s) = c at *
      clear hC hL hLl HC2
      go_enter Tryd.func25, Tryd.ntmps25
      go_wp2_with fail
      refine (unhide HC1 _).mono ?_
      rintro e w1 ⟨rfl, hb1⟩
      go_wp2
      go_ret
      exact ⟨ret_int (unhide HA).symm, hb1⟩
    · have hc0 : (checkT (sl s)).1 = 0 := Classical.not_not.1 hC
      have HA := hide (refusalT_to hLl hc0)
      rw [hc0] at HC1
      generalize refusalT (sl s) (sl t) = A at *
      generalize (checkT (sl s)).2 = c2 at *
      generalize checkT (sl t) = d at *
      clear hC hL hLl hc0
      go_enter Tryd.func25, Tryd.ntmps25
      go_wp2_with fail
      refine (unhide HC1 _).mono ?_
      rintro e w1 ⟨rfl, hb1⟩
      go_wp2_with fail
      refine (unhide HC2 _).mono ?_
      rintro e w2 ⟨rfl, hb2⟩
      go_wp2
      go_ret
      exact ⟨ret_int (unhide HA).symm, hb1.trans (hb2.mono hb1.size)⟩
set_option maxHeartbeats 2000000 in
theorem without_any (ss : List St) (m : Nat) (ao : Option Addr) (cap : Nat) (w : World) (hrow : Row w ao ss.length 4 (stCells ss)) (hl : ss.length ≤ 8000) :
    Calls Tryd.prog 49 #[.slice ao ss.length cap, .int .i64 m] w fun e w' => (∃ ao' cap', e = .returned (.slice ao' (ss.eraseIdx m).length cap') ∧ Row w' ao' (ss.eraseIdx m).length 4 (stCells (ss.eraseIdx m))) ∧ Below w.heap.size w w' := by
  obtain ⟨i0, hi, hz0, hz1, hz2⟩ := info_parts Tryd.infoRStep
  have HROW := hide hrow
  clear hrow
  go_enter Tryd.func49, Tryd.ntmps49
  go_wp2
  go_loopw [5, 6] (fun v i wr => ∃ k : Nat, ∃ out : List St, k ≤ ss.length ∧ i = .int .i64 k ∧ wr.ownsRow w.heap.size 115 4 v out.length (stCells out) ∧ Below w.heap.size w wr ∧ Hid (WoInv ss m k out)) (fun _ i _ => ss.length - (intOf i).toNat)
  case atStart => exact ⟨0, [], Nat.zero_le _, rfl, World.ownsRow_nil _ _ _ _, Below.refl _ _, hide (by simp [WoInv])⟩
  case round =>
    obtain ⟨k, out, hk, rfl, hown, hbel, HI⟩ := hrel
    have hnl := woInv_len (unhide HI)
    have hsz := hbel.size
    by_cases hlt : k < ss.length
    · obtain ⟨g, hao, hg, c0, c1, c2, c3⟩ := st_cells ((unhide HROW).below hbel) hlt
      rw [hao]
      clear hao
      by_cases hq : k = m
      · subst hq
        have HI2 := hide (woInv_no (unhide HI) hlt)
        generalize ss[k] = st at *
        go_wp2
        go_roundw
        case rel => exact ⟨k + 1, out, by omega, by go_num, hown, hbel, HI2⟩
        case measure => simp [intOf]; omega
      · have HI2 := hide (woInv_yes (unhide HI) hlt hq)
        have hq' : ((k : Int) != (m : Int)) = true := by rw [bne_iff_ne]; omega
        have hq2 : ¬ (k : Int) = (m : Int) := by omega
        generalize ss[k] = st at *
        go_wp2_with (first
          | (at_builtin; (refine wpList_append_own _ rfl _ _ 92 rfl w.heap.size 115 i0 (.agg #[.int .u8 0, .int .i64 0, .int .i64 0, .string ByteArray.empty]) 4 40 Tryd.underlying92 hi hz0 hz1 hz2 rfl (by decide) _ _ _ rfl (own_below hown ((Below.refl _ _).alloc (by simp) _)) ⟨wr.heap.size, 0, none⟩ 1 1 [.int .u8 st.kind.toNat, .int .i64 st.node.id, .int .i64 st.node.parent, .string (bs st.node.name)] rfl rfl (news_four _ _ _ _ _) (by simp [Value.oneCell']) (by unfold maxLen; omega) (by omega) (by simp; omega) ?_))
          | go_in)
        intro v' w4 hown' hgrow _
        have hb4 : Below w.heap.size w w4 := (hbel.alloc (by omega) _).grown hgrow (by simp; omega) (own_ge hown)
        have hown2 : w4.ownsRow w.heap.size 115 4 v' (out ++ [st]).length (stCells (out ++ [st])) := by rw [stCells_snoc, List.length_append]; exact hown'
        clear hgrow hown hbel hown'
        go_wp2
        go_roundw
        case rel => exact ⟨k + 1, _, by omega, by go_num, hown2, hb4, HI2⟩
        case measure => simp [intOf]; omega
    · have HF := hide (woInv_end (unhide HI) hlt)
      go_wp2
      go_ret
      rw [unhide HF]
      obtain ⟨ao', cap', rfl, hr⟩ := row_of_owns hown
      exact ⟨⟨ao', cap', rfl, hr⟩, hbel⟩
end Go.Proofs.YtdcjimlhaklhfaaDoor

namespace Go.Proofs.YtdcjimlhaklhfaaDoor
open Go.RowKit
theorem nd_neq (m n : Nd) : ((m.id == n.id) && ((m.parent == n.parent) && ((bs m.name).toList == (bs n.name).toList))) = ndEq m n := by
  unfold ndEq; rw [names_eq]
theorem Tryd.nodeGuard : Tryd.prog.eqGuardType Tryd.prog.depth 110 = false := by kernel_rfl
theorem Tryd.nodeHeld : Tryd.prog.stoodInHeld 110 = false := by kernel_rfl
theorem node_eq_run (m n : Nd) (W : World) : (Op.equalIn 10000 110 (.agg #[.int .i64 m.id, .int .i64 m.parent, .string (bs m.name)]) (.agg #[.int .i64 n.id, .int .i64 n.parent, .string (bs n.name)])).run Tryd.prog W = .ok (ndEq m n) W := by
  rw [run_equalIn_agg W 9999 110 _ _ (by simp [Program.fieldsOf, Tryd.underlying110]) Tryd.nodeHeld]
  simp [Program.fieldsOf, Tryd.underlying110, Op.eqFields, go_sem]
  rw [← nd_neq]
  by_cases h1 : m.id = n.id <;> by_cases h2 : m.parent = n.parent <;> by_cases h3 : (bs m.name).toList = (bs n.name).toList <;> simp [h1, h2, h3]
set_option maxHeartbeats 4000000 in
set_option maxRecDepth 100000 in
theorem homes_any (a b : List Nd) (ao bo : Option Addr) (ca cb : Nat) (w : World) (ha : Row w ao a.length 3 (ndCells a)) (hb : Row w bo b.length 3 (ndCells b)) (hla : a.length ≤ 4000) (hlb : b.length ≤ 4000) :
    Calls Tryd.prog 47 #[.slice ao a.length ca, .slice bo b.length cb] w fun e w' => (∃ ao' cap', e = .returned (.slice ao' (homesR a b).length cap') ∧ Row w' ao' (homesR a b).length 4 (stCells (homesR a b))) ∧ Below w.heap.size w w' := by
  obtain ⟨i0, hi, hz0, hz1, hz2⟩ := info_parts Tryd.infoRStep
  have HA := hide ha
  have HB := hide hb
  clear ha hb
  go_enter Tryd.func47, Tryd.ntmps47
  go_wp2
  go_loopw [5, 6] (fun v i wr => ∃ k : Nat, ∃ out : List St, k ≤ b.length ∧ i = .int .i64 k ∧ wr.ownsRow w.heap.size 115 4 v out.length (stCells out) ∧ Below w.heap.size w wr ∧ Hid (HbInv a b k out)) (fun _ i _ => b.length - (intOf i).toNat)
  case atStart => exact ⟨0, [], Nat.zero_le _, rfl, World.ownsRow_nil _ _ _ _, Below.refl _ _, hide rfl⟩
  case round =>
    obtain ⟨k, out, hk, rfl, hown, hbel, HI⟩ := hrel
    have hnl := hbInv_len (unhide HI) hk
    have hsz := hbel.size
    by_cases hlt : k < b.length
    · obtain ⟨g, hao, hg, c0, c1, c2⟩ := nd_cells (unhide HB) hbel hlt
      have HF := hide (find_any a (b[k]).id ao ca wr ((unhide HA).below hbel) hla)
      rw [hao]
      clear hao
      by_cases hf : findN a (b[k]).id < a.length
      · obtain ⟨q1, q2⟩ := lookR_some hf
        obtain ⟨g2, hao2, hg2, d0, d1, d2⟩ := nd_cells (unhide HA) hbel hf
        rw [q2] at HF
        rw [hao2] at HF ⊢
        clear hao2 q2
        cases hq : ndEq (a[findN a (b[k]).id]) (b[k])
        · have HI2 := hide (hbInv_next (unhide HI) hlt (homeB_else q1 hq))
          have hq3 := (nd_neq (a[findN a (b[k]).id]) (b[k])).trans hq
          clear q1
          generalize hfn : findN a (b[k]).id = fn at *
          clear hfn
          have hfn0 : (0 : Int) ≤ fn := by omega
          have hfn1 : (fn : Int) < a.length := by omega
          generalize a[fn] = m at *
          generalize b[k] = n at *
          have hne := node_eq_run m n
          have hgd := Tryd.nodeGuard
          rw [hq] at hne
          go_wp2_with fail
          refine (unhide HF).mono ?_
          rintro e w' ⟨rfl, rfl⟩
          go_wp2
          go_quiet (fail)
          go_wp2_with (first
            | (at_builtin; (refine wpList_append_own _ rfl _ _ 92 rfl w.heap.size 115 i0 (.agg #[.int .u8 0, .int .i64 0, .int .i64 0, .string ByteArray.empty]) 4 40 Tryd.underlying92 hi hz0 hz1 hz2 rfl (by decide) _ _ _ rfl (own_below hown ((below_drewN (Below.refl _ _) _).alloc (by simp) _)) ⟨w'.heap.size, 0, none⟩ 1 1 [.int .u8 61, .int .i64 n.id, .int .i64 n.parent, .string (bs n.name)] rfl rfl (news_four _ _ _ _ _) (by simp [Value.oneCell']) (by unfold maxLen; omega) (by omega) (by simp; omega) ?_))
            | go_in)
          intro v' w4 hown' hgrow _
          have hb4 : Below w.heap.size w w4 := ((below_drewN hbel _).alloc (by simp; omega) _).grown hgrow (by simp; omega) (own_ge hown)
          have hown2 : w4.ownsRow w.heap.size 115 4 v' (out ++ [(⟨61, n⟩ : St)]).length (stCells (out ++ [(⟨61, n⟩ : St)])) := by rw [stCells_snoc, List.length_append]; exact hown'
          clear hgrow hown hbel hown'
          go_wp2
          go_roundw
          case rel => exact ⟨k + 1, _, by omega, by go_num, hown2, hb4, HI2⟩
          case measure => simp [intOf]; omega
        · have HI2 := hide (hbInv_next (unhide HI) hlt (homeB_same q1 hq))
          rw [List.append_nil] at HI2
          clear q1
          generalize hfn : findN a (b[k]).id = fn at *
          clear hfn
          have hfn0 : (0 : Int) ≤ fn := by omega
          have hfn1 : (fn : Int) < a.length := by omega
          generalize a[fn] = m at *
          generalize b[k] = n at *
          have hne := node_eq_run m n
          have hgd := Tryd.nodeGuard
          rw [hq] at hne
          go_wp2_with fail
          refine (unhide HF).mono ?_
          rintro e w' ⟨rfl, rfl⟩
          go_wp2
          go_quiet (fail)
          go_wp2
          go_roundw
          case rel => exact ⟨k + 1, out, by omega, by go_num, own_below hown (below_drewN (Below.refl _ _) _), below_drewN hbel _, HI2⟩
          case measure => simp [intOf]; omega
      · obtain ⟨q1, q2⟩ := lookR_none hf
        have HI2 := hide (hbInv_next (unhide HI) hlt (homeB_new q1))
        rw [q2] at HF
        clear q1 q2 hf
        generalize b[k] = n at *
        go_wp2_with fail
        refine (unhide HF).mono ?_
        rintro e w' ⟨rfl, rfl⟩
        go_wp2_with (first
          | (at_builtin; (refine wpList_append_own _ rfl _ _ 92 rfl w.heap.size 115 i0 (.agg #[.int .u8 0, .int .i64 0, .int .i64 0, .string ByteArray.empty]) 4 40 Tryd.underlying92 hi hz0 hz1 hz2 rfl (by decide) _ _ _ rfl (own_below hown ((Below.refl _ _).alloc (by simp) _)) ⟨w'.heap.size, 0, none⟩ 1 1 [.int .u8 43, .int .i64 n.id, .int .i64 n.parent, .string (bs n.name)] rfl rfl (news_four _ _ _ _ _) (by simp [Value.oneCell']) (by unfold maxLen; omega) (by omega) (by simp; omega) ?_))
          | go_in)
        intro v' w4 hown' hgrow _
        have hb4 : Below w.heap.size w w4 := (hbel.alloc (by omega) _).grown hgrow (by simp; omega) (own_ge hown)
        have hown2 : w4.ownsRow w.heap.size 115 4 v' (out ++ [(⟨43, n⟩ : St)]).length (stCells (out ++ [(⟨43, n⟩ : St)])) := by rw [stCells_snoc, List.length_append]; exact hown'
        clear hgrow hown hbel hown'
        go_wp2
        go_roundw
        case rel => exact ⟨k + 1, _, by omega, by go_num, hown2, hb4, HI2⟩
        case measure => simp [intOf]; omega
    · have HI2 := hide (hbInv_end (unhide HI) hlt)
      clear HI hk
      go_wp2
      clear hlt
      go_loopw [5, 8] (fun v i wr => ∃ k : Nat, ∃ out : List St, k ≤ a.length ∧ i = .int .i64 k ∧ wr.ownsRow w.heap.size 115 4 v out.length (stCells out) ∧ Below w.heap.size w wr ∧ Hid (HaInv a b k out)) (fun _ i _ => a.length - (intOf i).toNat)
      case atStart => exact ⟨0, out, Nat.zero_le _, rfl, hown, hbel, HI2⟩
      case round =>
        clear HI2 hbel hown hnl hsz
        obtain ⟨k, out, hk, rfl, hown, hbel, HI⟩ := hrel
        have hnl := haInv_len (unhide HI) hk
        have hsz := hbel.size
        by_cases hlt : k < a.length
        · obtain ⟨g, hao, hg, c0, c1, c2⟩ := nd_cells (unhide HA) hbel hlt
          have HF := hide (find_any b (a[k]).id bo cb wr ((unhide HB).below hbel) hlb)
          rw [hao]
          clear hao
          by_cases hf : findN b (a[k]).id < b.length
          · obtain ⟨q1, q2⟩ := lookR_some hf
            have HI2 := hide (haInv_next (unhide HI) hlt (homeA_kept q1))
            rw [List.append_nil] at HI2
            rw [q2] at HF
            clear q1 q2
            generalize findN b (a[k]).id = fn at *
            generalize a[k] = n at *
            go_wp2_with fail
            refine (unhide HF).mono ?_
            rintro e w' ⟨rfl, rfl⟩
            go_wp2
            go_roundw
            case rel => exact ⟨k + 1, out, by omega, by go_num, hown, hbel, HI2⟩
            case measure => simp [intOf]; omega
          · obtain ⟨q1, q2⟩ := lookR_none hf
            have HI2 := hide (haInv_next (unhide HI) hlt (homeA_gone q1))
            rw [q2] at HF
            clear q1 q2 hf
            generalize a[k] = n at *
            go_wp2_with fail
            refine (unhide HF).mono ?_
            rintro e w' ⟨rfl, rfl⟩
            go_wp2_with (first
              | (at_builtin; (refine wpList_append_own _ rfl _ _ 92 rfl w.heap.size 115 i0 (.agg #[.int .u8 0, .int .i64 0, .int .i64 0, .string ByteArray.empty]) 4 40 Tryd.underlying92 hi hz0 hz1 hz2 rfl (by decide) _ _ _ rfl (own_below hown ((Below.refl _ _).alloc (by simp) _)) ⟨w'.heap.size, 0, none⟩ 1 1 [.int .u8 45, .int .i64 n.id, .int .i64 0, .string ⟨#[]⟩] rfl rfl (news_four _ _ _ _ _) (by simp [Value.oneCell']) (by unfold maxLen; omega) (by omega) (by simp; omega) ?_))
              | go_in)
            intro v' w4 hown' hgrow _
            have hb4 : Below w.heap.size w w4 := (hbel.alloc (by omega) _).grown hgrow (by simp; omega) (own_ge hown)
            have hown2 : w4.ownsRow w.heap.size 115 4 v' (out ++ [(⟨45, ⟨n.id, 0, []⟩⟩ : St)]).length (stCells (out ++ [(⟨45, ⟨n.id, 0, []⟩⟩ : St)])) := by rw [stCells_snoc, List.length_append]; exact hown'
            clear hgrow hown hbel hown'
            go_wp2
            go_roundw
            case rel => exact ⟨k + 1, _, by omega, by go_num, hown2, hb4, HI2⟩
            case measure => simp [intOf]; omega
        · have HE := hide (haInv_end (unhide HI) hlt)
          go_wp2
          go_ret
          rw [unhide HE]
          obtain ⟨ao', cap', rfl, hr⟩ := row_of_owns hown
          exact ⟨⟨ao', cap', rfl, hr⟩, hbel⟩
end Go.Proofs.YtdcjimlhaklhfaaDoor

namespace Go.Proofs.YtdcjimlhaklhfaaDoor
open Go.RowKit
/-! Which step home waits for which. -/
def kidOfR (a : List Nd) (id p : Int) : Bool := match lookR a id with
  | none => false
  | some m => m.parent == p
def waitsR (a b : List Nd) (s o : St) : Bool :=
  if s.kind = 45 then o.kind != 43 && kidOfR a o.node.id s.node.id
  else if o.kind != 43 && takenR a s.node.parent s.node.name == o.node.id && takenR a s.node.parent s.node.name != s.node.id then true
  else if o.kind = 45 then false
  else if s.kind = 43 then o.kind == 43 && o.node.id == s.node.parent
  else belowR b s.node.id o.node.id
def FreeAt (a b : List Nd) (left : List St) (s : St) : Prop := ∀ o ∈ left, waitsR a b s o = false
inductive Elim (a b : List Nd) : List St → Prop
  | nil : Elim a b []
  | step {left : List St} {k : Nat} (hk : k < left.length) (hf : FreeAt a b left left[k]) (h : Elim a b (left.eraseIdx k)) : Elim a b left
theorem elim_pick {a b : List Nd} {L : List St} (h : Elim a b L) : ∀ (S : St → Prop), (∀ s, S s → s ∈ L) → (∃ s, S s) → ∃ s, S s ∧ ∀ o, S o → waitsR a b s o = false := by
  induction h with
  | nil => rintro S hs ⟨s, h⟩; have := hs s h; simp at this
  | @step left k hk hf _ ih =>
    intro S hs hne
    by_cases hin : S left[k]
    · exact ⟨_, hin, fun o ho => hf o (hs o ho)⟩
    · refine ih S (fun s h => ?_) hne
      obtain ⟨i, hi, e⟩ := List.mem_iff_getElem.1 (hs s h)
      rw [List.mem_eraseIdx_iff_getElem]
      refine ⟨i, hi, fun e2 => ?_, e⟩
      subst e2; rw [e] at hin; exact hin h
theorem taker_waits {na nb : List Nd} {a g t : Tr} (ra : Rep na a) (hva : Valid a) (hvt : Valid t) (hvg : Valid g) (hmid : ∀ i, t i = a i ∨ t i = g i) {s : St} (hk : s.kind ≠ 45) (hn : g s.node.id.toNat = some s.node) (h1 : 1 ≤ s.node.id) (h0 : atT t s.node.parent s.node.name ≠ 0) (hne : atT t s.node.parent s.node.name ≠ s.node.id) :
    ∃ o, 1 ≤ o.node.id ∧ o.node.id ≤ 99 ∧ homeS t g o.node.id = some o ∧ waitsR na nb s o = true := by
  obtain ⟨y1, y2, my, hmy, hp, hnm⟩ := atT_hit h0
  obtain ⟨o, ho, hk43, _⟩ := taker_away hvt hvg h1 hn h0 hne
  generalize hy : atT t s.node.parent s.node.name = y at *
  have hoi := (home_ok hvg.ok y1 y2 ho).2
  refine ⟨o, by rw [hoi]; exact y1, by rw [hoi]; exact y2, by rw [hoi]; exact ho, ?_⟩
  have hta : a y.toNat = some my := by
    rcases hmid y.toNat with e | e
    · rw [← e]; exact hmy
    · rw [home_none.2 e] at ho; cases ho
  have hat : atT a s.node.parent s.node.name = y := by
    by_cases hz : atT a s.node.parent s.node.name = 0
    · exact (atT_none hz y.toNat my (by omega) (by omega) hta hp hnm).elim
    · have := atT_some hva hz y.toNat my hta hp hnm
      rw [← this]; omega
  unfold waitsR
  rw [if_neg hk, taken_same ra hva, hat, hoi, if_pos]
  simp [hk43, hne]
theorem free_does {na nb : List Nd} {a g t : Tr} (ra : Rep na a) (rg : Rep nb g) (hva : Valid a) (hvt : Valid t) (hvg : Valid g) (hmid : ∀ i, t i = a i ∨ t i = g i) {s : St} (h1 : 1 ≤ s.node.id) (h2 : s.node.id ≤ 99) (hs : homeS t g s.node.id = some s)
    (hfree : ∀ o : St, 1 ≤ o.node.id → o.node.id ≤ 99 → homeS t g o.node.id = some o → waitsR na nb s o = false) : stepE t s = 0 := by
  rcases home_cases hs with ⟨e, hgn, m, hm⟩ | ⟨n, e, hgn, han⟩ | ⟨n, m, e, hgn, hm, hmn⟩
  · -- a deletion
    have hk : s.kind = 45 := by rw [e]
    have hkid : kidT t s.node.id = 0 := by
      apply Classical.byContradiction
      intro hne
      obtain ⟨k1, k2, mk, hmk, hpk⟩ := kidT_hit hne
      generalize kidT t s.node.id = k at *
      have haway : ∃ o, homeS t g k = some o ∧ o.kind ≠ 43 := by
        cases hgk : g k.toNat with
        | none => exact ⟨_, home_del hmk hgk, by show (45 : UInt8) ≠ 43; decide⟩
        | some nk =>
          refine ⟨_, home_move hmk hgk (fun e => ?_), by show (61 : UInt8) ≠ 43; decide⟩
          subst e
          have := hvg.parent _ mk hgk
          rw [hpk] at this
          rcases isParent_iff.1 this with h0 | ⟨_, x, hx⟩
          · omega
          · rw [hgn] at hx; cases hx
      obtain ⟨o, ho, ho43⟩ := haway
      have hoi := (home_ok hvg.ok k1 k2 ho).2
      have hta : a k.toNat = some mk := by
        rcases hmid k.toNat with e | e
        · rw [← e]; exact hmk
        · rw [home_none.2 e] at ho; cases ho
      have := hfree o (by rw [hoi]; exact k1) (by rw [hoi]; exact k2) (by rw [hoi]; exact ho)
      unfold waitsR kidOfR at this
      rw [if_pos hk, hoi, rep_look ra hva.ok, hta] at this
      simp [ho43, hpk] at this
    unfold stepE deleteE
    rw [if_neg (by rw [hk]; decide), if_neg (by rw [hk]; decide), if_pos hk, kids_kid, hkid, hasT_iff.2 ⟨m, hm⟩]; rfl
  · -- a creation
    have hk : s.kind = 43 := by rw [e]
    have hsn : s.node = n := by rw [e]
    have hgs : g s.node.id.toNat = some s.node := by rw [hgn, hsn]
    have hpar : isParentT t s.node.parent = true := by
      cases hp : isParentT t s.node.parent
      · exfalso
        obtain ⟨p1, p2, k, hk2, hh⟩ := parent_away hvg h1 hgs hp
        have hki := (trOk_id hvg.ok (by omega) hk2).1
        have := hfree ⟨43, k⟩ (by show 1 ≤ k.id; omega) (by show k.id ≤ 99; omega) (by show homeS t g k.id = _; rw [hki]; exact hh)
        unfold waitsR at this
        rw [if_neg (by rw [hk]; decide)] at this
        simp [hk, hki] at this
      · rfl
    have hat : atT t s.node.parent s.node.name = 0 := by
      apply Classical.byContradiction
      intro hne
      obtain ⟨_, _, my, hmy, _⟩ := atT_hit hne
      obtain ⟨o, o1, o2, o3, o4⟩ := taker_waits (nb := nb) ra hva hvt hvg hmid (by rw [hk]; decide) hgs h1 hne (fun e2 => by rw [e2, han] at hmy; cases hmy)
      rw [hfree o o1 o2 o3] at o4; cases o4
    unfold stepE createE
    rw [if_pos hk, hpar, hat]
    have : hasT t s.node.id = false := by unfold hasT; rw [han]; rfl
    rw [this]; rfl
  · -- a move
    have hk : s.kind = 61 := by rw [e]
    have hsn : s.node = n := by rw [e]
    have hgs : g s.node.id.toNat = some s.node := by rw [hgn, hsn]
    have hidb := trOk_id hvg.ok (by omega) hgs
    -- all above it in the second tree are home
    have habove : ∀ p : Int, 0 ≤ p → Goes g s.node.parent p → ∀ k, g p.toNat = some k → t p.toNat = some k := by
      intro p hp0 hgo k hgk
      have hpb := trOk_id hvg.ok hp0 hgk
      cases hq : homeS t g p with
      | none => rw [home_none.1 hq]; exact hgk
      | some o =>
        exfalso
        have hoi := (home_ok hvg.ok hpb.2.1 hpb.2.2.1 hq).2
        have hw := hfree o (by rw [hoi]; exact hpb.2.1) (by rw [hoi]; exact hpb.2.2.1) (by rw [hoi]; exact hq)
        have ho45 : ¬ o.kind = 45 := by
          rcases home_cases hq with ⟨_, h0, _⟩ | ⟨_, rfl, _⟩ | ⟨_, _, rfl, _⟩
          · rw [hgk] at h0; cases h0
          · show ¬ ((43 : UInt8) = 45); decide
          · show ¬ ((61 : UInt8) = 45); decide
        have hne : s.node.id ≠ p := fun e2 => no_loop hvg h1 hgs (by rw [e2]; exact hgo)
        have hbel : belowR nb s.node.id p = true := by
          have h3 := meets_same rg hvg.ok s.node.id p
          rw [(goes_meets hvg.ok).2 (goes_up hgs hgo)] at h3
          simpa [hne] using h3
        unfold waitsR at hw
        rw [if_neg (by rw [hk]; decide)] at hw
        split at hw
        · cases hw
        · rw [if_neg (by rw [hk]; decide), hoi, hbel] at hw; cases hw
    have hpar : isParentT t s.node.parent = true := by
      rcases isParent_iff.1 (hvg.parent _ _ hgs) with h0 | ⟨he, k, hk2⟩
      · exact isParent_iff.2 (.inl h0)
      · exact isParent_iff.2 (.inr ⟨he, k, habove _ hidb.2.2.2.2.2.1 (goes_here g _) k hk2⟩)
    have hme : meetsT t s.node.parent s.node.id = false := by
      have key : ∀ f p, 0 ≤ p → Goes g s.node.parent p → isParentT g p = true → meetsF t f p s.node.id = true → Goes g p s.node.id := by
        intro f
        induction f with
        | zero => intro p _ _ _ h; cases h
        | succ f ih =>
          intro p hp0 hgo hpp h
          by_cases e2 : p = s.node.id
          · rw [e2]; exact goes_here g _
          · rcases isParent_iff.1 hpp with h0 | ⟨_, k, hk2⟩
            · rw [h0, meetsF, if_neg (by omega)] at h
              simp only [Int.toNat_zero] at h
              rw [hvt.ok.1] at h; cases h
            · have htk := habove p hp0 hgo k hk2
              rw [meets_succ e2 htk] at h
              have hkb := trOk_id hvg.ok hp0 hk2
              have hgo2 : Goes g s.node.parent k.parent := by
                obtain ⟨f0, hf0⟩ := hgo
                have tr : ∀ f x, meetsF g f x p = true → Goes g x k.parent := by
                  intro f
                  induction f with
                  | zero => intro x h; cases h
                  | succ f ih2 =>
                    intro x hx
                    by_cases e3 : x = p
                    · rw [e3]; exact goes_up hk2 (goes_here g _)
                    · cases hxx : g x.toNat with
                      | none => rw [meetsF, if_neg e3, hxx] at hx; cases hx
                      | some y => rw [meets_succ e3 hxx] at hx; exact goes_up hxx (ih2 _ hx)
                exact tr f0 _ hf0
              exact goes_up hk2 (ih k.parent hkb.2.2.2.2.2.1 hgo2 (hvg.parent _ k hk2) h)
      cases hq : meetsT t s.node.parent s.node.id
      · rfl
      · exact absurd (key 100 _ hidb.2.2.2.2.2.1 (goes_here g _) (hvg.parent _ _ hgs) hq) (no_loop hvg h1 hgs)
    have hat : (atT t s.node.parent s.node.name != 0 && atT t s.node.parent s.node.name != s.node.id) = false := by
      cases hq : (atT t s.node.parent s.node.name != 0 && atT t s.node.parent s.node.name != s.node.id)
      · rfl
      · exfalso
        rw [Bool.and_eq_true, bne_iff_ne, bne_iff_ne] at hq
        obtain ⟨o, o1, o2, o3, o4⟩ := taker_waits (nb := nb) ra hva hvt hvg hmid (by rw [hk]; decide) hgs h1 hq.1 hq.2
        rw [hfree o o1 o2 o3] at o4; cases o4
    unfold stepE moveE
    rw [if_neg (by rw [hk]; decide), if_pos hk, hpar, hme, hat, hasT_iff.2 ⟨m, hm⟩]; rfl
theorem seg_nopark {na nb : List Nd} {a g : Tr} (ra : Rep na a) (rg : Rep nb g) (hva : Valid a) (hvg : Valid g) (hel : Elim na nb (homesR na nb)) {t b : Tr} {ss : List St} (h : Seg g t ss b) :
    Valid t → (∀ i, t i = a i ∨ t i = g i) → b = g → ∀ left, LeftInv left t g → ss.length = left.length := by
  induction h with
  | nil t =>
    intro _ _ hb left hl
    subst hb
    rw [left_end hl]
  | @home t b i s ss h1 h2 hs he _ ih =>
    intro hvt hmid hb left hl
    have hoi := (home_ok hvg.ok h1 h2 hs).2
    have hm : s ∈ left := (hl.mem s).2 ⟨by rw [hoi]; exact h1, by rw [hoi]; exact h2, by rw [hoi]; exact hs⟩
    obtain ⟨k, hk, e⟩ := List.mem_iff_getElem.1 hm
    have hd := home_done hvg.ok h1 hs he
    have := ih (valid_step hvt (home_ok hvg.ok h1 h2 hs).1) (fun j => by
      rw [hd]
      by_cases e2 : (j : Int) = i
      · rw [if_pos e2]; exact .inr rfl
      · rw [if_neg e2]; exact hmid j) hb (left.eraseIdx k) (by have := left_erase hl hvg.ok hk (by rw [e]; exact he); rwa [e] at this)
    rw [List.length_eraseIdx_of_lt hk] at this
    rw [List.length_cons]; omega
  | @park t b i n ss h1 h2 hno hs hp he _ ih =>
    intro hvt hmid hb left hl
    exfalso
    have hstart := left_start ra rg hva.ok hvg.ok
    obtain ⟨s, ⟨s1, s2, s3⟩, hfree⟩ := elim_pick hel (fun s => 1 ≤ s.node.id ∧ s.node.id ≤ 99 ∧ homeS t g s.node.id = some s) (fun s ⟨s1, s2, s3⟩ => by
      refine (hstart.mem s).2 ⟨s1, s2, ?_⟩
      rcases hmid s.node.id.toNat with e | e
      · rw [← s3]; exact (home_congr e).symm
      · rw [home_none.2 e] at s3; cases s3) ⟨⟨61, n⟩, by
        have hoi := (home_ok hvg.ok h1 h2 hs).2
        exact ⟨by rw [hoi]; exact h1, by rw [hoi]; exact h2, by rw [hoi]; exact hs⟩⟩
    exact hno s.node.id s s1 s2 s3 (free_does ra rg hva hvt hvg hmid s1 s2 s3 (fun o o1 o2 o3 => hfree o ⟨o1, o2, o3⟩))
theorem make_nopark {na nb : List Nd} {a g : Tr} (ra : Rep na a) (rg : Rep nb g) (hva : Valid a) (hvg : Valid g) (hel : Elim na nb (homesR na nb)) : (makeT a g).length = (homesR na nb).length :=
  seg_nopark ra rg hva hvg hel (makeT_seg hva hvg) hva (fun _ => .inl rfl) rfl _ (left_start ra rg hva.ok hvg.ok)
end Go.Proofs.YtdcjimlhaklhfaaDoor

namespace Go.Proofs.YtdcjimlhaklhfaaDoor
open Go.RowKit
theorem kind_eq (k : UInt8) (n : Nat) (hn : n < 256) : (((k.toNat : Int) == (n : Int)) = (k == UInt8.ofNat n)) := by
  rw [Bool.eq_iff_iff, beq_iff_eq, beq_iff_eq]
  constructor
  · intro h; exact UInt8.toNat_inj.1 (by rw [UInt8.toNat_ofNat_of_lt' (by simpa using hn)]; omega)
  · intro h; rw [h, UInt8.toNat_ofNat_of_lt' (by simpa using hn)]
theorem kind_43 (k : UInt8) : ((k.toNat : Int) == 43) = (k == 43) := kind_eq k 43 (by omega)
theorem kind_45 (k : UInt8) : ((k.toNat : Int) == 45) = (k == 45) := kind_eq k 45 (by omega)
theorem kind_43n (k : UInt8) : ((k.toNat : Int) != 43) = (k != 43) := by show (!((k.toNat : Int) == 43)) = !(k == 43); rw [kind_43]
theorem waits_1 {a b : List Nd} {s o : St} (h : s.kind = 45) : waitsR a b s o = (o.kind != 43 && kidOfR a o.node.id s.node.id) := by unfold waitsR; rw [if_pos h]
set_option maxHeartbeats 4000000 in
set_option maxRecDepth 100000 in
theorem waits_del (na nb : List Nd) (x y : Nd) (ok : UInt8) (ao bo : Option Addr) (ca cb : Nat) (w : World) (ha : Row w ao na.length 3 (ndCells na)) (hla : na.length ≤ 4000) :
    Calls Tryd.prog 69 #[.slice ao na.length ca, .slice bo nb.length cb, .agg #[.int .u8 45, .int .i64 x.id, .int .i64 x.parent, .string (bs x.name)], .agg #[.int .u8 ok.toNat, .int .i64 y.id, .int .i64 y.parent, .string (bs y.name)]] w fun e w' => e = .returned (.bool (waitsR na nb ⟨45, x⟩ ⟨ok, y⟩)) ∧ Below w.heap.size w w' := by
  rw [waits_1 rfl]
  have hb1 := ((Below.refl w.heap.size w).alloc (Nat.le_refl _) (.cells #[.int .u8 45, .int .i64 x.id, .int .i64 x.parent, .string (bs x.name)] 115))
  have hb2 := hb1.alloc hb1.size (.cells #[.int .u8 ok.toNat, .int .i64 y.id, .int .i64 y.parent, .string (bs y.name)] 115)
  have hb3 := hb2.alloc hb2.size (.cells #[.int .i64 x.id, .int .i64 x.parent, .string (bs x.name)] 110)
  have hrow3 := Row.below ha hb3
  have HF := hide (find_any na y.id ao ca _ hrow3 hla)
  have hkn := kind_43n ok
  have HB := hide hb3
  have HR := hide ha
  show Calls _ _ _ w fun e w' => e = .returned (.bool (ok != 43 && kidOfR na y.id x.id)) ∧ Below w.heap.size w w'
  unfold kidOfR
  by_cases hf : findN na y.id < na.length
  · obtain ⟨q1, q2⟩ := lookR_some hf
    obtain ⟨g, hao, hg, c0, c1, c2⟩ := nd_cells ha (Below.refl _ _) hf
    have hg3 : g < w.heap.size := hg
    rw [q1]
    simp only
    rw [q2] at HF
    rw [hao] at HF ⊢
    have hfn0 : (0 : Int) ≤ findN na y.id := by omega
    have hfn1 : (findN na y.id : Int) < na.length := by omega
    have hn1 : ¬ g = w.heap.size := by omega
    have hn2 : ¬ g = w.heap.size + 1 := by omega
    have hn3 : ¬ g = w.heap.size + 1 + 1 := by omega
    have hn4 : g < w.heap.size + 1 := by omega
    have hn5 : g < w.heap.size + 1 + 1 := by omega
    clear hb1 hb2 hb3 hrow3 ha q1 q2 hao
    generalize na[findN na y.id] = m at *
    generalize findN na y.id = fn at *
    cases hq : (ok != 43)
    · rw [hq] at hkn
      go_enter Tryd.func69, Tryd.ntmps69
      go_wp2_with fail
      refine (unhide HF).mono ?_
      rintro e w1 ⟨rfl, rfl⟩
      go_wp2
      go_quiet (fail)
      go_wp2
      go_ret
      exact ⟨rfl, below_drewN (unhide HB) _⟩
    · rw [hq] at hkn
      go_enter Tryd.func69, Tryd.ntmps69
      go_wp2_with fail
      refine (unhide HF).mono ?_
      rintro e w1 ⟨rfl, rfl⟩
      go_wp2
      go_quiet (fail)
      go_wp2
      go_ret
      exact ⟨by first | rfl | (rw [Bool.true_and]), below_drewN (unhide HB) _⟩
  · obtain ⟨q1, q2⟩ := lookR_none hf
    rw [q1]
    simp only [Bool.and_false]
    rw [q2] at HF
    clear hb1 hb2 hb3 hrow3 ha q1 q2
    cases hq : (ok != 43)
    all_goals
      rw [hq] at hkn
      go_enter Tryd.func69, Tryd.ntmps69
      go_wp2_with fail
      refine (unhide HF).mono ?_
      rintro e w1 ⟨rfl, rfl⟩
      go_wp2
      go_quiet (fail)
      go_wp2
      go_ret
      exact ⟨rfl, below_drewN (unhide HB) _⟩
end Go.Proofs.YtdcjimlhaklhfaaDoor

namespace Go.Proofs.YtdcjimlhaklhfaaDoor
open Go.RowKit
theorem waits_2 {a b : List Nd} {s o : St} (h : s.kind ≠ 45) : waitsR a b s o =
    (if (o.kind != 43 && takenR a s.node.parent s.node.name == o.node.id && takenR a s.node.parent s.node.name != s.node.id) then true else if (o.kind == 45) then false else if (s.kind == 43) then (!(o.kind != 43) && o.node.id == s.node.parent) else belowR b s.node.id o.node.id) := by
  unfold waitsR
  rw [if_neg h]
  by_cases hA : (o.kind != 43 && takenR a s.node.parent s.node.name == o.node.id && takenR a s.node.parent s.node.name != s.node.id) = true
  · rw [if_pos hA, if_pos hA]
  · rw [if_neg hA, if_neg hA]
    by_cases h45 : o.kind = 45
    · simp [h45]
    · by_cases h43 : s.kind = 43
      · simp [h45, h43, bne]
      · simp [h45, h43]
set_option maxHeartbeats 8000000 in
set_option maxRecDepth 100000 in
theorem waits_put (na nb : List Nd) (x y : Nd) (sk ok : UInt8) (hsk : sk = 43 ∨ sk = 61) (ao bo : Option Addr) (ca cb : Nat) (w : World) (ha : Row w ao na.length 3 (ndCells na)) (hla : na.length ≤ 4000) (hb : Row w bo nb.length 3 (ndCells nb)) (hlb : nb.length ≤ 4000) :
    Calls Tryd.prog 69 #[.slice ao na.length ca, .slice bo nb.length cb, .agg #[.int .u8 sk.toNat, .int .i64 x.id, .int .i64 x.parent, .string (bs x.name)], .agg #[.int .u8 ok.toNat, .int .i64 y.id, .int .i64 y.parent, .string (bs y.name)]] w fun e w' => e = .returned (.bool (waitsR na nb ⟨sk, x⟩ ⟨ok, y⟩)) ∧ Below w.heap.size w w' := by
  have HW := hide (waits_2 (a := na) (b := nb) (s := ⟨sk, x⟩) (o := ⟨ok, y⟩) (show sk ≠ 45 by rcases hsk with h | h <;> rw [h] <;> decide))
  have hb1 := ((Below.refl w.heap.size w).alloc (Nat.le_refl _) (.cells #[.int .u8 sk.toNat, .int .i64 x.id, .int .i64 x.parent, .string (bs x.name)] 115))
  have hb2 := hb1.alloc hb1.size (.cells #[.int .u8 ok.toNat, .int .i64 y.id, .int .i64 y.parent, .string (bs y.name)] 115)
  have hb3 := hb2.alloc hb2.size (.cells #[.int .i64 x.id, .int .i64 x.parent, .string (bs x.name)] 110)
  have HT := hide (taken_any na x.parent x.name ao ca _ (Row.below ha hb3) hla)
  have HBE := hide (below_any nb x.id y.id bo cb _ (Row.below hb hb3) hlb)
  have hk1 := kind_43n ok
  have hk2 := kind_45 ok
  have hk3 : ((ok.toNat : Int) == 43) = !(ok != 43) := by rw [kind_43]; cases h : (ok == 43) <;> simp [bne, h]
  have HB := hide hb3
  clear hb1 hb2 hb3 ha hb
  generalize waitsR na nb ⟨sk, x⟩ ⟨ok, y⟩ = R at *
  simp only at HW
  generalize takenR na x.parent x.name = T at *
  generalize belowR nb x.id y.id = D at *
  generalize hq1 : (ok != 43) = b1 at *
  generalize hq2 : (T == y.id) = b2 at *
  generalize hq3 : (T != x.id) = b3 at *
  generalize hq4 : (ok == 45) = b4 at *
  generalize hq5 : (y.id == x.parent) = b5 at *
  clear hq1 hq4
  rcases hsk with rfl | rfl
  all_goals
    rcases b1 <;> rcases b2 <;> rcases b3 <;> rcases b4
    all_goals
      simp at HW
      go_enter Tryd.func69, Tryd.ntmps69
      go_wp2_with fail
      refine (unhide HT).mono ?_
      rintro e w1 ⟨rfl, rfl⟩
      go_wp2_with (first | (go_at_call 83; refine (unhide HBE).mono ?_; rintro e w2 ⟨rfl, rfl⟩) | go_in)
      go_ret
      exact ⟨ret_bool (by rw [unhide HW]), unhide HB⟩
theorem waits_any (na nb : List Nd) (s o : St) (hs : StOk s) (ao bo : Option Addr) (ca cb : Nat) (w : World) (ha : Row w ao na.length 3 (ndCells na)) (hla : na.length ≤ 4000) (hb : Row w bo nb.length 3 (ndCells nb)) (hlb : nb.length ≤ 4000) :
    Calls Tryd.prog 69 #[.slice ao na.length ca, .slice bo nb.length cb, .agg #[.int .u8 s.kind.toNat, .int .i64 s.node.id, .int .i64 s.node.parent, .string (bs s.node.name)], .agg #[.int .u8 o.kind.toNat, .int .i64 o.node.id, .int .i64 o.node.parent, .string (bs o.node.name)]] w fun e w' => e = .returned (.bool (waitsR na nb s o)) ∧ Below w.heap.size w w' := by
  obtain ⟨sk, x⟩ := s
  obtain ⟨ok, y⟩ := o
  rcases hs with ⟨h, _⟩ | ⟨h, _⟩
  · exact waits_put na nb x y sk ok h ao bo ca cb w ha hla hb hlb
  · simp only at h
    subst h
    exact waits_del na nb x y ok ao bo ca cb w ha hla
end Go.Proofs.YtdcjimlhaklhfaaDoor

namespace Go.Proofs.YtdcjimlhaklhfaaDoor
open Go.RowKit
set_option maxHeartbeats 1000000 in
theorem homesCount_any (s t : ByteArray) (w : World) (hs : s.size ≤ 4000) (ht : t.size ≤ 4000) (h1 : ¬ (readNodes (cut (sl s))).length < (cut (sl s)).length) (h2 : ¬ (readNodes (cut (sl t))).length < (cut (sl t)).length) :
    Calls Tryd.prog 28 #[.string s, .string t] w fun e w' => e = .returned (.int .i64 (homesR (readNodes (cut (sl s))) (readNodes (cut (sl t)))).length) ∧ Below w.heap.size w w' := by
  have HN1 := hide (fun W => nodes_any s W hs)
  have HN2 := hide (fun W => nodes_any t W ht)
  have hl1 : (readNodes (cut (sl s))).length ≤ 4000 := by have h3 := readNodes_length (cut (sl s)); have := cut_length_le (sl s); rw [sl_length] at this; omega
  have hl2 : (readNodes (cut (sl t))).length ≤ 4000 := by have h3 := readNodes_length (cut (sl t)); have := cut_length_le (sl t); rw [sl_length] at this; omega
  generalize readNodes (cut (sl s)) = a at *
  generalize readNodes (cut (sl t)) = b at *
  have HH := hide (fun ao bo ca cb W ha hb => homes_any a b ao bo ca cb W ha hb hl1 hl2)
  have hhl := homesR_len a b
  generalize homesR a b = L at *
  go_enter Tryd.func28, Tryd.ntmps28
  go_wp2_with fail
  refine (unhide HN1 _).mono ?_
  rintro e w1 ⟨⟨hno, _⟩ | ⟨_, ao, ca, rfl, hr1, _⟩, hb1⟩
  · exact absurd hno h1
  · have HR1 := hide hr1
    have HB1 := hide hb1
    clear hr1 hb1
    go_wp2_with fail
    refine (unhide HN2 _).mono ?_
    rintro e w2 ⟨⟨hno, _⟩ | ⟨_, bo, cb, rfl, hr2, _⟩, hb2⟩
    · exact absurd hno h2
    · have HR1' := hide ((unhide HR1).below hb2)
      have HR2 := hide hr2
      have HB2 := hide ((unhide HB1).trans (hb2.mono (unhide HB1).size))
      clear hr2 hb2
      go_wp2_with fail
      refine (unhide HH _ _ _ _ _ (unhide HR1') (unhide HR2)).mono ?_
      rintro e w3 ⟨⟨ao', cap', rfl, hr3⟩, hb3⟩
      clear hr3
      go_wp2
      go_ret
      exact ⟨rfl, (unhide HB2).trans (hb3.mono (unhide HB2).size)⟩
end Go.Proofs.YtdcjimlhaklhfaaDoor

namespace Go.Proofs.YtdcjimlhaklhfaaDoor
open Go.RowKit
def freeR (na nb : List Nd) (left : List St) (s : St) : Bool := left.all (fun o => !waitsR na nb s o)
theorem freeR_iff {na nb : List Nd} {left : List St} {s : St} : freeR na nb left s = true ↔ FreeAt na nb left s := by
  unfold freeR FreeAt; rw [List.all_eq_true]
  exact ⟨fun h o ho => by simpa using h o ho, fun h o ho => by simpa using h o ho⟩
def NoWait (na nb : List Nd) (left : List St) (s : St) (k : Nat) : Prop := ∀ o ∈ left.take k, waitsR na nb s o = false
theorem noWait_succ {na nb : List Nd} {left : List St} {s : St} {k : Nat} (h : NoWait na nb left s k) (hk : k < left.length) (hw : waitsR na nb s left[k] = false) : NoWait na nb left s (k + 1) := by
  intro o ho
  rw [List.take_succ_eq_append_getElem hk] at ho
  rcases List.mem_append.1 ho with ho | ho
  · exact h o ho
  · rw [List.mem_singleton.1 ho]; exact hw
theorem noWait_hit {na nb : List Nd} {left : List St} {s : St} {k : Nat} (hk : k < left.length) (hw : waitsR na nb s left[k] = true) : freeR na nb left s = false := by
  cases h : freeR na nb left s
  · rfl
  · rw [freeR_iff.1 h _ (List.getElem_mem hk)] at hw; cases hw
theorem noWait_end {na nb : List Nd} {left : List St} {s : St} {k : Nat} (h : NoWait na nb left s k) (hk : ¬ k < left.length) : freeR na nb left s = true :=
  freeR_iff.2 (fun o ho => h o (by rw [List.take_of_length_le (by omega)]; exact ho))
set_option maxHeartbeats 4000000 in
set_option maxRecDepth 100000 in
theorem free_any (na nb : List Nd) (left : List St) (j : Nat) (hj : j < left.length) (ao bo lo : Option Addr) (ca cb lc : Nat) (w : World) (ha : Row w ao na.length 3 (ndCells na)) (hla : na.length ≤ 4000) (hb : Row w bo nb.length 3 (ndCells nb)) (hlb : nb.length ≤ 4000) (hl : Row w lo left.length 4 (stCells left)) (hll : left.length ≤ 8000) (hs : ∀ s ∈ left, StOk s) :
    Calls Tryd.prog 48 #[.slice ao na.length ca, .slice bo nb.length cb, .slice lo left.length lc, .int .i64 j] w fun e w' => e = .returned (.bool (freeR na nb left left[j])) ∧ Below w.heap.size w w' := by
  have HA := hide ha
  have HB := hide hb
  have HL := hide hl
  have HWT := hide (fun o W (x1 : Row W ao na.length 3 (ndCells na)) (x2 : Row W bo nb.length 3 (ndCells nb)) => waits_any na nb left[j] o (hs _ (List.getElem_mem hj)) ao bo ca cb W x1 hla x2 hlb)
  clear ha hb hl hs
  generalize hsj : left[j] = s at *
  have HSJ := hide hsj
  clear hsj
  go_enter Tryd.func48, Tryd.ntmps48
  go_wp2
  go_loopw [9] (fun i wr => ∃ k : Nat, k ≤ left.length ∧ i = .int .i64 k ∧ Below w.heap.size w wr ∧ Hid (NoWait na nb left s k)) (fun i _ => left.length - (intOf i).toNat)
  case atStart => exact ⟨0, Nat.zero_le _, rfl, Below.refl _ _, hide (fun o ho => by simp at ho)⟩
  case round =>
    obtain ⟨k, hk, rfl, hbel, HN⟩ := hrel
    have hsz := hbel.size
    by_cases hlt : k < left.length
    · have hl2 := Row.below (unhide HL) hbel
      obtain ⟨g, hlo, hg, c0, c1, c2, c3⟩ := st_cells hl2 hlt
      obtain ⟨g', hlo', _, d0, d1, d2, d3⟩ := st_cells hl2 hj
      rw [hlo] at hlo'
      have hgg : g = g' := by cases hlo'; rfl
      subst hgg
      rw [unhide HSJ] at d0 d1 d2 d3
      have HA2 := hide (Row.below (unhide HA) hbel)
      have HB2 := hide (Row.below (unhide HB) hbel)
      have HW := hide (fun W x1 x2 => unhide HWT left[k] W x1 x2)
      have hj0 : (0 : Int) ≤ j := by omega
      have hj1 : (j : Int) < left.length := by omega
      have hk0 : (0 : Int) ≤ k := by omega
      have hk1 : (k : Int) < left.length := by omega
      rw [hlo]
      clear hlo hlo' hl2
      cases hq : waitsR na nb s left[k]
      · have HN2 := hide (noWait_succ (unhide HN) hlt hq)
        rw [hq] at HW
        clear hq
        generalize left[k] = o at *
        go_wp2_with fail
        go_region_with (go_at_call 69; refine (unhide HW _ (Row.below (unhide HA2) (below_drewN (Below.refl _ _) 1)) (Row.below (unhide HB2) (below_drewN (Below.refl _ _) 1))).mono ?_; rintro e w1 ⟨rfl, hb1⟩; have hb2 : Below w.heap.size w w1 := hbel.trans (((below_drewN (Below.refl wr.heap.size wr) 1).trans hb1).mono hsz); clear hb1)
        all_goals
          go_wp2
          go_roundw
          case rel => exact ⟨k + 1, by omega, by go_num, hb2, HN2⟩
          case measure => simp [intOf]; omega
      · have HF := hide (noWait_hit (s := s) hlt hq)
        rw [hq] at HW
        clear hq
        generalize left[k] = o at *
        go_wp2_with fail
        go_region_with (go_at_call 69; refine (unhide HW _ (Row.below (unhide HA2) (below_drewN (Below.refl _ _) 1)) (Row.below (unhide HB2) (below_drewN (Below.refl _ _) 1))).mono ?_; rintro e w1 ⟨rfl, hb1⟩; have hb2 : Below w.heap.size w w1 := hbel.trans (((below_drewN (Below.refl wr.heap.size wr) 1).trans hb1).mono hsz); clear hb1)
        all_goals
          go_wp2
          go_ret
          exact ⟨ret_bool (unhide HF).symm, hb2⟩
    · have HF := hide (noWait_end (unhide HN) hlt)
      go_wp2
      go_ret
      exact ⟨ret_bool (unhide HF).symm, hbel⟩
def lenV : Value → Nat
  | .slice _ n _ => n
  | _ => 0
set_option maxHeartbeats 4000000 in
set_option maxRecDepth 100000 in
theorem ringless_any (s t : ByteArray) (w : World) (h1 : (checkT (sl s)).1 = 0) (h2 : (checkT (sl t)).1 = 0) (hs : s.size ≤ 4000) (ht : t.size ≤ 4000) :
    Calls Tryd.prog 26 #[.string s, .string t] w fun e w' => (∃ r, e = .returned (.bool r) ∧ (r = true → Elim (readNodes (cut (sl s))) (readNodes (cut (sl t))) (homesR (readNodes (cut (sl s))) (readNodes (cut (sl t)))))) ∧ Below w.heap.size w w' := by
  have HN1 := hide (fun W => nodes_any s W hs)
  have HN2 := hide (fun W => nodes_any t W ht)
  have hf1 := (check_parts h1).2.2.1
  have hf2 := (check_parts h2).2.2.1
  have ra := rep_read h1
  have rg := rep_read h2
  have hla := rep_len ra
  have hlb := rep_len rg
  have hli := left_start ra rg (valid_of_check h1).ok (valid_of_check h2).ok
  have HOK := hide (left_ok hli (valid_of_check h2).ok)
  have hl0 := left_len hli
  clear ra rg h1 h2 hli
  generalize readNodes (cut (sl s)) = na at *
  generalize readNodes (cut (sl t)) = nb at *
  have HHO := hide (fun ao bo ca cb W (x1 : Row W ao na.length 3 (ndCells na)) (x2 : Row W bo nb.length 3 (ndCells nb)) => homes_any na nb ao bo ca cb W x1 x2 (by omega) (by omega))
  generalize homesR na nb = L0 at *
  go_enter Tryd.func26, Tryd.ntmps26
  go_wp2_with fail
  refine (unhide HN1 _).mono ?_
  rintro e w1 ⟨⟨hno, _⟩ | ⟨_, ao, ca, rfl, hr1, _⟩, hb1⟩
  · exact absurd hno hf1
  · have HR1 := hide hr1
    have HB1 := hide hb1
    clear hr1 hb1
    go_wp2_with fail
    refine (unhide HN2 _).mono ?_
    rintro e w2 ⟨⟨hno, _⟩ | ⟨_, bo, cb, rfl, hr2, _⟩, hb2⟩
    · exact absurd hno hf2
    · have HR2 := hide hr2
      have HR1' := hide (Row.below (unhide HR1) hb2)
      have HB2 := hide ((unhide HB1).trans (hb2.mono (unhide HB1).size))
      clear hr2 hb2
      go_wp2_with fail
      refine (unhide HHO _ _ _ _ _ (unhide HR1') (unhide HR2)).mono ?_
      rintro e w3 ⟨⟨lo, lc, rfl, hlr⟩, hb3⟩
      have HL := hide hlr
      have HA := hide (Row.below (unhide HR1') hb3)
      have HB := hide (Row.below (unhide HR2) hb3)
      have HB3 := hide ((unhide HB2).trans (hb3.mono (unhide HB2).size))
      clear hlr hb3
      go_wp2_with fail
      go_loopw [9, 10] (fun x i wr => ∃ k : Nat, ∃ left : List St, ∃ lo : Option Addr, ∃ lc : Nat, k ≤ left.length ∧ left.length ≤ 99 ∧ i = .int .i64 k ∧ x = .slice lo left.length lc ∧ Hid (Row wr lo left.length 4 (stCells left)) ∧ Below w3.heap.size w3 wr ∧ Hid (∀ s ∈ left, StOk s) ∧ Hid (Elim na nb left → Elim na nb L0)) (fun x i _ => lenV x * 1000 - (intOf i).toNat)
      case atStart => exact ⟨0, L0, lo, lc, Nat.zero_le _, hl0, rfl, rfl, HL, Below.refl _ _, HOK, hide (fun h => h)⟩
      case round =>
        obtain ⟨k, left, lo, lc, hk, hll, rfl, rfl, HRL, hbel, HSO, HE⟩ := hrel
        have hsz := hbel.size
        by_cases hlt : k < left.length
        · have HFR := hide (free_any na nb left k hlt ao bo lo ca cb lc wr (Row.below (unhide HA) hbel) (by omega) (Row.below (unhide HB) hbel) (by omega) (unhide HRL) (by omega) (unhide HSO))
          cases hq : freeR na nb left left[k]
          · rw [hq] at HFR
            clear hq
            go_wp2_with fail
            refine (unhide HFR).mono ?_
            rintro e w4 ⟨rfl, hb4⟩
            have HRL4 := hide (Row.below (unhide HRL) hb4)
            have hb5 := hbel.trans (hb4.mono hsz)
            clear hb4 hbel
            go_wp2
            go_roundw
            case rel => exact ⟨k + 1, left, lo, lc, by omega, hll, by go_num, rfl, HRL4, hb5, HSO, HE⟩
            case measure => simp [intOf, lenV]; omega
          · rw [hq] at HFR
            have HE2 : Hid (Elim na nb (left.eraseIdx k) → Elim na nb L0) := hide (fun h => unhide HE (Elim.step hlt (freeR_iff.1 hq) h))
            have HSO2 : Hid (∀ s ∈ left.eraseIdx k, StOk s) := hide (fun s hs => unhide HSO s (List.mem_of_mem_eraseIdx hs))
            have hel := List.length_eraseIdx_of_lt hlt
            have HWO := hide (fun W (x : Row W lo left.length 4 (stCells left)) => without_any left k lo lc W x (by omega))
            clear hq
            generalize left.eraseIdx k = left2 at *
            go_wp2_with fail
            refine (unhide HFR).mono ?_
            rintro e w4 ⟨rfl, hb4⟩
            have HRL4 := hide (Row.below (unhide HRL) hb4)
            have hb5 := hbel.trans (hb4.mono hsz)
            clear hb4 hbel
            go_wp2_with fail
            refine (unhide HWO _ (unhide HRL4)).mono ?_
            rintro e w5 ⟨⟨lo2, lc2, rfl, hl2⟩, hb6⟩
            have HRL5 := hide hl2
            have hb7 := hb5.trans (hb6.mono hb5.size)
            clear hl2 hb6 hb5
            go_wp2
            go_roundw
            case rel => exact ⟨0, left2, lo2, lc2, Nat.zero_le _, by omega, by go_num, by first | rfl | rw [hel], HRL5, hb7, HSO2, HE2⟩
            case measure => simp [intOf, lenV]; omega
        · have HB9 := hide ((unhide HB3).trans (hbel.mono (unhide HB3).size))
          go_wp2
          go_ret
          refine ⟨⟨_, rfl, fun h => unhide HE ?_⟩, unhide HB9⟩
          have hz : left.length = 0 := by
            have := h; simp at this; first | omega | (rw [this]; rfl)
          rw [List.length_eq_zero_iff.1 hz]; exact Elim.nil
end Go.Proofs.YtdcjimlhaklhfaaDoor
