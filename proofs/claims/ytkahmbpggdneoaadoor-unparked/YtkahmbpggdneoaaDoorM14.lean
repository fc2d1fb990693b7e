import Derived.Test.YtkahmbpggdneoaaDoorM8
import Derived.Test.YtkahmbpggdneoaaDoorM6
import Derived.Test.YtkahmbpggdneoaaDoorM7
import Derived.Test.YtkahmbpggdneoaaDoorM4
namespace Go.Proofs.YtkahmbpggdneoaaDoor
open Go.RowKit
/-! Scripts between two trees, as the document looks at them: lists of steps. -/
/-- the step home of a node of the second tree -/
def homeB (a : List Nd) (n : Nd) : List St := match lookR a n.id with
  | none => [⟨43, n⟩]
  | some m => if ndEq m n then [] else [⟨61, n⟩]
/-- the step home of a node of the first tree -/
def homeA (b : List Nd) (n : Nd) : List St := match lookR b n.id with
  | none => [⟨45, ⟨n.id, 0, []⟩⟩]
  | some _ => []
def homesR (a b : List Nd) : List St := b.flatMap (homeB a) ++ a.flatMap (homeA b)
theorem flat_take_succ {α : Type} (f : Nd → List α) (l : List Nd) (k : Nat) (h : k < l.length) : (l.take (k + 1)).flatMap f = (l.take k).flatMap f ++ f l[k] := by
  rw [List.take_succ_eq_append_getElem h, List.flatMap_append]; simp
theorem homeB_len (a : List Nd) (n : Nd) : (homeB a n).length ≤ 1 := by
  unfold homeB; split
  · simp
  · split <;> simp
theorem homeA_len (b : List Nd) (n : Nd) : (homeA b n).length ≤ 1 := by
  unfold homeA; split <;> simp
theorem flat_len {α : Type} (f : Nd → List α) (hf : ∀ n, (f n).length ≤ 1) : ∀ l : List Nd, (l.flatMap f).length ≤ l.length := by
  intro l
  induction l with
  | nil => simp
  | cons n l ih => rw [List.flatMap_cons, List.length_append, List.length_cons]; have := hf n; omega
theorem homesR_len (a b : List Nd) : (homesR a b).length ≤ a.length + b.length := by
  unfold homesR; rw [List.length_append]
  have h1 := flat_len (homeB a) (homeB_len a) b
  have h2 := flat_len (homeA b) (homeA_len b) a
  omega
/-- Where a step stands. -/
def atIs (l : List St) (s : St) (i : Nat) : Bool := match l[i]? with
  | none => false
  | some x => stEq x s
/-- Where 'without' stands behind i steps. -/
def WoInv (l : List St) (k i : Nat) (out : List St) : Prop := out = (l.take i).eraseIdx k
theorem woInv_yes {l : List St} {k i : Nat} {out : List St} (h : WoInv l k i out) (hi : i < l.length) (hk : i ≠ k) : WoInv l k (i + 1) (out ++ [l[i]]) := by
  unfold WoInv at *
  rw [List.take_succ_eq_append_getElem hi, h]
  have hl : (l.take i).length = i := by rw [List.length_take]; omega
  rcases Nat.lt_or_ge k i with hlt | hge
  · rw [List.eraseIdx_append_of_lt_length (by omega)]
  · rw [List.eraseIdx_of_length_le (by omega), List.eraseIdx_of_length_le (by rw [List.length_append, hl]; simp; omega)]
theorem woInv_no {l : List St} {k : Nat} {out : List St} (h : WoInv l k k out) (hi : k < l.length) : WoInv l k (k + 1) out := by
  unfold WoInv at *
  have hl : (l.take k).length = k := by rw [List.length_take]; omega
  rw [List.take_succ_eq_append_getElem hi, h, List.eraseIdx_of_length_le (by omega), List.eraseIdx_append_of_length_le (by omega), hl]
  simp
theorem woInv_end {l : List St} {k i : Nat} {out : List St} (h : WoInv l k i out) (hi : ¬ i < l.length) : l.eraseIdx k = out := by
  unfold WoInv at h
  rw [List.take_of_length_le (by omega)] at h; exact h.symm
theorem woInv_len {l : List St} {k i : Nat} {out : List St} (h : WoInv l k i out) : out.length ≤ i := by
  unfold WoInv at h; rw [h]
  have h1 := List.length_eraseIdx_le (l.take i) k
  have h2 : (l.take i).length ≤ i := by rw [List.length_take]; omega
  omega
/-- Where the first loop of 'homes' stands behind i nodes. -/
def HbInv (a b : List Nd) (i : Nat) (out : List St) : Prop := out = (b.take i).flatMap (homeB a)
def HaInv (a b : List Nd) (i : Nat) (out : List St) : Prop := out = b.flatMap (homeB a) ++ (a.take i).flatMap (homeA b)
theorem hbInv_next {a b : List Nd} {i : Nat} {out : List St} (h : HbInv a b i out) (hi : i < b.length) {x : List St} (hx : homeB a b[i] = x) : HbInv a b (i + 1) (out ++ x) := by
  unfold HbInv at *; rw [flat_take_succ _ _ _ hi, h, hx]
theorem hbInv_end {a b : List Nd} {i : Nat} {out : List St} (h : HbInv a b i out) (hi : ¬ i < b.length) : HaInv a b 0 out := by
  unfold HbInv at h; unfold HaInv
  rw [List.take_of_length_le (by omega)] at h; rw [h]; simp
theorem haInv_next {a b : List Nd} {i : Nat} {out : List St} (h : HaInv a b i out) (hi : i < a.length) {x : List St} (hx : homeA b a[i] = x) : HaInv a b (i + 1) (out ++ x) := by
  unfold HaInv at *; rw [flat_take_succ _ _ _ hi, h, hx, List.append_assoc]
theorem haInv_end {a b : List Nd} {i : Nat} {out : List St} (h : HaInv a b i out) (hi : ¬ i < a.length) : homesR a b = out := by
  unfold HaInv at h
  rw [List.take_of_length_le (by omega)] at h; rw [h]; rfl
theorem hbInv_len {a b : List Nd} {i : Nat} {out : List St} (h : HbInv a b i out) (hi : i ≤ b.length) : out.length ≤ i := by
  unfold HbInv at h; rw [h]
  have := flat_len (homeB a) (homeB_len a) (b.take i)
  rw [List.length_take] at this; omega
theorem haInv_len {a b : List Nd} {i : Nat} {out : List St} (h : HaInv a b i out) (hi : i ≤ a.length) : out.length ≤ b.length + i := by
  unfold HaInv at h; rw [h, List.length_append]
  have h1 := flat_len (homeB a) (homeB_len a) b
  have h2 := flat_len (homeA b) (homeA_len b) (a.take i)
  rw [List.length_take] at h2; omega
theorem homeB_new {a : List Nd} {n : Nd} (h : lookR a n.id = none) : homeB a n = [⟨43, n⟩] := by unfold homeB; rw [h]
theorem homeB_same {a : List Nd} {n m : Nd} (h : lookR a n.id = some m) (he : ndEq m n = true) : homeB a n = [] := by unfold homeB; rw [h]; exact if_pos he
theorem homeB_else {a : List Nd} {n m : Nd} (h : lookR a n.id = some m) (he : ndEq m n = false) : homeB a n = [⟨61, n⟩] := by unfold homeB; rw [h]; exact if_neg (by rw [he]; decide)
theorem homeA_gone {b : List Nd} {n : Nd} (h : lookR b n.id = none) : homeA b n = [⟨45, ⟨n.id, 0, []⟩⟩] := by unfold homeA; rw [h]
theorem homeA_kept {b : List Nd} {n m : Nd} (h : lookR b n.id = some m) : homeA b n = [] := by unfold homeA; rw [h]
end Go.Proofs.YtkahmbpggdneoaaDoor

namespace Go.Proofs.YtkahmbpggdneoaaDoor
open Go.RowKit
theorem news_four {w : World} (a b c d : Value) (t : TypeId) : ∀ j x, [a, b, c, d][j]? = some x → (w.alloc (.cells #[a, b, c, d] t)).cell? ((⟨w.heap.size, 0, none⟩ : Addr).add j) = some x := by
  intro j x hx
  exact World.news_of_block (cs := #[a, b, c, d]) (heap_alloc_new w _) j x hx
/-- What Compile refuses. -/
def refusalT (f t : Str) : Int := if 4000 < f.length ∨ 4000 < t.length then 1 else if (checkT f).1 ≠ 0 then (checkT f).1 else (checkT t).1
theorem refusalT_long {f t : Str} (h : 4000 < f.length ∨ 4000 < t.length) : refusalT f t = 1 := by unfold refusalT; rw [if_pos h]
theorem refusalT_from {f t : Str} (h : ¬ (4000 < f.length ∨ 4000 < t.length)) (h2 : (checkT f).1 ≠ 0) : refusalT f t = (checkT f).1 := by unfold refusalT; rw [if_neg h, if_pos h2]
theorem refusalT_to {f t : Str} (h : ¬ (4000 < f.length ∨ 4000 < t.length)) (h2 : (checkT f).1 = 0) : refusalT f t = (checkT t).1 := by unfold refusalT; rw [if_neg h, if_neg (fun hh => hh h2)]
set_option maxHeartbeats 1000000 in
theorem refusal_any (s t : ByteArray) (w : World) :
    Calls Tryd.prog 25 #[.string s, .string t] w fun e w' => e = .returned (.int .i64 (refusalT (sl s) (sl t))) ∧ Below w.heap.size w w' := by
  by_cases hL : 4000 < s.size ∨ 4000 < t.size
  · have HA := hide (refusalT_long (f := sl s) (t := sl t) (by rw [sl_length, sl_length]; exact hL))
    generalize refusalT (sl s) (sl t) = A at *
    have hL' : 4000 < s.size ∨ (¬ 4000 < s.size ∧ 4000 < t.size) := by omega
    clear hL
    rcases hL' with h | ⟨h, h'⟩
    all_goals
      go_enter Tryd.func25, Tryd.ntmps25
      go_wp2
      go_ret
      exact ⟨ret_int (unhide HA).symm, Below.refl _ _⟩
  · have hLl : ¬ (4000 < (sl s).length ∨ 4000 < (sl t).length) := by rw [sl_length, sl_length]; exact hL
    have h4 : ¬ 4000 < s.size := by omega
    have h5 : ¬ 4000 < t.size := by omega
    have HC1 := hide (fun W => rcheck_any s W)
    have HC2 := hide (fun W => rcheck_any t W)
    rw [check_same] at HC1 HC2
    by_cases hC : (checkT (sl s)).1 ≠ 0
    · have HA := hide (refusalT_from hLl hC)
      have hC' : ((checkT (sl s)).1 != 0) = true := by rw [bne_iff_ne]; exact hC
      generalize refusalT (sl s) (sl t) = A at *
      generalize checkT (sl s) = c at *
      clear hC hL hLl HC2
      go_enter Tryd.func25, Tryd.ntmps25
      go_wp2_with fail
      refine (unhide HC1 _).mono ?_
      rintro e w1 ⟨rfl, hb1⟩
      go_wp2
      go_ret
      exact ⟨ret_int (unhide HA).symm, hb1⟩
    · have hc0 : (checkT (sl s)).1 = 0 := Classical.not_not.1 hC
      have HA := hide (refusalT_to hLl hc0)
      rw [hc0] at HC1
      generalize refusalT (sl s) (sl t) = A at *
      generalize (checkT (sl s)).2 = c2 at *
      generalize checkT (sl t) = d at *
      clear hC hL hLl hc0
      go_enter Tryd.func25, Tryd.ntmps25
      go_wp2_with fail
      refine (unhide HC1 _).mono ?_
      rintro e w1 ⟨rfl, hb1⟩
      go_wp2_with fail
      refine (unhide HC2 _).mono ?_
      rintro e w2 ⟨rfl, hb2⟩
      go_wp2
      go_ret
      exact ⟨ret_int (unhide HA).symm, hb1.trans (hb2.mono hb1.size)⟩
set_option maxHeartbeats 2000000 in
theorem without_any (ss : List St) (m : Nat) (ao : Option Addr) (cap : Nat) (w : World) (hrow : Row w ao ss.length 4 (stCells ss)) (hl : ss.length ≤ 8000) :
    Calls Tryd.prog 49 #[.slice ao ss.length cap, .int .i64 m] w fun e w' => (∃ ao' cap', e = .returned (.slice ao' (ss.eraseIdx m).length cap') ∧ Row w' ao' (ss.eraseIdx m).length 4 (stCells (ss.eraseIdx m))) ∧ Below w.heap.size w w' := by
  obtain ⟨i0, hi, hz0, hz1, hz2⟩ := info_parts Tryd.infoRStep
  have HROW := hide hrow
  clear hrow
  go_enter Tryd.func49, Tryd.ntmps49
  go_wp2
  go_loopw [5, 6] (fun v i wr => ∃ k : Nat, ∃ out : List St, k ≤ ss.length ∧ i = .int .i64 k ∧ wr.ownsRow w.heap.size 115 4 v out.length (stCells out) ∧ Below w.heap.size w wr ∧ Hid (WoInv ss m k out)) (fun _ i _ => ss.length - (intOf i).toNat)
  case atStart => exact ⟨0, [], Nat.zero_le _, rfl, World.ownsRow_nil _ _ _ _, Below.refl _ _, hide (by simp [WoInv])⟩
  case round =>
    obtain ⟨k, out, hk, rfl, hown, hbel, HI⟩ := hrel
    have hnl := woInv_len (unhide HI)
    have hsz := hbel.size
    by_cases hlt : k < ss.length
    · obtain ⟨g, hao, hg, c0, c1, c2, c3⟩ := st_cells ((unhide HROW).below hbel) hlt
      rw [hao]
      clear hao
      by_cases hq : k = m
      · subst hq
        have HI2 := hide (woInv_no (unhide HI) hlt)
        generalize ss[k] = st at *
        go_wp2
        go_roundw
        case rel => exact ⟨k + 1, out, by omega, by go_num, hown, hbel, HI2⟩
        case measure => simp [intOf]; omega
      · have HI2 := hide (woInv_yes (unhide HI) hlt hq)
        have hq' : ((k : Int) != (m : Int)) = true := by rw [bne_iff_ne]; omega
        have hq2 : ¬ (k : Int) = (m : Int) := by omega
        generalize ss[k] = st at *
        go_wp2_with (first
          | (at_builtin; (refine wpList_append_own _ rfl _ _ 92 rfl w.heap.size 115 i0 (.agg #[.int .u8 0, .int .i64 0, .int .i64 0, .string ByteArray.empty]) 4 40 Tryd.underlying92 hi hz0 hz1 hz2 rfl (by decide) _ _ _ rfl (own_below hown ((Below.refl _ _).alloc (by simp) _)) ⟨wr.heap.size, 0, none⟩ 1 1 [.int .u8 st.kind.toNat, .int .i64 st.node.id, .int .i64 st.node.parent, .string (bs st.node.name)] rfl rfl (news_four _ _ _ _ _) (by simp [Value.oneCell']) (by unfold maxLen; omega) (by omega) (by simp; omega) ?_))
          | go_in)
        intro v' w4 hown' hgrow _
        have hb4 : Below w.heap.size w w4 := (hbel.alloc (by omega) _).grown hgrow (by simp; omega) (own_ge hown)
        have hown2 : w4.ownsRow w.heap.size 115 4 v' (out ++ [st]).length (stCells (out ++ [st])) := by rw [stCells_snoc, List.length_append]; exact hown'
        clear hgrow hown hbel hown'
        go_wp2
        go_roundw
        case rel => exact ⟨k + 1, _, by omega, by go_num, hown2, hb4, HI2⟩
        case measure => simp [intOf]; omega
    · have HF := hide (woInv_end (unhide HI) hlt)
      go_wp2
      go_ret
      rw [unhide HF]
      obtain ⟨ao', cap', rfl, hr⟩ := row_of_owns hown
      exact ⟨⟨ao', cap', rfl, hr⟩, hbel⟩
end Go.Proofs.YtkahmbpggdneoaaDoor
