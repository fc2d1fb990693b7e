import Derived.Test.YtdcjimlhaklhfaaDoorHd4
import Derived.Test.YtdcjimlhaklhfaaDoorHd5
import Derived.Test.YtdcjimlhaklhfaaDoorHd7
namespace Go.Proofs.YtdcjimlhaklhfaaDoor
open Go.RowKit
def TallyAt (w : World) (b : Nat) (c m d a : Nat) : Prop := w.heap[b]? = some (.cells #[.int .i64 c, .int .i64 m, .int .i64 d, .int .i64 a] 50 (0, 0))
theorem TallyAt.lt {w : World} {b c m d a : Nat} (h : TallyAt w b c m d a) : b < w.heap.size := lt_of_block h
theorem TallyAt.cells {w : World} {b c m d a : Nat} (h : TallyAt w b c m d a) : w.cell? ⟨b, 0, none⟩ = some (.int .i64 c) ∧ w.cell? ⟨b, 1, none⟩ = some (.int .i64 m) ∧ w.cell? ⟨b, 2, none⟩ = some (.int .i64 d) ∧ w.cell? ⟨b, 3, none⟩ = some (.int .i64 a) ∧ ∀ o, w.frozen? ⟨b, o, none⟩ = false := by
  refine ⟨?_, ?_, ?_, ?_, fun o => ?_⟩
  · rw [cell_of_row w b 0 _ _ (0, 0) h]; rfl
  · rw [cell_of_row w b 1 _ _ (0, 0) h]; rfl
  · rw [cell_of_row w b 2 _ _ (0, 0) h]; rfl
  · rw [cell_of_row w b 3 _ _ (0, 0) h]; rfl
  · simp [World.frozen?, show w.heap[b]? = _ from h]
theorem tally_0 {w : World} {b c m d a : Nat} (h : TallyAt w b c m d a) : TallyAt (w.setCell ⟨b, 0, none⟩ (.int .i64 ((c : Int) + 1))) b (c + 1) m d a := by
  unfold TallyAt; rw [heap_setCell_same w b 0 _ _ _ h]; rfl
theorem tally_1 {w : World} {b c m d a : Nat} (h : TallyAt w b c m d a) : TallyAt (w.setCell ⟨b, 1, none⟩ (.int .i64 ((m : Int) + 1))) b c (m + 1) d a := by
  unfold TallyAt; rw [heap_setCell_same w b 1 _ _ _ h]; rfl
theorem tally_2 {w : World} {b c m d a : Nat} (h : TallyAt w b c m d a) : TallyAt (w.setCell ⟨b, 2, none⟩ (.int .i64 ((d : Int) + 1))) b c m (d + 1) a := by
  unfold TallyAt; rw [heap_setCell_same w b 2 _ _ _ h]; rfl
theorem tally_3 {w : World} {b c m d a : Nat} (h : TallyAt w b c m d a) : TallyAt (w.setCell ⟨b, 3, none⟩ (.int .i64 ((a : Int) + 1))) b c m d (a + 1) := by
  unfold TallyAt; rw [heap_setCell_same w b 3 _ _ _ h]; rfl
theorem tally_new (w : World) : TallyAt (w.alloc (.cells #[.int .i64 0, .int .i64 0, .int .i64 0, .int .i64 0] 50)) w.heap.size 0 0 0 0 := heap_alloc_new w _
theorem grown_set {w : World} {b o : Nat} {v : Value} : w.grownBy (w.setCell ⟨b, o, none⟩ v) (some b) := by
  refine ⟨rfl, rfl, rfl, by simp, fun k hk hne => ?_⟩
  have hne' : k ≠ b := fun e => hne (by rw [e])
  rw [heap_setCell_other _ _ _ _ hne']
def kN (k : UInt8) (r : Str) : Nat := if r.head? = some k then 1 else 0
def hitB (r : Str) (k : Nat) : Bool := (r.take (k + 5)).drop k == [32, 48, 32, 116, 126]
def PkText (r : Str) : Prop := r.head? = some 61 ∧ ∃ p, p + 5 ≤ r.length ∧ hitB r p = true
theorem ext_list (r : Str) (a b : Nat) : ((bs r).extract a b).toList = (r.take b).drop a := by rw [bs_extract, tl_sl, sl_bs, sl_bs]
theorem head_at (k : UInt8) (r : Str) (h : 0 < (bs (k :: r)).size) : (bs (k :: r))[0] = k := rfl
theorem kne (k : UInt8) (n : Nat) (hn : n < 256) (h : ¬ k = UInt8.ofNat n) : ((k.toNat : Int) == (n : Int)) = false := by
  rw [beq_eq_false_iff_ne]; intro e
  exact h (UInt8.toNat_inj.1 (by rw [UInt8.toNat_ofNat_of_lt' (by simpa using hn)]; omega))
theorem kind_ne43 {k : UInt8} (h : ¬ k = 43) : ((k.toNat : Int) == 43) = false := kne k 43 (by omega) h
theorem kind_ne45 {k : UInt8} (h : ¬ k = 45) : ((k.toNat : Int) == 45) = false := kne k 45 (by omega) h
theorem kind_ne61 {k : UInt8} (h : ¬ k = 61) : ((k.toNat : Int) == 61) = false := kne k 61 (by omega) h
set_option maxHeartbeats 4000000 in
theorem add_any (r : Str) (b c m d a : Nat) (w : World) (hT : TallyAt w b c m d a) (hl : r.length ≤ 140737488355328) (ha : a ≤ 1000000000000000000) (hc : c ≤ 1000000000000000000) (hm : m ≤ 1000000000000000000) (hd : d ≤ 1000000000000000000) :
    Calls Tryd.prog 36 #[.pointer (some ⟨b, 0, none⟩), .string (bs r)] w fun e w' => e = .returned (.tuple #[]) ∧ (∃ a', TallyAt w' b (c + kN 43 r) (m + kN 61 r) (d + kN 45 r) a' ∧ a ≤ a' ∧ a' ≤ a + r.length ∧ (PkText r → a + 1 ≤ a')) ∧ w.grownBy w' (some b) := by
  cases r with
  | nil =>
    have hz : (bs ([] : Str)).size = 0 := rfl
    have HT := hide hT
    go_enter Tryd.func36, Tryd.ntmps36
    go_wp2
    refine bodyPost_ret (v := .tuple #[]) (by simp [results, Tryd.results36]) rfl ?_
    exact ⟨rfl, ⟨a, unhide HT, Nat.le_refl _, by simp, fun h => by cases h.1⟩, grown_refl _ _⟩
  | cons h tl =>
    have hsz : (bs (h :: tl)).size = tl.length + 1 := by rw [bs_size]; rfl
    have hl' : tl.length + 1 ≤ 140737488355328 := by simpa using hl
    clear hl
    have hpos : 0 < (bs (h :: tl)).size := by omega
    have hne := ne_nil_at (bs (h :: tl)) hpos
    have hhead := head_at h tl hpos
    obtain ⟨c0, c1, c2, c3, f0⟩ := hT.cells
    have HT := hide hT
    have hlt := hT.lt
    clear hT
    by_cases h43 : h = 43
    · subst h43
      have HTs : Hid (TallyAt (w.setCell ⟨b, 0, none⟩ (.int .i64 ((c : Int) + 1))) b (c + 1) (m) (d) a) := hide (tally_0 (unhide HT))
      have HGs : Hid (w.grownBy (w.setCell ⟨b, 0, none⟩ (.int .i64 ((c : Int) + 1))) (some b)) := hide (grown_set)
      have k1 : kN 43 (43 :: tl) = 1 := rfl
      have k2 : kN 61 (43 :: tl) = 0 := rfl
      have k3 : kN 45 (43 :: tl) = 0 := rfl
      have hNP : Hid (¬ PkText (43 :: tl)) := hide (fun h => by cases h.1)
      go_enter Tryd.func36, Tryd.ntmps36
      go_wp2_with fail
      generalize hW : w.setCell ⟨b, 0, none⟩ (.int .i64 ((c : Int) + 1)) = W at *
      go_loop [4] (fun i => ∃ k : Nat, k ≤ tl.length + 1 ∧ i = .int .i64 k) (fun i => tl.length + 1 - (intOf i).toNat)
      case atStart => exact ⟨0, by omega, rfl⟩
      case round =>
        obtain ⟨k, hk, rfl⟩ := hrel
        by_cases hlt2 : k + 5 ≤ tl.length + 1
        · have hle : decide ((k : Int) + 5 ≤ (tl.length : Int) + 1) = true := by simp; omega
          go_wp2
          go_round
          case rel => exact ⟨k + 1, by omega, by go_num⟩
          case measure => simp [intOf]; omega
        · have hle : decide ((k : Int) + 5 ≤ (tl.length : Int) + 1) = false := by simp; omega
          go_wp2
          go_end0
          exact ⟨rfl, ⟨a, unhide HTs, Nat.le_refl _, by omega, fun hh => absurd hh (unhide hNP)⟩, unhide HGs⟩
    · by_cases h45 : h = 45
      · subst h45
        have HTs : Hid (TallyAt (w.setCell ⟨b, 2, none⟩ (.int .i64 ((d : Int) + 1))) b (c) (m) (d + 1) a) := hide (tally_2 (unhide HT))
        have HGs : Hid (w.grownBy (w.setCell ⟨b, 2, none⟩ (.int .i64 ((d : Int) + 1))) (some b)) := hide (grown_set)
        have k1 : kN 43 (45 :: tl) = 0 := rfl
        have k2 : kN 61 (45 :: tl) = 0 := rfl
        have k3 : kN 45 (45 :: tl) = 1 := rfl
        have hNP : Hid (¬ PkText (45 :: tl)) := hide (fun h => by cases h.1)
        go_enter Tryd.func36, Tryd.ntmps36
        go_wp2_with fail
        generalize hW : w.setCell ⟨b, 2, none⟩ (.int .i64 ((d : Int) + 1)) = W at *
        go_loop [4] (fun i => ∃ k : Nat, k ≤ tl.length + 1 ∧ i = .int .i64 k) (fun i => tl.length + 1 - (intOf i).toNat)
        case atStart => exact ⟨0, by omega, rfl⟩
        case round =>
          obtain ⟨k, hk, rfl⟩ := hrel
          by_cases hlt2 : k + 5 ≤ tl.length + 1
          · have hle : decide ((k : Int) + 5 ≤ (tl.length : Int) + 1) = true := by simp; omega
            go_wp2
            go_round
            case rel => exact ⟨k + 1, by omega, by go_num⟩
            case measure => simp [intOf]; omega
          · have hle : decide ((k : Int) + 5 ≤ (tl.length : Int) + 1) = false := by simp; omega
            go_wp2
            go_end0
            exact ⟨rfl, ⟨a, unhide HTs, Nat.le_refl _, by omega, fun hh => absurd hh (unhide hNP)⟩, unhide HGs⟩
      · by_cases h61 : h = 61
        · subst h61
          have k1 : kN 43 (61 :: tl) = 0 := rfl
          have k2 : kN 61 (61 :: tl) = 1 := rfl
          have k3 : kN 45 (61 :: tl) = 0 := rfl
          have HTs : Hid (TallyAt (w.setCell ⟨b, 1, none⟩ (.int .i64 ((m : Int) + 1))) b c (m + 1) d a) := hide (tally_1 (unhide HT))
          have HGs : Hid (w.grownBy (w.setCell ⟨b, 1, none⟩ (.int .i64 ((m : Int) + 1))) (some b)) := hide grown_set
          go_enter Tryd.func36, Tryd.ntmps36
          go_wp2_with fail
          generalize hW : w.setCell ⟨b, 1, none⟩ (.int .i64 ((m : Int) + 1)) = W at *
          go_loopw [4] (fun i wr => ∃ k a' : Nat, k ≤ tl.length + 1 ∧ i = .int .i64 k ∧ Hid (TallyAt wr b c (m + 1) d a') ∧ Hid (w.grownBy wr (some b)) ∧ a ≤ a' ∧ a' ≤ a + k ∧ Hid (∀ p, p < k → hitB (61 :: tl) p = true → a + 1 ≤ a')) (fun i _ => tl.length + 1 - (intOf i).toNat)
          case atStart => exact ⟨0, a, by omega, rfl, HTs, HGs, by omega, by omega, hide (fun p hp => by omega)⟩
          case round =>
            obtain ⟨k, a', hk, rfl, HTr, HGr, ha1, ha2, HP⟩ := hrel
            by_cases hlt2 : k + 5 ≤ tl.length + 1
            · have hle : decide ((k : Int) + 5 ≤ (tl.length : Int) + 1) = true := by simp; omega
              have hk0 : (0 : Int) ≤ k := by omega
              have hk5 : ((k : Int) + 5).toNat = k + 5 := by omega
              have hk6 : (k : Int) ≤ (k : Int) + 5 := by omega
              have hk7 : (k : Int) + 5 ≤ (tl.length : Int) + 1 := by omega
              have hx := ext_list (61 :: tl) k (k + 5)
              obtain ⟨_, _, _, d3, g0⟩ := (unhide HTr).cells
              have hltr := (unhide HTr).lt
              cases hq : hitB (61 :: tl) k
              · have HP2 : Hid (∀ p, p < k + 1 → hitB (61 :: tl) p = true → a + 1 ≤ a') := hide (fun p hp hh => by
                  by_cases e : p = k
                  · subst e; rw [hq] at hh; cases hh
                  · exact unhide HP p (by omega) hh)
                unfold hitB at hq
                rw [← hx] at hq
                clear hx
                go_wp2
                go_roundw
                case rel => exact ⟨k + 1, a', by omega, by go_num, HTr, HGr, ha1, by omega, HP2⟩
                case measure => simp [intOf]; omega
              · have HP2 : Hid (∀ p, p < k + 1 → hitB (61 :: tl) p = true → a + 1 ≤ a' + 1) := hide (fun p _ _ => by omega)
                have HT2 := hide (tally_3 (unhide HTr))
                have HG2 := hide (grown_trans (unhide HGr) (grown_set (w := wr) (b := b) (o := 3) (v := .int .i64 ((a' : Int) + 1))))
                unfold hitB at hq
                rw [← hx] at hq
                clear hx
                go_wp2
                go_roundw
                case rel => exact ⟨k + 1, a' + 1, by omega, by go_num, HT2, HG2, by omega, by omega, HP2⟩
                case measure => simp [intOf]; omega
            · have hle : decide ((k : Int) + 5 ≤ (tl.length : Int) + 1) = false := by simp; omega
              go_wp2
              go_end0
              refine ⟨rfl, ⟨a', unhide HTr, ha1, by omega, fun hh => ?_⟩, unhide HGr⟩
              obtain ⟨_, p, hp, hpp⟩ := hh
              exact unhide HP p (by simp at hp; omega) hpp
        · skip
          have HTs : Hid (TallyAt (w) b (c) (m) (d) a) := hide (unhide HT)
          have HGs : Hid (w.grownBy (w) (some b)) := hide (grown_refl _ _)
          have k1 : kN 43 (h :: tl) = 0 := by unfold kN; rw [if_neg (by simp; assumption)]
          have k2 : kN 61 (h :: tl) = 0 := by unfold kN; rw [if_neg (by simp; assumption)]
          have k3 : kN 45 (h :: tl) = 0 := by unfold kN; rw [if_neg (by simp; assumption)]
          have hNP : Hid (¬ PkText (h :: tl)) := hide (fun h => by have := h.1; simp at this; exact h61 this)
          have q1 := kind_ne43 h43
          have q2 := kind_ne45 h45
          have q3 := kind_ne61 h61
          go_enter Tryd.func36, Tryd.ntmps36
          go_wp2_with fail
          go_loop [4] (fun i => ∃ k : Nat, k ≤ tl.length + 1 ∧ i = .int .i64 k) (fun i => tl.length + 1 - (intOf i).toNat)
          case atStart => exact ⟨0, by omega, rfl⟩
          case round =>
            obtain ⟨k, hk, rfl⟩ := hrel
            by_cases hlt2 : k + 5 ≤ tl.length + 1
            · have hle : decide ((k : Int) + 5 ≤ (tl.length : Int) + 1) = true := by simp; omega
              go_wp2
              go_round
              case rel => exact ⟨k + 1, by omega, by go_num⟩
              case measure => simp [intOf]; omega
            · have hle : decide ((k : Int) + 5 ≤ (tl.length : Int) + 1) = false := by simp; omega
              go_wp2
              go_end0
              exact ⟨rfl, ⟨a, unhide HTs, Nat.le_refl _, by omega, fun hh => absurd hh (unhide hNP)⟩, unhide HGs⟩
end Go.Proofs.YtdcjimlhaklhfaaDoor

namespace Go.Proofs.YtdcjimlhaklhfaaDoor
open Go.RowKit
/-! Scripts between two trees, as the document looks at them: lists of steps. -/
/-- the step home of a node of the second tree -/
def homeB (a : List Nd) (n : Nd) : List St := match lookR a n.id with
  | none => [⟨43, n⟩]
  | some m => if ndEq m n then [] else [⟨61, n⟩]
/-- the step home of a node of the first tree -/
def homeA (b : List Nd) (n : Nd) : List St := match lookR b n.id with
  | none => [⟨45, ⟨n.id, 0, []⟩⟩]
  | some _ => []
def homesR (a b : List Nd) : List St := b.flatMap (homeB a) ++ a.flatMap (homeA b)
theorem flat_take_succ {α : Type} (f : Nd → List α) (l : List Nd) (k : Nat) (h : k < l.length) : (l.take (k + 1)).flatMap f = (l.take k).flatMap f ++ f l[k] := by
  rw [List.take_succ_eq_append_getElem h, List.flatMap_append]; simp
theorem homeB_len (a : List Nd) (n : Nd) : (homeB a n).length ≤ 1 := by
  unfold homeB; split
  · simp
  · split <;> simp
theorem homeA_len (b : List Nd) (n : Nd) : (homeA b n).length ≤ 1 := by
  unfold homeA; split <;> simp
theorem flat_len {α : Type} (f : Nd → List α) (hf : ∀ n, (f n).length ≤ 1) : ∀ l : List Nd, (l.flatMap f).length ≤ l.length := by
  intro l
  induction l with
  | nil => simp
  | cons n l ih => rw [List.flatMap_cons, List.length_append, List.length_cons]; have := hf n; omega
theorem homesR_len (a b : List Nd) : (homesR a b).length ≤ a.length + b.length := by
  unfold homesR; rw [List.length_append]
  have h1 := flat_len (homeB a) (homeB_len a) b
  have h2 := flat_len (homeA b) (homeA_len b) a
  omega
/-- Where a step stands. -/
def atIs (l : List St) (s : St) (i : Nat) : Bool := match l[i]? with
  | none => false
  | some x => stEq x s
/-- Where 'without' stands behind i steps. -/
def WoInv (l : List St) (k i : Nat) (out : List St) : Prop := out = (l.take i).eraseIdx k
theorem woInv_yes {l : List St} {k i : Nat} {out : List St} (h : WoInv l k i out) (hi : i < l.length) (hk : i ≠ k) : WoInv l k (i + 1) (out ++ [l[i]]) := by
  unfold WoInv at *
  rw [List.take_succ_eq_append_getElem hi, h]
  have hl : (l.take i).length = i := by rw [List.length_take]; omega
  rcases Nat.lt_or_ge k i with hlt | hge
  · rw [List.eraseIdx_append_of_lt_length (by omega)]
  · rw [List.eraseIdx_of_length_le (by omega), List.eraseIdx_of_length_le (by rw [List.length_append, hl]; simp; omega)]
theorem woInv_no {l : List St} {k : Nat} {out : List St} (h : WoInv l k k out) (hi : k < l.length) : WoInv l k (k + 1) out := by
  unfold WoInv at *
  have hl : (l.take k).length = k := by rw [List.length_take]; omega
  rw [List.take_succ_eq_append_getElem hi, h, List.eraseIdx_of_length_le (by omega), List.eraseIdx_append_of_length_le (by omega), hl]
  simp
theorem woInv_end {l : List St} {k i : Nat} {out : List St} (h : WoInv l k i out) (hi : ¬ i < l.length) : l.eraseIdx k = out := by
  unfold WoInv at h
  rw [List.take_of_length_le (by omega)] at h; exact h.symm
theorem woInv_len {l : List St} {k i : Nat} {out : List St} (h : WoInv l k i out) : out.length ≤ i := by
  unfold WoInv at h; rw [h]
  have h1 := List.length_eraseIdx_le (l.take i) k
  have h2 : (l.take i).length ≤ i := by rw [List.length_take]; omega
  omega
/-- Where the first loop of 'homes' stands behind i nodes. -/
def HbInv (a b : List Nd) (i : Nat) (out : List St) : Prop := out = (b.take i).flatMap (homeB a)
def HaInv (a b : List Nd) (i : Nat) (out : List St) : Prop := out = b.flatMap (homeB a) ++ (a.take i).flatMap (homeA b)
theorem hbInv_next {a b : List Nd} {i : Nat} {out : List St} (h : HbInv a b i out) (hi : i < b.length) {x : List St} (hx : homeB a b[i] = x) : HbInv a b (i + 1) (out ++ x) := by
  unfold HbInv at *; rw [flat_take_succ _ _ _ hi, h, hx]
theorem hbInv_end {a b : List Nd} {i : Nat} {out : List St} (h : HbInv a b i out) (hi : ¬ i < b.length) : HaInv a b 0 out := by
  unfold HbInv at h; unfold HaInv
  rw [List.take_of_length_le (by omega)] at h; rw [h]; simp
theorem haInv_next {a b : List Nd} {i : Nat} {out : List St} (h : HaInv a b i out) (hi : i < a.length) {x : List St} (hx : homeA b a[i] = x) : HaInv a b (i + 1) (out ++ x) := by
  unfold HaInv at *; rw [flat_take_succ _ _ _ hi, h, hx, List.append_assoc]
theorem haInv_end {a b : List Nd} {i : Nat} {out : List St} (h : HaInv a b i out) (hi : ¬ i < a.length) : homesR a b = out := by
  unfold HaInv at h
  rw [List.take_of_length_le (by omega)] at h; rw [h]; rfl
theorem hbInv_len {a b : List Nd} {i : Nat} {out : List St} (h : HbInv a b i out) (hi : i ≤ b.length) : out.length ≤ i := by
  unfold HbInv at h; rw [h]
  have := flat_len (homeB a) (homeB_len a) (b.take i)
  rw [List.length_take] at this; omega
theorem haInv_len {a b : List Nd} {i : Nat} {out : List St} (h : HaInv a b i out) (hi : i ≤ a.length) : out.length ≤ b.length + i := by
  unfold HaInv at h; rw [h, List.length_append]
  have h1 := flat_len (homeB a) (homeB_len a) b
  have h2 := flat_len (homeA b) (homeA_len b) (a.take i)
  rw [List.length_take] at h2; omega
theorem homeB_new {a : List Nd} {n : Nd} (h : lookR a n.id = none) : homeB a n = [⟨43, n⟩] := by unfold homeB; rw [h]
theorem homeB_same {a : List Nd} {n m : Nd} (h : lookR a n.id = some m) (he : ndEq m n = true) : homeB a n = [] := by unfold homeB; rw [h]; exact if_pos he
theorem homeB_else {a : List Nd} {n m : Nd} (h : lookR a n.id = some m) (he : ndEq m n = false) : homeB a n = [⟨61, n⟩] := by unfold homeB; rw [h]; exact if_neg (by rw [he]; decide)
theorem homeA_gone {b : List Nd} {n : Nd} (h : lookR b n.id = none) : homeA b n = [⟨45, ⟨n.id, 0, []⟩⟩] := by unfold homeA; rw [h]
theorem homeA_kept {b : List Nd} {n m : Nd} (h : lookR b n.id = some m) : homeA b n = [] := by unfold homeA; rw [h]
end Go.Proofs.YtdcjimlhaklhfaaDoor

namespace Go.Proofs.YtdcjimlhaklhfaaDoor
open Go.RowKit
/-! The steps home that are still to come, as a list. -/
structure LeftInv (left : List St) (a g : Tr) : Prop where
  ids : (left.map (·.node.id)).Nodup
  mem : ∀ s, s ∈ left ↔ (1 ≤ s.node.id ∧ s.node.id ≤ 99 ∧ homeS a g s.node.id = some s)
theorem left_ok {left : List St} {a g : Tr} (h : LeftInv left a g) (hg : TrOk g) : ∀ s ∈ left, StOk s := by
  intro s hs
  obtain ⟨h1, h2, h3⟩ := (h.mem s).1 hs
  exact (home_ok hg h1 h2 h3).1
theorem left_len {left : List St} {a g : Tr} (h : LeftInv left a g) : left.length ≤ 99 := by
  have := pigeon (left.map (·.node.id)) ((List.range' 1 99).map (fun i : Nat => (i : Int))) h.ids (fun x hx => by
    obtain ⟨s, hs, rfl⟩ := List.mem_map.1 hx
    obtain ⟨h1, h2, _⟩ := (h.mem s).1 hs
    refine List.mem_map.2 ⟨s.node.id.toNat, ?_, ?_⟩
    · rw [List.mem_range'_1]; omega
    · show ((s.node.id.toNat : Nat) : Int) = s.node.id; omega)
  simpa using this
theorem flat_ids {f : Nd → List St} (hf : ∀ n, ∀ s ∈ f n, s.node.id = n.id) (hl : ∀ n, (f n).length ≤ 1) : ∀ (l : List Nd), (l.map (·.id)).Nodup → ((l.flatMap f).map (·.node.id)).Nodup ∧ ∀ s ∈ l.flatMap f, ∃ n ∈ l, s ∈ f n := by
  intro l
  induction l with
  | nil => intro _; simp
  | cons n l ih =>
    intro h
    rw [List.map_cons, List.nodup_cons] at h
    obtain ⟨h1, h2⟩ := ih h.2
    refine ⟨?_, fun s hs => ?_⟩
    · rw [List.flatMap_cons, List.map_append, List.nodup_append]
      refine ⟨?_, h1, fun x hx y hy e => ?_⟩
      · have := hl n
        match hq : f n with
        | [] => simp
        | [s] => simp
        | s :: t :: r => rw [hq] at this; simp at this
      · obtain ⟨s, hs, rfl⟩ := List.mem_map.1 hx
        obtain ⟨t, ht, rfl⟩ := List.mem_map.1 hy
        obtain ⟨m, hm, htm⟩ := h2 t ht
        rw [hf n s hs, hf m t htm] at e
        exact h.1 (List.mem_map.2 ⟨m, hm, e.symm⟩)
    · rw [List.flatMap_cons] at hs
      rcases List.mem_append.1 hs with hs | hs
      · exact ⟨n, by simp, hs⟩
      · obtain ⟨m, hm, hsm⟩ := h2 s hs; exact ⟨m, by simp [hm], hsm⟩
theorem homeB_id (a : List Nd) (n : Nd) : ∀ s ∈ homeB a n, s.node.id = n.id := by
  intro s hs
  unfold homeB at hs
  split at hs
  · simp at hs; rw [hs]
  · split at hs
    · simp at hs
    · simp at hs; rw [hs]
theorem homeA_id (b : List Nd) (n : Nd) : ∀ s ∈ homeA b n, s.node.id = n.id := by
  intro s hs
  unfold homeA at hs
  split at hs
  · simp at hs; rw [hs]
  · simp at hs
theorem left_start {na nb : List Nd} {a g : Tr} (ra : Rep na a) (rg : Rep nb g) (ha : TrOk a) (hg : TrOk g) : LeftInv (homesR na nb) a g := by
  obtain ⟨b1, b2⟩ := flat_ids (homeB_id na) (homeB_len na) nb rg.ids
  obtain ⟨a1, a2⟩ := flat_ids (homeA_id nb) (homeA_len nb) na ra.ids
  have hmB : ∀ n, n ∈ nb → ∀ s, s ∈ homeB na n ↔ (s.kind ≠ 45 ∧ homeS a g n.id = some s) := by
    intro n hn s
    obtain ⟨i, hi⟩ := (rep_mem rg hg).1 hn
    have hid := hg.2 i n hi
    have hgn : g n.id.toNat = some n := by rw [show n.id.toNat = i by omega]; exact hi
    unfold homeB
    rw [rep_look ra ha]
    cases hq : a n.id.toNat with
    | none =>
      rw [home_new hq hgn]
      simp only [List.mem_singleton, Option.some.injEq]
      constructor
      · rintro rfl; exact ⟨by show (43 : UInt8) ≠ 45; decide, rfl⟩
      · rintro ⟨_, rfl⟩; rfl
    | some m =>
      simp only
      cases he : ndEq m n
      · rw [home_move hq hgn (fun e => by rw [ndEq_iff.2 e] at he; cases he), if_neg (by simp)]
        simp only [List.mem_singleton, Option.some.injEq]
        constructor
        · rintro rfl; exact ⟨by show (61 : UInt8) ≠ 45; decide, rfl⟩
        · rintro ⟨_, rfl⟩; rfl
      · rw [if_pos rfl, home_none.2 (by rw [hq, hgn, ndEq_iff.1 he])]
        simp
  have hmA : ∀ n, n ∈ na → ∀ s, s ∈ homeA nb n ↔ (s.kind = 45 ∧ homeS a g n.id = some s) := by
    intro n hn s
    obtain ⟨i, hi⟩ := (rep_mem ra ha).1 hn
    have hid := ha.2 i n hi
    have han : a n.id.toNat = some n := by rw [show n.id.toNat = i by omega]; exact hi
    unfold homeA
    rw [rep_look rg hg]
    cases hq : g n.id.toNat with
    | none =>
      rw [home_del han hq]
      simp only [List.mem_singleton, Option.some.injEq]
      constructor
      · rintro rfl; exact ⟨rfl, rfl⟩
      · rintro ⟨_, rfl⟩; rfl
    | some m =>
      simp only [List.not_mem_nil, false_iff]
      rintro ⟨hk, hs⟩
      rcases home_cases hs with ⟨_, h0, _⟩ | ⟨k, rfl, _⟩ | ⟨k, _, rfl, _⟩
      · rw [hq] at h0; cases h0
      · exact absurd hk (by show ¬ ((43 : UInt8) = 45); decide)
      · exact absurd hk (by show ¬ ((61 : UInt8) = 45); decide)
  refine ⟨?_, fun s => ?_⟩
  · unfold homesR
    rw [List.map_append, List.nodup_append]
    refine ⟨b1, a1, fun x hx y hy e => ?_⟩
    obtain ⟨s, hs, rfl⟩ := List.mem_map.1 hx
    obtain ⟨t, ht, rfl⟩ := List.mem_map.1 hy
    obtain ⟨n, hn, hsn⟩ := b2 s hs
    obtain ⟨m, hm, htm⟩ := a2 t ht
    have e1 := homeB_id na n s hsn
    have e2 := homeA_id nb m t htm
    obtain ⟨k1, k2⟩ := (hmB n hn s).1 hsn
    obtain ⟨k3, k4⟩ := (hmA m hm t).1 htm
    rw [show m.id = n.id by rw [← e1, ← e2, e], k2] at k4
    cases k4
    exact k1 k3
  · unfold homesR
    rw [List.mem_append]
    constructor
    · rintro (hs | hs)
      · obtain ⟨n, hn, hsn⟩ := b2 s hs
        have e1 := homeB_id na n s hsn
        have hb := rg.ok n hn
        rw [e1]
        exact ⟨hb.1, hb.2.1, ((hmB n hn s).1 hsn).2⟩
      · obtain ⟨n, hn, hsn⟩ := a2 s hs
        have e1 := homeA_id nb n s hsn
        have hb := ra.ok n hn
        rw [e1]
        exact ⟨hb.1, hb.2.1, ((hmA n hn s).1 hsn).2⟩
    · rintro ⟨h1, h2, h3⟩
      rcases home_cases h3 with ⟨e, hgn, m, hm⟩ | ⟨n, e, hgn, han⟩ | ⟨n, m, e, hgn, hm, _⟩
      · right
        have hmem : m ∈ na := (rep_mem ra ha).2 ⟨_, hm⟩
        have hid := (trOk_id ha (by omega) hm).1
        refine List.mem_flatMap.2 ⟨m, hmem, (hmA m hmem s).2 ⟨by rw [e], by rw [hid]; exact h3⟩⟩
      · left
        have hmem : n ∈ nb := (rep_mem rg hg).2 ⟨_, hgn⟩
        have hid := (trOk_id hg (by omega) hgn).1
        refine List.mem_flatMap.2 ⟨n, hmem, (hmB n hmem s).2 ⟨by rw [e]; show (43 : UInt8) ≠ 45; decide, by rw [hid]; exact h3⟩⟩
      · left
        have hmem : n ∈ nb := (rep_mem rg hg).2 ⟨_, hgn⟩
        have hid := (trOk_id hg (by omega) hgn).1
        refine List.mem_flatMap.2 ⟨n, hmem, (hmB n hmem s).2 ⟨by rw [e]; show (61 : UInt8) ≠ 45; decide, by rw [hid]; exact h3⟩⟩
theorem left_erase {left : List St} {a g : Tr} (h : LeftInv left a g) (hg : TrOk g) {k : Nat} (hk : k < left.length) (he : stepE a left[k] = 0) : LeftInv (left.eraseIdx k) (stepT a left[k]) g := by
  have hm : left[k] ∈ left := List.getElem_mem hk
  obtain ⟨h1, h2, h3⟩ := (h.mem _).1 hm
  have hd := home_done hg h1 h3 he
  have hids : ∀ i (hi : i < left.length), i ≠ k → (left[i]).node.id ≠ (left[k]).node.id := by
    intro i hi hne e
    have := (List.nodup_iff_pairwise_ne.1 h.ids)
    rw [List.pairwise_map] at this
    rcases Nat.lt_or_gt_of_ne hne with hlt | hlt
    · exact List.pairwise_iff_getElem.1 this i k hi hk hlt e
    · exact List.pairwise_iff_getElem.1 this k i hk hi hlt e.symm
  refine ⟨List.Nodup.sublist (List.Sublist.map _ (List.eraseIdx_sublist _ _)) h.ids, fun s => ?_⟩
  rw [List.mem_eraseIdx_iff_getElem]
  constructor
  · rintro ⟨i, hi, hne, rfl⟩
    obtain ⟨j1, j2, j3⟩ := (h.mem _).1 (List.getElem_mem hi)
    refine ⟨j1, j2, ?_⟩
    rw [← j3]
    refine home_congr ?_
    rw [hd, if_neg (by have := hids i hi hne; omega)]
  · rintro ⟨j1, j2, j3⟩
    have hne : s.node.id ≠ (left[k]).node.id := by
      intro e
      rw [e] at j3
      have : homeS (stepT a left[k]) g (left[k]).node.id = none := home_none.2 (by rw [hd, if_pos (by omega)])
      rw [this] at j3; cases j3
    have hs : s ∈ left := (h.mem s).2 ⟨j1, j2, by rw [← j3]; refine home_congr ?_; rw [hd, if_neg (by omega)]⟩
    obtain ⟨i, hi, e⟩ := List.mem_iff_getElem.1 hs
    refine ⟨i, hi, fun e2 => ?_, e⟩
    subst e2; rw [e] at hne; exact hne rfl
theorem left_park {left : List St} {a g : Tr} (h : LeftInv left a g) {id : Int} (h1 : 1 ≤ id) {n : Nd} (hs : homeS a g id = some ⟨61, n⟩) (he : stepE a (parkS id) = 0) (hnp : parkS id ∉ left) (h2 : id ≤ 99) (hg : TrOk g) : LeftInv left (stepT a (parkS id)) g := by
  have hd := park_done he
  have hn : g id.toNat = some n := by
    rcases home_cases hs with ⟨e, _⟩ | ⟨_, e, _⟩ | ⟨k, m, e, hk, _⟩
    · cases e
    · cases e
    · cases e; exact hk
  have hid := (trOk_id hg (by omega) hn).1
  have hne : parkN id ≠ n := by
    intro e
    apply hnp
    refine (h.mem _).2 ⟨h1, h2, ?_⟩
    show homeS a g id = some ⟨61, parkN id⟩
    rw [e]; exact hs
  have hsame : ∀ j, 1 ≤ j → homeS (stepT a (parkS id)) g j = homeS a g j := by
    intro j hj
    by_cases e : j = id
    · subst e
      rw [hs]
      exact home_move (m := parkN j) (by rw [hd, if_pos (by omega)]) hn hne
    · refine home_congr ?_
      rw [hd, if_neg (by omega)]
  refine ⟨h.ids, fun s => ?_⟩
  rw [h.mem s]
  constructor
  · rintro ⟨j1, j2, j3⟩; exact ⟨j1, j2, by rw [hsame _ j1]; exact j3⟩
  · rintro ⟨j1, j2, j3⟩; exact ⟨j1, j2, by rw [← hsame _ j1]; exact j3⟩
theorem left_end {left : List St} {g : Tr} (h : LeftInv left g g) : left = [] := by
  cases left with
  | nil => rfl
  | cons s l =>
    obtain ⟨_, _, h3⟩ := (h.mem s).1 (by simp)
    rw [home_none.2 rfl] at h3; cases h3
/-- A park is never a step home where nothing can be done. -/
theorem park_not_left {left : List St} {a g : Tr} (h : LeftInv left a g) (hst : Stuck a g) {id : Int} (he : stepE a (parkS id) = 0) : parkS id ∉ left := by
  intro hm
  obtain ⟨h1, h2, h3⟩ := (h.mem _).1 hm
  exact hst _ _ h1 h2 h3 he
end Go.Proofs.YtdcjimlhaklhfaaDoor

namespace Go.Proofs.YtdcjimlhaklhfaaDoor
open Go.RowKit
/-! How many steps of each kind. -/
def isK (k : UInt8) (s : St) : Bool := s.kind == k
def cntK (k : UInt8) (l : List St) : Nat := l.countP (isK k)
def isParkB (s : St) : Bool := s.kind == 61 && ndEq s.node (parkN s.node.id)
def parkCnt (l : List St) : Nat := l.countP isParkB
theorem count_erase (p : St → Bool) : ∀ (l : List St) (k : Nat) (hk : k < l.length), l.countP p = (l.eraseIdx k).countP p + (if p l[k] then 1 else 0) := by
  intro l
  induction l with
  | nil => intro k hk; simp at hk
  | cons s l ih =>
    intro k hk
    cases k with
    | zero => simp [List.countP_cons]
    | succ k =>
      have := ih k (by simpa using hk)
      simp only [List.eraseIdx_cons_succ, List.countP_cons, List.getElem_cons_succ]
      omega
theorem sum_erase (f : St → Nat) : ∀ (l : List St) (k : Nat) (hk : k < l.length), (l.map f).sum = ((l.eraseIdx k).map f).sum + f l[k] := by
  intro l
  induction l with
  | nil => intro k hk; simp at hk
  | cons s l ih =>
    intro k hk
    cases k with
    | zero => simp [Nat.add_comm]
    | succ k =>
      have := ih k (by simpa using hk)
      simp only [List.eraseIdx_cons_succ, List.map_cons, List.sum_cons, List.getElem_cons_succ]
      omega
def wtv (t : Tr) (s : St) : Nat := if s.kind == 61 then (if parkedB t s.node.id.toNat then 1 else 2) else 0
def mvW (t : Tr) (l : List St) : Nat := (l.map (wtv t)).sum
theorem mvW_le (t : Tr) : ∀ l : List St, mvW t l ≤ 2 * cntK 61 l := by
  intro l
  induction l with
  | nil => simp [mvW, cntK]
  | cons s l ih =>
    unfold mvW cntK at ih ⊢
    rw [List.map_cons, List.sum_cons, List.countP_cons]
    have hw : wtv t s = if isK 61 s then (if parkedB t s.node.id.toNat then 1 else 2) else 0 := rfl
    have hw2 : wtv t s ≤ 2 * (if isK 61 s then 1 else 0) := by
      rw [hw]
      cases isK 61 s
      · simp
      · simp only [if_true]; split <;> omega
    omega
theorem sumS_le {f h : St → Nat} : ∀ (l : List St), (∀ s ∈ l, f s ≤ h s) → (l.map f).sum ≤ (l.map h).sum := by
  intro l
  induction l with
  | nil => simp
  | cons x l ih =>
    intro hh
    have h1 := hh x (by simp)
    have h2 := ih (fun s hs => hh s (by simp [hs]))
    simp only [List.map_cons, List.sum_cons]; omega
theorem sumS_lt {f h : St → Nat} : ∀ (l : List St) (k : St), k ∈ l → (∀ s ∈ l, f s ≤ h s) → f k < h k → (l.map f).sum < (l.map h).sum := by
  intro l
  induction l with
  | nil => intro k hk; simp at hk
  | cons x l ih =>
    intro k hk hh hlt
    have h1 := hh x (by simp)
    have h2 := sumS_le l (fun s hs => hh s (by simp [hs]))
    simp only [List.map_cons, List.sum_cons]
    rcases List.mem_cons.1 hk with rfl | hk
    · omega
    · have := ih k hk (fun s hs => hh s (by simp [hs])) hlt; omega
theorem parkedB_congr {a b : Tr} {i : Nat} (h : a i = b i) : parkedB a i = parkedB b i := by unfold parkedB; rw [h]
theorem seg_counts {g : Tr} (hg : TrOk g) {t b : Tr} {ss : List St} (h : Seg g t ss b) : b = g → ∀ left, LeftInv left t g →
    cntK 43 ss = cntK 43 left ∧ cntK 45 ss = cntK 45 left ∧ cntK 61 left ≤ cntK 61 ss ∧ cntK 61 ss ≤ cntK 61 left + parkCnt ss ∧ cntK 61 ss ≤ mvW t left := by
  induction h with
  | nil t =>
    intro hb left hl
    subst hb
    rw [left_end hl]
    simp [cntK, mvW]
  | @home t b i s ss h1 h2 hs he _ ih =>
    intro hb left hl
    have hoi := (home_ok hg h1 h2 hs).2
    have hm : s ∈ left := (hl.mem s).2 ⟨by rw [hoi]; exact h1, by rw [hoi]; exact h2, by rw [hoi]; exact hs⟩
    obtain ⟨k, hk, e⟩ := List.mem_iff_getElem.1 hm
    have hl2 := left_erase hl hg hk (by rw [e]; exact he)
    rw [e] at hl2
    obtain ⟨i1, i2, i3, i4, i5⟩ := ih hb (left.eraseIdx k) hl2
    have c1 := count_erase (isK 43) left k hk
    have c2 := count_erase (isK 45) left k hk
    have c3 := count_erase (isK 61) left k hk
    have c4 := sum_erase (wtv t) left k hk
    rw [e] at c1 c2 c3 c4
    have hd := home_done hg h1 hs he
    have c5 : mvW (stepT t s) (left.eraseIdx k) = mvW t (left.eraseIdx k) := by
      unfold mvW
      congr 1
      refine List.map_congr_left (fun o ho => ?_)
      have hne : o.node.id ≠ i := by
        intro e2
        obtain ⟨o1, o2, o3⟩ := (hl2.mem o).1 ho
        rw [home_none.2 (by rw [hd, if_pos (by omega)])] at o3; cases o3
      have ho1 := ((hl2.mem o).1 ho).1
      unfold wtv
      rw [parkedB_congr (show stepT t s o.node.id.toNat = t o.node.id.toNat by rw [hd, if_neg (by omega)])]
    rw [c5] at i5
    unfold cntK parkCnt mvW at *
    simp only [List.countP_cons]
    have hw : wtv t s = if isK 61 s then (if parkedB t s.node.id.toNat then 1 else 2) else 0 := rfl
    rw [hw] at c4
    refine ⟨by omega, by omega, by omega, by omega, ?_⟩
    cases hq : isK 61 s
    · rw [hq] at c4 c3; simp at c4 c3 ⊢; omega
    · rw [hq] at c4 c3
      simp only [if_true] at c4 c3 ⊢
      split at c4 <;> omega
  | @park t b i n ss h1 h2 hno hs hp he _ ih =>
    intro hb left hl
    have hnl := park_not_left hl hno he
    have hl2 := left_park hl h1 hs he hnl h2 hg
    obtain ⟨i1, i2, i3, i4, i5⟩ := ih hb left hl2
    have hoi := (home_ok hg h1 h2 hs).2
    have hm : (⟨61, n⟩ : St) ∈ left := (hl.mem _).2 ⟨by rw [hoi]; exact h1, by rw [hoi]; exact h2, by rw [hoi]; exact hs⟩
    have hd := park_done he
    have hlt : mvW (stepT t (parkS i)) left < mvW t left := by
      refine sumS_lt left ⟨61, n⟩ hm (fun o ho => ?_) ?_
      · obtain ⟨o1, _⟩ := (hl.mem o).1 ho
        unfold wtv
        split
        · by_cases e2 : o.node.id = i
          · have : parkedB (stepT t (parkS i)) o.node.id.toNat = true := parkedB_iff.2 (by rw [hd, if_pos (by omega), e2]; congr 2; omega)
            rw [this]; simp; split <;> omega
          · rw [parkedB_congr (show stepT t (parkS i) o.node.id.toNat = t o.node.id.toNat by rw [hd, if_neg (by omega)])]; omega
        · omega
      · have e3 : n.id = i := hoi
        have q1 : parkedB (stepT t (parkS i)) n.id.toNat = true := parkedB_iff.2 (by rw [hd, if_pos (by omega), e3]; congr 2; omega)
        have q2 : parkedB t n.id.toNat = false := by
          cases hq : parkedB t n.id.toNat
          · rfl
          · have := parkedB_iff.1 hq
            rw [e3, Int.toNat_of_nonneg (by omega)] at this
            exact absurd this hp
        show (if (61 : UInt8) == 61 then (if parkedB (stepT t (parkS i)) n.id.toNat then 1 else 2) else 0) < (if (61 : UInt8) == 61 then (if parkedB t n.id.toNat then 1 else 2) else 0)
        rw [q1, q2]; decide
    have k1 : isK 43 (parkS i) = false := rfl
    have k2 : isK 45 (parkS i) = false := rfl
    have k3 : isK 61 (parkS i) = true := rfl
    have k4 : isParkB (parkS i) = true := by
      show ((61 : UInt8) == 61 && ndEq (parkN i) (parkN i)) = true
      rw [ndEq_iff.2 rfl]; rfl
    unfold cntK parkCnt at *
    simp only [List.countP_cons, k1, k2, k3, k4, if_true]
    refine ⟨by simpa using i1, by simpa using i2, by omega, by omega, by omega⟩
theorem make_counts {na nb : List Nd} {a g : Tr} (ra : Rep na a) (rg : Rep nb g) (hva : Valid a) (hvg : Valid g) :
    cntK 43 (makeT a g) = cntK 43 (homesR na nb) ∧ cntK 45 (makeT a g) = cntK 45 (homesR na nb) ∧ cntK 61 (homesR na nb) ≤ cntK 61 (makeT a g) ∧ cntK 61 (makeT a g) ≤ cntK 61 (homesR na nb) + parkCnt (makeT a g) ∧ cntK 61 (makeT a g) ≤ 2 * cntK 61 (homesR na nb) := by
  obtain ⟨h1, h2, h3, h4, h5⟩ := seg_counts hvg.ok (makeT_seg hva hvg) rfl _ (left_start ra rg hva.ok hvg.ok)
  exact ⟨h1, h2, h3, h4, Nat.le_trans h5 (mvW_le _ _)⟩
/-! The document's own counts: over the nodes of the two trees. -/
def newIs (na : List Nd) (n : Nd) : Bool := (lookR na n.id).isNone
def othIs (na : List Nd) (n : Nd) : Bool := match lookR na n.id with
  | none => false
  | some m => !ndEq m n
theorem cnt_flat (k : UInt8) (f : Nd → List St) (p : Nd → Bool) (h : ∀ n, cntK k (f n) = if p n then 1 else 0) : ∀ l : List Nd, cntK k (l.flatMap f) = l.countP p := by
  intro l
  induction l with
  | nil => rfl
  | cons n l ih =>
    unfold cntK at *
    rw [List.flatMap_cons, List.countP_append, List.countP_cons, ih, h n]; omega
theorem homes_new (na nb : List Nd) : cntK 43 (homesR na nb) = nb.countP (newIs na) := by
  have e1 : cntK 43 (nb.flatMap (homeB na)) = nb.countP (newIs na) := cnt_flat 43 _ _ (fun n => by
    unfold homeB newIs cntK
    cases lookR na n.id with
    | none => simp [isK]
    | some m => simp only; split <;> simp [isK]) nb
  have e2 : cntK 43 (na.flatMap (homeA nb)) = na.countP (fun _ => false) := cnt_flat 43 _ _ (fun n => by
    unfold homeA cntK
    cases lookR nb n.id <;> simp [isK]) na
  unfold homesR cntK at *
  rw [List.countP_append, e1, e2]; simp
theorem homes_oth (na nb : List Nd) : cntK 61 (homesR na nb) = nb.countP (othIs na) := by
  have e1 : cntK 61 (nb.flatMap (homeB na)) = nb.countP (othIs na) := cnt_flat 61 _ _ (fun n => by
    unfold homeB othIs cntK
    cases lookR na n.id with
    | none => simp [isK]
    | some m =>
      simp only
      by_cases hq : ndEq m n = true
      · rw [if_pos hq, if_neg (by simp [hq])]; rfl
      · rw [if_neg hq, if_pos (by simpa using hq)]; rfl) nb
  have e2 : cntK 61 (na.flatMap (homeA nb)) = na.countP (fun _ => false) := cnt_flat 61 _ _ (fun n => by
    unfold homeA cntK
    cases lookR nb n.id <;> simp [isK]) na
  unfold homesR cntK at *
  rw [List.countP_append, e1, e2]; simp
theorem homes_del (na nb : List Nd) : cntK 45 (homesR na nb) = na.countP (newIs nb) := by
  have e1 : cntK 45 (nb.flatMap (homeB na)) = nb.countP (fun _ => false) := cnt_flat 45 _ _ (fun n => by
    unfold homeB cntK
    cases lookR na n.id with
    | none => simp [isK]
    | some m => simp only; split <;> simp [isK]) nb
  have e2 : cntK 45 (na.flatMap (homeA nb)) = na.countP (newIs nb) := cnt_flat 45 _ _ (fun n => by
    unfold homeA newIs cntK
    cases lookR nb n.id <;> simp [isK]) na
  unfold homesR cntK at *
  rw [List.countP_append, e1, e2]; simp
theorem count_not (p : Nd → Bool) : ∀ l : List Nd, l.countP p + (l.filter (fun n => !p n)).length = l.length := by
  intro l
  induction l with
  | nil => rfl
  | cons n l ih =>
    rw [List.countP_cons, List.filter_cons, List.length_cons]
    cases p n <;> simp <;> omega
theorem both_le {na nb : List Nd} (ha : (na.map (·.id)).Nodup) : (na.filter (fun n => !newIs nb n)).length ≤ (nb.filter (fun n => !newIs na n)).length := by
  have := pigeon ((na.filter (fun n => !newIs nb n)).map (·.id)) ((nb.filter (fun n => !newIs na n)).map (·.id)) (List.Nodup.sublist (List.Sublist.map _ List.filter_sublist) ha) (fun x hx => by
    obtain ⟨n, hn, rfl⟩ := List.mem_map.1 hx
    rw [List.mem_filter] at hn
    unfold newIs at hn
    cases hq : lookR nb n.id with
    | none => rw [hq] at hn; simp at hn
    | some m =>
      obtain ⟨m1, m2⟩ := lookR_mem hq
      refine List.mem_map.2 ⟨m, List.mem_filter.2 ⟨m1, ?_⟩, m2⟩
      unfold newIs
      cases hq2 : lookR na m.id with
      | none => exact absurd m2.symm (lookR_no hq2 n hn.1)
      | some _ => rfl)
  simpa using this
/-- Deletions: by the two trees' lengths. -/
theorem homes_del_len {na nb : List Nd} {a g : Tr} (ra : Rep na a) (rg : Rep nb g) : cntK 45 (homesR na nb) + nb.length = na.length + cntK 43 (homesR na nb) := by
  rw [homes_del, homes_new]
  have h1 := count_not (newIs nb) na
  have h2 := count_not (newIs na) nb
  have h3 := both_le (nb := nb) ra.ids
  have h4 := both_le (nb := na) rg.ids
  omega
end Go.Proofs.YtdcjimlhaklhfaaDoor

namespace Go.Proofs.YtdcjimlhaklhfaaDoor
open Go.RowKit
theorem kN_step {s : St} (_hs : StOk s) (k : UInt8) : kN k (stText s) = if isK k s then 1 else 0 := by
  have hh : (stText s).head? = some s.kind := by
    unfold stText
    by_cases h : s.kind = 45
    · rw [if_pos h, h]; rfl
    · rw [if_neg h]; rfl
  unfold kN isK
  rw [hh]
  by_cases h : s.kind = k
  · rw [if_pos (by rw [h]), if_pos (by simpa using h)]
  · rw [if_neg (by simpa using h), if_neg (by simpa using h)]
theorem hit_mid (pre post : Str) : hitB (pre ++ ([32, 48, 32, 116, 126] ++ post)) pre.length = true := by
  unfold hitB
  have : ((pre ++ ([32, 48, 32, 116, 126] ++ post)).take (pre.length + 5)).drop pre.length = [32, 48, 32, 116, 126] := by
    rw [List.take_length_add_append, List.drop_left]; rfl
  rw [this]; rfl
theorem park_text {s : St} (h : isParkB s = true) : PkText (stText s) := by
  unfold isParkB at h
  rw [Bool.and_eq_true, beq_iff_eq, ndEq_iff] at h
  obtain ⟨hk, hn⟩ := h
  have e : stText s = (61 :: digs s.node.id) ++ ([32, 48, 32, 116, 126] ++ (digs s.node.id ++ [59])) := by
    unfold stText
    rw [if_neg (by rw [hk]; decide), hk]
    have e2 : nodeText s.node = digs s.node.id ++ [32] ++ digs 0 ++ [32] ++ (116 :: 126 :: digs s.node.id) ++ [59] := by
      conv => lhs; rw [hn]
      rfl
    rw [e2]
    have e3 : digs 0 = [48] := rfl
    rw [e3]; simp
  refine ⟨by rw [e]; rfl, (61 :: digs s.node.id).length, ?_, ?_⟩
  · rw [e, List.length_append, List.length_append]; simp
  · rw [e]; exact hit_mid _ _
theorem cnt_take (p : St → Bool) (ss : List St) (k : Nat) (hk : k < ss.length) : (ss.take (k + 1)).countP p = (ss.take k).countP p + (if p ss[k] then 1 else 0) := by
  rw [List.take_succ_eq_append_getElem hk, List.countP_append]; simp [List.countP_cons]
theorem row_kept {w w' : World} {ao : Option Addr} {n size : Nat} {xs : List Value} {b : Nat} (h : Row w ao n size xs) (hg : w.grownBy w' (some b)) (hne : 0 < n → ∀ g, ao = some ⟨g, 0, none⟩ → g ≠ b) : Row w' ao n size xs := by
  refine ⟨h.1, fun hn => ?_⟩
  obtain ⟨g, h1, h2, h3⟩ := h.2 hn
  refine ⟨g, h1, by have := hg.size; omega, fun j u hu => ?_⟩
  rw [World.cell?_of_block (a := ⟨g, j, none⟩) (hg.block g h2 (fun e => hne hn g h1 (by cases e; rfl)))]
  exact h3 j u hu
theorem row_apart {w : World} {ao : Option Addr} {rs : List Str} {b c m d a : Nat} (hr : Row w ao rs.length 1 (rs.map strV)) (hT : TallyAt w b c m d a) : 0 < rs.length → ∀ g, ao = some ⟨g, 0, none⟩ → g ≠ b := by
  intro hn g hao e
  obtain ⟨g', h1, _, h3⟩ := hr.2 hn
  rw [hao] at h1
  cases h1
  have hc := h3 0 (strV rs[0]) (by simp [hn])
  rw [e, hT.cells.1] at hc
  cases hc
theorem cntK_le (k : UInt8) (l : List St) : cntK k l ≤ l.length := List.countP_le_length
set_option maxHeartbeats 4000000 in
theorem counted_any (ss : List St) (w : World) (hs : ∀ s ∈ ss, StOk s) (hl : (scriptText ss).length ≤ 4000) (hn : ss.length ≤ 198) :
    Calls Tryd.prog 19 #[.string (bs (scriptText ss))] w fun e w' => (∃ b a', e = .returned (.pointer (some ⟨b, 0, none⟩)) ∧ TallyAt w' b (cntK 43 ss) (cntK 61 ss) (cntK 45 ss) a' ∧ parkCnt ss ≤ a' ∧ a' ≤ 100000) ∧ Below w.heap.size w w' := by
  have HCT := hide (fun W => kcut_any (bs (scriptText ss)) W (by rw [bs_size]; exact hl))
  rw [sl_bs, cut_script ss hs, List.length_map] at HCT
  have HS := hide hs
  have HT0 := hide (tally_new w)
  have HB0 := hide ((Below.refl w.heap.size w).alloc (Nat.le_refl _) (.cells #[.int .i64 0, .int .i64 0, .int .i64 0, .int .i64 0] 50))
  clear hs hl
  generalize scriptText ss = sc at *
  go_enter Tryd.func19, Tryd.ntmps19
  go_wp2_with fail
  refine (unhide HCT _).mono ?_
  rintro e w1 ⟨lo, lc, rfl, hrow, hb1⟩
  have hT1 : TallyAt w1 w.heap.size 0 0 0 0 := by
    unfold TallyAt; rw [hb1.block _ (unhide HT0).lt]; exact unhide HT0
  have hrow' : Row w1 lo (ss.map stText).length 1 ((ss.map stText).map strV) := by rw [List.length_map]; exact hrow
  have hap := row_apart hrow' hT1
  rw [List.length_map] at hap
  have HAP := hide hap
  have HT1 := hide hT1
  have HROW := hide hrow
  have HB1 := hide ((unhide HB0).trans (hb1.mono (by simp)))
  clear hrow hrow' hap hT1 hb1
  generalize hbb : w.heap.size = b at *
  go_wp2_with fail
  go_loopw [5] (fun i wr => ∃ k a' : Nat, k ≤ ss.length ∧ i = .int .i64 k ∧ Hid (TallyAt wr b (cntK 43 (ss.take k)) (cntK 61 (ss.take k)) (cntK 45 (ss.take k)) a') ∧ Hid (Row wr lo ss.length 1 ((ss.map stText).map strV)) ∧ Hid (Below b w wr) ∧ parkCnt (ss.take k) ≤ a' ∧ a' ≤ 19 * k) (fun i _ => ss.length - (intOf i).toNat)
  case atStart => exact ⟨0, 0, by omega, rfl, HT1, HROW, HB1, by simp [parkCnt], by omega⟩
  case round =>
    obtain ⟨k, a', hk, rfl, HT, HR, HBL, hp, ha⟩ := hrel
    by_cases hlt : k < ss.length
    · have hr2 : Row wr lo (ss.map stText).length 1 ((ss.map stText).map strV) := by rw [List.length_map]; exact unhide HR
      obtain ⟨g, hlo, hg, hc⟩ := str_cell hr2 (Below.refl _ _) (k := k) (by rw [List.length_map]; exact hlt)
      rw [List.getElem_map] at hc
      have hsok := unhide HS _ (List.getElem_mem hlt)
      have htl := stText_len hsok
      have q1 := cntK_le 43 (ss.take k)
      have q2 := cntK_le 61 (ss.take k)
      have q3 := cntK_le 45 (ss.take k)
      rw [List.length_take] at q1 q2 q3
      have HAD := hide (add_any (stText ss[k]) b _ _ _ a' wr (unhide HT) (by omega) (by omega) (by omega) (by omega) (by omega))
      rw [kN_step hsok, kN_step hsok, kN_step hsok] at HAD
      have e1 := cnt_take (isK 43) ss k hlt
      have e2 := cnt_take (isK 61) ss k hlt
      have e3 := cnt_take (isK 45) ss k hlt
      have e4 := cnt_take isParkB ss k hlt
      have HPT : Hid (isParkB ss[k] = true → PkText (stText ss[k])) := hide park_text
      have HCN : Hid (cntK 43 (ss.take k) + (if isK 43 ss[k] then 1 else 0) = cntK 43 (ss.take (k + 1)) ∧ cntK 61 (ss.take k) + (if isK 61 ss[k] then 1 else 0) = cntK 61 (ss.take (k + 1)) ∧ cntK 45 (ss.take k) + (if isK 45 ss[k] then 1 else 0) = cntK 45 (ss.take (k + 1))) := hide ⟨e1.symm, e2.symm, e3.symm⟩
      have HPK : Hid (parkCnt (ss.take (k + 1)) = parkCnt (ss.take k) + (if isParkB ss[k] then 1 else 0)) := hide e4
      rw [hlo]
      have HLO := hide hlo
      clear hlo hr2 hsok e1 e2 e3 e4 q1 q2 q3
      generalize stText ss[k] = tx at *
      go_wp2_with fail
      refine (unhide HAD).mono ?_
      rintro e w2 ⟨rfl, ⟨a2, hT2, ha2, ha3, ha4⟩, hg2⟩
      rw [(unhide HCN).1, (unhide HCN).2.1, (unhide HCN).2.2] at hT2
      have HT2 := hide hT2
      have HR2 := hide (row_kept (unhide HR) hg2 (unhide HAP))
      have HB2 := hide ((unhide HBL).grown hg2 (by have := (unhide HBL).size; omega) (fun j hj => by cases hj; omega))
      have hp2 : parkCnt (ss.take (k + 1)) ≤ a2 := by
        rw [unhide HPK]
        by_cases hq : isParkB ss[k] = true
        · rw [if_pos hq]; have := ha4 (unhide HPT hq); omega
        · rw [if_neg hq]; omega
      clear hT2 hg2 ha4 hc
      go_wp2
      go_roundw
      case rel => exact ⟨k + 1, a2, by omega, by go_num, HT2, by rw [unhide HLO] at HR2; first | exact HR2 | (rw [unhide HLO]; exact HR2), HB2, hp2, by omega⟩
      case measure => simp [intOf]; omega
    · have hkk : k = ss.length := by omega
      subst hkk
      rw [List.take_of_length_le (Nat.le_refl _)] at HT hp
      go_wp2
      go_ret
      exact ⟨⟨b, a', rfl, unhide HT, hp, by omega⟩, by first | exact unhide HBL | (rw [hbb]; exact unhide HBL)⟩
end Go.Proofs.YtdcjimlhaklhfaaDoor

namespace Go.Proofs.YtdcjimlhaklhfaaDoor
open Go.RowKit
theorem Tryd.spotGuard : Tryd.prog.eqGuardType Tryd.prog.depth 46 = false := by kernel_rfl
theorem Tryd.spotHeld : Tryd.prog.stoodInHeld 46 = false := by kernel_rfl
theorem spot_eq_run (m n : Nd) (W : World) : (Op.equalIn 10000 46 (.agg #[.int .i64 m.id, .int .i64 m.parent, .string (bs m.name)]) (.agg #[.int .i64 n.id, .int .i64 n.parent, .string (bs n.name)])).run Tryd.prog W = .ok (ndEq m n) W := by
  rw [run_equalIn_agg W 9999 46 _ _ (by simp [Program.fieldsOf, Tryd.underlying46]) Tryd.spotHeld]
  simp [Program.fieldsOf, Tryd.underlying46, Op.eqFields, go_sem]
  rw [← nd_neq']
  by_cases h1 : m.id = n.id <;> by_cases h2 : m.parent = n.parent <;> by_cases h3 : (bs m.name).toList = (bs n.name).toList <;> simp [h1, h2, h3]
theorem cntN_take (p : Nd → Bool) (l : List Nd) (k : Nat) (hk : k < l.length) : (l.take (k + 1)).countP p = (l.take k).countP p + (if p l[k] then 1 else 0) := by
  rw [List.take_succ_eq_append_getElem hk, List.countP_append]; simp [List.countP_cons]
theorem new_yes {na : List Nd} {n : Nd} (h : lookR na n.id = none) : newIs na n = true ∧ othIs na n = false := by unfold newIs othIs; rw [h]; exact ⟨rfl, rfl⟩
theorem new_no {na : List Nd} {n m : Nd} (h : lookR na n.id = some m) : newIs na n = false ∧ othIs na n = !ndEq m n := by unfold newIs othIs; rw [h]; exact ⟨rfl, rfl⟩
set_option maxHeartbeats 8000000 in
set_option maxRecDepth 100000 in
theorem counted_law (ao bo : Option Addr) (la lb ca cb : Nat) (w : World) (ha : IntsAt w ao la) (hb : IntsAt w bo lb) (hla : la ≤ 140737488355328) (hlb : lb ≤ 140737488355328) :
    Calls Tryd.prog 7 #[.slice ao la ca, .slice bo lb cb] w fun e w' => e = .returned (.bool true) ∧ Below w.heap.size w w' := by
  have HGA := hide (grow_any ao la ca w ha hla)
  have HGB := hide (fun W (h : Below w.heap.size w W) => grow_any bo lb cb W (hb.below h) hlb)
  clear ha hb
  go_enter Tryd.func7, Tryd.ntmps7
  go_wp2_with fail
  refine (unhide HGA).mono ?_
  rintro e w1 ⟨⟨na, a, lo, lc, rfl, hra, ra, hva⟩, hb1⟩
  go_wp2_with fail
  refine (unhide HGB _ hb1).mono ?_
  rintro e w2 ⟨⟨nb, g, mo, mc, rfl, hrb, rg, hvg⟩, hb2⟩
  have HB2 := hide (hb1.trans (hb2.mono hb1.size))
  have HRA := hide (Row.below hra hb2)
  have HRB := hide hrb
  have hnla := rep_len ra
  have hnlb := rep_len rg
  have eta : trOf na = a := funext ra.look
  have etg : trOf nb = g := funext rg.look
  have HTA := hide (fun W (h : Row W lo na.length 3 (ndCells na)) => print_any na lo lc W h (by omega) (by rw [eta]; exact hva.ok))
  have HTG := hide (fun W (h : Row W mo nb.length 3 (ndCells nb)) => print_any nb mo mc W h (by omega) (by rw [etg]; exact hvg.ok))
  rw [eta] at HTA
  rw [etg] at HTG
  have HC1 := hide (fun W => compile_any (bs (textT a)) (bs (textT g)) W)
  rw [sl_bs, sl_bs, compileE_valid hva hvg, compileT_valid hva hvg] at HC1
  obtain ⟨m1, m2, m3, m4, m5⟩ := make_counts ra rg hva hvg
  have hdl := homes_del_len ra rg
  have HCO := hide (fun W => counted_any (makeT a g) W (fun s hs => (seg_can (makeT_seg hva hvg) hvg.ok s hs).1) (make_text_len hva hvg) (make_len hva hvg))
  rw [homes_new] at m1 hdl
  rw [homes_oth] at m3 m4 m5
  rw [m1, m2] at HCO
  clear hra hrb hb1 hb2 HGA HGB ra rg eta etg hva hvg m1 m2
  generalize cntK 45 (homesR na nb) = dl at *
  generalize cntK 61 (makeT a g) = mvs at *
  generalize parkCnt (makeT a g) = pk at *
  generalize scriptText (makeT a g) = sc at *
  generalize textT a = A at *
  generalize textT g = G at *
  go_wp2_with fail
  refine (unhide HTA _ (unhide HRA)).mono ?_
  rintro e w3 ⟨rfl, hb3⟩
  have HRA3 := hide (Row.below (unhide HRA) hb3)
  have HRB3 := hide (Row.below (unhide HRB) hb3)
  have HB3 := hide ((unhide HB2).trans (hb3.mono (unhide HB2).size))
  clear hb3
  go_wp2_with fail
  refine (unhide HTG _ (unhide HRB3)).mono ?_
  rintro e w4 ⟨rfl, hb4⟩
  have HRA4 := hide (Row.below (unhide HRA3) hb4)
  have HRB4 := hide (Row.below (unhide HRB3) hb4)
  have HB4 := hide ((unhide HB3).trans (hb4.mono (unhide HB3).size))
  clear hb4
  go_wp2_with fail
  refine (unhide HC1 _).mono ?_
  rintro e w5 ⟨rfl, hb5⟩
  have HRA5 := hide (Row.below (unhide HRA4) hb5)
  have HRB5 := hide (Row.below (unhide HRB4) hb5)
  have HB5 := hide ((unhide HB4).trans (hb5.mono (unhide HB4).size))
  clear hb5
  go_wp2_with fail
  go_loopw [11, 12, 13] (fun x y i wr => ∃ k nq : Nat, k ≤ nb.length ∧ i = .int .i64 k ∧ x = .int .i64 ((nb.take k).countP (newIs na) : Nat) ∧ y = .int .i64 ((nb.take k).countP (othIs na) : Nat) ∧ wr = w5.drewN nq) (fun _ _ i _ => nb.length - (intOf i).toNat)
  case atStart => exact ⟨0, 0, by omega, rfl, rfl, rfl, rfl⟩
  case round =>
    obtain ⟨k, nq, hk, rfl, rfl, rfl, rfl⟩ := hrel
    have hcn : (nb.take k).countP (newIs na) ≤ k := by have := List.countP_le_length (p := newIs na) (l := nb.take k); rw [List.length_take] at this; omega
    have hco : (nb.take k).countP (othIs na) ≤ k := by have := List.countP_le_length (p := othIs na) (l := nb.take k); rw [List.length_take] at this; omega
    by_cases hlt : k < nb.length
    · obtain ⟨g1, hmo, hg1, c0, c1, c2⟩ := nd_cells (unhide HRB5) (Below.refl _ _) hlt
      have HF := hide (find_any na (nb[k]).id lo lc (w5.drewN nq) (Row.below (unhide HRA5) (below_drewN (Below.refl _ _) nq)) (by omega))
      have e1 := cntN_take (newIs na) nb k hlt
      have e2 := cntN_take (othIs na) nb k hlt
      rw [hmo]
      clear hmo
      have hk0 : (0 : Int) ≤ k := by omega
      have hk1 : (k : Int) < nb.length := by omega
      by_cases hf : findN na (nb[k]).id < na.length
      · obtain ⟨q1, q2⟩ := lookR_some hf
        obtain ⟨p1, p2⟩ := new_no q1
        obtain ⟨g2, hlo, hg2, d0, d1, d2⟩ := nd_cells (unhide HRA5) (Below.refl _ _) hf
        have hne := spot_eq_run (na[findN na (nb[k]).id]) (nb[k])
        have hgd := Tryd.spotGuard
        rw [p1] at e1
        rw [p2] at e2
        rw [q2] at HF
        rw [hlo] at HF ⊢
        have hfn0 : (0 : Int) ≤ findN na (nb[k]).id := by omega
        have hfn1 : (findN na (nb[k]).id : Int) < na.length := by omega
        clear q1 q2 hlo p1 p2
        generalize na[findN na (nb[k]).id] = m at *
        generalize findN na (nb[k]).id = fn at *
        generalize nb[k] = n at *
        generalize (nb.take k).countP (newIs na) = cn at *
        generalize (nb.take k).countP (othIs na) = co at *
        cases hq : ndEq m n
        · rw [hq] at hne e2
          have E1 : Hid ((nb.take (k + 1)).countP (newIs na) = cn) := hide (by rw [e1]; simp)
          have E2 : Hid ((nb.take (k + 1)).countP (othIs na) = co + 1) := hide (by rw [e2]; simp)
          clear e1 e2 hq
          go_wp2_with fail
          refine (unhide HF).mono ?_
          rintro e w6 ⟨rfl, rfl⟩
          go_wp2
          go_quiet (fail)
          go_wp2
          go_roundw
          case rel => exact ⟨k + 1, _, by omega, by go_num, by rw [unhide E1], by rw [unhide E2]; first | rfl | (push_cast; rfl) | go_num, rfl⟩
          case measure => simp [intOf]; omega
        · rw [hq] at hne e2
          have E1 : Hid ((nb.take (k + 1)).countP (newIs na) = cn) := hide (by rw [e1]; simp)
          have E2 : Hid ((nb.take (k + 1)).countP (othIs na) = co) := hide (by rw [e2]; simp)
          clear e1 e2 hq
          go_wp2_with fail
          refine (unhide HF).mono ?_
          rintro e w6 ⟨rfl, rfl⟩
          go_wp2
          go_quiet (fail)
          go_wp2
          go_roundw
          case rel => exact ⟨k + 1, _, by omega, by go_num, by rw [unhide E1], by rw [unhide E2], rfl⟩
          case measure => simp [intOf]; omega
      · obtain ⟨q1, q2⟩ := lookR_none hf
        obtain ⟨p1, p2⟩ := new_yes (n := nb[k]) q1
        rw [p1] at e1
        rw [p2] at e2
        rw [q2] at HF
        have E1 : Hid ((nb.take (k + 1)).countP (newIs na) = (nb.take k).countP (newIs na) + 1) := hide (by rw [e1]; simp)
        have E2 : Hid ((nb.take (k + 1)).countP (othIs na) = (nb.take k).countP (othIs na)) := hide (by rw [e2]; simp)
        clear q1 q2 p1 p2 e1 e2 hf
        generalize nb[k] = n at *
        generalize (nb.take k).countP (newIs na) = cn at *
        generalize (nb.take k).countP (othIs na) = co at *
        go_wp2_with fail
        refine (unhide HF).mono ?_
        rintro e w6 ⟨rfl, rfl⟩
        go_wp2
        go_roundw
        case rel => exact ⟨k + 1, nq, by omega, by go_num, by rw [unhide E1]; first | rfl | go_num, by rw [unhide E2], rfl⟩
        case measure => simp [intOf]; omega
    · rw [List.take_of_length_le (by omega)] at *
      generalize nb.countP (newIs na) = cn at *
      generalize nb.countP (othIs na) = mv at *
      go_wp2_with fail
      refine (unhide HCO _).mono ?_
      rintro e w6 ⟨⟨b, a', rfl, hT, hpk, ha'⟩, hb6⟩
      obtain ⟨c0, c1, c2, c3, _⟩ := hT.cells
      have hlt6 := hT.lt
      have hdd : (na.length : Int) + cn - nb.length = dl := by omega
      have g1 : decide ((mv : Int) ≤ (mvs : Int)) = true := by simp; omega
      have g2 : decide ((mvs : Int) ≤ 2 * (mv : Int)) = true := by simp; omega
      have g3 : decide ((mvs : Int) ≤ (mv : Int) + (a' : Int)) = true := by simp; omega
      have hbd : mvs ≤ 1000 := by omega
      have HB6 := hide ((unhide HB5).trans ((below_drewN (Below.refl w5.heap.size w5) nq).mono (unhide HB5).size))
      have HB7 := hide ((unhide HB6).trans (hb6.mono (unhide HB6).size))
      clear hb6 hT
      go_wp2
      go_quiet (fail)
      go_wp2
      go_ret
      exact ⟨rfl, below_drewN (unhide HB7) _⟩
end Go.Proofs.YtdcjimlhaklhfaaDoor
