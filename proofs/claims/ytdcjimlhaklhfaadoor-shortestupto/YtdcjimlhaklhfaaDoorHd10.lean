import Derived.Test.YtdcjimlhaklhfaaDoorHd5
import Derived.Test.YtdcjimlhaklhfaaDoorHd9
import Derived.Test.YtdcjimlhaklhfaaDoorHd7
namespace Go.Proofs.YtdcjimlhaklhfaaDoor
open Go.RowKit
/-! What any script must have: counted node by node, over the numbers of all nodes. -/
def total (f : Nat → Nat) : Nat := ((List.range' 1 99).map f).sum
theorem total_drop {f h : Nat → Nat} {j : Nat} (hj : 1 ≤ j ∧ j ≤ 99) (ho : ∀ i, i ≠ j → f i ≤ h i) (hlt : f j < h j) : total f < total h :=
  sum_lt _ j (by rw [List.mem_range'_1]; omega) (fun i _ => by by_cases e : i = j; (· subst e; omega); (· exact ho i e)) hlt
theorem total_le {f h : Nat → Nat} (ho : ∀ i, f i ≤ h i) : total f ≤ total h := sum_le _ (fun i _ => ho i)
theorem sum_one {f h : Nat → Nat} {j : Nat} : ∀ (l : List Nat), l.Nodup → (∀ i, i ≠ j → f i ≤ h i) → f j ≤ h j + 1 → (l.map f).sum ≤ (l.map h).sum + 1 := by
  intro l
  induction l with
  | nil => simp
  | cons x l ih =>
    intro hn ho hj
    rw [List.nodup_cons] at hn
    simp only [List.map_cons, List.sum_cons]
    by_cases e : x = j
    · subst e
      have := sum_le (f := f) (h := h) l (fun i hi => ho i (fun e2 => hn.1 (e2 ▸ hi)))
      omega
    · have h1 := ho x e
      have h2 := ih hn.2 ho hj
      omega
theorem total_one {f h : Nat → Nat} (j : Nat) (ho : ∀ i, i ≠ j → f i ≤ h i) (hj : f j ≤ h j + 1) : total f ≤ total h + 1 :=
  sum_one _ (by rw [List.nodup_iff_pairwise_ne]; exact (List.pairwise_lt_range' (s := 1) (n := 99)).imp (fun h => by omega)) ho hj
def fC (a g : Tr) (i : Nat) : Nat := match a i, g i with
  | none, some _ => 1
  | _, _ => 0
def fD (a g : Tr) (i : Nat) : Nat := match a i, g i with
  | some _, none => 1
  | _, _ => 0
def fM (a g : Tr) (i : Nat) : Nat := match a i, g i with
  | some m, some n => if ndEq m n then 0 else 1
  | _, _ => 0
def fW (a g : Tr) (i : Nat) : Nat := match a i, g i with
  | some m, some n => if ndEq m n then 0 else if parkedB a i then 1 else 2
  | _, _ => 0
theorem fM_le (a g : Tr) (i : Nat) : fM a g i ≤ 1 := by unfold fM; split; (· split <;> omega); (· omega)
theorem fW_le (a g : Tr) (i : Nat) : fW a g i ≤ 2 * fM a g i := by
  unfold fW fM
  split
  · split
    · omega
    · split <;> omega
  · omega
theorem f_congr {a b g : Tr} {i : Nat} (h : a i = b i) : fC a g i = fC b g i ∧ fD a g i = fD b g i ∧ fM a g i = fM b g i ∧ fW a g i = fW b g i := by
  unfold fC fD fM fW parkedB; rw [h]; exact ⟨rfl, rfl, rfl, rfl⟩
theorem f_home {g : Tr} {a : Tr} {i : Nat} (h : a i = g i) : fC a g i = 0 ∧ fD a g i = 0 ∧ fM a g i = 0 ∧ fW a g i = 0 := by
  unfold fC fD fM fW; rw [h]
  cases g i with
  | none => exact ⟨rfl, rfl, rfl, rfl⟩
  | some n => simp only [ndEq_iff.2 (rfl : n = n), if_true]; exact ⟨trivial, trivial, trivial, trivial⟩
def kK (k : UInt8) (l : List St) : Nat := l.countP (fun s => s.kind == k)
def pkB (s : St) : Bool := s.kind == 61 && ndEq s.node (parkN s.node.id)
def pkC (l : List St) : Nat := l.countP pkB
theorem seg_bounds {g : Tr} (hg : TrOk g) {t b : Tr} {ss : List St} (h : Seg g t ss b) :
    kK 43 ss ≤ total (fC t g) ∧ kK 45 ss ≤ total (fD t g) ∧ kK 61 ss ≤ total (fM t g) + pkC ss ∧ kK 61 ss ≤ total (fW t g) := by
  induction h with
  | nil t => simp [kK]
  | @home t b i s ss h1 h2 hs he _ ih =>
    obtain ⟨i1, i2, i3, i4⟩ := ih
    obtain ⟨j, rfl⟩ := Int.eq_ofNat_of_zero_le (show 0 ≤ i by omega)
    have hd := home_done hg h1 hs he
    have hself : stepT t s j = g j := by rw [hd, if_pos rfl]
    have hoth : ∀ k, k ≠ j → stepT t s k = t k := fun k hk => by rw [hd, if_neg (by omega)]
    have z := f_home (g := g) hself
    have oC : ∀ k, k ≠ j → fC (stepT t s) g k ≤ fC t g k := fun k hk => by rw [(f_congr (g := g) (hoth k hk)).1]; omega
    have oD : ∀ k, k ≠ j → fD (stepT t s) g k ≤ fD t g k := fun k hk => by rw [(f_congr (g := g) (hoth k hk)).2.1]; omega
    have oM : ∀ k, k ≠ j → fM (stepT t s) g k ≤ fM t g k := fun k hk => by rw [(f_congr (g := g) (hoth k hk)).2.2.1]; omega
    have oW : ∀ k, k ≠ j → fW (stepT t s) g k ≤ fW t g k := fun k hk => by rw [(f_congr (g := g) (hoth k hk)).2.2.2]; omega
    have aC : total (fC (stepT t s) g) ≤ total (fC t g) := total_le (fun k => by by_cases e : k = j; (· rw [e, z.1]; omega); (· exact oC k e))
    have aD : total (fD (stepT t s) g) ≤ total (fD t g) := total_le (fun k => by by_cases e : k = j; (· rw [e, z.2.1]; omega); (· exact oD k e))
    have aM : total (fM (stepT t s) g) ≤ total (fM t g) := total_le (fun k => by by_cases e : k = j; (· rw [e, z.2.2.1]; omega); (· exact oM k e))
    have aW : total (fW (stepT t s) g) ≤ total (fW t g) := total_le (fun k => by by_cases e : k = j; (· rw [e, z.2.2.2]; omega); (· exact oW k e))
    have hjb : 1 ≤ j ∧ j ≤ 99 := by omega
    unfold kK pkC at *
    simp only [List.countP_cons]
    rcases home_cases hs with ⟨rfl, hgn, m, hm⟩ | ⟨n, rfl, hgn, hn⟩ | ⟨n, m, rfl, hgn, hm, hmn⟩
    · have hm' : t j = some m := by simpa using hm
      have hgn' : g j = none := by simpa using hgn
      have := total_drop hjb oD (by rw [z.2.1]; unfold fD; rw [hm', hgn']; exact Nat.one_pos)
      have k1 : ((45 : UInt8) == 43) = false := rfl
      have k2 : ((45 : UInt8) == 61) = false := rfl
      have k3 : ((45 : UInt8) == 45) = true := rfl
      simp only [k1, k2, k3, if_true]
      simp only [Bool.false_eq_true, if_false, Nat.add_zero]
      refine ⟨by omega, by omega, by split <;> omega, by omega⟩
    · have hn' : t j = none := by simpa using hn
      have hgn' : g j = some n := by simpa using hgn
      have := total_drop hjb oC (by rw [z.1]; unfold fC; rw [hn', hgn']; exact Nat.one_pos)
      have k1 : ((43 : UInt8) == 43) = true := rfl
      have k2 : ((43 : UInt8) == 61) = false := rfl
      have k3 : ((43 : UInt8) == 45) = false := rfl
      simp only [k1, k2, k3, if_true]
      simp only [Bool.false_eq_true, if_false, Nat.add_zero]
      refine ⟨by omega, by omega, by split <;> omega, by omega⟩
    · have hm' : t j = some m := by simpa using hm
      have hgn' : g j = some n := by simpa using hgn
      have hq : ndEq m n = false := by cases hq : ndEq m n; (· rfl); (· exact absurd (ndEq_iff.1 hq) hmn)
      have d1 := total_drop hjb oM (by rw [z.2.2.1]; unfold fM; rw [hm', hgn']; simp [hq])
      have d2 := total_drop hjb oW (by rw [z.2.2.2]; unfold fW; rw [hm', hgn']; simp only [hq]; simp; split <;> omega)
      have k1 : ((61 : UInt8) == 43) = false := rfl
      have k2 : ((61 : UInt8) == 61) = true := rfl
      have k3 : ((61 : UInt8) == 45) = false := rfl
      simp only [k1, k2, k3, if_true]
      simp only [Bool.false_eq_true, if_false, Nat.add_zero]
      refine ⟨by omega, by omega, by split <;> omega, by omega⟩
  | @park t b i n ss h1 h2 hno hs hp he _ ih =>
    obtain ⟨i1, i2, i3, i4⟩ := ih
    obtain ⟨j, rfl⟩ := Int.eq_ofNat_of_zero_le (show 0 ≤ i by omega)
    have hd := park_done he
    have hself : stepT t (parkS j) j = some (parkN j) := by rw [hd, if_pos rfl]
    have hoth : ∀ k, k ≠ j → stepT t (parkS j) k = t k := fun k hk => by rw [hd, if_neg (by omega)]
    obtain ⟨m, hm, hgn⟩ : ∃ m, t j = some m ∧ g j = some n := by
      rcases home_cases hs with ⟨e, _⟩ | ⟨_, e, _⟩ | ⟨n', m, e, hgn, hm, _⟩
      · cases e
      · cases e
      · cases e; exact ⟨m, by simpa using hm, by simpa using hgn⟩
    have hmn : ndEq m n = false := by
      rcases home_cases hs with ⟨e, _⟩ | ⟨_, e, _⟩ | ⟨n', m', e, hgn', hm', hne⟩
      · cases e
      · cases e
      · cases e
        rw [show t j = t (j : Int).toNat by simp] at hm
        rw [hm] at hm'; cases hm'
        cases hq : ndEq m n
        · rfl
        · exact absurd (ndEq_iff.1 hq) hne
    have hpk : parkedB t j = false := by
      cases hq : parkedB t j
      · rfl
      · exact absurd (parkedB_iff.1 hq) (by simpa using hp)
    have hpk2 : parkedB (stepT t (parkS j)) j = true := parkedB_iff.2 hself
    have zC : fC (stepT t (parkS j)) g j = 0 := by unfold fC; rw [hself, hgn]
    have zD : fD (stepT t (parkS j)) g j = 0 := by unfold fD; rw [hself, hgn]
    have zM : fM (stepT t (parkS j)) g j ≤ fM t g j := by
      have h3 : fM t g j = 1 := by unfold fM; rw [hm, hgn]; simp [hmn]
      rw [h3]; exact fM_le _ _ _
    have zW : fW (stepT t (parkS j)) g j < fW t g j := by
      have h3 : fW t g j = 2 := by unfold fW; rw [hm, hgn]; simp [hmn, hpk]
      rw [h3]; unfold fW; rw [hself, hgn]; simp only [hpk2]; split <;> simp
    have aC : total (fC (stepT t (parkS j)) g) ≤ total (fC t g) := total_le (fun k => by by_cases e : k = j; (· rw [e, zC]; omega); (· rw [(f_congr (g := g) (hoth k e)).1]; omega))
    have aD : total (fD (stepT t (parkS j)) g) ≤ total (fD t g) := total_le (fun k => by by_cases e : k = j; (· rw [e, zD]; omega); (· rw [(f_congr (g := g) (hoth k e)).2.1]; omega))
    have aM : total (fM (stepT t (parkS j)) g) ≤ total (fM t g) := total_le (fun k => by by_cases e : k = j; (· rw [e]; exact zM); (· rw [(f_congr (g := g) (hoth k e)).2.2.1]; omega))
    have aW := total_drop (show 1 ≤ j ∧ j ≤ 99 by omega) (fun k hk => by rw [(f_congr (g := g) (hoth k hk)).2.2.2]; omega) zW
    have k1 : ((parkS (j : Int)).kind == 43) = false := rfl
    have k2 : ((parkS (j : Int)).kind == 61) = true := rfl
    have k3 : ((parkS (j : Int)).kind == 45) = false := rfl
    have k4 : pkB (parkS (j : Int)) = true := by
      show ((61 : UInt8) == 61 && ndEq (parkN j) (parkN j)) = true
      rw [ndEq_iff.2 rfl]; rfl
    unfold kK pkC at *
    simp only [List.countP_cons, k1, k2, k3, k4, if_true]
    simp only [Bool.false_eq_true, if_false, Nat.add_zero]
    refine ⟨by omega, by omega, by omega, by omega⟩
theorem seg_twice {g : Tr} (hg : TrOk g) {t b : Tr} {ss : List St} (h : Seg g t ss b) : kK 61 ss ≤ 2 * total (fM t g) := by
  have h1 := (seg_bounds hg h).2.2.2
  have h2 : total (fW t g) ≤ 2 * total (fM t g) := by
    have h3 : ∀ l : List Nat, (l.map (fW t g)).sum ≤ 2 * (l.map (fM t g)).sum := by
      intro l
      induction l with
      | nil => simp
      | cons x l ih => simp only [List.map_cons, List.sum_cons]; have := fW_le t g x; omega
    exact h3 _
  omega
/-- One step more of any script. -/
theorem edit_step {a t : Tr} {s : St} (hs : StOk s) (he : stepE t s = 0) :
    total (fC a (stepT t s)) ≤ total (fC a t) + (if s.kind == 43 then 1 else 0) ∧ total (fD a (stepT t s)) ≤ total (fD a t) + (if s.kind == 45 then 1 else 0) ∧
    total (fun i => fC a (stepT t s) i + fM a (stepT t s) i) ≤ total (fun i => fC a t i + fM a t i) + ((if s.kind == 43 then 1 else 0) + (if s.kind == 61 then 1 else 0)) := by
  have hid : 1 ≤ s.node.id ∧ s.node.id ≤ 99 := by rcases hs with ⟨_, h1, h2, _⟩ | ⟨_, h1, h2⟩ <;> exact ⟨h1, h2⟩
  obtain ⟨j, hj⟩ := Int.eq_ofNat_of_zero_le (show 0 ≤ s.node.id by omega)
  have hoth : ∀ k, k ≠ j → stepT t s k = t k := by
    intro k hk
    unfold stepT
    rw [if_pos he]
    split
    · unfold trRemove; rw [if_neg (by omega)]
    · rw [put_at, if_neg (by omega)]
  have cong : ∀ k, k ≠ j → fC a (stepT t s) k = fC a t k ∧ fD a (stepT t s) k = fD a t k ∧ fM a (stepT t s) k = fM a t k := by
    intro k hk
    unfold fC fD fM; rw [hoth k hk]; exact ⟨rfl, rfl, rfl⟩
  rcases hs with ⟨hk | hk, _⟩ | ⟨hk, _⟩
  · -- creation
    have hno : t j = none := by
      have e : createE t s.node = 0 := by unfold stepE at he; rwa [if_pos hk] at he
      cases hq : t j with
      | none => rfl
      | some m =>
        have : hasT t s.node.id = true := hasT_iff.2 ⟨m, by rw [hj]; simpa using hq⟩
        unfold createE at e; rw [this] at e; simp at e
    have hyes : stepT t s j = some s.node := by unfold stepT; rw [if_pos he, if_neg (by rw [hk]; decide), put_at, if_pos hj.symm]
    have k1 : (s.kind == 43) = true := by rw [hk]; rfl
    have k2 : (s.kind == 45) = false := by rw [hk]; rfl
    have k3 : (s.kind == 61) = false := by rw [hk]; rfl
    rw [k1, k2, k3]
    refine ⟨?_, ?_, ?_⟩
    · have := total_one (f := fC a (stepT t s)) (h := fC a t) j (fun i hi => by rw [(cong i hi).1]; omega) (by unfold fC; split <;> split <;> omega)
      simpa using this
    · have := total_le (f := fD a (stepT t s)) (h := fD a t) (fun i => by
        by_cases e : i = j
        · rw [e]; unfold fD; rw [hyes]; cases a j <;> simp
        · rw [(cong i e).2.1]; omega)
      simpa using this
    · have := total_one (f := fun i => fC a (stepT t s) i + fM a (stepT t s) i) (h := fun i => fC a t i + fM a t i) j (fun i hi => by rw [(cong i hi).1, (cong i hi).2.2]; omega) (by
        have h2 : fC a (stepT t s) j + fM a (stepT t s) j ≤ 1 := by
          unfold fC fM; rw [hyes]; cases a j with
          | none => simp
          | some m => simp only; split <;> omega
        show fC a (stepT t s) j + fM a (stepT t s) j ≤ fC a t j + fM a t j + 1
        omega)
      simpa using this
  · -- move
    have hthere : ∃ m, t j = some m := by
      have e : moveE t s.node = 0 := by unfold stepE at he; rwa [if_neg (by rw [hk]; decide), if_pos hk] at he
      cases hq : t j with
      | some m => exact ⟨m, rfl⟩
      | none =>
        have : hasT t s.node.id = false := by unfold hasT; rw [hj]; simp [hq]
        unfold moveE at e; rw [this] at e; simp at e
    obtain ⟨m0, hm0⟩ := hthere
    have hyes : stepT t s j = some s.node := by unfold stepT; rw [if_pos he, if_neg (by rw [hk]; decide), put_at, if_pos hj.symm]
    have k1 : (s.kind == 43) = false := by rw [hk]; rfl
    have k2 : (s.kind == 45) = false := by rw [hk]; rfl
    have k3 : (s.kind == 61) = true := by rw [hk]; rfl
    rw [k1, k2, k3]
    refine ⟨?_, ?_, ?_⟩
    · have := total_le (f := fC a (stepT t s)) (h := fC a t) (fun i => by
        by_cases e : i = j
        · rw [e]; unfold fC; rw [hyes, hm0]; cases a j <;> simp
        · rw [(cong i e).1]; omega)
      simpa using this
    · have := total_le (f := fD a (stepT t s)) (h := fD a t) (fun i => by
        by_cases e : i = j
        · rw [e]; unfold fD; rw [hyes]; cases a j <;> simp
        · rw [(cong i e).2.1]; omega)
      simpa using this
    · have := total_one (f := fun i => fC a (stepT t s) i + fM a (stepT t s) i) (h := fun i => fC a t i + fM a t i) j (fun i hi => by rw [(cong i hi).1, (cong i hi).2.2]; omega) (by
        have h2 : fC a (stepT t s) j + fM a (stepT t s) j ≤ fC a t j + fM a t j + 1 := by
          unfold fC fM; rw [hyes, hm0]; cases a j with
          | none => simp
          | some m => simp only; split <;> split <;> omega
        exact h2)
      simpa using this
  · -- deletion
    have hgone : stepT t s j = none := by unfold stepT; rw [if_pos he, if_pos hk]; unfold trRemove; rw [if_pos hj.symm]
    have k1 : (s.kind == 43) = false := by rw [hk]; rfl
    have k2 : (s.kind == 45) = true := by rw [hk]; rfl
    have k3 : (s.kind == 61) = false := by rw [hk]; rfl
    rw [k1, k2, k3]
    refine ⟨?_, ?_, ?_⟩
    · have := total_le (f := fC a (stepT t s)) (h := fC a t) (fun i => by
        by_cases e : i = j
        · rw [e]; unfold fC; rw [hgone]; cases a j <;> simp
        · rw [(cong i e).1]; omega)
      simpa using this
    · have := total_one (f := fD a (stepT t s)) (h := fD a t) j (fun i hi => by rw [(cong i hi).2.1]; omega) (by unfold fD; split <;> split <;> omega)
      simpa using this
    · have := total_le (f := fun i => fC a (stepT t s) i + fM a (stepT t s) i) (h := fun i => fC a t i + fM a t i) (fun i => by
        by_cases e : i = j
        · rw [e]; unfold fC fM; rw [hgone]; cases a j <;> simp
        · rw [(cong i e).1, (cong i e).2.2]; omega)
      simpa using this
theorem total_self (a : Tr) : total (fC a a) = 0 ∧ total (fD a a) = 0 ∧ total (fun i => fC a a i + fM a a i) = 0 := by
  have key : ∀ (f : Nat → Nat), (∀ i, f i = 0) → total f = 0 := by
    intro f hf
    have := sum_bd (f := f) (c := 0) (List.range' 1 99) (fun i _ => by rw [hf]; omega)
    unfold total; omega
  refine ⟨key _ (fun i => (f_home (g := a) rfl).1), key _ (fun i => (f_home (g := a) rfl).2.1), key _ (fun i => ?_)⟩
  have h := f_home (g := a) (a := a) (i := i) rfl
  rw [h.1, h.2.2.1]
theorem total_add (a t : Tr) : total (fun i => fC a t i + fM a t i) = total (fC a t) + total (fM a t) := by
  unfold total
  have : ∀ l : List Nat, (l.map (fun i => fC a t i + fM a t i)).sum = (l.map (fC a t)).sum + (l.map (fM a t)).sum := by
    intro l
    induction l with
    | nil => rfl
    | cons x l ih => simp only [List.map_cons, List.sum_cons, ih]; omega
  exact this _
end Go.Proofs.YtdcjimlhaklhfaaDoor

namespace Go.Proofs.YtdcjimlhaklhfaaDoor
open Go.RowKit
set_option maxHeartbeats 1000000 in
theorem kcut_big (s : ByteArray) (w : World) (hs : s.size ≤ 1048576) :
    Calls Tryd.prog 11 #[.string s] w fun e w' => ∃ ao cap, e = .returned (.slice ao (cut (sl s)).length cap) ∧ Row w' ao (cut (sl s)).length 1 ((cut (sl s)).map strV) ∧ Below w.heap.size w w' := by
  obtain ⟨i0, hi, hz0, hz1, hz2⟩ := info_parts Tryd.infoStr
  have hsz : (0 : Int) ≤ s.size := by omega
  go_enter Tryd.func11, Tryd.ntmps11
  go_wp2
  go_loopw [3, 4, 5] (fun v st i wr => ∃ k t n : Nat, ∃ xs : List Value, k ≤ s.size ∧ t ≤ k ∧ n ≤ k ∧ i = .int .i64 k ∧ st = .int .i64 t ∧ wr.ownsRow w.heap.size 9 1 v n xs ∧ Below w.heap.size w wr ∧ Hid (CutInv s k t n xs)) (fun _ _ i _ => s.size - (intOf i).toNat)
  case atStart => exact ⟨0, 0, 0, [], Nat.zero_le _, Nat.le_refl _, Nat.le_refl _, rfl, rfl, World.ownsRow_nil _ _ _ _, Below.refl _ _, hide ⟨by simp [cutTo], by simp [cutTo], by simp [cutTo]⟩⟩
  case round =>
    obtain ⟨k, t, n, xs, hk, ht, hn, rfl, rfl, hown, hbel, HI⟩ := hrel
    by_cases hlt : k < s.size
    · by_cases hc : s[k] = 59
      · have HN := hide (cutInv_hit (unhide HI) hlt hc)
        go_wp2_with (first
          | (at_builtin; refine wpList_append_own _ rfl _ _ 27 rfl w.heap.size 9 i0 (.string ByteArray.empty) 1 16 Tryd.underlying27 hi hz0 hz1 hz2 rfl (by decide) _ _ _ rfl (hown.alloc _) ⟨wr.heap.size, 0, none⟩ 1 1 [.string (s.extract t (k + 1))] rfl rfl (news_one _ _) (by simp [Value.oneCell']) (by unfold maxLen; omega) (by omega) (by have := hbel.size; simp; omega) ?_)
          | go_in)
        intro v' w1 hown' hgrow _
        have hb1 := below_app hbel (by have := hbel.size; omega) hown hgrow
        clear hgrow hown hbel
        go_wp2
        go_roundw
        case rel => exact ⟨k + 1, k + 1, n + 1, _, by omega, by omega, by omega, by go_num, by go_num, hown', hb1, HN⟩
        case measure => simp [intOf]; omega
      · have HN := hide (cutInv_miss (unhide HI) hlt hc)
        have hc' : (((s[k]).toNat : Int) == 59) = false := by
          rw [beq_eq_false_iff_ne]; intro h; exact hc (UInt8.toNat_inj.1 (by simpa using (by omega : (s[k]).toNat = 59)))
        have HC := hide hc; clear hc
        go_wp2
        go_roundw
        case rel => exact ⟨k + 1, t, n, _, by omega, by omega, by omega, by go_num, rfl, hown, hbel, HN⟩
        case measure => simp [intOf]; omega
    · have hks : k = s.size := by omega
      subst hks
      by_cases hts : t < s.size
      · have HN := hide (cutInv_last (unhide HI) hts)
        go_wp2_with (first
          | (at_builtin; refine wpList_append_own _ rfl _ _ 27 rfl w.heap.size 9 i0 (.string ByteArray.empty) 1 16 Tryd.underlying27 hi hz0 hz1 hz2 rfl (by decide) _ _ _ rfl (hown.alloc _) ⟨wr.heap.size, 0, none⟩ 1 1 [.string (s.extract t s.size)] rfl rfl (news_one _ _) (by simp [Value.oneCell']) (by unfold maxLen; omega) (by omega) (by have := hbel.size; simp; omega) ?_)
          | go_in)
        intro v' w1 hown' hgrow _
        have hb1 := below_app hbel (by have := hbel.size; omega) hown hgrow
        clear hgrow hown hbel
        go_wp2
        go_ret
        obtain ⟨e1, e2⟩ := unhide HN
        obtain ⟨ao, cap, rfl, hr⟩ := row_of_owns hown'
        rw [e1, e2] at hr
        exact ⟨ao, cap, by rw [← e1]; rfl, hr, hb1⟩
      · have HN := hide (cutInv_end (unhide HI) hts)
        go_wp2
        go_ret
        obtain ⟨e1, e2⟩ := unhide HN
        obtain ⟨ao, cap, rfl, hr⟩ := row_of_owns hown
        rw [e1, e2] at hr
        exact ⟨ao, cap, by rw [← e1]; rfl, hr, hbel⟩


/-! Records of any text. -/
theorem cutTo_form (l : Str) : (∀ r ∈ (cutTo l).1, ∃ a : Str, (∀ x ∈ a, x ≠ 59) ∧ r = a ++ [59]) ∧ (∀ x ∈ (cutTo l).2, x ≠ 59) := by
  refine snoc_ind (P := fun l => (∀ r ∈ (cutTo l).1, ∃ a : Str, (∀ x ∈ a, x ≠ 59) ∧ r = a ++ [59]) ∧ (∀ x ∈ (cutTo l).2, x ≠ 59)) (by simp [cutTo]) ?_ l
  rintro l c ⟨h1, h2⟩
  rw [cutTo_snoc]; unfold cutStep
  split
  · rename_i hc
    refine ⟨fun r hr => ?_, by simp⟩
    rcases List.mem_append.1 hr with hr | hr
    · exact h1 r hr
    · simp at hr; exact ⟨(cutTo l).2, h2, by rw [hr, hc]⟩
  · rename_i hc
    refine ⟨h1, fun x hx => ?_⟩
    rcases List.mem_append.1 hx with hx | hx
    · exact h2 x hx
    · simp at hx; rw [hx]; exact hc
theorem cut_form {l r : Str} (h : r ∈ cut l) : (∃ a : Str, (∀ x ∈ a, x ≠ 59) ∧ r = a ++ [59]) ∨ ((∀ x ∈ r, x ≠ 59) ∧ r ≠ []) := by
  obtain ⟨h1, h2⟩ := cutTo_form l
  unfold cut at h
  split at h
  · exact .inl (h1 r h)
  · rename_i hne
    rcases List.mem_append.1 h with h | h
    · exact .inl (h1 r h)
    · simp at h; rw [h]; exact .inr ⟨h2, hne⟩
theorem cut_plain {r : Str} (h : ∀ x ∈ r, x ≠ 59) (hne : r ≠ []) : cut r = [r] := by
  have key : ∀ l : Str, (∀ x ∈ l, x ≠ 59) → cutTo l = ([], l) := by
    intro l
    refine snoc_ind (P := fun l => (∀ x ∈ l, x ≠ 59) → cutTo l = ([], l)) (fun _ => rfl) ?_ l
    intro l c ih hl
    rw [cutTo_snoc, ih (fun x hx => hl x (by simp [hx]))]
    unfold cutStep
    rw [if_neg (hl c (by simp))]
  unfold cut
  rw [key r h, if_neg hne]; rfl
/-- What Apply does of one record. -/
theorem apply_rec {u : Tr} (hv : Valid u) {sc r : Str} (hr : r ∈ cut sc) (h : (applyT (textT u) r).2.2 = 0) :
    ∃ s, StOk s ∧ stepE u s = 0 ∧ (applyT (textT u) r).1 = textT (stepT u s) ∧ r.head? = some s.kind := by
  obtain ⟨c1, c2⟩ := check_text hv
  have hcut : cut r = [r] := by
    rcases cut_form hr with ⟨a, ha, rfl⟩ | ⟨h1, h2⟩
    · have := cut_cons ha []
      rw [List.append_nil] at this
      rw [this]; rfl
    · exact cut_plain h1 h2
  by_cases hL : 4000 < (textT u).length ∨ 4000 < r.length
  · unfold applyT at h; rw [if_pos hL] at h; cases h
  · by_cases hS : (readSteps (cut r)).length < (cut r).length
    · unfold applyT at h
      rw [if_neg hL, c1, if_neg (by simp), if_pos hS] at h; cases h
    · have hs1 : ∃ s, readStep r = some s := by
        rw [hcut] at hS
        cases hq : readStep r with
        | none => rw [readSteps, hq] at hS; simp at hS
        | some s => exact ⟨s, rfl⟩
      obtain ⟨s, hs⟩ := hs1
      have hrs : readSteps (cut r) = [s] := by rw [hcut, readSteps, hs]; rfl
      have hsok := readStep_ok hs
      have hhead : r.head? = some s.kind := by
        unfold readStep at hs
        split at hs
        · rename_i hb
          unfold bodyS at hs
          rw [if_pos hb] at hs
          cases hd : r.dropLast with
          | nil => rw [hd] at hs; cases hs
          | cons k t =>
            rw [hd] at hs
            have hk : s.kind = k := by
              have h2 : (if k = 43 ∨ k = 61 then (readNode t).map (fun n => (⟨k, n⟩ : St)) else if k = 45 then (if (number t 1 99).2 then some (⟨k, ⟨(number t 1 99).1, 0, []⟩⟩ : St) else none) else none) = some s := hs
              by_cases e1 : k = 43 ∨ k = 61
              · rw [if_pos e1] at h2
                cases hn : readNode t with
                | none => rw [hn] at h2; cases h2
                | some n => rw [hn] at h2; cases h2; rfl
              · rw [if_neg e1] at h2
                by_cases e2 : k = 45
                · rw [if_pos e2] at h2
                  split at h2
                  · cases h2; rfl
                  · cases h2
                · rw [if_neg e2] at h2; cases h2
            have hne : r ≠ [] := by intro e; rw [e] at hd; cases hd
            rw [← List.dropLast_concat_getLast hne, hd, hk]; rfl
        · cases hs
      have hE : stepE u s = 0 := by
        apply Classical.byContradiction
        intro hne
        unfold applyT at h
        rw [if_neg hL, c1, if_neg (by simp), if_neg hS, hrs, c2] at h
        have hd : doAllE [s] u 0 = (stepE u s, 0) := by rw [doAllE, if_neg hne]
        rw [hd, if_pos hne] at h
        exact hne h
      refine ⟨s, hsok, hE, ?_, hhead⟩
      unfold applyT
      have hd : doAllE [s] u 0 = (0, 0) ∧ doAllT [s] u = stepT u s := by
        rw [doAllE, doAllT, if_pos hE, if_pos hE]; exact ⟨rfl, rfl⟩
      rw [if_neg hL, c1, if_neg (by simp), if_neg hS, hrs, c2, hd.1, if_neg (by simp), hd.2]
theorem kN_head {r : Str} {s : St} (h : r.head? = some s.kind) (k : UInt8) : kN k r = if s.kind == k then 1 else 0 := by
  unfold kN; rw [h]
  by_cases e : s.kind = k
  · rw [if_pos (by rw [e]), if_pos (by simpa using e)]
  · rw [if_neg (by simpa using e), if_neg (by simpa using e)]
structure EdInv (a u : Tr) (C M D : Nat) : Prop where
  v : Valid u
  c : total (fC a u) ≤ C
  d : total (fD a u) ≤ D
  m : total (fun i => fC a u i + fM a u i) ≤ C + M
theorem edInv_0 {a : Tr} (h : Valid a) : EdInv a a 0 0 0 := by
  obtain ⟨h1, h2, h3⟩ := total_self a
  exact ⟨h, by omega, by omega, by omega⟩
theorem edInv_step {a u : Tr} {C M D : Nat} (h : EdInv a u C M D) {s : St} (hs : StOk s) (he : stepE u s = 0) : EdInv a (stepT u s) (C + (if s.kind == 43 then 1 else 0)) (M + (if s.kind == 61 then 1 else 0)) (D + (if s.kind == 45 then 1 else 0)) := by
  obtain ⟨e1, e2, e3⟩ := edit_step (a := a) hs he
  exact ⟨valid_step h.v hs, Nat.le_trans e1 (by have := h.c; omega), Nat.le_trans e2 (by have := h.d; omega), Nat.le_trans e3 (by have := h.m; omega)⟩
theorem one_le (b : Bool) : (if b then 1 else 0 : Nat) ≤ 1 := by cases b <;> simp
set_option maxHeartbeats 4000000 in
set_option maxRecDepth 100000 in
theorem edited_any (a : Tr) (hva : Valid a) (sc : ByteArray) (w : World) (hl : sc.size ≤ 1048576) :
    Calls Tryd.prog 20 #[.string (bs (textT a)), .string sc] w fun e w' => (∃ u b C M D A, e = .returned (.tuple #[.string (bs (textT u)), .pointer (some ⟨b, 0, none⟩)]) ∧ TallyAt w' b C M D A ∧ EdInv a u C M D ∧ C ≤ 1048576 ∧ M ≤ 1048576 ∧ D ≤ 1048576) ∧ Below w.heap.size w w' := by
  have HCT := hide (fun W => kcut_big sc W hl)
  have hcl : (cut (sl sc)).length ≤ 1048576 := by have := cut_length_le (sl sc); rw [sl_length] at this; omega
  have HML := hide (fun r (hr : r ∈ cut (sl sc)) => show r.length ≤ 1048576 by have := cut_mem_len (sl sc) r hr; rw [sl_length] at this; omega)
  have HAR := hide (fun (u : Tr) (hv : Valid u) r (hr : r ∈ cut (sl sc)) h => apply_rec hv hr h)
  have HT0 := hide (tally_new w)
  have HB0 := hide ((Below.refl w.heap.size w).alloc (Nat.le_refl _) (.cells #[.int .i64 0, .int .i64 0, .int .i64 0, .int .i64 0] 50))
  have HE0 := hide (edInv_0 hva)
  clear hva
  generalize cut (sl sc) = rs at *
  go_enter Tryd.func20, Tryd.ntmps20
  go_wp2_with fail
  refine (unhide HCT _).mono ?_
  rintro e w1 ⟨lo, lc, rfl, hrow, hb1⟩
  have hT1 : TallyAt w1 w.heap.size 0 0 0 0 := by
    unfold TallyAt; rw [hb1.block _ (unhide HT0).lt]; exact unhide HT0
  have HAP := hide (row_apart hrow hT1)
  have HT1 := hide hT1
  have HROW := hide hrow
  have HB1 := hide ((unhide HB0).trans (hb1.mono (by simp)))
  clear hrow hT1 hb1
  generalize hbb : w.heap.size = b at *
  go_wp2_with fail
  go_loopw [0, 8] (fun x i wr => ∃ k C M D A : Nat, ∃ u : Tr, k ≤ rs.length ∧ i = .int .i64 k ∧ x = .string (bs (textT u)) ∧ Hid (TallyAt wr b C M D A) ∧ Hid (Row wr lo rs.length 1 (rs.map strV)) ∧ Hid (Below b w wr) ∧ Hid (EdInv a u C M D) ∧ C ≤ k ∧ M ≤ k ∧ D ≤ k ∧ A ≤ 1048576 * k) (fun _ i _ => rs.length - (intOf i).toNat)
  case atStart => exact ⟨0, 0, 0, 0, 0, a, by omega, rfl, rfl, HT1, HROW, HB1, HE0, by omega, by omega, by omega, by omega⟩
  case round =>
    obtain ⟨k, C, M, D, A, u, hk, rfl, rfl, HT, HR, HBL, HE, h1, h2, h3, h4⟩ := hrel
    have hltr := (unhide HT).lt
    by_cases hlt : k < rs.length
    · obtain ⟨g, hlo, hg, hc⟩ := str_cell (unhide HR) (Below.refl _ _) hlt
      have hrl := unhide HML _ (List.getElem_mem hlt)
      have HRC := hide (fun h => unhide HAR u (unhide HE).v _ (List.getElem_mem hlt) h)
      have HAPP := hide (fun W => apply_any (bs (textT u)) (bs rs[k]) W)
      rw [sl_bs, sl_bs] at HAPP
      have hlo2 := hlo
      rw [hlo]
      have HLO := hide hlo2
      clear hlo hlo2
      generalize rs[k] = r at *
      generalize hAA : applyT (textT u) r = AA at *
      obtain ⟨x1, x2, x3⟩ := AA
      simp only at HAPP HRC
      clear hAA
      by_cases hx : x3 = 0
      · subst hx
        obtain ⟨s, hsok, hse, hx1, hhd⟩ := unhide HRC rfl
        subst hx1
        have HE2 := hide (edInv_step (unhide HE) hsok hse)
        have o1 := one_le (s.kind == 43)
        have o2 := one_le (s.kind == 61)
        have o3 := one_le (s.kind == 45)
        have HAD := hide (fun W (hT : TallyAt W b C M D A) => add_any r b C M D A W hT (by omega) (by omega) (by omega) (by omega) (by omega))
        rw [kN_head hhd, kN_head hhd, kN_head hhd] at HAD
        clear hsok hse hhd
        generalize (if s.kind == 43 then 1 else 0) = i1 at *
        generalize (if s.kind == 61 then 1 else 0) = i2 at *
        generalize (if s.kind == 45 then 1 else 0) = i3 at *
        generalize stepT u s = u2 at *
        go_wp2_with fail
        refine (unhide HAPP _).mono ?_
        rintro e w2 ⟨rfl, hb2⟩
        have hc2 : w2.cell? ⟨g, k, none⟩ = some (.string (bs r)) := by rw [hb2.cell (p := ⟨g, k, none⟩) hg]; exact hc
        have hT2 : TallyAt w2 b C M D A := by unfold TallyAt; rw [hb2.block b hltr]; exact unhide HT
        have HR2 := hide (Row.below (unhide HR) hb2)
        have HB2 := hide ((unhide HBL).trans (hb2.mono (by omega)))
        have hsz2 := hb2.size
        clear hb2 hc
        go_wp2_with fail
        refine (unhide HAD _ hT2).mono ?_
        rintro e w3 ⟨rfl, ⟨A2, hT3, hA1, hA2, _⟩, hg3⟩
        have HT3 := hide hT3
        have HR3 := hide (row_kept (unhide HR2) hg3 (unhide HAP))
        have HB3 := hide ((unhide HB2).grown hg3 (by omega) (fun j hj => by cases hj; omega))
        clear hT3 hg3 hT2 hc2
        go_wp2
        go_roundw
        case rel => exact ⟨k + 1, _, _, _, A2, u2, by omega, by go_num, rfl, HT3, by first | exact HR3 | (rw [← unhide HLO]; exact HR3), HB3, HE2, by omega, by omega, by omega, by omega⟩
        case measure => simp [intOf]; omega
      · have hx' : (x3 == 0) = false := by simpa using hx
        go_wp2_with fail
        refine (unhide HAPP _).mono ?_
        rintro e w2 ⟨rfl, hb2⟩
        have HT2 : Hid (TallyAt w2 b C M D A) := by apply hide; unfold TallyAt; rw [hb2.block b hltr]; exact unhide HT
        have HR2 := hide (Row.below (unhide HR) hb2)
        have HB2 := hide ((unhide HBL).trans (hb2.mono (by omega)))
        clear hb2 hc
        go_wp2
        go_roundw
        case rel => exact ⟨k + 1, C, M, D, A, u, by omega, by go_num, rfl, HT2, by first | exact HR2 | (rw [← unhide HLO]; exact HR2), HB2, HE, by omega, by omega, by omega, by omega⟩
        case measure => simp [intOf]; omega
    · go_wp2
      go_ret2
      exact ⟨⟨u, b, C, M, D, A, rfl, unhide HT, unhide HE, by omega, by omega, by omega⟩, by first | exact unhide HBL | (rw [hbb]; exact unhide HBL)⟩
end Go.Proofs.YtdcjimlhaklhfaaDoor

namespace Go.Proofs.YtdcjimlhaklhfaaDoor
open Go.RowKit
theorem gt_no {a b : Nat} (h : a ≤ b) : decide ((b : Int) < (a : Int)) = false := by simp; omega
set_option maxHeartbeats 8000000 in
set_option maxRecDepth 100000 in
theorem shortest_law (ao : Option Addr) (la ca : Nat) (sc : ByteArray) (w : World) (ha : IntsAt w ao la) (hla : la ≤ 140737488355328) (hl : sc.size ≤ 1048576) :
    Calls Tryd.prog 8 #[.slice ao la ca, .string sc] w fun e w' => e = .returned (.bool true) ∧ Below w.heap.size w w' := by
  have HGA := hide (grown_any ao la ca w ha hla)
  clear ha
  go_enter Tryd.func8, Tryd.ntmps8
  go_wp2_with fail
  refine (unhide HGA).mono ?_
  rintro e w1 ⟨⟨a, rfl, hva⟩, hb1⟩
  have HB1 := hide hb1
  clear hb1 HGA
  have HA0 := hide (fun W => apply_any (bs (textT a)) (bs []) W)
  rw [sl_bs, sl_bs, apply_empty, if_pos (by rw [(check_text hva).1])] at HA0
  simp only at HA0
  have hnil : bs [] = ⟨#[]⟩ := rfl
  rw [hnil] at HA0
  have HED := hide (fun W => edited_any a hva sc W hl)
  have e1 : ((bs (textT a)).toList == (bs (textT a)).toList) = true := by simp
  go_wp2_with fail
  refine (unhide HA0 _).mono ?_
  rintro e w2 ⟨rfl, hb2⟩
  have HB2 := hide ((unhide HB1).trans (hb2.mono (unhide HB1).size))
  clear hb2
  go_wp2_with fail
  refine (unhide HED _).mono ?_
  rintro e w3 ⟨⟨u, b, C, M, D, A, rfl, hT, hE, hC, hM, hD⟩, hb3⟩
  have HB3 := hide ((unhide HB2).trans (hb3.mono (unhide HB2).size))
  have hvu := hE.v
  have hseg := makeT_seg hva hvu
  obtain ⟨n1, n2, n3, n4⟩ := seg_bounds hvu.ok hseg
  have n5 := seg_twice hvu.ok hseg
  have hadd := total_add a u
  have q1 := hE.c
  have q2 := hE.d
  have q3 := hE.m
  have HC := hide (fun W => compile_any (bs (textT a)) (bs (textT u)) W)
  rw [sl_bs, sl_bs, compileE_valid hva hvu] at HC
  have HA1 := hide (fun W => apply_any (bs (textT a)) (bs (compileT (textT a) (textT u))) W)
  rw [sl_bs, sl_bs, apply_compile (compileE_valid hva hvu)] at HA1
  simp only at HA1
  rw [compileT_valid hva hvu] at HC HA1
  have HCO := hide (fun W => counted_any (makeT a u) W (fun s hs => (seg_can hseg hvu.ok s hs).1) (make_text_len hva hvu) (make_len hva hvu))
  have k43 : kK 43 (makeT a u) = cntK 43 (makeT a u) := rfl
  have k45 : kK 45 (makeT a u) = cntK 45 (makeT a u) := rfl
  have k61 : kK 61 (makeT a u) = cntK 61 (makeT a u) := rfl
  have kpk : pkC (makeT a u) = parkCnt (makeT a u) := rfl
  rw [k43] at n1
  rw [k45] at n2
  rw [k61, kpk] at n3
  rw [k61] at n5
  have hml := make_len hva hvu
  have b1 := cntK_le 43 (makeT a u)
  have b2 := cntK_le 61 (makeT a u)
  have b3 := cntK_le 45 (makeT a u)
  have HT := hide hT
  clear hb3 hT hE hvu hseg hva n4 k43 k45 k61 kpk HED HA0 hnil e1
  have e2 : ((bs (textT u)).toList == (bs (textT u)).toList) = true := by simp
  generalize cntK 43 (makeT a u) = c1 at *
  generalize cntK 61 (makeT a u) = c2 at *
  generalize cntK 45 (makeT a u) = c3 at *
  generalize parkCnt (makeT a u) = pk at *
  generalize scriptText (makeT a u) = st at *
  generalize total (fun i => fC a u i + fM a u i) = tcm at *
  generalize total (fC a u) = tc at *
  generalize total (fD a u) = td at *
  generalize total (fM a u) = tm at *
  generalize textT u = U at *
  generalize textT a = T at *
  go_wp2_with fail
  refine (unhide HC _).mono ?_
  rintro e w4 ⟨rfl, hb4⟩
  have HB4 := hide ((unhide HB3).trans (hb4.mono (unhide HB3).size))
  have HT4 : Hid (TallyAt w4 b C M D A) := by apply hide; unfold TallyAt; rw [hb4.block b (unhide HT).lt]; exact unhide HT
  clear hb4
  go_wp2_with fail
  refine (unhide HA1 _).mono ?_
  rintro e w5 ⟨rfl, hb5⟩
  have HB5 := hide ((unhide HB4).trans (hb5.mono (unhide HB4).size))
  have HT5 : Hid (TallyAt w5 b C M D A) := by apply hide; unfold TallyAt; rw [hb5.block b (unhide HT4).lt]; exact unhide HT4
  clear hb5
  go_wp2_with fail
  refine (unhide HCO _).mono ?_
  rintro e w6 ⟨⟨b6, a', rfl, hT6, hpk, ha'⟩, hb6⟩
  have HB6 := hide ((unhide HB5).trans (hb6.mono (unhide HB5).size))
  have hT56 : TallyAt w6 b C M D A := by unfold TallyAt; rw [hb6.block b (unhide HT5).lt]; exact unhide HT5
  obtain ⟨x0, x1, x2, x3, _⟩ := hT6.cells
  obtain ⟨y0, y1, y2, y3, _⟩ := hT56.cells
  have g1 := gt_no (show c1 ≤ C by omega)
  have g1n : decide (C < c1) = false := by simp; omega
  have g2n : decide (D < c3) = false := by simp; omega
  have g2 := gt_no (show c3 ≤ D by omega)
  have g3 : decide ((c2 : Int) - (a' : Int) ≤ (M : Int) + (C : Int) - (c1 : Int)) = true := by simp; omega
  have g4 : decide ((c2 : Int) ≤ 2 * ((M : Int) + (C : Int) - (c1 : Int))) = true := by simp; omega
  clear hb6 hT6 hT56 hadd
  go_wp2
  go_quiet (fail)
  go_wp2
  go_quiet (fail)
  go_wp2
  go_quiet (fail)
  go_wp2
  go_ret
  exact ⟨rfl, below_drewN (below_drewN (below_drewN (unhide HB6) _) _) _⟩
end Go.Proofs.YtdcjimlhaklhfaaDoor
