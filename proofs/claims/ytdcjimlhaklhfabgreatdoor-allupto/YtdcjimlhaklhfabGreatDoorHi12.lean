import Derived.Test.YtdcjimlhaklhfabGreatDoorHi11
import Derived.Great.BuildSlice
import Derived.Deep.Cut
import Derived.Test.YtdcjimlhaklhfabGreatDoorHi3
import Derived.Test.YtdcjimlhaklhfabGreatDoorHi10
import Derived.Deep.RegionHeld3
import Derived.Test.YtdcjimlhaklhfabGreatDoorHi6
import Derived.Test.YtdcjimlhaklhfabGreatDoorHi4
import Derived.Test.YtdcjimlhaklhfabGreatDoorHi2
import Derived.Test.YtdcjimlhaklhfabGreatDoorHi5
namespace Go.Proofs.YtdcjimlhaklhfabGreatDoor
open Go.RowKit
/-! A plan is made. -/
def planCells (a g : Tr) (v : Value) : List Value := treeCells a ++ (treeCells g ++ [v])
theorem planCells_length (a g : Tr) (v : Value) : (planCells a g v).length = 801 := by simp [planCells, treeCells_length]
theorem fold_set (off : Nat) : ∀ (vs : List Value) (k : Nat) (cs : Array Value), off + k + vs.length ≤ cs.size →
    ((vs.zipIdx k).foldl (fun cs (x : Value × Nat) => cs.setIfInBounds (off + x.2) x.1) cs) = (cs.toList.take (off + k) ++ vs ++ cs.toList.drop (off + k + vs.length)).toArray := by
  intro vs
  induction vs with
  | nil => intro k cs h; simp
  | cons v vs ih =>
    intro k cs h
    simp only [List.length_cons] at h
    rw [List.zipIdx_cons, List.foldl_cons, ih (k + 1) _ (by simp; omega)]
    apply Array.ext'
    simp only [Array.toList_setIfInBounds]
    have h1 : off + k < cs.toList.length := by rw [Array.length_toList]; omega
    have e1 : (cs.toList.set (off + k) v).take (off + (k + 1)) = cs.toList.take (off + k) ++ [v] := by
      rw [show off + (k + 1) = off + k + 1 by omega, List.take_succ_eq_append_getElem (by simpa using h1)]
      rw [List.take_set, List.set_eq_of_length_le (by simp; omega)]
      simp
    have e2 : (cs.toList.set (off + k) v).drop (off + (k + 1) + vs.length) = cs.toList.drop (off + k + (v :: vs).length) := by
      rw [List.drop_set_of_lt (by omega)]; congr 1; simp only [List.length_cons]; omega
    rw [e1, e2]; simp
theorem fill_one (place : Nat → Option (Nat × Nat)) (cells : Array Value) (i off size : Nat) (vs : List Value) (rest : List (Nat × Value)) (hp : place i = some (off, size)) (hs : vs.length = size) (hb : off + size ≤ cells.size) :
    Instr.fill place cells ((i, .agg vs.toArray) :: rest) = Instr.fill place (cells.toList.take off ++ vs ++ cells.toList.drop (off + size)).toArray rest := by
  rw [Instr.fill, hp]
  have hc : (Value.agg vs.toArray).cells = vs.toArray := rfl
  simp only [hc, List.size_toArray, hs, ne_eq, not_true_eq_false, decide_false, Bool.false_or, decide_eq_true_eq]
  rw [if_neg (by omega)]
  congr 1
  rw [← Array.foldl_toList, Array.toList_zipIdx]
  have := fold_set off vs 0 cells (by omega)
  rw [Nat.add_zero, hs] at this
  exact this
theorem Tryz.planZero : ((Tryz.prog.info? 198).bind (·.zero)).map (fun z => (z.cells.size, z.cells.toList.drop 800)) = some (801, [.slice none 0 0]) := by kernel_rfl
theorem Tryz.planPlaces : (match Tryz.prog.underlying 198 with
  | some (.struct fields) => fields.toList.mapM (fun f => (Tryz.prog.info? f.type).map fun i => (f.offset, i.size))
  | _ => none) = some [(0, 400), (400, 400), (800, 1)] := by kernel_rfl
theorem plan_built (a g : Tr) : Tryz.prog.built 198 [(0, .agg (treeCells a).toArray), (1, .agg (treeCells g).toArray)] = some (planCells a g (.slice none 0 0)).toArray := by
  have h1 := Tryz.planZero
  have h2 := Tryz.planPlaces
  unfold Program.built
  cases hit : Tryz.prog.info? 198 with
  | none => rw [hit] at h1; cases h1
  | some it =>
    rw [hit] at h1
    cases hz : it.zero with
    | none => simp [hz] at h1
    | some z =>
      simp only [Option.bind_some, hz, Option.map_some, Option.some.injEq, Prod.mk.injEq] at h1
      cases hu : Tryz.prog.underlying 198 with
      | none => rw [hu] at h2; cases h2
      | some d =>
        rw [hu] at h2
        cases d with
        | struct fields =>
          simp only at h2
          simp only [hz, h2]
          unfold planCells
          have hz1 : z.cells.toList.length = 801 := by rw [Array.length_toList]; exact h1.1
          have hla := treeCells_length a
          have hlg := treeCells_length g
          generalize treeCells a = la at *
          generalize treeCells g = lg at *
          generalize z.cells = zc at *
          rw [fill_one _ _ 0 0 400 la _ rfl hla (by omega)]
          rw [fill_one _ _ 1 400 400 lg _ rfl hlg (by simp only [List.size_toArray, List.length_append, List.length_take, List.length_drop]; omega)]
          rw [Instr.fill]
          refine congrArg some (congrArg List.toArray ?_)
          simp only [List.take_zero, List.nil_append, Nat.zero_add]
          rw [List.take_append_of_le_length (by omega), List.take_of_length_le (by omega), List.drop_append, List.drop_eq_nil_of_le (by omega), List.nil_append, List.drop_drop, hla]
          rw [show 400 + (400 + 400 - 400) = 800 from rfl, h1.2]
          simp
        | _ => simp at h2
theorem Tryz.planZeroSize : Tryz.zeroCells198.size = 801 := by kernel_rfl
theorem planSize0 : (Tryz.prog.info? 198).map (·.size) = some 801 := by kernel_rfl
theorem planSize (a g : Tr) (v : Value) : (Tryz.prog.info? 198).map (·.size) = some (planCells a g v).toArray.size := by rw [List.size_toArray, planCells_length]; exact planSize0
theorem tree_one (t : Tr) : ∀ v ∈ treeCells t, v.oneCell' = true := by
  have := treeOne t
  rw [Array.all_eq_true_iff_forall_mem] at this
  intro v hv; exact this v (by simpa using hv)
theorem planOne (a g : Tr) : (planCells a g (.slice none 0 0)).toArray.all (·.oneCell') = true := by
  refine all_oneCell_toArray (fun v hv => ?_)
  unfold planCells at hv
  rcases List.mem_append.1 hv with hv | hv
  · exact tree_one a v hv
  · rcases List.mem_append.1 hv with hv | hv
    · exact tree_one g v hv
    · rw [List.mem_singleton.1 hv]; rfl
theorem there_new {w : World} {b : Nat} {cs : Array Value} {ty : TypeId} (h : w.heap[b]? = some (.cells cs ty (0, 0))) {n : Nat} (hn : n = cs.size) : w.there b 0 n := by
  subst hn
  intro j hj
  refine ⟨?_, ?_⟩
  · rw [Nat.zero_add, cell_of_row w b j _ _ (0, 0) h, Array.getElem?_eq_getElem hj]; rfl
  · simp [World.frozen?, h]
theorem range_new {w : World} {b : Nat} {cs : List Value} {ty : TypeId} (h : w.heap[b]? = some (.cells cs.toArray ty (0, 0))) : w.rangeAt b 0 cs := by
  intro j v hv
  rw [Nat.zero_add, cell_of_row w b j _ _ (0, 0) h]; simpa using hv
theorem plan_new {w : World} {b : Nat} {cs : Array Value} (a g : Tr) (v : Value) (h : w.heap[b]? = some (.cells cs 198 (0, 0))) (hs : cs.size = 801) : TreeAt (planX g v) (w.setCells b 0 (planCells a g v)) b a := by
  have := heap_setCells_row b 198 (planCells a g v) 0 w cs.toList (by simpa using h) (by rw [planCells_length, Array.length_toList]; omega)
  unfold TreeAt
  rw [this]
  have hd : cs.toList.drop (0 + (planCells a g v).length) = [] := by rw [List.drop_eq_nil_of_le (by rw [planCells_length, Array.length_toList]; omega)]
  rw [hd]
  simp [planX, planCells]
theorem goFold_len (g : Tr) (hg : TrOk g) : ∀ (l : List Nat) (p : Pl × Bool), (∀ i ∈ l, 1 ≤ i ∧ i ≤ 99) → TrOk p.1.now → (l.foldl (goOne g) p).1.done.length ≤ p.1.done.length + l.length ∧ TrOk (l.foldl (goOne g) p).1.now := by
  intro l
  induction l with
  | nil => intro p _ h; exact ⟨by simp, h⟩
  | cons i l ih =>
    intro p hl h
    rw [List.foldl_cons]
    have hi := hl i (by simp)
    obtain ⟨q, m⟩ := p
    cases hs : homeS q.now g i with
    | none =>
      rw [goOne_none hs]
      have := ih (q, m) (fun j hj => hl j (by simp [hj])) h
      exact ⟨by simp only [List.length_cons] at *; omega, this.2⟩
    | some s =>
      rw [goOne_some hs]
      have hk := (home_ok hg (show (1 : Int) ≤ i by omega) (by omega) hs).1
      have := ih (tryP q s, m || (stepE q.now s == 0)) (fun j hj => hl j (by simp [hj])) (tryP_ok h hk)
      have h2 := tryP_len q s
      exact ⟨by simp only [List.length_cons] at *; omega, this.2⟩
theorem goHomeT_len {g : Tr} (hg : TrOk g) {p : Pl} (h : TrOk p.now) : (goHomeT g p).1.done.length ≤ p.done.length + 99 ∧ TrOk (goHomeT g p).1.now := by
  have := goFold_len g hg (List.range' 1 99) (p, false) (fun i hi => by rw [List.mem_range'_1] at hi; omega) h
  have hE : goHomeT g p = (List.range' 1 99).foldl (goOne g) (p, false) := by unfold goHomeT; rfl
  rw [← hE, List.length_range'] at this
  exact this
theorem parkT_len {g : Tr} (hg : TrOk g) {p : Pl} (h : TrOk p.now) : (parkT g p).1.done.length ≤ p.done.length + 1 ∧ TrOk (parkT g p).1.now := by
  by_cases h0 : knotT p.now g = 0
  · rw [parkT_no h0]; exact ⟨by simp, h⟩
  · rw [parkT_yes h0]
    have hb := knot_bd h hg
    exact ⟨tryP_len _ _, tryP_ok h (park_ok (by omega) hb.2)⟩
theorem makeF_1 {g : Tr} {f : Nat} {p : Pl} (h : (goHomeT g p).2 = true) : makeF g (f + 1) p = makeF g f (goHomeT g p).1 := by rw [makeF, if_pos h]
theorem makeF_2 {g : Tr} {f : Nat} {p : Pl} (h : (goHomeT g p).2 = false) (h2 : (parkT g (goHomeT g p).1).2 = true) : makeF g (f + 1) p = makeF g f (parkT g (goHomeT g p).1).1 := by rw [makeF, if_neg (by rw [h]; simp), if_pos h2]
theorem makeF_3 {g : Tr} {f : Nat} {p : Pl} (h : (goHomeT g p).2 = false) (h2 : (parkT g (goHomeT g p).1).2 = false) : makeF g (f + 1) p = (parkT g (goHomeT g p).1).1.done := by rw [makeF, if_neg (by rw [h]; simp), if_neg (by rw [h2]; simp)]
theorem plan_row {w : World} {b : Nat} {g : Tr} {p : Pl} (h : PlanAt w b g p) : ∃ ao cap, w.cell? ⟨b, 800, none⟩ = some (.slice ao p.done.length cap) ∧ w.ownsRow (b + 1) 169 4 (.slice ao p.done.length cap) p.done.length (stCells p.done) := by
  obtain ⟨v, hT, hown⟩ := h
  obtain ⟨ao, cap, rfl, hr⟩ := row_of_owns hown
  exact ⟨ao, cap, plan_done hT, hown⟩
theorem own_low {w : World} {base base' : Nat} {e : TypeId} {size : Nat} {v : Value} {n : Nat} {xs : List Value} (h : w.ownsRow base e size v n xs) (hb : base' ≤ base) : w.ownsRow base' e size v n xs := by
  refine ⟨h.1, ?_⟩
  rcases h.2 with hn | ⟨g, cap, cur, hv, hg, rest⟩
  · exact .inl hn
  · exact .inr ⟨g, cap, cur, hv, by omega, rest⟩
set_option maxHeartbeats 4000000 in
set_option maxRecDepth 100000 in
theorem make_own (a g : Tr) (w : World) (ha : TrOk a) (hg : TrOk g) :
    Calls Tryz.prog 109 #[.agg (treeCells a).toArray, .agg (treeCells g).toArray] w fun e w' => (∃ ao cap, e = .returned (.slice ao (makeT a g).length cap) ∧ w'.ownsRow w.heap.size 169 4 (.slice ao (makeT a g).length cap) (makeT a g).length (stCells (makeT a g))) ∧ Below w.heap.size w w' := by
  have HR1 : Hid (((w.alloc (.cells (treeCells a).toArray 78)).alloc (.cells (treeCells g).toArray 78)).rangeAt w.heap.size 0 (treeCells a)) := hide (range_new (by rw [Below.heap_alloc _ _ _ (by simp)]; exact heap_alloc_new w _))
  have HR2 : Hid (((w.alloc (.cells (treeCells a).toArray 78)).alloc (.cells (treeCells g).toArray 78)).rangeAt (w.heap.size + 1) 0 (treeCells g)) := hide (range_new (by simpa using heap_alloc_new (w.alloc (.cells (treeCells a).toArray 78)) (.cells (treeCells g).toArray 78)))
  have hblk : (((w.alloc (.cells (treeCells a).toArray 78)).alloc (.cells (treeCells g).toArray 78)).alloc (.cells Tryz.zeroCells198 198)).heap[w.heap.size + 1 + 1]? = some (.cells Tryz.zeroCells198 198 (0, 0)) := by
    simpa using heap_alloc_new ((w.alloc (.cells (treeCells a).toArray 78)).alloc (.cells (treeCells g).toArray 78)) (.cells Tryz.zeroCells198 198)
  have HTH := hide (there_new hblk (n := (planCells a g (.slice none 0 0)).toArray.size) (by rw [List.size_toArray, planCells_length, Tryz.planZeroSize]))
  have HPN := hide (plan_new a g (.slice none 0 0) hblk Tryz.planZeroSize)
  have HBW := hide ((((Below.refl w.heap.size w).alloc (Nat.le_refl _) (.cells (treeCells a).toArray 78)).alloc (by simp) (.cells (treeCells g).toArray 78)).alloc (by simp; omega) (.cells Tryz.zeroCells198 198))
  have HO := hide ha
  have HG := hide hg
  have HM : Hid (makeT a g = makeF g 199 ⟨a, []⟩) := hide rfl
  generalize makeT a g = M at *
  clear hblk ha hg
  go_enter Tryz.func109, Tryz.ntmps109
  go_wp2_with (first
    | (refine wpList_load_mid (by rfl) 78 (.tmp 2) (by rfl) w.heap.size 0 (by rfl) (treeCells a) _ (unhide HR1) Tryz.underlying78 (by rfl) (treeSize a) ?_)
    | (refine wpList_load_mid (by rfl) 78 (.tmp 3) (by rfl) (w.heap.size + 1) 0 (by rfl) (treeCells g) _ (unhide HR2) Tryz.underlying78 (by rfl) (treeSize g) ?_)
    | (refine wpList_buildTo (by rfl) 198 #[(0, .tmp 8), (1, .tmp 9)] (by rfl) (some 10) (by rfl) (planCells a g (.slice none 0 0)).toArray ?hf ?_; (case hf => (simp [Act.eval, Act.put]; exact plan_built a g)))
    | (refine wpList_store_mid (by rfl) 198 (.tmp 5) (.tmp 10) (by rfl) (w.heap.size + 1 + 1) 0 (planCells a g (.slice none 0 0)).toArray (by rfl) (by rfl) (unhide HTH) (planSize a g _) (planOne a g) ?_))
  have HP0 : Hid (PlanAt _ (w.heap.size + 1 + 1) g ⟨a, []⟩) := hide ⟨.slice none 0 0, unhide HPN, World.ownsRow_nil _ _ _ _⟩
  have hB0 := below_setCells (unhide HBW) (g := w.heap.size + 1 + 1) (by omega) (by simp; omega) 0 (planCells a g (.slice none 0 0))
  have HB0 := hide hB0
  clear hB0
  clear HR1 HR2 HTH HPN HBW
  generalize Value.agg (treeCells a).toArray = va
  generalize Value.agg (treeCells g).toArray = vg
  generalize Value.agg (planCells a g (Value.slice none 0 0)).toArray = vp
  go_loopw [6] (fun i wr => ∃ k : Nat, ∃ p : Pl, k ≤ 199 ∧ i = .int .i64 k ∧ Hid (PlanAt wr (w.heap.size + 1 + 1) g p) ∧ Hid (TrOk p.now) ∧ p.done.length ≤ 100 * k ∧ Below w.heap.size w wr ∧ Hid (M = makeF g (199 - k) p)) (fun i _ => 200 - (intOf i).toNat)
  case atStart => exact ⟨0, ⟨a, []⟩, by omega, rfl, HP0, HO, by simp, unhide HB0, HM⟩
  case round =>
    obtain ⟨k, p, hk, rfl, HPL, HOK, hlen, hbel, HI⟩ := hrel
    have hltr := (unhide HPL).lt
    by_cases hkk : k ≤ 198
    · have HI2 : Hid (M = makeF g ((198 - k) + 1) p) := by apply hide; rw [unhide HI, show 199 - k = (198 - k) + 1 by omega]
      have HGO := hide (goHome_any g p (w.heap.size + 1 + 1) wr (unhide HOK) (unhide HG) (unhide HPL) (by omega))
      have hl1 := goHomeT_len (unhide HG) (unhide HOK)
      have HOK1 := hide hl1.2
      have hl2 := hl1.1
      clear hl1 HI
      cases hq : (goHomeT g p).2
      · cases hq2 : (parkT g (goHomeT g p).1).2
        · have HE := hide ((unhide HI2).trans (makeF_3 hq hq2))
          have HPA := hide (fun W (h : PlanAt W (w.heap.size + 1 + 1) g (goHomeT g p).1) => park_any g (goHomeT g p).1 (w.heap.size + 1 + 1) W (unhide HOK1) (unhide HG) h (by omega))
          rw [hq] at HGO
          rw [hq2] at HPA
          clear hq hq2 HI2
          generalize goHomeT g p = q1 at *
          generalize (parkT g q1.1).1 = q2 at *
          go_wp2_with fail
          refine (unhide HGO).mono ?_
          rintro e w1 ⟨rfl, hP1, hb1⟩
          have HP1 := hide hP1
          have hb2 := hbel.trans (hb1.mono (by omega))
          clear hP1 hb1 hbel
          go_wp2_with fail
          refine (unhide HPA _ (unhide HP1)).mono ?_
          rintro e w2 ⟨rfl, hP2, hb3⟩
          obtain ⟨ao, cap, hc, hr⟩ := plan_row hP2
          have HR := hide hr
          have HB4 := hide (hb2.trans (hb3.mono (by omega)))
          clear hP2 hb2 hb3 hr
          go_wp2
          go_ret
          rw [unhide HE]
          exact ⟨⟨ao, cap, rfl, own_low (unhide HR) (by omega)⟩, unhide HB4⟩
        · have HE := hide ((unhide HI2).trans (makeF_2 hq hq2))
          have HPA := hide (fun W (h : PlanAt W (w.heap.size + 1 + 1) g (goHomeT g p).1) => park_any g (goHomeT g p).1 (w.heap.size + 1 + 1) W (unhide HOK1) (unhide HG) h (by omega))
          have hl3 := parkT_len (unhide HG) (unhide HOK1)
          have HOK2 := hide hl3.2
          have hl4 := hl3.1
          rw [hq] at HGO
          rw [hq2] at HPA
          clear hq hq2 HI2 hl3
          generalize goHomeT g p = q1 at *
          generalize (parkT g q1.1).1 = q2 at *
          go_wp2_with fail
          refine (unhide HGO).mono ?_
          rintro e w1 ⟨rfl, hP1, hb1⟩
          have HP1 := hide hP1
          have hb2 := hbel.trans (hb1.mono (by omega))
          clear hP1 hb1 hbel
          go_wp2_with fail
          refine (unhide HPA _ (unhide HP1)).mono ?_
          rintro e w2 ⟨rfl, hP2, hb3⟩
          have HP2 := hide hP2
          have hb4 := hb2.trans (hb3.mono (by omega))
          clear hP2 hb2 hb3
          go_wp2
          go_roundw
          case rel => exact ⟨k + 1, q2, by omega, by go_num, HP2, HOK2, by omega, hb4, by apply hide; rw [show 199 - (k + 1) = 198 - k by omega]; exact unhide HE⟩
          case measure => simp [intOf]; omega
      · have HE := hide ((unhide HI2).trans (makeF_1 hq))
        rw [hq] at HGO
        clear hq HI2
        generalize goHomeT g p = q1 at *
        go_wp2_with fail
        refine (unhide HGO).mono ?_
        rintro e w1 ⟨rfl, hP1, hb1⟩
        have HP1 := hide hP1
        have hb2 := hbel.trans (hb1.mono (by omega))
        clear hP1 hb1 hbel
        go_wp2
        go_roundw
        case rel => exact ⟨k + 1, q1.1, by omega, by go_num, HP1, HOK1, by omega, hb2, by apply hide; rw [show 199 - (k + 1) = 198 - k by omega]; exact unhide HE⟩
        case measure => simp [intOf]; omega
    · have HE : Hid (M = p.done) := by apply hide; rw [unhide HI, show 199 - k = 0 by omega]; rfl
      obtain ⟨ao, cap, hc, hr⟩ := plan_row (unhide HPL)
      have HR := hide hr
      clear hr
      go_wp2
      go_ret
      rw [unhide HE]
      exact ⟨⟨ao, cap, rfl, own_low (unhide HR) (by omega)⟩, hbel⟩
theorem make_any (a g : Tr) (w : World) (ha : TrOk a) (hg : TrOk g) :
    Calls Tryz.prog 109 #[.agg (treeCells a).toArray, .agg (treeCells g).toArray] w fun e w' => (∃ ao cap, e = .returned (.slice ao (makeT a g).length cap) ∧ Row w' ao (makeT a g).length 4 (stCells (makeT a g))) ∧ Below w.heap.size w w' := by
  refine (make_own a g w ha hg).mono ?_
  rintro e w' ⟨⟨ao, cap, he, ho⟩, hb⟩
  refine ⟨⟨ao, cap, he, ?_⟩, hb⟩
  obtain ⟨ao', cap', e', hr⟩ := row_of_owns ho
  cases e'; exact hr
end Go.Proofs.YtdcjimlhaklhfabGreatDoor

namespace Go.Proofs.YtdcjimlhaklhfabGreatDoor
open Go.RowKit
theorem add_43 (a : Str) (ha : a.length ≤ 1000000) (W : World) : (Op.stringOp .add ⟨#[43]⟩ (bs a)).run Tryz.prog W = .ok (.string (bs (43 :: a))) W := add_bs [43] a (by simp) ha W
theorem add_61 (a : Str) (ha : a.length ≤ 1000000) (W : World) : (Op.stringOp .add ⟨#[61]⟩ (bs a)).run Tryz.prog W = .ok (.string (bs (61 :: a))) W := add_bs [61] a (by simp) ha W
theorem add_45 (a : Str) (ha : a.length ≤ 1000000) (W : World) : (Op.stringOp .add ⟨#[45]⟩ (bs a)).run Tryz.prog W = .ok (.string (bs (45 :: a))) W := add_bs [45] a (by simp) ha W
set_option maxHeartbeats 2000000 in
theorem stText_any (s : St) (w : World) (hs : StOk s) :
    Calls Tryz.prog 151 #[.agg #[.int .u8 s.kind.toNat, .int .i64 s.node.id, .int .i64 s.node.parent, .string (bs s.node.name)]] w fun e w' => e = .returned (.string (bs (stText s))) ∧ Below w.heap.size w w' := by
  obtain ⟨k, n⟩ := s
  have HB := hide ((Below.refl w.heap.size w).alloc (Nat.le_refl _) (.cells #[.int .u8 k.toNat, .int .i64 n.id, .int .i64 n.parent, .string (bs n.name)] 169))
  rcases hs with ⟨hk, h1, h2, h3, h4, h5⟩ | ⟨hk, h1, h2⟩
  · simp only at hk h1 h2 h3 h4 h5 ⊢
    have hl := name_len h5
    have hnl := nodeText_len h5
    have HNT := hide (fun W => nodeText_any n W ⟨by omega, h2⟩ ⟨h3, h4⟩ (by omega))
    have HE : Hid (stText ⟨k, n⟩ = k :: nodeText n) := hide (by unfold stText; rw [if_neg (show ¬ k = 45 by rcases hk with h | h <;> rw [h] <;> decide)])
    generalize stText ⟨k, n⟩ = R at *
    generalize nodeText n = nt at *
    rcases hk with rfl | rfl
    · have a1 := add_43 nt (by omega)
      go_enter Tryz.func151, Tryz.ntmps151
      go_wp2_with fail
      refine (unhide HNT _).mono ?_
      rintro e w1 ⟨rfl, hb1⟩
      have HB1 := hide ((unhide HB).trans (hb1.mono (unhide HB).size))
      clear hb1
      go_wp2
      go_ret
      exact ⟨ret_str (by rw [unhide HE]), unhide HB1⟩
    · have a1 := add_61 nt (by omega)
      go_enter Tryz.func151, Tryz.ntmps151
      go_wp2_with fail
      refine (unhide HNT _).mono ?_
      rintro e w1 ⟨rfl, hb1⟩
      have HB1 := hide ((unhide HB).trans (hb1.mono (unhide HB).size))
      clear hb1
      go_wp2
      go_ret
      exact ⟨ret_str (by rw [unhide HE]), unhide HB1⟩
  · simp only at hk h1 h2 ⊢
    subst hk
    have HIT := hide (fun W => itoa_any n.id W (by omega) h2)
    have l1 := digs_len n.id
    have a1 := add_45 (digs n.id) (by omega)
    have a2 := add_59 (45 :: digs n.id) (by simp; omega)
    have HE : Hid (stText ⟨45, n⟩ = 45 :: digs n.id ++ [59]) := hide (by unfold stText; rw [if_pos rfl])
    generalize stText ⟨45, n⟩ = R at *
    generalize 45 :: digs n.id ++ [59] = d3 at *
    generalize 45 :: digs n.id = d2 at *
    generalize digs n.id = d1 at *
    go_enter Tryz.func151, Tryz.ntmps151
    go_wp2_with fail
    refine (unhide HIT _).mono ?_
    rintro e w1 ⟨rfl, rfl⟩
    go_wp2
    go_ret
    exact ⟨ret_str (by rw [unhide HE]), unhide HB⟩
theorem script_snoc (ss : List St) (k : Nat) (h : k < ss.length) : scriptText (ss.take (k + 1)) = scriptText (ss.take k) ++ stText ss[k] := by
  unfold scriptText; rw [List.take_succ_eq_append_getElem h, List.flatMap_append]; simp
set_option maxHeartbeats 2000000 in
theorem script_any (ss : List St) (ao : Option Addr) (cap : Nat) (w : World) (hrow : Row w ao ss.length 4 (stCells ss)) (hs : ∀ s ∈ ss, StOk s) (hl : ss.length ≤ 20000) :
    Calls Tryz.prog 137 #[.slice ao ss.length cap] w fun e w' => e = .returned (.string (bs (scriptText ss))) ∧ Below w.heap.size w w' := by
  have HROW := hide hrow
  have HS := hide hs
  clear hrow hs
  go_enter Tryz.func137, Tryz.ntmps137
  go_wp2
  go_loopw [3, 8] (fun x i wr => ∃ k : Nat, ∃ S : Str, k ≤ ss.length ∧ i = .int .i64 k ∧ x = .string (bs S) ∧ Below w.heap.size w wr ∧ Hid (S = scriptText (ss.take k))) (fun _ i _ => ss.length - (intOf i).toNat)
  case atStart => exact ⟨0, [], by omega, rfl, rfl, Below.refl _ _, hide rfl⟩
  case round =>
    obtain ⟨k, S, hk, rfl, rfl, hbel, HI⟩ := hrel
    by_cases hlt : k < ss.length
    · obtain ⟨g, hao, hg, c0, c1, c2, c3⟩ := st_cells (Row.below (unhide HROW) hbel) hlt
      rw [hao]
      clear hao
      have hsok := unhide HS _ (List.getElem_mem hlt)
      have HI2 : Hid (S ++ stText ss[k] = scriptText (ss.take (k + 1))) := by apply hide; rw [script_snoc _ _ hlt, unhide HI]
      have hSl : S.length ≤ 19 * 20000 := by
        rw [unhide HI]
        have := script_len (ss.take k) (fun s h => unhide HS s (List.mem_of_mem_take h))
        rw [List.length_take] at this; omega
      have htl := stText_len hsok
      have HT := hide (fun W => stText_any ss[k] W hsok)
      have hadd := add_bs S (stText ss[k]) (by omega) (by omega)
      have hsz := hbel.size
      clear hsok
      generalize stText ss[k] = tx at *
      generalize ss[k] = st at *
      have HB1 := hide (hbel.alloc hsz (.cells #[.int .u8 st.kind.toNat, .int .i64 st.node.id, .int .i64 st.node.parent, .string (bs st.node.name)] 169))
      clear hbel
      go_wp2_with fail
      refine (unhide HT _).mono ?_
      rintro e w2 ⟨rfl, hb2⟩
      have hb3 := (unhide HB1).trans (hb2.mono (unhide HB1).size)
      clear hb2 c0 c1 c2 c3
      go_wp2
      go_roundw
      case rel => exact ⟨k + 1, _, by omega, by go_num, rfl, hb3, HI2⟩
      case measure => simp [intOf]; omega
    · have HE : Hid (scriptText ss = S) := by apply hide; rw [unhide HI, List.take_of_length_le (by omega)]
      go_wp2
      go_ret
      exact ⟨ret_str (by rw [unhide HE]), hbel⟩
theorem ret_si {a b : ByteArray} {x y : Int} (h : a = b) (g : x = y) : Ending.returned (.tuple #[.string a, .int .i64 x]) = .returned (.tuple #[.string b, .int .i64 y]) := by rw [h, g]
theorem compileT_no {f t : Str} (h : compileE f t ≠ 0) : compileT f t = [] := by unfold compileT; rw [if_neg h]
theorem makeT_ok {a g : Tr} (hg : TrOk g) (ha : TrOk a) : (∀ s ∈ makeT a g, StOk s) ∧ (makeT a g).length ≤ 20000 := by
  have key : ∀ (f : Nat) (p : Pl), TrOk p.now → (∀ s ∈ p.done, StOk s) → (∀ s ∈ makeF g f p, StOk s) ∧ (makeF g f p).length ≤ p.done.length + 100 * f := by
    have htry : ∀ (p : Pl) (s : St), StOk s → (∀ s ∈ p.done, StOk s) → ∀ x ∈ (tryP p s).done, StOk x := by
      intro p s hs hp x hx
      unfold tryP at hx
      split at hx
      · rcases List.mem_append.1 hx with hx | hx
        · exact hp x hx
        · rw [List.mem_singleton.1 hx]; exact hs
      · exact hp x hx
    have hgo : ∀ (l : List Nat) (p : Pl × Bool), (∀ i ∈ l, 1 ≤ i ∧ i ≤ 99) → TrOk p.1.now → (∀ s ∈ p.1.done, StOk s) → ∀ s ∈ (l.foldl (goOne g) p).1.done, StOk s := by
      intro l
      induction l with
      | nil => intro p _ _ h; exact h
      | cons i l ih =>
        intro p hl hp h
        rw [List.foldl_cons]
        have hi := hl i (by simp)
        obtain ⟨q, m⟩ := p
        cases hs : homeS q.now g i with
        | none => rw [goOne_none hs]; exact ih (q, m) (fun j hj => hl j (by simp [hj])) hp h
        | some s =>
          rw [goOne_some hs]
          have hk := (home_ok hg (show (1 : Int) ≤ i by omega) (by omega) hs).1
          exact ih (tryP q s, m || (stepE q.now s == 0)) (fun j hj => hl j (by simp [hj])) (tryP_ok hp hk) (htry q s hk h)
    have hgo2 : ∀ p : Pl, TrOk p.now → (∀ s ∈ p.done, StOk s) → ∀ s ∈ (goHomeT g p).1.done, StOk s := by
      intro p h1 h2
      have hE : goHomeT g p = (List.range' 1 99).foldl (goOne g) (p, false) := by unfold goHomeT; rfl
      rw [hE]
      exact hgo _ (p, false) (fun i hi => by rw [List.mem_range'_1] at hi; omega) h1 h2
    have hpk : ∀ p : Pl, TrOk p.now → (∀ s ∈ p.done, StOk s) → ∀ s ∈ (parkT g p).1.done, StOk s := by
      intro p h1 h2
      by_cases h0 : knotT p.now g = 0
      · rw [parkT_no h0]; exact h2
      · rw [parkT_yes h0]
        have hb := knot_bd h1 hg
        exact htry p _ (park_ok (by omega) hb.2) h2
    intro f
    induction f with
    | zero => intro p h1 h2; exact ⟨h2, by simp [makeF]⟩
    | succ f ih =>
      intro p h1 h2
      have l1 := goHomeT_len hg h1
      have l2 := parkT_len hg l1.2
      have o1 := hgo2 p h1 h2
      have o2 := hpk _ l1.2 o1
      cases hq : (goHomeT g p).2
      · cases hq2 : (parkT g (goHomeT g p).1).2
        · rw [makeF_3 hq hq2]; exact ⟨o2, by omega⟩
        · rw [makeF_2 hq hq2]
          have := ih _ l2.2 o2
          exact ⟨this.1, by omega⟩
      · rw [makeF_1 hq]
        have := ih _ l1.2 o1
        exact ⟨this.1, by omega⟩
  have := key 199 ⟨a, []⟩ ha (by simp)
  unfold makeT
  exact ⟨this.1, by have h := this.2; simp at h; omega⟩
end Go.Proofs.YtdcjimlhaklhfabGreatDoor

namespace Go.Proofs.YtdcjimlhaklhfabGreatDoor
open Go.RowKit
theorem compileE_long {f t : Str} (h : 4000 < f.length ∨ 4000 < t.length) : compileE f t = 1 := by unfold compileE; rw [if_pos h]
theorem compileE_from {f t : Str} (h : ¬ (4000 < f.length ∨ 4000 < t.length)) (h2 : (checkT f).1 ≠ 0) : compileE f t = (checkT f).1 := by unfold compileE; rw [if_neg h, if_pos h2]
theorem compileE_to {f t : Str} (h : ¬ (4000 < f.length ∨ 4000 < t.length)) (h2 : (checkT f).1 = 0) : compileE f t = (checkT t).1 := by unfold compileE; rw [if_neg h, if_neg (fun hh => hh h2)]
set_option maxHeartbeats 4000000 in
set_option maxRecDepth 100000 in
theorem compile_any (s t : ByteArray) (w : World) :
    Calls Tryz.prog 113 #[.string s, .string t] w fun e w' => e = .returned (.tuple #[.string (bs (compileT (sl s) (sl t))), .int .i64 (compileE (sl s) (sl t))]) ∧ Below w.heap.size w w' := by
  by_cases hL : 4000 < s.size ∨ 4000 < t.size
  · have hE := compileE_long (f := sl s) (t := sl t) (by rw [sl_length, sl_length]; exact hL)
    rw [compileT_no (by rw [hE]; decide), hE]
    have hL' : 4000 < s.size ∨ (¬ 4000 < s.size ∧ 4000 < t.size) := by omega
    clear hL hE
    rcases hL' with h | ⟨h, h'⟩
    all_goals
      go_enter Tryz.func113, Tryz.ntmps113
      go_wp2
      go_ret2
      exact ⟨rfl, Below.refl _ _⟩
  · have hLl : ¬ (4000 < (sl s).length ∨ 4000 < (sl t).length) := by rw [sl_length, sl_length]; exact hL
    have h4 : ¬ 4000 < s.size := by omega
    have h5 : ¬ 4000 < t.size := by omega
    have HRS := hide (fun W => read_any s W)
    have HRT := hide (fun W => read_any t W)
    by_cases hC : (checkT (sl s)).1 ≠ 0
    · have hE := compileE_from hLl hC
      rw [compileT_no (by rw [hE]; exact hC), hE]
      have hC' : ((checkT (sl s)).1 != 0) = true := by rw [bne_iff_ne]; exact hC
      clear hE hC hLl hL
      generalize checkT (sl s) = c at *
      generalize readT (sl s) = T at *
      go_enter Tryz.func113, Tryz.ntmps113
      go_wp2_with fail
      refine (unhide HRS _).mono ?_
      rintro e w1 ⟨rfl, hb1⟩
      have HN := hide (treeAt_new w1)
      have HB1 := hide hb1; clear hb1
      go_wp2_with (refine wpList_store_mid (by rfl) 78 (.tmp 6) (.tmp 23) (by rfl) w1.heap.size 0 (treeCells T).toArray (by rfl) (by rfl) (by exact treeAt_there (unhide HN) T) (treeSize' T) (treeOne T) ?_)
      go_ret2
      exact ⟨rfl, below_setCells ((unhide HB1).alloc (unhide HB1).size _) (unhide HB1).size (by have := (unhide HB1).size; simp; omega) _ _⟩
    · have hc0 : (checkT (sl s)).1 = 0 := Classical.not_not.1 hC
      have hTS : readT (sl s) = gather (readNodes (cut (sl s))) := by unfold readT; rw [if_pos hc0]
      have hE := compileE_to hLl hc0
      rw [hc0] at HRS
      by_cases hD : (checkT (sl t)).1 ≠ 0
      · rw [compileT_no (by rw [hE]; exact hD), hE]
        have hD' : ((checkT (sl t)).1 != 0) = true := by rw [bne_iff_ne]; exact hD
        clear hE hC hLl hL hc0 hTS hD
        generalize checkT (sl t) = d at *
        generalize (checkT (sl s)).2 = c2 at *
        generalize readT (sl s) = T at *
        generalize readT (sl t) = U at *
        go_enter Tryz.func113, Tryz.ntmps113
        go_wp2_with fail
        refine (unhide HRS _).mono ?_
        rintro e w1 ⟨rfl, hb1⟩
        have HN := hide (treeAt_new w1)
        have HB1 := hide hb1; clear hb1
        have HB2 : Hid (Below w.heap.size w ((w1.alloc (.cells Tryz.zeroCells78 78)).setCells w1.heap.size 0 (treeCells T))) := hide (below_setCells ((unhide HB1).alloc (unhide HB1).size _) (unhide HB1).size (by have := (unhide HB1).size; simp; omega) _ _)
        go_wp2_with (refine wpList_store_mid (by rfl) 78 (.tmp 6) (.tmp 23) (by rfl) w1.heap.size 0 (treeCells T).toArray (by rfl) (by rfl) (by exact treeAt_there (unhide HN) T) (treeSize' T) (treeOne T) ?_)
        generalize Value.agg (treeCells T).toArray = vT
        refine (unhide HRT _).mono ?_
        rintro e w3 ⟨rfl, hb3⟩
        have HB3 := hide ((unhide HB2).trans (hb3.mono (unhide HB2).size))
        clear hb3
        have HN3 := hide (treeAt_new w3)
        go_wp2_with (refine wpList_store_mid (by rfl) 78 (.tmp 9) (.tmp 32) (by rfl) w3.heap.size 0 (treeCells U).toArray (by rfl) (by rfl) (by exact treeAt_there (unhide HN3) U) (treeSize' U) (treeOne U) ?_)
        go_ret2
        exact ⟨rfl, below_setCells ((unhide HB3).alloc (unhide HB3).size _) (unhide HB3).size (by have := (unhide HB3).size; simp; omega) _ _⟩
      · have hd0 : (checkT (sl t)).1 = 0 := Classical.not_not.1 hD
        have hTT : readT (sl t) = gather (readNodes (cut (sl t))) := by unfold readT; rw [if_pos hd0]
        rw [hd0] at HRT hE
        have hCT : compileT (sl s) (sl t) = scriptText (makeT (readT (sl s)) (readT (sl t))) := by unfold compileT; rw [if_pos hE, hTS, hTT]
        have hO1 : TrOk (readT (sl s)) := by rw [hTS]; exact gather_ok _
        have hO2 : TrOk (readT (sl t)) := by rw [hTT]; exact gather_ok _
        rw [hCT, hE]
        have HMK := hide (fun W => make_any (readT (sl s)) (readT (sl t)) W hO1 hO2)
        have hmo := makeT_ok hO2 hO1
        have HTX := hide (fun ao cap W (h : Row W ao (makeT (readT (sl s)) (readT (sl t))).length 4 (stCells (makeT (readT (sl s)) (readT (sl t))))) => script_any (makeT (readT (sl s)) (readT (sl t))) ao cap W h hmo.1 hmo.2)
        clear hE hC hLl hL hc0 hTS hD hTT hCT hO1 hO2 hmo hd0
        generalize (checkT (sl s)).2 = c2 at *
        generalize (checkT (sl t)).2 = d2 at *
        generalize makeT (readT (sl s)) (readT (sl t)) = M at *
        generalize readT (sl s) = T at *
        generalize readT (sl t) = U at *
        go_enter Tryz.func113, Tryz.ntmps113
        go_wp2_with fail
        refine (unhide HRS _).mono ?_
        rintro e w1 ⟨rfl, hb1⟩
        have HN := hide (treeAt_new w1)
        have HB1 := hide hb1; clear hb1
        have HB2 : Hid (Below w.heap.size w ((w1.alloc (.cells Tryz.zeroCells78 78)).setCells w1.heap.size 0 (treeCells T))) := hide (below_setCells ((unhide HB1).alloc (unhide HB1).size _) (unhide HB1).size (by have := (unhide HB1).size; simp; omega) _ _)
        have HT2 : Hid (TreeAt ext0 ((w1.alloc (.cells Tryz.zeroCells78 78)).setCells w1.heap.size 0 (treeCells T)) w1.heap.size T) := hide (treeAt_stored (unhide HN) T)
        go_wp2_with (refine wpList_store_mid (by rfl) 78 (.tmp 6) (.tmp 23) (by rfl) w1.heap.size 0 (treeCells T).toArray (by rfl) (by rfl) (by exact treeAt_there (unhide HN) T) (treeSize' T) (treeOne T) ?_)
        generalize Value.agg (treeCells T).toArray = vT
        refine (unhide HRT _).mono ?_
        rintro e w3 ⟨rfl, hb3⟩
        have HB3 := hide ((unhide HB2).trans (hb3.mono (unhide HB2).size))
        have HT3 := hide ((unhide HT2).below hb3)
        clear hb3
        have HN3 := hide (treeAt_new w3)
        have hbx := below_setCells ((Below.refl w3.heap.size w3).alloc (Nat.le_refl _) (.cells Tryz.zeroCells78 78)) (g := w3.heap.size) (Nat.le_refl _) (by simp) 0 (treeCells U)
        have HB4 : Hid (Below w.heap.size w ((w3.alloc (.cells Tryz.zeroCells78 78)).setCells w3.heap.size 0 (treeCells U))) := hide ((unhide HB3).trans (hbx.mono (unhide HB3).size))
        have HR1 := hide (treeAt_range ((unhide HT3).below hbx))
        have HR2 := hide (treeAt_range (treeAt_stored (unhide HN3) U))
        clear hbx
        go_upto_region 9 with (refine wpList_store_mid (by rfl) 78 (.tmp 9) (.tmp 32) (by rfl) w3.heap.size 0 (treeCells U).toArray (by rfl) (by rfl) (by exact treeAt_there (unhide HN3) U) (treeSize' U) (treeOne U) ?_)
        generalize Value.agg (treeCells U).toArray = vU
        generalize hW4 : (w3.alloc (.cells Tryz.zeroCells78 78)).setCells w3.heap.size 0 (treeCells U) = w4 at *
        go_wp2_with (first
          | (refine wpList_load_mid (by rfl) 78 (.tmp 6) (by rfl) w1.heap.size 0 (by rfl) (treeCells T) _ (unhide HR1) Tryz.underlying78 (by rfl) (treeSize T) ?_)
          | (refine wpList_load_mid (by rfl) 78 (.tmp 9) (by rfl) w3.heap.size 0 (by rfl) (treeCells U) _ (unhide HR2) Tryz.underlying78 (by rfl) (treeSize U) ?_))
        refine (unhide HMK _).mono ?_
        rintro e w5 ⟨⟨ao, cap, rfl, hrow⟩, hb5⟩
        generalize Value.agg (treeCells T).toArray = vT2
        generalize Value.agg (treeCells U).toArray = vU2
        have HROW := hide hrow
        have HB5 := hide ((unhide HB4).trans (hb5.mono (unhide HB4).size))
        clear hrow hb5 hW4
        go_wp2_with fail
        refine (unhide HTX _ _ _ (unhide HROW)).mono ?_
        rintro e w6 ⟨rfl, hb6⟩
        have HB6 := hide ((unhide HB5).trans (hb6.mono (unhide HB5).size))
        clear hb6
        go_wp2
        go_ret2
        exact ⟨rfl, unhide HB6⟩
end Go.Proofs.YtdcjimlhaklhfabGreatDoor

namespace Go.Proofs.YtdcjimlhaklhfabGreatDoor
open Go.RowKit
/-! The steps home that are still to come, as a list. -/
structure LeftInv (left : List St) (a g : Tr) : Prop where
  ids : (left.map (·.node.id)).Nodup
  mem : ∀ s, s ∈ left ↔ (1 ≤ s.node.id ∧ s.node.id ≤ 99 ∧ homeS a g s.node.id = some s)
theorem left_ok {left : List St} {a g : Tr} (h : LeftInv left a g) (hg : TrOk g) : ∀ s ∈ left, StOk s := by
  intro s hs
  obtain ⟨h1, h2, h3⟩ := (h.mem s).1 hs
  exact (home_ok hg h1 h2 h3).1
theorem left_len {left : List St} {a g : Tr} (h : LeftInv left a g) : left.length ≤ 99 := by
  have := pigeon (left.map (·.node.id)) ((List.range' 1 99).map (fun i : Nat => (i : Int))) h.ids (fun x hx => by
    obtain ⟨s, hs, rfl⟩ := List.mem_map.1 hx
    obtain ⟨h1, h2, _⟩ := (h.mem s).1 hs
    refine List.mem_map.2 ⟨s.node.id.toNat, ?_, ?_⟩
    · rw [List.mem_range'_1]; omega
    · show ((s.node.id.toNat : Nat) : Int) = s.node.id; omega)
  simpa using this
theorem flat_ids {f : Nd → List St} (hf : ∀ n, ∀ s ∈ f n, s.node.id = n.id) (hl : ∀ n, (f n).length ≤ 1) : ∀ (l : List Nd), (l.map (·.id)).Nodup → ((l.flatMap f).map (·.node.id)).Nodup ∧ ∀ s ∈ l.flatMap f, ∃ n ∈ l, s ∈ f n := by
  intro l
  induction l with
  | nil => intro _; simp
  | cons n l ih =>
    intro h
    rw [List.map_cons, List.nodup_cons] at h
    obtain ⟨h1, h2⟩ := ih h.2
    refine ⟨?_, fun s hs => ?_⟩
    · rw [List.flatMap_cons, List.map_append, List.nodup_append]
      refine ⟨?_, h1, fun x hx y hy e => ?_⟩
      · have := hl n
        match hq : f n with
        | [] => simp
        | [s] => simp
        | s :: t :: r => rw [hq] at this; simp at this
      · obtain ⟨s, hs, rfl⟩ := List.mem_map.1 hx
        obtain ⟨t, ht, rfl⟩ := List.mem_map.1 hy
        obtain ⟨m, hm, htm⟩ := h2 t ht
        rw [hf n s hs, hf m t htm] at e
        exact h.1 (List.mem_map.2 ⟨m, hm, e.symm⟩)
    · rw [List.flatMap_cons] at hs
      rcases List.mem_append.1 hs with hs | hs
      · exact ⟨n, by simp, hs⟩
      · obtain ⟨m, hm, hsm⟩ := h2 s hs; exact ⟨m, by simp [hm], hsm⟩
theorem homeB_id (a : List Nd) (n : Nd) : ∀ s ∈ homeB a n, s.node.id = n.id := by
  intro s hs
  unfold homeB at hs
  split at hs
  · simp at hs; rw [hs]
  · split at hs
    · simp at hs
    · simp at hs; rw [hs]
theorem homeA_id (b : List Nd) (n : Nd) : ∀ s ∈ homeA b n, s.node.id = n.id := by
  intro s hs
  unfold homeA at hs
  split at hs
  · simp at hs; rw [hs]
  · simp at hs
theorem left_start {na nb : List Nd} {a g : Tr} (ra : Rep na a) (rg : Rep nb g) (ha : TrOk a) (hg : TrOk g) : LeftInv (homesR na nb) a g := by
  obtain ⟨b1, b2⟩ := flat_ids (homeB_id na) (homeB_len na) nb rg.ids
  obtain ⟨a1, a2⟩ := flat_ids (homeA_id nb) (homeA_len nb) na ra.ids
  have hmB : ∀ n, n ∈ nb → ∀ s, s ∈ homeB na n ↔ (s.kind ≠ 45 ∧ homeS a g n.id = some s) := by
    intro n hn s
    obtain ⟨i, hi⟩ := (rep_mem rg hg).1 hn
    have hid := hg.2 i n hi
    have hgn : g n.id.toNat = some n := by rw [show n.id.toNat = i by omega]; exact hi
    unfold homeB
    rw [rep_look ra ha]
    cases hq : a n.id.toNat with
    | none =>
      rw [home_new hq hgn]
      simp only [List.mem_singleton, Option.some.injEq]
      constructor
      · rintro rfl; exact ⟨by show (43 : UInt8) ≠ 45; decide, rfl⟩
      · rintro ⟨_, rfl⟩; rfl
    | some m =>
      simp only
      cases he : ndEq m n
      · rw [home_move hq hgn (fun e => by rw [ndEq_iff.2 e] at he; cases he), if_neg (by simp)]
        simp only [List.mem_singleton, Option.some.injEq]
        constructor
        · rintro rfl; exact ⟨by show (61 : UInt8) ≠ 45; decide, rfl⟩
        · rintro ⟨_, rfl⟩; rfl
      · rw [if_pos rfl, home_none.2 (by rw [hq, hgn, ndEq_iff.1 he])]
        simp
  have hmA : ∀ n, n ∈ na → ∀ s, s ∈ homeA nb n ↔ (s.kind = 45 ∧ homeS a g n.id = some s) := by
    intro n hn s
    obtain ⟨i, hi⟩ := (rep_mem ra ha).1 hn
    have hid := ha.2 i n hi
    have han : a n.id.toNat = some n := by rw [show n.id.toNat = i by omega]; exact hi
    unfold homeA
    rw [rep_look rg hg]
    cases hq : g n.id.toNat with
    | none =>
      rw [home_del han hq]
      simp only [List.mem_singleton, Option.some.injEq]
      constructor
      · rintro rfl; exact ⟨rfl, rfl⟩
      · rintro ⟨_, rfl⟩; rfl
    | some m =>
      simp only [List.not_mem_nil, false_iff]
      rintro ⟨hk, hs⟩
      rcases home_cases hs with ⟨_, h0, _⟩ | ⟨k, rfl, _⟩ | ⟨k, _, rfl, _⟩
      · rw [hq] at h0; cases h0
      · exact absurd hk (by show ¬ ((43 : UInt8) = 45); decide)
      · exact absurd hk (by show ¬ ((61 : UInt8) = 45); decide)
  refine ⟨?_, fun s => ?_⟩
  · unfold homesR
    rw [List.map_append, List.nodup_append]
    refine ⟨b1, a1, fun x hx y hy e => ?_⟩
    obtain ⟨s, hs, rfl⟩ := List.mem_map.1 hx
    obtain ⟨t, ht, rfl⟩ := List.mem_map.1 hy
    obtain ⟨n, hn, hsn⟩ := b2 s hs
    obtain ⟨m, hm, htm⟩ := a2 t ht
    have e1 := homeB_id na n s hsn
    have e2 := homeA_id nb m t htm
    obtain ⟨k1, k2⟩ := (hmB n hn s).1 hsn
    obtain ⟨k3, k4⟩ := (hmA m hm t).1 htm
    rw [show m.id = n.id by rw [← e1, ← e2, e], k2] at k4
    cases k4
    exact k1 k3
  · unfold homesR
    rw [List.mem_append]
    constructor
    · rintro (hs | hs)
      · obtain ⟨n, hn, hsn⟩ := b2 s hs
        have e1 := homeB_id na n s hsn
        have hb := rg.ok n hn
        rw [e1]
        exact ⟨hb.1, hb.2.1, ((hmB n hn s).1 hsn).2⟩
      · obtain ⟨n, hn, hsn⟩ := a2 s hs
        have e1 := homeA_id nb n s hsn
        have hb := ra.ok n hn
        rw [e1]
        exact ⟨hb.1, hb.2.1, ((hmA n hn s).1 hsn).2⟩
    · rintro ⟨h1, h2, h3⟩
      rcases home_cases h3 with ⟨e, hgn, m, hm⟩ | ⟨n, e, hgn, han⟩ | ⟨n, m, e, hgn, hm, _⟩
      · right
        have hmem : m ∈ na := (rep_mem ra ha).2 ⟨_, hm⟩
        have hid := (trOk_id ha (by omega) hm).1
        refine List.mem_flatMap.2 ⟨m, hmem, (hmA m hmem s).2 ⟨by rw [e], by rw [hid]; exact h3⟩⟩
      · left
        have hmem : n ∈ nb := (rep_mem rg hg).2 ⟨_, hgn⟩
        have hid := (trOk_id hg (by omega) hgn).1
        refine List.mem_flatMap.2 ⟨n, hmem, (hmB n hmem s).2 ⟨by rw [e]; show (43 : UInt8) ≠ 45; decide, by rw [hid]; exact h3⟩⟩
      · left
        have hmem : n ∈ nb := (rep_mem rg hg).2 ⟨_, hgn⟩
        have hid := (trOk_id hg (by omega) hgn).1
        refine List.mem_flatMap.2 ⟨n, hmem, (hmB n hmem s).2 ⟨by rw [e]; show (61 : UInt8) ≠ 45; decide, by rw [hid]; exact h3⟩⟩
theorem left_erase {left : List St} {a g : Tr} (h : LeftInv left a g) (hg : TrOk g) {k : Nat} (hk : k < left.length) (he : stepE a left[k] = 0) : LeftInv (left.eraseIdx k) (stepT a left[k]) g := by
  have hm : left[k] ∈ left := List.getElem_mem hk
  obtain ⟨h1, h2, h3⟩ := (h.mem _).1 hm
  have hd := home_done hg h1 h3 he
  have hids : ∀ i (hi : i < left.length), i ≠ k → (left[i]).node.id ≠ (left[k]).node.id := by
    intro i hi hne e
    have := (List.nodup_iff_pairwise_ne.1 h.ids)
    rw [List.pairwise_map] at this
    rcases Nat.lt_or_gt_of_ne hne with hlt | hlt
    · exact List.pairwise_iff_getElem.1 this i k hi hk hlt e
    · exact List.pairwise_iff_getElem.1 this k i hk hi hlt e.symm
  refine ⟨List.Nodup.sublist (List.Sublist.map _ (List.eraseIdx_sublist _ _)) h.ids, fun s => ?_⟩
  rw [List.mem_eraseIdx_iff_getElem]
  constructor
  · rintro ⟨i, hi, hne, rfl⟩
    obtain ⟨j1, j2, j3⟩ := (h.mem _).1 (List.getElem_mem hi)
    refine ⟨j1, j2, ?_⟩
    rw [← j3]
    refine home_congr ?_
    rw [hd, if_neg (by have := hids i hi hne; omega)]
  · rintro ⟨j1, j2, j3⟩
    have hne : s.node.id ≠ (left[k]).node.id := by
      intro e
      rw [e] at j3
      have : homeS (stepT a left[k]) g (left[k]).node.id = none := home_none.2 (by rw [hd, if_pos (by omega)])
      rw [this] at j3; cases j3
    have hs : s ∈ left := (h.mem s).2 ⟨j1, j2, by rw [← j3]; refine home_congr ?_; rw [hd, if_neg (by omega)]⟩
    obtain ⟨i, hi, e⟩ := List.mem_iff_getElem.1 hs
    refine ⟨i, hi, fun e2 => ?_, e⟩
    subst e2; rw [e] at hne; exact hne rfl
theorem left_park {left : List St} {a g : Tr} (h : LeftInv left a g) {id : Int} (h1 : 1 ≤ id) {n : Nd} (hs : homeS a g id = some ⟨61, n⟩) (he : stepE a (parkS id) = 0) (hnp : parkS id ∉ left) (h2 : id ≤ 99) (hg : TrOk g) : LeftInv left (stepT a (parkS id)) g := by
  have hd := park_done he
  have hn : g id.toNat = some n := by
    rcases home_cases hs with ⟨e, _⟩ | ⟨_, e, _⟩ | ⟨k, m, e, hk, _⟩
    · cases e
    · cases e
    · cases e; exact hk
  have hid := (trOk_id hg (by omega) hn).1
  have hne : parkN id ≠ n := by
    intro e
    apply hnp
    refine (h.mem _).2 ⟨h1, h2, ?_⟩
    show homeS a g id = some ⟨61, parkN id⟩
    rw [e]; exact hs
  have hsame : ∀ j, 1 ≤ j → homeS (stepT a (parkS id)) g j = homeS a g j := by
    intro j hj
    by_cases e : j = id
    · subst e
      rw [hs]
      exact home_move (m := parkN j) (by rw [hd, if_pos (by omega)]) hn hne
    · refine home_congr ?_
      rw [hd, if_neg (by omega)]
  refine ⟨h.ids, fun s => ?_⟩
  rw [h.mem s]
  constructor
  · rintro ⟨j1, j2, j3⟩; exact ⟨j1, j2, by rw [hsame _ j1]; exact j3⟩
  · rintro ⟨j1, j2, j3⟩; exact ⟨j1, j2, by rw [← hsame _ j1]; exact j3⟩
theorem left_end {left : List St} {g : Tr} (h : LeftInv left g g) : left = [] := by
  cases left with
  | nil => rfl
  | cons s l =>
    obtain ⟨_, _, h3⟩ := (h.mem s).1 (by simp)
    rw [home_none.2 rfl] at h3; cases h3
/-- A park is never a step home where nothing can be done. -/
theorem park_not_left {left : List St} {a g : Tr} (h : LeftInv left a g) (hst : Stuck a g) {id : Int} (he : stepE a (parkS id) = 0) : parkS id ∉ left := by
  intro hm
  obtain ⟨h1, h2, h3⟩ := (h.mem _).1 hm
  exact hst _ _ h1 h2 h3 he
end Go.Proofs.YtdcjimlhaklhfabGreatDoor

namespace Go.Proofs.YtdcjimlhaklhfabGreatDoor
open Go.RowKit
def pkIs (l : List St) (id : Int) (i : Nat) : Bool := (stAt l i).kind == 61 && (stAt l i).node.id == id
abbrev PkS (W0 : World) (b5 b7 : Nat) (id : Int) (nm : Str) (W : World) : Prop :=
  W.cell? ⟨b5, 0, none⟩ = some (.int .u8 61) ∧ W.cell? ⟨b7, 0, none⟩ = some (.int .i64 id) ∧ W.cell? ⟨b7, 1, none⟩ = some (.int .i64 0) ∧ W.cell? ⟨b7, 2, none⟩ = some (.string (bs nm)) ∧ Below W0.heap.size W0 W
theorem PkS.call {W0 : World} {b5 b7 : Nat} {id : Int} {nm : Str} {W w1 : World} (h5 : b5 < W0.heap.size) (h7 : b7 < W0.heap.size) (hb : Below W.heap.size W w1) (h : PkS W0 b5 b7 id nm W) : PkS W0 b5 b7 id nm w1 := by
  obtain ⟨q0, q1, q2, q3, q4⟩ := h
  have hz := q4.size
  exact ⟨by rw [hb.cell (p := ⟨b5, 0, none⟩) (by show b5 < _; omega)]; exact q0, by rw [hb.cell (p := ⟨b7, 0, none⟩) (by show b7 < _; omega)]; exact q1, by rw [hb.cell (p := ⟨b7, 1, none⟩) (by show b7 < _; omega)]; exact q2, by rw [hb.cell (p := ⟨b7, 2, none⟩) (by show b7 < _; omega)]; exact q3, q4.trans (hb.mono q4.size)⟩
set_option maxHeartbeats 4000000 in
set_option maxRecDepth 100000 in
theorem parks_yes (ns : List Nd) (left : List St) (id : Int) (ao bo : Option Addr) (ca cb : Nat) (w : World) (ha : Row w ao ns.length 3 (ndCells ns)) (hb : Row w bo left.length 4 (stCells left)) (hla : ns.length ≤ 4000) (hlb : left.length ≤ 8000) (hs : ∀ s ∈ left, StOk s)
    (h1 : 1 ≤ id) (h2 : id ≤ 99) (m : Nd) (hm : lookR ns id = some m) (hmn : ndEq m (parkN id) = false) (hin : ∃ j, j < left.length ∧ pkIs left id j = true) (hst : stuckR ns left = true) :
    Calls Tryz.prog 155 #[.slice ao ns.length ca, .slice bo left.length cb, .agg #[.int .u8 61, .int .i64 id, .int .i64 0, .string (bs (116 :: 126 :: digs id))]] w fun e w' => e = .returned (.bool true) ∧ Below w.heap.size w w' := by
  obtain ⟨W0, hW0⟩ : ∃ W0, (w.alloc (Obj.cells #[.int .u8 61, .int .i64 id, .int .i64 0, .string (bs (116 :: 126 :: digs id))] 157)).alloc (Obj.cells #[.int .i64 id, .int .i64 0, .string (bs (116 :: 126 :: digs id))] 144) = W0 := ⟨_, rfl⟩
  have hbw : Below w.heap.size w W0 := by rw [← hW0]; exact ((Below.refl _ _).alloc (Nat.le_refl _) _).alloc (by simp) _
  have hlt5 : w.heap.size < W0.heap.size := by rw [← hW0]; simp; omega
  have hlt7 : w.heap.size + 1 < W0.heap.size := by rw [← hW0]; simp
  have hP0 : PkS W0 w.heap.size (w.heap.size + 1) id (116 :: 126 :: digs id) W0.drew := by
    refine ⟨?_, ?_, ?_, ?_, (Below.refl _ _).drew⟩
    · show W0.cell? _ = _
      rw [← hW0, ((Below.refl _ (w.alloc _)).alloc (Nat.le_refl _) _).cell (p := ⟨w.heap.size, 0, none⟩) (by simp)]; exact news_four _ _ _ _ _ 0 _ rfl
    · show W0.cell? _ = _
      rw [← hW0]; exact news_three' _ _ _ _ _ 0 _ rfl
    · show W0.cell? _ = _
      rw [← hW0]; exact news_three' _ _ _ _ _ 1 _ rfl
    · show W0.cell? _ = _
      rw [← hW0]; exact news_three' _ _ _ _ _ 2 _ rfl
  have HP0 := hide hP0
  have HBW := hide hbw
  have hf : findN ns id < ns.length := by
    rcases Nat.lt_or_ge (findN ns id) ns.length with hh | hh
    · exact hh
    · rw [(lookR_none (by omega)).1] at hm; cases hm
  have q2 := (lookR_some hf).2
  have hgm : ns[findN ns id] = m := by have := (lookR_some hf).1; rw [hm] at this; cases this; rfl
  have HF := hide (fun W (h : Row W ao ns.length 3 (ndCells ns)) => find_any ns id ao ca W h hla)
  rw [q2] at HF
  have HST := hide (fun W (x1 : Row W ao ns.length 3 (ndCells ns)) (x2 : Row W bo left.length 4 (stCells left)) => stuck_any ns left ao bo ca cb W x1 x2 hla hlb hs)
  rw [hst] at HST
  have HD := hide (fun W => digits_digs id W (by omega) h2)
  have l1 := digs_len id
  have a1 := add_t (digs id) (by omega)
  have hne := node_eq_run m (parkN id)
  rw [hmn] at hne
  have hgd := Tryz.nodeGuard
  have hnm : ((bs (116 :: 126 :: digs id)).toList == (bs (116 :: 126 :: digs id)).toList) = true := by simp
  have HA := hide (Row.below ha hbw)
  have HB := hide (Row.below hb hbw)
  have HIN := hide hin
  unfold parkN at hne
  clear ha hb hs hm hmn hin hst hbw hP0
  generalize 116 :: 126 :: digs id = nm at *
  generalize digs id = dg at *
  go_enter Tryz.func155, Tryz.ntmps155
  go_wp2
  try rw [hW0]
  clear hW0
  generalize w.heap.size + 1 = b7 at *
  generalize hb5e : w.heap.size = b5 at *
  go_region_held3 (fun W => W.cell? ⟨b5, 0, none⟩ = some (.int .u8 61) ∧ W.cell? ⟨b7, 0, none⟩ = some (.int .i64 id) ∧ W.cell? ⟨b7, 1, none⟩ = some (.int .i64 0) ∧ W.cell? ⟨b7, 2, none⟩ = some (.string (bs nm)) ∧ Below W0.heap.size W0 W) (first | exact unhide HP0 | assumption) ((go_at_call 81; refine (unhide HD _).mono ?_; rintro e w1 ⟨rfl, hb1⟩; have hs1 := PkS.call hlt5 hlt7 hb1 (by first | assumption | exact unhide HP0)))
  obtain ⟨q0, q1, q2', q3, q4⟩ := hs1
  have HA1 := hide (Row.below (unhide HA) q4)
  have HB1 := hide (Row.below (unhide HB) q4)
  have HQ4 := hide q4
  obtain ⟨g, hao, hg, d0, d1, d2⟩ := nd_cells (unhide HA1) (Below.refl _ _) hf
  simp only [hgm] at d0 d1 d2
  rw [hao] at HF HA1 HST ⊢
  clear hb1 q4 hao hgm q2
  have hfn0 : (0 : Int) ≤ findN ns id := by omega
  have hfn1 : (findN ns id : Int) < ns.length := by omega
  generalize findN ns id = fn at *
  go_wp2_with fail
  refine (unhide HF _ (unhide HA1)).mono ?_
  rintro e w2 ⟨rfl, rfl⟩
  go_wp2
  go_quiet (fail)
  go_wp2
  go_loopw [9] (fun i wr => ∃ k nr : Nat, k ≤ left.length ∧ i = .int .i64 k ∧ wr = w2.drewN nr ∧ Hid (NoIn (pkIs left id) 0 k)) (fun i _ => left.length - (intOf i).toNat)
  case atStart => exact ⟨0, _, Nat.zero_le _, rfl, rfl, hide (fun j h1 h2 => by omega)⟩
  case round =>
    obtain ⟨k, nr, hk, rfl, rfl, HN⟩ := hrel
    by_cases hlt : k < left.length
    · obtain ⟨g2, hbo, hg2, c0, c1, _, _⟩ := st_cells (unhide HB1) hlt
      have HU : Hid (pkIs left id k = ((left[k]).kind == 61 && (left[k]).node.id == id)) := by apply hide; unfold pkIs; rw [stAt_get _ _ hlt]
      have hkk : (((left[k]).kind.toNat : Int) == 61) = ((left[k]).kind == 61) := by
        rw [Bool.eq_iff_iff, beq_iff_eq, beq_iff_eq]
        constructor
        · intro h; exact UInt8.toNat_inj.1 (by show (left[k]).kind.toNat = 61; omega)
        · intro h; rw [h]; rfl
      rw [hbo] at HST ⊢
      have hk0 : (0 : Int) ≤ k := by omega
      have hk1 : (k : Int) < left.length := by omega
      have HB2 := HB1
      rw [hbo] at HB2
      clear hbo
      generalize left[k] = st at *
      cases hq : (st.kind == 61)
      · have HN2 := hide (noIn_succ (unhide HN) (by rw [unhide HU, hq]; rfl))
        rw [hq] at hkk
        go_wp2
        go_quiet (fail)
        go_wp2
        go_roundw
        case rel => exact ⟨k + 1, _, by omega, by go_num, rfl, HN2⟩
        case measure => simp [intOf]; omega
      · rw [hq] at hkk
        cases hq2 : (st.node.id == id)
        · have HN2 := hide (noIn_succ (unhide HN) (by rw [unhide HU, hq, hq2]; rfl))
          go_wp2
          go_quiet (fail)
          go_wp2
          go_roundw
          case rel => exact ⟨k + 1, _, by omega, by go_num, rfl, HN2⟩
          case measure => simp [intOf]; omega
        · go_wp2
          go_quiet (fail)
          rename_i nq
          go_wp2_with fail
          refine (unhide HST _ (row_drewN (unhide HA1) _) (row_drewN (unhide HB2) _)).mono ?_
          rintro e w5 ⟨rfl, hb5⟩
          have HB5 := hide (((unhide HBW).trans ((unhide HQ4).mono (by omega))).trans ((below_drewN (Below.refl w2.heap.size w2) (nr + nq)).mono (by have := (unhide HQ4).size; omega)))
          have HB6 := hide ((unhide HB5).trans (hb5.mono (by have := (unhide HQ4).size; simp; omega)))
          clear hb5
          go_wp2
          go_ret
          exact ⟨rfl, by first | exact unhide HB6 | (rw [hb5e]; exact unhide HB6)⟩
    · exfalso
      obtain ⟨j, hj, hjp⟩ := unhide HIN
      have := unhide HN j (by omega) (by omega)
      rw [hjp] at this; cases this
end Go.Proofs.YtdcjimlhaklhfabGreatDoor

namespace Go.Proofs.YtdcjimlhaklhfabGreatDoor
open Go.RowKit
theorem atR_in {l : List St} {s : St} (h : s ∈ l) : ∃ k, k < l.length ∧ atR l s = (k : Int) ∧ ∃ hk : k < l.length, l[k] = s := by
  obtain ⟨i, hi, e⟩ := List.mem_iff_getElem.1 h
  unfold atR atN
  rcases scan_cases (isAt l s) 0 l.length with ⟨h1, _, h3, _⟩ | ⟨_, h2⟩
  · rw [if_pos h1]
    generalize scan (isAt l s) 0 l.length = k at *
    refine ⟨k, h1, rfl, h1, ?_⟩
    unfold isAt at h3
    rw [stAt_get _ _ h1] at h3
    exact stEq_iff.1 h3
  · have := h2 i (by omega) hi
    unfold isAt at this
    rw [stAt_get _ _ hi, stEq_iff.2 e] at this; cases this
theorem atR_out {l : List St} {s : St} (h : s ∉ l) : atR l s = -1 := by
  unfold atR atN
  rcases scan_cases (isAt l s) 0 l.length with ⟨h1, _, h3, _⟩ | ⟨h1, _⟩
  · generalize scan (isAt l s) 0 l.length = k at *
    unfold isAt at h3
    rw [stAt_get _ _ h1] at h3
    exact absurd (by rw [← stEq_iff.1 h3]; exact List.getElem_mem h1) h
  · rw [h1, if_neg (by omega)]
theorem stuck_left {left : List St} {ns : List Nd} {t g : Tr} (hr : Rep ns t) (hv : Valid t) (hg : TrOk g) (hl : LeftInv left t g) (hst : Stuck t g) : stuckR ns left = true := by
  unfold stuckR
  rw [decide_eq_true]
  rcases scan_cases (canDo ns left) 0 left.length with ⟨h1, _, h3, _⟩ | ⟨h1, _⟩
  · exfalso
    generalize scan (canDo ns left) 0 left.length = k at *
    unfold canDo at h3
    rw [stAt_get _ _ h1] at h3
    have hm : left[k] ∈ left := List.getElem_mem h1
    obtain ⟨m1, m2, m3⟩ := (hl.mem _).1 hm
    rw [doR_same hr hv (left_ok hl hg _ hm)] at h3
    exact hst _ _ m1 m2 m3 (by simpa using h3)
  · omega
theorem park_in_left {left : List St} {t g : Tr} (hg : TrOk g) (hl : LeftInv left t g) {id : Int} (h1 : 1 ≤ id) (h2 : id ≤ 99) {n : Nd} (hs : homeS t g id = some ⟨61, n⟩) : ∃ j, j < left.length ∧ pkIs left id j = true := by
  have hoi := (home_ok hg h1 h2 hs).2
  have hm : (⟨61, n⟩ : St) ∈ left := (hl.mem _).2 ⟨by rw [hoi]; exact h1, by rw [hoi]; exact h2, by rw [hoi]; exact hs⟩
  obtain ⟨j, hj, e⟩ := List.mem_iff_getElem.1 hm
  refine ⟨j, hj, ?_⟩
  unfold pkIs
  rw [stAt_get _ _ hj, e]
  simp only at hoi
  simp [hoi]
set_option maxHeartbeats 4000000 in
set_option maxRecDepth 100000 in
theorem leads_yes (na nb : List Nd) (a g : Tr) (sc : Str) (ss : List St) (ao bo : Option Addr) (ca cb : Nat) (w : World) (hra : Row w ao na.length 3 (ndCells na)) (hrb : Row w bo nb.length 3 (ndCells nb))
    (ra : Rep na a) (rg : Rep nb g) (ha : Valid a) (hg : Valid g) (hsc : readSteps (cut sc) = ss) (hsl : (cut sc).length = ss.length) (hseg : Seg g a ss g) (hlen : ss.length ≤ 198) (hscl : sc.length ≤ 4000) :
    Calls Tryz.prog 139 #[.slice ao na.length ca, .slice bo nb.length cb, .string (bs sc)] w fun e w' => e = .returned (.bool true) ∧ Below w.heap.size w w' := by
  have HST := hide (fun W => rsteps_any (bs sc) W (by rw [bs_size]; exact hscl))
  rw [sl_bs, hsc, hsl] at HST
  have hla := rep_len ra
  have hlb := rep_len rg
  have HHO := hide (fun W (x1 : Row W ao na.length 3 (ndCells na)) (x2 : Row W bo nb.length 3 (ndCells nb)) => homes_any na nb ao bo ca cb W x1 x2 (by omega) (by omega))
  have HLI := hide (left_start ra rg ha.ok hg.ok)
  have HRA := hide hra
  have HRB := hide hrb
  have HREP := hide ra
  have HVA := hide ha
  have HVG := hide hg
  have HSEG := hide hseg
  have HCAN := hide (seg_can hseg hg.ok)
  clear hra hrb ra rg ha hg hseg hsc hsl
  generalize homesR na nb = L0 at *
  go_enter Tryz.func139, Tryz.ntmps139
  go_wp2_with fail
  refine (unhide HST _).mono ?_
  rintro e w1 ⟨⟨hno, _⟩ | ⟨_, so, scp, rfl, hsrow⟩, hb1⟩
  · exact absurd hno (Nat.lt_irrefl _)
  · have HSROW := hide hsrow
    have HRA1 := hide (Row.below (unhide HRA) hb1)
    have HRB1 := hide (Row.below (unhide HRB) hb1)
    have HB1 := hide hb1
    clear hsrow hb1
    go_wp2_with fail
    refine (unhide HHO _ (unhide HRA1) (unhide HRB1)).mono ?_
    rintro e w2 ⟨⟨lo, lc, rfl, hlrow⟩, hb2⟩
    have HL2 := hide hlrow
    have HRA2 := hide (Row.below (unhide HRA1) hb2)
    have HS2 := hide (Row.below (unhide HSROW) hb2)
    have HB2 := hide ((unhide HB1).trans (hb2.mono (unhide HB1).size))
    clear hlrow hb2
    go_wp2_with fail
    go_loopw [9, 10, 11] (fun x y i wr => ∃ k : Nat, ∃ left : List St, ∃ ns : List Nd, ∃ t : Tr, ∃ lo no : Option Addr, ∃ lc nc : Nat, k ≤ ss.length ∧ i = .int .i64 k ∧ x = .slice lo left.length lc ∧ y = .slice no ns.length nc ∧ Hid (Row wr lo left.length 4 (stCells left)) ∧ Hid (Row wr no ns.length 3 (ndCells ns)) ∧ Below w2.heap.size w2 wr ∧ Hid (Rep ns t) ∧ Hid (Valid t) ∧ Hid (LeftInv left t g) ∧ Hid (Seg g t (ss.drop k) g)) (fun _ _ i _ => ss.length - (intOf i).toNat)
    case atStart => exact ⟨0, L0, na, a, lo, ao, lc, ca, Nat.zero_le _, rfl, rfl, rfl, HL2, HRA2, Below.refl _ _, HREP, HVA, HLI, HSEG⟩
    case round =>
      obtain ⟨k, left, ns, t, lo, no, lc, nc, hk, rfl, rfl, rfl, HRL, HRN, hbel, HR, HV, HLV, HS⟩ := hrel
      have hsz := hbel.size
      have hnl := rep_len (unhide HR)
      have hll := left_len (unhide HLV)
      have HLOK := hide (left_ok (unhide HLV) (unhide HVG).ok)
      by_cases hlt : k < ss.length
      · obtain ⟨gb, hso, hgb, c0, c1, c2, c3⟩ := st_cells (Row.below (unhide HS2) hbel) hlt
        have hs := unhide HS
        rw [List.drop_eq_getElem_cons hlt] at hs
        have hcan := unhide HCAN _ (List.getElem_mem hlt)
        have HAT := hide (rat_any left ss[k] lo lc wr (unhide HRL) (by omega))
        rw [hso]
        clear hso
        generalize hst : ss[k] = s at *
        clear hst
        have HDO := hide (fun W (h : Row W no ns.length 3 (ndCells ns)) => rdo_any ns s no nc W h (by omega) hcan.1)
        rw [doR_same (unhide HR) (unhide HV) hcan.1] at HDO
        have hcells : ∀ W, Below wr.heap.size wr W → W.cell? ⟨gb, k * 4, none⟩ = some (.int .u8 s.kind.toNat) ∧ W.cell? ⟨gb, k * 4 + 1, none⟩ = some (.int .i64 s.node.id) ∧ W.cell? ⟨gb, k * 4 + 2, none⟩ = some (.int .i64 s.node.parent) ∧ W.cell? ⟨gb, k * 4 + 3, none⟩ = some (.string (bs s.node.name)) := fun W hW =>
          ⟨by rw [hW.cell (p := ⟨gb, _, none⟩) hgb]; exact c0, by rw [hW.cell (p := ⟨gb, _, none⟩) hgb]; exact c1, by rw [hW.cell (p := ⟨gb, _, none⟩) hgb]; exact c2, by rw [hW.cell (p := ⟨gb, _, none⟩) hgb]; exact c3⟩
        have HCELL := hide hcells
        clear hcells
        cases hs with
        | @home _ _ i _ _ h1 h2 hh he kk =>
          rw [he] at HDO
          have hoi := (home_ok (unhide HVG).ok h1 h2 hh).2
          have hmem : s ∈ left := ((unhide HLV).mem s).2 ⟨by rw [hoi]; exact h1, by rw [hoi]; exact h2, by rw [hoi]; exact hh⟩
          obtain ⟨j, hj, hat, hj', hjs⟩ := atR_in hmem
          rw [hat] at HAT
          have HWO := hide (without_any left j lo lc)
          have hLI2 := left_erase (unhide HLV) (unhide HVG).ok hj (by rw [hjs]; exact he)
          rw [hjs] at hLI2
          have HLI2 := hide hLI2
          have HR2 := hide (rep_step (unhide HR) (unhide HV) hcan.1 he)
          have HV2 := hide (valid_step (unhide HV) hcan.1)
          have HS3 := hide kk
          have hj0 : (0 : Int) ≤ j := by omega
          clear hh hmem hat hjs he hcan hLI2 kk hoi
          generalize lastR ns s = ns2 at *
          generalize stepT t s = t2 at *
          generalize left.eraseIdx j = left2 at *
          go_wp2_with fail
          refine (unhide HAT).mono ?_
          rintro e w3 ⟨rfl, hb3⟩
          have HRL3 := hide (Row.below (unhide HRL) hb3)
          have HRN3 := hide (Row.below (unhide HRN) hb3)
          have hb3' := hb3
          go_wp2_with fail
          refine (unhide HWO w3 (unhide HRL3) (by omega)).mono ?_
          rintro e w4 ⟨⟨lo2, lc2, rfl, hl2⟩, hb4⟩
          have hb34 := hb3.trans (hb4.mono hb3.size)
          obtain ⟨d0, d1, d2, d3⟩ := unhide HCELL w4 hb34
          have HRN4 := hide (Row.below (unhide HRN3) hb4)
          have HRL4 := hide hl2
          have hb5 := hbel.trans (hb34.mono hsz)
          clear hl2 hb3 hb4 hb34 hb3' c0 c1 c2 c3 hbel
          go_wp2_with fail
          refine (unhide HDO _ (unhide HRN4)).mono ?_
          rintro e w5 ⟨⟨hne, _⟩ | ⟨_, no2, nc2, rfl, hr2⟩, hb6⟩
          · exact absurd rfl hne
          · have HRN5 := hide hr2
            have HRL5 := hide (Row.below (unhide HRL4) hb6)
            have hb7 := hb5.trans (hb6.mono hb5.size)
            clear hr2 hb6 hb5 d0 d1 d2 d3
            go_wp2
            go_roundw
            case rel => exact ⟨k + 1, left2, ns2, t2, lo2, no2, lc2, nc2, by omega, by go_num, rfl, rfl, HRL5, HRN5, hb7, HR2, HV2, HLI2, HS3⟩
            case measure => simp [intOf]; omega
        | @park _ _ id n _ h1 h2 hno hh hp he kk =>
          rw [he] at HDO
          have hnot := park_not_left (unhide HLV) hno he
          have hat := atR_out hnot
          rw [hat] at HAT
          obtain ⟨m, hm⟩ : ∃ m, t id.toNat = some m := by
            rcases home_cases hh with ⟨e, _⟩ | ⟨_, e, _⟩ | ⟨_, m, _, _, hm, _⟩
            · cases e
            · cases e
            · exact ⟨m, hm⟩
          have hlook : lookR ns id = some m := by rw [rep_look (unhide HR) (unhide HV).ok]; exact hm
          have hmn : ndEq m (parkN id) = false := by
            cases hq : ndEq m (parkN id)
            · rfl
            · exact absurd (by rw [hm, ndEq_iff.1 hq]) hp
          have HPK := hide (fun W (x1 : Row W no ns.length 3 (ndCells ns)) (x2 : Row W lo left.length 4 (stCells left)) => parks_yes ns left id no lo nc lc W x1 x2 (by omega) (by omega) (unhide HLOK) h1 h2 m hlook hmn (park_in_left (unhide HVG).ok (unhide HLV) h1 h2 hh) (stuck_left (unhide HR) (unhide HV) (unhide HVG).ok (unhide HLV) hno))
          have HLI2 := hide (left_park (unhide HLV) h1 hh he hnot h2 (unhide HVG).ok)
          have HR2 := hide (rep_step (unhide HR) (unhide HV) hcan.1 he)
          have HV2 := hide (valid_step (unhide HV) hcan.1)
          have HS3 := hide kk
          clear hh hnot hat he hcan kk hm hlook hmn hp hno
          have ek : (parkS id).kind.toNat = 61 := rfl
          have ei : (parkS id).node.id = id := rfl
          have ep : (parkS id).node.parent = 0 := rfl
          have en : (parkS id).node.name = 116 :: 126 :: digs id := rfl
          generalize lastR ns (parkS id) = ns2 at *
          generalize stepT t (parkS id) = t2 at *
          rw [ek, ei, ep, en] at HAT HDO
          rw [ek] at c0
          rw [ei] at c1
          rw [ep] at c2
          rw [en] at c3
          simp only [ek, ei, ep, en] at HCELL
          go_wp2_with fail
          refine (unhide HAT).mono ?_
          rintro e w3 ⟨rfl, hb3⟩
          have HRL3 := hide (Row.below (unhide HRL) hb3)
          have HRN3 := hide (Row.below (unhide HRN) hb3)
          obtain ⟨d0, d1, d2, d3⟩ := unhide HCELL w3 hb3
          go_wp2_with fail
          refine (unhide HPK w3 (unhide HRN3) (unhide HRL3)).mono ?_
          rintro e w4 ⟨rfl, hb4⟩
          have hb34 := hb3.trans (hb4.mono hb3.size)
          obtain ⟨f0, f1, f2, f3⟩ := unhide HCELL w4 hb34
          have HRN4 := hide (Row.below (unhide HRN3) hb4)
          have HRL4 := hide (Row.below (unhide HRL3) hb4)
          have hb5 := hbel.trans (hb34.mono hsz)
          clear hb3 hb4 hb34 c0 c1 c2 c3 hbel d0 d1 d2 d3
          go_wp2_with fail
          refine (unhide HDO _ (unhide HRN4)).mono ?_
          rintro e w5 ⟨⟨hne, _⟩ | ⟨_, no2, nc2, rfl, hr2⟩, hb6⟩
          · exact absurd rfl hne
          · have HRN5 := hide hr2
            have HRL5 := hide (Row.below (unhide HRL4) hb6)
            have hb7 := hb5.trans (hb6.mono hb5.size)
            clear hr2 hb6 hb5 f0 f1 f2 f3
            go_wp2
            go_roundw
            case rel => exact ⟨k + 1, left, ns2, t2, lo, no2, lc, nc2, by omega, by go_num, rfl, rfl, HRL5, HRN5, hb7, HR2, HV2, HLI2, HS3⟩
            case measure => simp [intOf]; omega
      · have ht : t = g := by
          have hs := unhide HS
          rw [List.drop_eq_nil_of_le (by omega)] at hs
          cases hs; rfl
        subst ht
        have hl0 := left_end (unhide HLV)
        subst hl0
        have HB9 := hide ((unhide HB2).trans (hbel.mono (unhide HB2).size))
        go_wp2
        go_ret
        exact ⟨rfl, unhide HB9⟩
end Go.Proofs.YtdcjimlhaklhfabGreatDoor

namespace Go.Proofs.YtdcjimlhaklhfabGreatDoor
open Go.RowKit
theorem refusal_compile (f t : Str) : refusalT f t = compileE f t := rfl
set_option maxHeartbeats 4000000 in
set_option maxRecDepth 100000 in
theorem rcompiled_any (s t : ByteArray) (w : World) :
    Calls Tryz.prog 114 #[.string s, .string t, .string (bs (compileT (sl s) (sl t))), .int .i64 (compileE (sl s) (sl t))] w fun e w' => e = .returned (.bool true) ∧ Below w.heap.size w w' := by
  have HRF := hide (fun W => refusal_any s t W)
  rw [refusal_compile] at HRF
  by_cases hE : compileE (sl s) (sl t) = 0
  · obtain ⟨h1, h2, h3, h4⟩ := compileE_parts hE
    have ha := valid_of_check h1
    have hg := valid_of_check h2
    have hCT : compileT (sl s) (sl t) = scriptText (makeT (gather (readNodes (cut (sl s)))) (gather (readNodes (cut (sl t))))) := by unfold compileT; rw [if_pos hE]
    have hseg := makeT_seg ha hg
    have hml := make_len ha hg
    have htl := make_text_len ha hg
    obtain ⟨e1, e2⟩ := readSteps_script (seg_can hseg hg.ok)
    rw [sl_length] at h3 h4
    have HN1 := hide (fun W => nodes_any s W h3)
    have HN2 := hide (fun W => nodes_any t W h4)
    have hf1 := (check_parts h1).2.2.1
    have hf2 := (check_parts h2).2.2.1
    have HAP := hide (fun W => rapply_any s (bs (compileT (sl s) (sl t))) W)
    rw [sl_bs, apply_compile hE] at HAP
    simp only [bs_sl] at HAP
    have HLE := hide (fun ao bo ca cb W x1 x2 => leads_yes (readNodes (cut (sl s))) (readNodes (cut (sl t))) _ _ _ _ ao bo ca cb W x1 x2 (rep_read h1) (rep_read h2) ha hg e1 e2 hseg hml htl)
    rw [← hCT] at HLE
    rw [hE] at HRF ⊢
    clear hseg ha hg hCT h1 h2 hE e1 e2 htl hml
    have htt : (t.toList == t.toList) = true := by simp
    generalize readNodes (cut (sl s)) = na at *
    generalize readNodes (cut (sl t)) = nb at *
    generalize compileT (sl s) (sl t) = sc at *
    go_enter Tryz.func114, Tryz.ntmps114
    go_wp2_with fail
    refine (unhide HRF _).mono ?_
    rintro e w1 ⟨rfl, hb1⟩
    have HB1 := hide hb1
    clear hb1
    go_wp2_with fail
    refine (unhide HN1 _).mono ?_
    rintro e w2 ⟨⟨hno, _⟩ | ⟨_, ao, ca, rfl, hr1, _⟩, hb2⟩
    · exact absurd hno hf1
    · have HR1 := hide hr1
      have HB2 := hide ((unhide HB1).trans (hb2.mono (unhide HB1).size))
      clear hr1 hb2
      go_wp2_with fail
      refine (unhide HN2 _).mono ?_
      rintro e w3 ⟨⟨hno, _⟩ | ⟨_, bo, cb, rfl, hr2, _⟩, hb3⟩
      · exact absurd hno hf2
      · have HR2 := hide hr2
        have HR1' := hide (Row.below (unhide HR1) hb3)
        have HB3 := hide ((unhide HB2).trans (hb3.mono (unhide HB2).size))
        clear hr2 hb3
        go_wp2_with fail
        refine (unhide HLE _ _ _ _ _ (unhide HR1') (unhide HR2)).mono ?_
        rintro e w4 ⟨rfl, hb4⟩
        have HB4 := hide ((unhide HB3).trans (hb4.mono (unhide HB3).size))
        clear hb4
        go_wp2_with fail
        refine (unhide HAP _).mono ?_
        rintro e w5 ⟨rfl, hb5⟩
        have HB5 := hide ((unhide HB4).trans (hb5.mono (unhide HB4).size))
        clear hb5
        go_wp2
        go_ret
        exact ⟨rfl, unhide HB5⟩
  · rw [compileT_no hE]
    have hE2 : (compileE (sl s) (sl t) != 0) = true := by simpa using hE
    have hE3 : (compileE (sl s) (sl t) == compileE (sl s) (sl t)) = true := by simp
    have e4 : (bs ([] : Str)).toList = [] := by rw [tl_sl, sl_bs]
    generalize compileE (sl s) (sl t) = E at *
    go_enter Tryz.func114, Tryz.ntmps114
    go_wp2_with fail
    refine (unhide HRF _).mono ?_
    rintro e w1 ⟨rfl, hb1⟩
    have HB1 := hide hb1
    clear hb1
    go_wp2
    go_ret
    exact ⟨ret_bool (by simp), unhide HB1⟩
end Go.Proofs.YtdcjimlhaklhfabGreatDoor

namespace Go.Proofs.YtdcjimlhaklhfabGreatDoor
open Go.RowKit
set_option maxHeartbeats 1000000 in
theorem plain_check (x y : Int) (s t : ByteArray) (w : World) :
    Calls Tryz.prog 42 #[.agg #[.int .i64 1, .int .i64 x, .int .i64 y, .string s, .string t]] w fun e w' => e = .returned (.bool true) ∧ Below w.heap.size w w' := by
  have HC := hide (fun W => check_any s W)
  have HR := hide (fun W => rcheck_any s W)
  rw [check_same] at HR
  generalize checkT (sl s) = c at *
  go_enter Tryz.func42, Tryz.ntmps42
  go_wp2_with fail
  refine (unhide HC _).mono ?_
  rintro e w1 ⟨rfl, hb1⟩
  obtain ⟨hc1, hf1⟩ := bcell hb1
  have hz1 := lt_kept hb1
  have HB1 : Hid (Below w.heap.size w w1) := hide (((Below.refl _ _).alloc (Nat.le_refl _) _).trans (hb1.mono (by simp)))
  clear hb1
  go_wp2_with fail
  refine (unhide HR _).mono ?_
  rintro e w2 ⟨rfl, hb2⟩
  have HB2 : Hid (Below w.heap.size w w2) := hide ((unhide HB1).trans (hb2.mono (unhide HB1).size))
  clear hb2 hc1 hf1 hz1
  go_wp2_with go_in
  go_ret
  exact ⟨ret_bool (by simp), unhide HB2⟩
set_option maxHeartbeats 1000000 in
theorem step_check (v : Value) (x y : Int) (s t : ByteArray) (w : World) :
    Calls Tryz.prog 24 #[v, .agg #[.int .i64 1, .int .i64 x, .int .i64 y, .string s, .string t]] w fun e w' => e = .returned (.bool true) ∧ Below w.heap.size w w' := by
  have HP := hide (fun W => plain_check x y s t W)
  go_enter Tryz.func24, Tryz.ntmps24
  go_wp2_with fail
  refine (unhide HP _).mono ?_
  rintro e w1 ⟨rfl, hb1⟩
  go_wp2
  go_ret
  exact ⟨rfl, ((Below.refl _ _).alloc (Nat.le_refl _) _).trans (hb1.mono (by simp))⟩
set_option maxHeartbeats 1000000 in
theorem plain_apply (x y : Int) (s t : ByteArray) (w : World) :
    Calls Tryz.prog 42 #[.agg #[.int .i64 2, .int .i64 x, .int .i64 y, .string s, .string t]] w fun e w' => e = .returned (.bool true) ∧ Below w.heap.size w w' := by
  have HC := hide (fun W => apply_any s t W)
  have HR := hide (fun W => rapply_any s t W)
  generalize applyT (sl s) (sl t) = c at *
  obtain ⟨c0, c1, c2⟩ := c
  simp only at HC HR
  have hbb : ((bs c0).toList == (bs c0).toList) = true := by simp
  go_enter Tryz.func42, Tryz.ntmps42
  go_wp2_with fail
  refine (unhide HC _).mono ?_
  rintro e w1 ⟨rfl, hb1⟩
  obtain ⟨hc1, hf1⟩ := bcell hb1
  have hz1 := lt_kept hb1
  have HB1 : Hid (Below w.heap.size w w1) := hide (((Below.refl _ _).alloc (Nat.le_refl _) _).trans (hb1.mono (by simp)))
  clear hb1
  go_wp2_with fail
  refine (unhide HR _).mono ?_
  rintro e w2 ⟨rfl, hb2⟩
  have HB2 : Hid (Below w.heap.size w w2) := hide ((unhide HB1).trans (hb2.mono (unhide HB1).size))
  clear hb2 hc1 hf1 hz1
  go_wp2_with go_in
  go_ret
  exact ⟨ret_bool (by simp), unhide HB2⟩
set_option maxHeartbeats 1000000 in
theorem step_apply (v : Value) (x y : Int) (s t : ByteArray) (w : World) :
    Calls Tryz.prog 24 #[v, .agg #[.int .i64 2, .int .i64 x, .int .i64 y, .string s, .string t]] w fun e w' => e = .returned (.bool true) ∧ Below w.heap.size w w' := by
  have HP := hide (fun W => plain_apply x y s t W)
  go_enter Tryz.func24, Tryz.ntmps24
  go_wp2_with fail
  refine (unhide HP _).mono ?_
  rintro e w1 ⟨rfl, hb1⟩
  go_wp2
  go_ret
  exact ⟨rfl, ((Below.refl _ _).alloc (Nat.le_refl _) _).trans (hb1.mono (by simp))⟩
set_option maxHeartbeats 1000000 in
theorem compiled_any (s t : ByteArray) (w : World) :
    Calls Tryz.prog 79 #[.string s, .string t] w fun e w' => e = .returned (.tuple #[.string (bs (compileT (sl s) (sl t))), .bool true]) ∧ Below w.heap.size w w' := by
  have HC := hide (fun W => compile_any s t W)
  have HR := hide (fun W => rcompiled_any s t W)
  generalize compileT (sl s) (sl t) = sc at *
  generalize compileE (sl s) (sl t) = E at *
  go_enter Tryz.func79, Tryz.ntmps79
  go_wp2_with fail
  refine (unhide HC _).mono ?_
  rintro e w1 ⟨rfl, hb1⟩
  have HB1 := hide hb1
  clear hb1
  go_wp2_with (first | (go_at_call 114; refine (unhide HR _).mono ?_; rintro e w2 ⟨rfl, hb2⟩) | go_in)
  have HB2 := hide ((unhide HB1).trans (hb2.mono (unhide HB1).size))
  clear hb2
  go_ret2
  exact ⟨rfl, unhide HB2⟩
set_option maxHeartbeats 1000000 in
theorem plain_compile (x y : Int) (s t : ByteArray) (w : World) :
    Calls Tryz.prog 42 #[.agg #[.int .i64 3, .int .i64 x, .int .i64 y, .string s, .string t]] w fun e w' => e = .returned (.bool true) ∧ Below w.heap.size w w' := by
  have HC := hide (fun W => compiled_any s t W)
  generalize compileT (sl s) (sl t) = sc at *
  go_enter Tryz.func42, Tryz.ntmps42
  go_wp2_with fail
  refine (unhide HC _).mono ?_
  rintro e w1 ⟨rfl, hb1⟩
  have HB1 : Hid (Below w.heap.size w w1) := hide (((Below.refl _ _).alloc (Nat.le_refl _) _).trans (hb1.mono (by simp)))
  clear hb1
  go_wp2
  go_ret
  exact ⟨rfl, unhide HB1⟩
set_option maxHeartbeats 1000000 in
theorem step_compile (v : Value) (x y : Int) (s t : ByteArray) (w : World) :
    Calls Tryz.prog 24 #[v, .agg #[.int .i64 3, .int .i64 x, .int .i64 y, .string s, .string t]] w fun e w' => e = .returned (.bool true) ∧ Below w.heap.size w w' := by
  have HP := hide (fun W => plain_compile x y s t W)
  go_enter Tryz.func24, Tryz.ntmps24
  go_wp2_with fail
  refine (unhide HP _).mono ?_
  rintro e w1 ⟨rfl, hb1⟩
  go_wp2
  go_ret
  exact ⟨rfl, ((Below.refl _ _).alloc (Nat.le_refl _) _).trans (hb1.mono (by simp))⟩
end Go.Proofs.YtdcjimlhaklhfabGreatDoor
