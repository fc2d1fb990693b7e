import Derived.Test.YtkjancfakplogaaGreatDoorLPure2
namespace Go.Proofs.YtkjancfakplogaaGreatDoor
open Go.RowKit
/-- A list of nodes that holds the places by a log. -/
structure RepW (ns : List Nd) (t : Tr) : Prop where
  uniq : Unique ns
  ids : (ns.map (·.id)).Nodup
  ok : ∀ n ∈ ns, NdW n
  look : ∀ i : Nat, lookR ns (i : Int) = t i
theorem repW_len {ns : List Nd} {t : Tr} (h : RepW ns t) : ns.length ≤ 99 := by
  have := pigeon (ns.map (·.id)) ((List.range' 1 99).map (fun i : Nat => (i : Int))) h.ids (fun x hx => by
    obtain ⟨n, hn, rfl⟩ := List.mem_map.1 hx
    have hb := h.ok n hn
    refine List.mem_map.2 ⟨n.id.toNat, ?_, ?_⟩
    · rw [List.mem_range'_1]; have := hb.1; have := hb.2.1; omega
    · have := hb.1; show ((n.id.toNat : Nat) : Int) = n.id; omega)
  simpa using this
theorem repW_look {ns : List Nd} {t : Tr} (h : RepW ns t) (ht : TrW t) (x : Int) : lookR ns x = t x.toNat := by
  by_cases hx : 0 ≤ x
  · have := h.look x.toNat
    rwa [Int.toNat_of_nonneg hx] at this
  · rw [show x.toNat = 0 by omega, ht.1]
    cases hl : lookR ns x with
    | none => rfl
    | some n =>
      obtain ⟨h1, h2⟩ := lookR_mem hl
      have := (h.ok n h1).1
      omega
theorem repW_mem {ns : List Nd} {t : Tr} (h : RepW ns t) (ht : TrW t) {n : Nd} : n ∈ ns ↔ ∃ i, t i = some n := by
  constructor
  · intro hn
    refine ⟨n.id.toNat, ?_⟩
    rw [← repW_look h ht]; exact lookR_of h.uniq hn
  · rintro ⟨i, hi⟩
    rw [← h.look i] at hi
    exact (lookR_mem hi).1
theorem meetsW_same {ns : List Nd} {t : Tr} (h : RepW ns t) (ht : TrW t) (p id : Int) : (p == id || belowR ns p id) = meetsT t p id := by
  have hfun : (fun x : Int => t x.toNat) = lookR ns := funext fun x => (repW_look h ht x).symm
  unfold meetsT belowR
  rw [meets_below, hfun, below_same (ns := ns) (look := lookR ns) (fun x n h => lookR_mem h) (repW_len h) (show ns.length ≤ ns.length + 1 by omega) p]
  congr 1
theorem repW_put {ns : List Nd} {t : Tr} (h : RepW ns t) (ht : TrW t) {x : Nd} (hx : NdW x) : RepW (layR ns x true) (trPut t x) := by
  have e : layR ns x true = ns.filter (otherB x) ++ [x] := by unfold layR; simp
  rw [e]
  have hids : ((ns.filter (otherB x) ++ [x]).map (·.id)).Nodup := by
    rw [List.map_append]
    refine nodup_snoc (filter_ids h.ids x) (fun hm => ?_)
    obtain ⟨n, hn, e⟩ := List.mem_map.1 hm
    exact (mem_filter'.1 hn).2 e
  have hu := ids_unique hids
  have hmem : ∀ n, n ∈ ns.filter (otherB x) ++ [x] ↔ (n ∈ ns ∧ n.id ≠ x.id) ∨ n = x := by
    intro n; rw [List.mem_append, mem_filter', List.mem_singleton]
  refine ⟨hu, hids, fun n hn => ?_, fun i => ?_⟩
  · rcases (hmem n).1 hn with ⟨h1, _⟩ | rfl
    · exact h.ok n h1
    · exact hx
  · unfold trPut
    by_cases hi : (i : Int) = x.id
    · rw [if_pos hi]
      exact look_eq hu (fun n hn => by cases hn; exact ⟨(hmem x).2 (.inr rfl), hi.symm⟩) (fun hn => by cases hn)
    · rw [if_neg hi]
      refine look_eq hu (fun n hn => ?_) (fun hn n hm => ?_)
      · have hb := ht.2 i n hn
        exact ⟨(hmem n).2 (.inl ⟨(repW_mem h ht).2 ⟨i, hn⟩, by rw [hb.1]; exact hi⟩), hb.1⟩
      · rw [← h.look i] at hn
        rcases (hmem n).1 hm with ⟨h1, _⟩ | rfl
        · exact lookR_no hn n h1
        · exact fun e => hi e.symm
def placeR (ns : List Nd) (x : Lo) : List Nd := if (x.node.parent != x.node.id) && !belowR ns x.node.parent x.node.id then layR ns x.node true else ns
def placesR (L : List Lo) : List Nd := L.foldl placeR []
theorem placesR_snoc (L : List Lo) (k : Nat) (h : k < L.length) : placesR (L.take (k + 1)) = placeR (placesR (L.take k)) L[k] := by
  unfold placesR; rw [List.take_succ_eq_append_getElem h, List.foldl_append]; rfl
theorem repW_nil : RepW [] tr0 := ⟨fun n m h => by simp at h, by simp, by simp, fun i => rfl⟩
theorem repW_place {ns : List Nd} {t : Tr} (h : RepW ns t) (ht : TrW t) {x : Lo} (hx : LoOk x) : RepW (placeR ns x) (placeS t x) := by
  unfold placeR placeS
  rw [← meetsW_same h ht]
  cases h1 : (x.node.parent == x.node.id)
  · cases h2 : belowR ns x.node.parent x.node.id
    · rw [if_pos (by rw [bne, h1]; rfl), if_neg (by simp)]; exact repW_put h ht hx.2.2.2.2
    · rw [if_neg (by rw [bne, h1]; simp), if_pos (by simp)]; exact h
  · rw [if_neg (by rw [bne, h1]; simp), if_pos (by simp)]; exact h
theorem repW_aux : ∀ (L : List Lo) (ns : List Nd) (t : Tr), RepW ns t → TrW t → (∀ x ∈ L, LoOk x) → RepW (L.foldl placeR ns) (L.foldl placeS t) := by
  intro L
  induction L with
  | nil => intro ns t h _ _; exact h
  | cons x L ih => intro ns t h ht hx; exact ih _ _ (repW_place h ht (hx x (by simp))) (placeS_ok ht (hx x (by simp))) (fun y hy => hx y (by simp [hy]))
theorem repW_places {L : List Lo} (h : ∀ x ∈ L, LoOk x) : RepW (placesR L) (places L) := repW_aux L [] tr0 repW_nil trW_0 h
def seenR (ns : List Nd) : List Nd := ns.filter (fun n => belowR ns n.id 0)
def clashB (x y : Nd) : Bool := y.parent == x.parent && (y.name == x.name && decide (y.id < x.id))
def shownR (l : List Nd) (x : Nd) : Str := if l.any (clashB x) then x.name ++ 126 :: digs x.id else x.name
def viewL (l : List Nd) : List Nd := l.map fun n => ⟨n.id, n.parent, shownR l n⟩
def viewR (L : List Lo) : List Nd := viewL (seenR (placesR L))
theorem seen_mem {ns : List Nd} {t : Tr} (h : RepW ns t) (ht : TrW t) {n : Nd} : n ∈ seenR ns ↔ ∃ i, t i = some n ∧ meetsT t i 0 = true := by
  unfold seenR
  rw [List.mem_filter, repW_mem h ht]
  constructor
  · rintro ⟨⟨i, hi⟩, hb⟩
    refine ⟨i, hi, ?_⟩
    rw [← meetsW_same h ht, ← (ht.2 i n hi).1, hb]; simp
  · rintro ⟨i, hi, hm⟩
    refine ⟨⟨i, hi⟩, ?_⟩
    rw [← meetsW_same h ht, ← (ht.2 i n hi).1] at hm
    have h1 := (ht.2 i n hi)
    rwa [show (n.id == 0) = false by rw [beq_eq_false_iff_ne]; omega, Bool.false_or] at hm
theorem clash_at {ns : List Nd} {t : Tr} (h : RepW ns t) (ht : TrW t) {i : Nat} {n : Nd} (hn : t i = some n) (hm : meetsT t i 0 = true) : (seenR ns).any (clashB n) = true ↔ ¬ atT t n.parent n.name = i := by
  have hb := ht.2 i n hn
  obtain ⟨j, m, j1, j2, hat, hj, jp, jn⟩ := at_le hb.2.1 hb.2.2.1 hn
  rw [hat, List.any_eq_true]
  constructor
  · rintro ⟨y, hy, hc⟩ e
    obtain ⟨q, hq, _⟩ := (seen_mem h ht).1 hy
    unfold clashB at hc
    simp only [Bool.and_eq_true, beq_iff_eq, decide_eq_true_eq] at hc
    have hqb := ht.2 q y hq
    obtain ⟨j', _, _, j2', hat', _⟩ := at_le hqb.2.1 hqb.2.2.1 hq
    rw [hc.1, hc.2.1, hat] at hat'
    have h3 := hc.2.2
    omega
  · intro e
    have hbj := ht.2 j m hj
    refine ⟨m, (seen_mem h ht).2 ⟨j, hj, ?_⟩, ?_⟩
    · have hg := (goes_step (x := (i : Int)) (by rw [Int.toNat_natCast]; exact hn) (by omega)).1 ((goes_meetsW ht).1 hm)
      refine (goes_meetsW ht).2 ?_
      refine goes_up (n := m) (by rw [Int.toNat_natCast]; exact hj) ?_
      rw [jp]; exact hg
    · unfold clashB
      simp only [Bool.and_eq_true, beq_iff_eq, decide_eq_true_eq]
      exact ⟨jp, jn, by omega⟩
theorem shown_same {ns : List Nd} {t : Tr} (h : RepW ns t) (ht : TrW t) {i : Nat} {n : Nd} (hn : t i = some n) (hm : meetsT t i 0 = true) : (⟨n.id, n.parent, shownR (seenR ns) n⟩ : Nd) = shownNd t i := by
  have hc := clash_at h ht hn hm
  have hb := ht.2 i n hn
  unfold shownNd shownR; rw [hn]; simp only [Option.getD_some]
  by_cases e : atT t n.parent n.name = i
  · rw [if_pos e, if_neg (fun hh => (hc.1 hh) e)]
  · rw [if_neg e, if_pos (hc.2 e), hb.1]
theorem rep_view {ns : List Nd} {t : Tr} (h : RepW ns t) (ht : TrW t) : Rep (viewL (seenR ns)) (viewT t) := by
  have hv := view_valid ht
  have hids : ((viewL (seenR ns)).map (·.id)).Nodup := by
    unfold viewL
    rw [List.map_map]
    exact List.Nodup.sublist (List.Sublist.map _ List.filter_sublist) h.ids
  have hu := ids_unique hids
  have hmem : ∀ m, m ∈ viewL (seenR ns) ↔ ∃ i, viewT t i = some m := by
    intro m
    unfold viewL
    rw [List.mem_map]
    constructor
    · rintro ⟨n, hn, rfl⟩
      obtain ⟨i, hi, hm⟩ := (seen_mem h ht).1 hn
      have hb := ht.2 i n hi
      refine ⟨i, ?_⟩
      rw [shown_same h ht hi hm]
      unfold viewT
      rw [hm, decide_eq_true hb.2.1, decide_eq_true hb.2.2.1]; rfl
    · rintro ⟨i, hi⟩
      obtain ⟨h1, h2, h3, h4⟩ := view_some hi
      obtain ⟨n, hn⟩ := meets_there h1 h3
      exact ⟨n, (seen_mem h ht).2 ⟨i, hn, h3⟩, by rw [shown_same h ht hn h3, h4]⟩
  refine ⟨hu, hids, fun m hm => ?_, fun i => ?_⟩
  · obtain ⟨i, hi⟩ := (hmem m).1 hm
    have hb := hv.ok.2 i m hi
    refine ⟨by omega, by omega, hb.2.2.2.1, hb.2.2.2.2.1, hb.2.2.2.2.2⟩
  · refine look_eq hu (fun n hn => ⟨(hmem n).2 ⟨i, hn⟩, (hv.ok.2 i n hn).1⟩) (fun hn n hm e => ?_)
    obtain ⟨j, hj⟩ := (hmem n).1 hm
    have := (hv.ok.2 j n hj).1
    rw [show j = i by omega, hn] at hj; cases hj
theorem viewR_rep {L : List Lo} (h : ∀ x ∈ L, LoOk x) : Rep (viewR L) (viewT (places L)) := rep_view (repW_places h) (places_ok h)
end Go.Proofs.YtkjancfakplogaaGreatDoor
