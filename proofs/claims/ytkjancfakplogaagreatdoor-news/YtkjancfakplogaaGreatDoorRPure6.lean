import Derived.Test.YtkjancfakplogaaGreatDoorRPure5
namespace Go.Proofs.YtkjancfakplogaaGreatDoor
open Go.RowKit
theorem findR_bd' (ns : List Nd) (id : Int) : decide (0 ≤ findR ns id) = (lookR ns id).isSome := by
  unfold findR lookR
  split
  · rw [decide_eq_true (by omega)]; rfl
  · rw [decide_eq_false (by omega)]; rfl
/-- A list of nodes that holds a tree. -/
structure Rep (ns : List Nd) (t : Tr) : Prop where
  uniq : Unique ns
  ids : (ns.map (·.id)).Nodup
  ok : ∀ n ∈ ns, NdOk n
  look : ∀ i : Nat, lookR ns (i : Int) = t i
theorem rep_len {ns : List Nd} {t : Tr} (h : Rep ns t) : ns.length ≤ 99 := by
  have := pigeon (ns.map (·.id)) ((List.range' 1 99).map (fun i : Nat => (i : Int))) h.ids (fun x hx => by
    obtain ⟨n, hn, rfl⟩ := List.mem_map.1 hx
    have hb := h.ok n hn
    refine List.mem_map.2 ⟨n.id.toNat, ?_, ?_⟩
    · rw [List.mem_range'_1]; have := hb.1; have := hb.2.1; omega
    · have := hb.1; show ((n.id.toNat : Nat) : Int) = n.id; omega)
  simpa using this
theorem rep_look {ns : List Nd} {t : Tr} (h : Rep ns t) (ht : TrOk t) (x : Int) : lookR ns x = t x.toNat := by
  by_cases hx : 0 ≤ x
  · have := h.look x.toNat
    rwa [Int.toNat_of_nonneg hx] at this
  · rw [show x.toNat = 0 by omega, ht.1]
    cases hl : lookR ns x with
    | none => rfl
    | some n =>
      obtain ⟨h1, h2⟩ := lookR_mem hl
      have := (h.ok n h1).1
      omega
theorem rep_mem {ns : List Nd} {t : Tr} (h : Rep ns t) (ht : TrOk t) {n : Nd} : n ∈ ns ↔ ∃ i, t i = some n := by
  constructor
  · intro hn
    refine ⟨n.id.toNat, ?_⟩
    rw [← rep_look h ht]; exact lookR_of h.uniq hn
  · rintro ⟨i, hi⟩
    rw [← h.look i] at hi
    exact (lookR_mem hi).1
theorem findR_has {ns : List Nd} {t : Tr} (h : Rep ns t) (ht : TrOk t) (id : Int) : decide (0 ≤ findR ns id) = hasT t id := by
  unfold hasT
  rw [← rep_look h ht, (findR_bd' ns id)]
theorem folder_same {ns : List Nd} {t : Tr} (h : Rep ns t) (ht : TrOk t) (p : Int) : folderR ns p = isParentT t p := by
  unfold folderR isParentT hasT
  rw [rep_look h ht]
theorem meets_same {ns : List Nd} {t : Tr} (h : Rep ns t) (ht : TrOk t) (p id : Int) : (p == id || belowR ns p id) = meetsT t p id := by
  have hfun : (fun x : Int => t x.toNat) = lookR ns := funext fun x => (rep_look h ht x).symm
  unfold meetsT belowR
  rw [meets_below, hfun, below_same (ns := ns) (look := lookR ns) (fun x n h => lookR_mem h) (rep_len h) (show ns.length ≤ ns.length + 1 by omega) p]
  congr 1
theorem kids_same {ns : List Nd} {t : Tr} (h : Rep ns t) (ht : TrOk t) (id : Int) : kidsR ns id = kidsT t id := by
  unfold kidsR kidsT
  rcases scan_cases (kidAt ns id) 0 ns.length with ⟨a1, _, a3, _⟩ | ⟨a1, a2⟩
  · rw [decide_eq_true a1]
    generalize scan (kidAt ns id) 0 ns.length = k at *
    obtain ⟨i, hi⟩ := (rep_mem h ht).1 (ndAt_mem a1)
    have hb := ht.2 i _ hi
    rcases scan_cases (kidIs t id) 1 100 with ⟨b1, _⟩ | ⟨_, b2⟩
    · rw [decide_eq_true b1]
    · have := b2 i hb.2.1 (by omega)
      unfold kidIs at this; rw [hi] at this
      unfold kidAt at a3
      have a3' : (ndAt ns k).parent == id := a3
      simp only at this
      rw [this] at a3'; cases a3'
  · rw [decide_eq_false (by omega)]
    rcases scan_cases (kidIs t id) 1 100 with ⟨b1, _, b3, _⟩ | ⟨b1, _⟩
    · generalize scan (kidIs t id) 1 100 = i at *
      unfold kidIs at b3
      cases hi : t i with
      | none => rw [hi] at b3; simp at b3
      | some n =>
        rw [hi] at b3
        have hm : n ∈ ns := (rep_mem h ht).2 ⟨i, hi⟩
        obtain ⟨j, hj, rfl⟩ := mem_ndAt hm
        have := a2 j (by omega) hj
        unfold kidAt at this
        simp only at b3
        rw [this] at b3; cases b3
    · rw [decide_eq_false (by omega)]
theorem taken_same {ns : List Nd} {t : Tr} (h : Rep ns t) (hv : Valid t) (p : Int) (s : Str) : takenR ns p s = atT t p s := by
  have ht := hv.ok
  unfold takenR takenN
  rcases scan_cases (placeIs ns p s) 0 ns.length with ⟨a1, _, a3, _⟩ | ⟨a1, a2⟩
  · rw [if_pos a1]
    generalize scan (placeIs ns p s) 0 ns.length = k at *
    obtain ⟨i, hi⟩ := (rep_mem h ht).1 (ndAt_mem a1)
    have hb := ht.2 i _ hi
    unfold placeIs at a3
    rw [Bool.and_eq_true, beq_iff_eq, beq_iff_eq] at a3
    by_cases h0 : atT t p s = 0
    · exact (atT_none h0 i _ hb.2.1 hb.2.2.1 hi a3.1 a3.2).elim
    · have := atT_some hv h0 i _ hi a3.1 a3.2
      rw [← this]; exact hb.1
  · rw [if_neg (by omega)]
    unfold atT
    rcases scan_cases (spotIs t p s) 1 100 with ⟨b1, _, b3, _⟩ | ⟨b1, _⟩
    · generalize scan (spotIs t p s) 1 100 = i at *
      unfold spotIs at b3
      cases hi : t i with
      | none => rw [hi] at b3; simp at b3
      | some n =>
        rw [hi] at b3
        have hm : n ∈ ns := (rep_mem h ht).2 ⟨i, hi⟩
        obtain ⟨j, hj, rfl⟩ := mem_ndAt hm
        have := a2 j (by omega) hj
        unfold placeIs at this
        simp only at b3
        rw [this] at b3; cases b3
    · rw [if_neg (by omega)]
/-- One who goes up in a tree meets only what is there. -/
theorem goes_there {t : Tr} (hv : Valid t) {goal : Int} (hg : 1 ≤ goal) (hno : hasT t goal = false) : ∀ (f : Nat) (p : Int), isParentT t p = true → meetsF t f p goal = false := by
  intro f
  induction f with
  | zero => intro p _; rfl
  | succ f ih =>
    intro p hp
    have hne : ¬ p = goal := by
      intro e; subst e
      rcases isParent_iff.1 hp with h0 | ⟨_, hn⟩
      · omega
      · rw [hasT_iff.2 hn] at hno; cases hno
    rw [meetsF, if_neg hne]
    cases hl : t p.toNat with
    | none => rfl
    | some n => exact ih n.parent (hv.parent _ n hl)
theorem doR_same {ns : List Nd} {t : Tr} (h : Rep ns t) (hv : Valid t) {s : St} (hs : StOk s) : doR ns s = stepE t s := by
  have ht := hv.ok
  have hF := findR_has h ht s.node.id
  rcases hs with ⟨hk, h1, h2, _⟩ | ⟨hk, h1, h2⟩
  · have h45 : ¬ s.kind = 45 := by rcases hk with e | e <;> (rw [e]; decide)
    have hP : putR ns s.node = if !isParentT t s.node.parent then 4 else if meetsT t s.node.parent s.node.id then 5 else if (atT t s.node.parent s.node.name != 0 && atT t s.node.parent s.node.name != s.node.id) then 6 else 0 := by
      unfold putR; rw [folder_same h ht, meets_same h ht, taken_same h hv]
    unfold doR stepE
    rw [if_neg h45]
    rcases hk with hk | hk
    · rw [if_pos hk]
      unfold createE
      rw [← hF]
      by_cases hf : 0 ≤ findR ns s.node.id
      · rw [if_pos ⟨hk, hf⟩, if_pos (by simpa using hf)]
      · have hno : hasT t s.node.id = false := by rw [← hF]; exact decide_eq_false hf
        rw [if_neg (fun hh => hf hh.2), if_neg (fun hh => by rw [hk] at hh; exact absurd hh.1 (by decide)), if_neg (by simpa using hf), hP]
        cases hp : isParentT t s.node.parent
        · rfl
        · rw [show meetsT t s.node.parent s.node.id = false from goes_there hv h1 hno 100 _ hp]
          have hat : (atT t s.node.parent s.node.name != 0 && atT t s.node.parent s.node.name != s.node.id) = (atT t s.node.parent s.node.name != 0) := by
            cases h6 : (atT t s.node.parent s.node.name != 0)
            · rfl
            · rw [Bool.true_and, bne_iff_ne]
              intro e
              rw [← taken_same h hv] at e h6
              have htk : takenN ns s.node.parent s.node.name < ns.length := by
                unfold takenR at h6
                rcases Nat.lt_or_ge (takenN ns s.node.parent s.node.name) ns.length with hh | hh
                · exact hh
                · rw [if_neg (by omega)] at h6; simp at h6
              unfold takenR at e
              rw [if_pos htk] at e
              obtain ⟨i, hi⟩ := (rep_mem h ht).1 (ndAt_mem htk)
              have hb := ht.2 i _ hi
              have : hasT t s.node.id = true := hasT_iff.2 ⟨_, by rw [← e, hb.1]; exact hi⟩
              rw [hno] at this; cases this
          rw [hat]; rfl
    · have h43 : ¬ s.kind = 43 := by rw [hk]; decide
      rw [if_neg (c := s.kind = 43) h43, if_pos (c := s.kind = 61) hk, if_neg (c := s.kind = 43 ∧ 0 ≤ findR ns s.node.id) (fun hh => h43 hh.1)]
      unfold moveE
      rw [← hF]
      by_cases hf : 0 ≤ findR ns s.node.id
      · rw [decide_eq_true hf, if_neg (c := s.kind = 61 ∧ findR ns s.node.id < 0) (by omega), hP]; rfl
      · rw [decide_eq_false hf, if_pos (c := s.kind = 61 ∧ findR ns s.node.id < 0) ⟨hk, by omega⟩]; rfl
  · have h43 : ¬ s.kind = 43 := by rw [hk]; decide
    have h61 : ¬ s.kind = 61 := by rw [hk]; decide
    unfold doR stepE
    rw [if_pos (c := s.kind = 45) hk, if_neg (c := s.kind = 43) h43, if_neg (c := s.kind = 61) h61, if_pos (c := s.kind = 45) hk]
    unfold delR deleteE
    rw [← hF, kids_same h ht]
    by_cases hf : 0 ≤ findR ns s.node.id
    · rw [decide_eq_true hf, if_neg (c := findR ns s.node.id < 0) (by omega)]; rfl
    · rw [decide_eq_false hf, if_pos (c := findR ns s.node.id < 0) (by omega)]; rfl
theorem nodup_snoc {l : List Int} {a : Int} (h : l.Nodup) (ha : a ∉ l) : (l ++ [a]).Nodup := by
  rw [List.nodup_append]
  exact ⟨h, by simp, fun x hx y hy => by simp at hy; subst hy; exact fun e => ha (e ▸ hx)⟩
theorem ids_unique {ns : List Nd} (h : (ns.map (·.id)).Nodup) : Unique ns := by
  induction ns with
  | nil => intro n m hn; simp at hn
  | cons a ns ih =>
    rw [List.map_cons, List.nodup_cons] at h
    intro n m hn hm e
    rcases List.mem_cons.1 hn with rfl | hn'
    · rcases List.mem_cons.1 hm with rfl | hm'
      · rfl
      · exact absurd (List.mem_map.2 ⟨m, hm', e.symm⟩) h.1
    · rcases List.mem_cons.1 hm with rfl | hm'
      · exact absurd (List.mem_map.2 ⟨n, hn', e⟩) h.1
      · exact ih h.2 n m hn' hm' e
theorem look_eq {ns : List Nd} (hu : Unique ns) {x : Int} {o : Option Nd} (hs : ∀ n, o = some n → n ∈ ns ∧ n.id = x) (hn : o = none → ∀ n ∈ ns, n.id ≠ x) : lookR ns x = o := by
  cases o with
  | some n => obtain ⟨h1, h2⟩ := hs n rfl; rw [← h2]; exact lookR_of hu h1
  | none =>
    cases hl : lookR ns x with
    | none => rfl
    | some m => obtain ⟨h1, h2⟩ := lookR_mem hl; exact absurd h2 (hn rfl m h1)
theorem filter_ids {ns : List Nd} (h : (ns.map (·.id)).Nodup) (x : Nd) : ((ns.filter (otherB x)).map (·.id)).Nodup :=
  List.Nodup.sublist (List.Sublist.map _ List.filter_sublist) h
theorem mem_filter' {ns : List Nd} {x n : Nd} : n ∈ ns.filter (otherB x) ↔ n ∈ ns ∧ n.id ≠ x.id := by
  rw [List.mem_filter]; unfold otherB; rw [bne_iff_ne]
theorem rep_remove {ns : List Nd} {t : Tr} (h : Rep ns t) (ht : TrOk t) (x : Nd) : Rep (layR ns x false) (trRemove t x.id) := by
  have e : layR ns x false = ns.filter (otherB x) := by unfold layR; simp
  rw [e]
  have hu := ids_unique (filter_ids h.ids x)
  refine ⟨hu, filter_ids h.ids x, fun n hn => h.ok n (mem_filter'.1 hn).1, fun i => ?_⟩
  unfold trRemove
  by_cases hi : (i : Int) = x.id
  · rw [if_pos hi]
    exact look_eq hu (fun n hn => by cases hn) (fun _ n hn => by rw [hi]; exact (mem_filter'.1 hn).2)
  · rw [if_neg hi]
    refine look_eq hu (fun n hn => ?_) (fun hn n hm => ?_)
    · have hb := ht.2 i n hn
      exact ⟨mem_filter'.2 ⟨(rep_mem h ht).2 ⟨i, hn⟩, by rw [hb.1]; exact hi⟩, hb.1⟩
    · rw [← h.look i] at hn
      exact lookR_no hn n (mem_filter'.1 hm).1
theorem rep_put {ns : List Nd} {t : Tr} (h : Rep ns t) (ht : TrOk t) {x : Nd} (hx : NdOk x) : Rep (layR ns x true) (trPut t x) := by
  have e : layR ns x true = ns.filter (otherB x) ++ [x] := by unfold layR; simp
  rw [e]
  have hids : ((ns.filter (otherB x) ++ [x]).map (·.id)).Nodup := by
    rw [List.map_append]
    refine nodup_snoc (filter_ids h.ids x) (fun hm => ?_)
    obtain ⟨n, hn, e⟩ := List.mem_map.1 hm
    exact (mem_filter'.1 hn).2 e
  have hu := ids_unique hids
  have hmem : ∀ n, n ∈ ns.filter (otherB x) ++ [x] ↔ (n ∈ ns ∧ n.id ≠ x.id) ∨ n = x := by
    intro n; rw [List.mem_append, mem_filter', List.mem_singleton]
  refine ⟨hu, hids, fun n hn => ?_, fun i => ?_⟩
  · rcases (hmem n).1 hn with ⟨h1, _⟩ | rfl
    · exact h.ok n h1
    · exact hx
  · unfold trPut
    by_cases hi : (i : Int) = x.id
    · rw [if_pos hi]
      exact look_eq hu (fun n hn => by cases hn; exact ⟨(hmem x).2 (.inr rfl), hi.symm⟩) (fun hn => by cases hn)
    · rw [if_neg hi]
      refine look_eq hu (fun n hn => ?_) (fun hn n hm => ?_)
      · have hb := ht.2 i n hn
        exact ⟨(hmem n).2 (.inl ⟨(rep_mem h ht).2 ⟨i, hn⟩, by rw [hb.1]; exact hi⟩), hb.1⟩
      · rw [← h.look i] at hn
        rcases (hmem n).1 hm with ⟨h1, _⟩ | rfl
        · exact lookR_no hn n h1
        · exact fun e => hi e.symm
theorem rep_read {l : Str} (h : (checkT l).1 = 0) : Rep (readNodes (cut l)) (gather (readNodes (cut l))) := by
  obtain ⟨_, _, _, ho, _⟩ := check_parts h
  have hk := readNodes_bd (cut l)
  generalize readNodes (cut l) = ns at *
  refine ⟨ordered_unique ho, ?_, hk, fun i => ?_⟩
  · have hr := ordered_rises ho
    rw [List.nodup_iff_pairwise_ne, List.pairwise_map]
    exact hr.imp (fun hab => by omega)
  · have := gather_look (ordered_unique ho) (fun n hn => (hk n hn).1) (i : Int)
    rw [Int.toNat_natCast] at this; exact this.symm
end Go.Proofs.YtkjancfakplogaaGreatDoor
