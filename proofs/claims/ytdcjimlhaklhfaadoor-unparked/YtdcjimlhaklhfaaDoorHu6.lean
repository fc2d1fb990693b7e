import Derived.Test.YtdcjimlhaklhfaaDoorHu5
import Derived.BigQuiet
namespace Go.Proofs.YtdcjimlhaklhfaaDoor
open Go.RowKit
theorem findR_bd' (ns : List Nd) (id : Int) : decide (0 ≤ findR ns id) = (lookR ns id).isSome := by
  unfold findR lookR
  split
  · rw [decide_eq_true (by omega)]; rfl
  · rw [decide_eq_false (by omega)]; rfl
/-- A list of nodes that holds a tree. -/
structure Rep (ns : List Nd) (t : Tr) : Prop where
  uniq : Unique ns
  ids : (ns.map (·.id)).Nodup
  ok : ∀ n ∈ ns, NdOk n
  look : ∀ i : Nat, lookR ns (i : Int) = t i
theorem rep_len {ns : List Nd} {t : Tr} (h : Rep ns t) : ns.length ≤ 99 := by
  have := pigeon (ns.map (·.id)) ((List.range' 1 99).map (fun i : Nat => (i : Int))) h.ids (fun x hx => by
    obtain ⟨n, hn, rfl⟩ := List.mem_map.1 hx
    have hb := h.ok n hn
    refine List.mem_map.2 ⟨n.id.toNat, ?_, ?_⟩
    · rw [List.mem_range'_1]; have := hb.1; have := hb.2.1; omega
    · have := hb.1; show ((n.id.toNat : Nat) : Int) = n.id; omega)
  simpa using this
theorem rep_look {ns : List Nd} {t : Tr} (h : Rep ns t) (ht : TrOk t) (x : Int) : lookR ns x = t x.toNat := by
  by_cases hx : 0 ≤ x
  · have := h.look x.toNat
    rwa [Int.toNat_of_nonneg hx] at this
  · rw [show x.toNat = 0 by omega, ht.1]
    cases hl : lookR ns x with
    | none => rfl
    | some n =>
      obtain ⟨h1, h2⟩ := lookR_mem hl
      have := (h.ok n h1).1
      omega
theorem rep_mem {ns : List Nd} {t : Tr} (h : Rep ns t) (ht : TrOk t) {n : Nd} : n ∈ ns ↔ ∃ i, t i = some n := by
  constructor
  · intro hn
    refine ⟨n.id.toNat, ?_⟩
    rw [← rep_look h ht]; exact lookR_of h.uniq hn
  · rintro ⟨i, hi⟩
    rw [← h.look i] at hi
    exact (lookR_mem hi).1
theorem findR_has {ns : List Nd} {t : Tr} (h : Rep ns t) (ht : TrOk t) (id : Int) : decide (0 ≤ findR ns id) = hasT t id := by
  unfold hasT
  rw [← rep_look h ht, (findR_bd' ns id)]
theorem folder_same {ns : List Nd} {t : Tr} (h : Rep ns t) (ht : TrOk t) (p : Int) : folderR ns p = isParentT t p := by
  unfold folderR isParentT hasT
  rw [rep_look h ht]
theorem meets_same {ns : List Nd} {t : Tr} (h : Rep ns t) (ht : TrOk t) (p id : Int) : (p == id || belowR ns p id) = meetsT t p id := by
  have hfun : (fun x : Int => t x.toNat) = lookR ns := funext fun x => (rep_look h ht x).symm
  unfold meetsT belowR
  rw [meets_below, hfun, below_same (ns := ns) (look := lookR ns) (fun x n h => lookR_mem h) (rep_len h) (show ns.length ≤ ns.length + 1 by omega) p]
  congr 1
theorem kids_same {ns : List Nd} {t : Tr} (h : Rep ns t) (ht : TrOk t) (id : Int) : kidsR ns id = kidsT t id := by
  unfold kidsR kidsT
  rcases scan_cases (kidAt ns id) 0 ns.length with ⟨a1, _, a3, _⟩ | ⟨a1, a2⟩
  · rw [decide_eq_true a1]
    generalize scan (kidAt ns id) 0 ns.length = k at *
    obtain ⟨i, hi⟩ := (rep_mem h ht).1 (ndAt_mem a1)
    have hb := ht.2 i _ hi
    rcases scan_cases (kidIs t id) 1 100 with ⟨b1, _⟩ | ⟨_, b2⟩
    · rw [decide_eq_true b1]
    · have := b2 i hb.2.1 (by omega)
      unfold kidIs at this; rw [hi] at this
      unfold kidAt at a3
      have a3' : (ndAt ns k).parent == id := a3
      simp only at this
      rw [this] at a3'; cases a3'
  · rw [decide_eq_false (by omega)]
    rcases scan_cases (kidIs t id) 1 100 with ⟨b1, _, b3, _⟩ | ⟨b1, _⟩
    · generalize scan (kidIs t id) 1 100 = i at *
      unfold kidIs at b3
      cases hi : t i with
      | none => rw [hi] at b3; simp at b3
      | some n =>
        rw [hi] at b3
        have hm : n ∈ ns := (rep_mem h ht).2 ⟨i, hi⟩
        obtain ⟨j, hj, rfl⟩ := mem_ndAt hm
        have := a2 j (by omega) hj
        unfold kidAt at this
        simp only at b3
        rw [this] at b3; cases b3
    · rw [decide_eq_false (by omega)]
theorem taken_same {ns : List Nd} {t : Tr} (h : Rep ns t) (hv : Valid t) (p : Int) (s : Str) : takenR ns p s = atT t p s := by
  have ht := hv.ok
  unfold takenR takenN
  rcases scan_cases (placeIs ns p s) 0 ns.length with ⟨a1, _, a3, _⟩ | ⟨a1, a2⟩
  · rw [if_pos a1]
    generalize scan (placeIs ns p s) 0 ns.length = k at *
    obtain ⟨i, hi⟩ := (rep_mem h ht).1 (ndAt_mem a1)
    have hb := ht.2 i _ hi
    unfold placeIs at a3
    rw [Bool.and_eq_true, beq_iff_eq, beq_iff_eq] at a3
    by_cases h0 : atT t p s = 0
    · exact (atT_none h0 i _ hb.2.1 hb.2.2.1 hi a3.1 a3.2).elim
    · have := atT_some hv h0 i _ hi a3.1 a3.2
      rw [← this]; exact hb.1
  · rw [if_neg (by omega)]
    unfold atT
    rcases scan_cases (spotIs t p s) 1 100 with ⟨b1, _, b3, _⟩ | ⟨b1, _⟩
    · generalize scan (spotIs t p s) 1 100 = i at *
      unfold spotIs at b3
      cases hi : t i with
      | none => rw [hi] at b3; simp at b3
      | some n =>
        rw [hi] at b3
        have hm : n ∈ ns := (rep_mem h ht).2 ⟨i, hi⟩
        obtain ⟨j, hj, rfl⟩ := mem_ndAt hm
        have := a2 j (by omega) hj
        unfold placeIs at this
        simp only at b3
        rw [this] at b3; cases b3
    · rw [if_neg (by omega)]
/-- One who goes up in a tree meets only what is there. -/
theorem goes_there {t : Tr} (hv : Valid t) {goal : Int} (hg : 1 ≤ goal) (hno : hasT t goal = false) : ∀ (f : Nat) (p : Int), isParentT t p = true → meetsF t f p goal = false := by
  intro f
  induction f with
  | zero => intro p _; rfl
  | succ f ih =>
    intro p hp
    have hne : ¬ p = goal := by
      intro e; subst e
      rcases isParent_iff.1 hp with h0 | ⟨_, hn⟩
      · omega
      · rw [hasT_iff.2 hn] at hno; cases hno
    rw [meetsF, if_neg hne]
    cases hl : t p.toNat with
    | none => rfl
    | some n => exact ih n.parent (hv.parent _ n hl)
theorem doR_same {ns : List Nd} {t : Tr} (h : Rep ns t) (hv : Valid t) {s : St} (hs : StOk s) : doR ns s = stepE t s := by
  have ht := hv.ok
  have hF := findR_has h ht s.node.id
  rcases hs with ⟨hk, h1, h2, _⟩ | ⟨hk, h1, h2⟩
  · have h45 : ¬ s.kind = 45 := by rcases hk with e | e <;> (rw [e]; decide)
    have hP : putR ns s.node = if !isParentT t s.node.parent then 4 else if meetsT t s.node.parent s.node.id then 5 else if (atT t s.node.parent s.node.name != 0 && atT t s.node.parent s.node.name != s.node.id) then 6 else 0 := by
      unfold putR; rw [folder_same h ht, meets_same h ht, taken_same h hv]
    unfold doR stepE
    rw [if_neg h45]
    rcases hk with hk | hk
    · rw [if_pos hk]
      unfold createE
      rw [← hF]
      by_cases hf : 0 ≤ findR ns s.node.id
      · rw [if_pos ⟨hk, hf⟩, if_pos (by simpa using hf)]
      · have hno : hasT t s.node.id = false := by rw [← hF]; exact decide_eq_false hf
        rw [if_neg (fun hh => hf hh.2), if_neg (fun hh => by rw [hk] at hh; exact absurd hh.1 (by decide)), if_neg (by simpa using hf), hP]
        cases hp : isParentT t s.node.parent
        · rfl
        · rw [show meetsT t s.node.parent s.node.id = false from goes_there hv h1 hno 100 _ hp]
          have hat : (atT t s.node.parent s.node.name != 0 && atT t s.node.parent s.node.name != s.node.id) = (atT t s.node.parent s.node.name != 0) := by
            cases h6 : (atT t s.node.parent s.node.name != 0)
            · rfl
            · rw [Bool.true_and, bne_iff_ne]
              intro e
              rw [← taken_same h hv] at e h6
              have htk : takenN ns s.node.parent s.node.name < ns.length := by
                unfold takenR at h6
                rcases Nat.lt_or_ge (takenN ns s.node.parent s.node.name) ns.length with hh | hh
                · exact hh
                · rw [if_neg (by omega)] at h6; simp at h6
              unfold takenR at e
              rw [if_pos htk] at e
              obtain ⟨i, hi⟩ := (rep_mem h ht).1 (ndAt_mem htk)
              have hb := ht.2 i _ hi
              have : hasT t s.node.id = true := hasT_iff.2 ⟨_, by rw [← e, hb.1]; exact hi⟩
              rw [hno] at this; cases this
          rw [hat]; rfl
    · have h43 : ¬ s.kind = 43 := by rw [hk]; decide
      rw [if_neg (c := s.kind = 43) h43, if_pos (c := s.kind = 61) hk, if_neg (c := s.kind = 43 ∧ 0 ≤ findR ns s.node.id) (fun hh => h43 hh.1)]
      unfold moveE
      rw [← hF]
      by_cases hf : 0 ≤ findR ns s.node.id
      · rw [decide_eq_true hf, if_neg (c := s.kind = 61 ∧ findR ns s.node.id < 0) (by omega), hP]; rfl
      · rw [decide_eq_false hf, if_pos (c := s.kind = 61 ∧ findR ns s.node.id < 0) ⟨hk, by omega⟩]; rfl
  · have h43 : ¬ s.kind = 43 := by rw [hk]; decide
    have h61 : ¬ s.kind = 61 := by rw [hk]; decide
    unfold doR stepE
    rw [if_pos (c := s.kind = 45) hk, if_neg (c := s.kind = 43) h43, if_neg (c := s.kind = 61) h61, if_pos (c := s.kind = 45) hk]
    unfold delR deleteE
    rw [← hF, kids_same h ht]
    by_cases hf : 0 ≤ findR ns s.node.id
    · rw [decide_eq_true hf, if_neg (c := findR ns s.node.id < 0) (by omega)]; rfl
    · rw [decide_eq_false hf, if_pos (c := findR ns s.node.id < 0) (by omega)]; rfl
theorem nodup_snoc {l : List Int} {a : Int} (h : l.Nodup) (ha : a ∉ l) : (l ++ [a]).Nodup := by
  rw [List.nodup_append]
  exact ⟨h, by simp, fun x hx y hy => by simp at hy; subst hy; exact fun e => ha (e ▸ hx)⟩
theorem ids_unique {ns : List Nd} (h : (ns.map (·.id)).Nodup) : Unique ns := by
  induction ns with
  | nil => intro n m hn; simp at hn
  | cons a ns ih =>
    rw [List.map_cons, List.nodup_cons] at h
    intro n m hn hm e
    rcases List.mem_cons.1 hn with rfl | hn'
    · rcases List.mem_cons.1 hm with rfl | hm'
      · rfl
      · exact absurd (List.mem_map.2 ⟨m, hm', e.symm⟩) h.1
    · rcases List.mem_cons.1 hm with rfl | hm'
      · exact absurd (List.mem_map.2 ⟨n, hn', e⟩) h.1
      · exact ih h.2 n m hn' hm' e
theorem look_eq {ns : List Nd} (hu : Unique ns) {x : Int} {o : Option Nd} (hs : ∀ n, o = some n → n ∈ ns ∧ n.id = x) (hn : o = none → ∀ n ∈ ns, n.id ≠ x) : lookR ns x = o := by
  cases o with
  | some n => obtain ⟨h1, h2⟩ := hs n rfl; rw [← h2]; exact lookR_of hu h1
  | none =>
    cases hl : lookR ns x with
    | none => rfl
    | some m => obtain ⟨h1, h2⟩ := lookR_mem hl; exact absurd h2 (hn rfl m h1)
theorem filter_ids {ns : List Nd} (h : (ns.map (·.id)).Nodup) (x : Nd) : ((ns.filter (otherB x)).map (·.id)).Nodup :=
  List.Nodup.sublist (List.Sublist.map _ List.filter_sublist) h
theorem mem_filter' {ns : List Nd} {x n : Nd} : n ∈ ns.filter (otherB x) ↔ n ∈ ns ∧ n.id ≠ x.id := by
  rw [List.mem_filter]; unfold otherB; rw [bne_iff_ne]
theorem rep_remove {ns : List Nd} {t : Tr} (h : Rep ns t) (ht : TrOk t) (x : Nd) : Rep (layR ns x false) (trRemove t x.id) := by
  have e : layR ns x false = ns.filter (otherB x) := by unfold layR; simp
  rw [e]
  have hu := ids_unique (filter_ids h.ids x)
  refine ⟨hu, filter_ids h.ids x, fun n hn => h.ok n (mem_filter'.1 hn).1, fun i => ?_⟩
  unfold trRemove
  by_cases hi : (i : Int) = x.id
  · rw [if_pos hi]
    exact look_eq hu (fun n hn => by cases hn) (fun _ n hn => by rw [hi]; exact (mem_filter'.1 hn).2)
  · rw [if_neg hi]
    refine look_eq hu (fun n hn => ?_) (fun hn n hm => ?_)
    · have hb := ht.2 i n hn
      exact ⟨mem_filter'.2 ⟨(rep_mem h ht).2 ⟨i, hn⟩, by rw [hb.1]; exact hi⟩, hb.1⟩
    · rw [← h.look i] at hn
      exact lookR_no hn n (mem_filter'.1 hm).1
theorem rep_put {ns : List Nd} {t : Tr} (h : Rep ns t) (ht : TrOk t) {x : Nd} (hx : NdOk x) : Rep (layR ns x true) (trPut t x) := by
  have e : layR ns x true = ns.filter (otherB x) ++ [x] := by unfold layR; simp
  rw [e]
  have hids : ((ns.filter (otherB x) ++ [x]).map (·.id)).Nodup := by
    rw [List.map_append]
    refine nodup_snoc (filter_ids h.ids x) (fun hm => ?_)
    obtain ⟨n, hn, e⟩ := List.mem_map.1 hm
    exact (mem_filter'.1 hn).2 e
  have hu := ids_unique hids
  have hmem : ∀ n, n ∈ ns.filter (otherB x) ++ [x] ↔ (n ∈ ns ∧ n.id ≠ x.id) ∨ n = x := by
    intro n; rw [List.mem_append, mem_filter', List.mem_singleton]
  refine ⟨hu, hids, fun n hn => ?_, fun i => ?_⟩
  · rcases (hmem n).1 hn with ⟨h1, _⟩ | rfl
    · exact h.ok n h1
    · exact hx
  · unfold trPut
    by_cases hi : (i : Int) = x.id
    · rw [if_pos hi]
      exact look_eq hu (fun n hn => by cases hn; exact ⟨(hmem x).2 (.inr rfl), hi.symm⟩) (fun hn => by cases hn)
    · rw [if_neg hi]
      refine look_eq hu (fun n hn => ?_) (fun hn n hm => ?_)
      · have hb := ht.2 i n hn
        exact ⟨(hmem n).2 (.inl ⟨(rep_mem h ht).2 ⟨i, hn⟩, by rw [hb.1]; exact hi⟩), hb.1⟩
      · rw [← h.look i] at hn
        rcases (hmem n).1 hm with ⟨h1, _⟩ | rfl
        · exact lookR_no hn n h1
        · exact fun e => hi e.symm
theorem rep_read {l : Str} (h : (checkT l).1 = 0) : Rep (readNodes (cut l)) (gather (readNodes (cut l))) := by
  obtain ⟨_, _, _, ho, _⟩ := check_parts h
  have hk := readNodes_bd (cut l)
  generalize readNodes (cut l) = ns at *
  refine ⟨ordered_unique ho, ?_, hk, fun i => ?_⟩
  · have hr := ordered_rises ho
    rw [List.nodup_iff_pairwise_ne, List.pairwise_map]
    exact hr.imp (fun hab => by omega)
  · have := gather_look (ordered_unique ho) (fun n hn => (hk n hn).1) (i : Int)
    rw [Int.toNat_natCast] at this; exact this.symm
end Go.Proofs.YtdcjimlhaklhfaaDoor

namespace Go.Proofs.YtdcjimlhaklhfaaDoor
open Go.RowKit
/-! Compile: what the program does. -/
def getT (t : Tr) (id : Int) : Nd := (t id.toNat).getD nd0
/-- The step that brings a node home, if it is not there. -/
def homeS (a g : Tr) (id : Int) : Option St := match a id.toNat, g id.toNat with
  | none, none => none
  | some _, none => some ⟨45, ⟨id, 0, []⟩⟩
  | none, some n => some ⟨43, n⟩
  | some m, some n => if ndEq m n then none else some ⟨61, n⟩
structure Pl where
  now : Tr
  done : List St
def goOne (g : Tr) (p : Pl × Bool) (i : Nat) : Pl × Bool := match homeS p.1.now g i with
  | none => p
  | some s => if stepE p.1.now s = 0 then (⟨stepT p.1.now s, p.1.done ++ [s]⟩, true) else p
def goHomeT (g : Tr) (p : Pl) : Pl × Bool := (List.range' 1 99).foldl (goOne g) (p, false)
def fromAwayF (a g : Tr) : Nat → Int → Int
  | 0, _ => 0
  | f + 1, id => if (homeS a g id).isSome then id else fromAwayF a g f (getT a id).parent
def inWay (a g : Tr) (n : Nd) : Int := if !isParentT a n.parent then n.parent else if meetsT a n.parent n.id then fromAwayF a g 99 n.parent else atT a n.parent n.name
def blocker (a g : Tr) (id : Int) : Int := match homeS a g id with
  | none => 0
  | some s => if s.kind = 45 then kidT a id else inWay a g s.node
def awayIs (a g : Tr) (i : Nat) : Bool := (homeS a g i).isSome
def firstAway (a g : Tr) : Int := if scan (awayIs a g) 1 100 < 100 then (scan (awayIs a g) 1 100 : Int) else 0
def iter (f : Int → Int) : Nat → Int → Int
  | 0, x => x
  | n + 1, x => iter f n (f x)
def isMove (a g : Tr) (id : Int) : Bool := match homeS a g id with
  | none => false
  | some s => s.kind == 61
def seekF (a g : Tr) : Nat → Int → Int
  | 0, _ => 0
  | f + 1, id => if isMove a g id then id else seekF a g f (blocker a g id)
def knotT (a g : Tr) : Int := seekF a g 99 (iter (blocker a g) 99 (firstAway a g))
def parkN (id : Int) : Nd := ⟨id, 0, 116 :: 126 :: digs id⟩
def parkS (id : Int) : St := ⟨61, parkN id⟩
def parkT (g : Tr) (p : Pl) : Pl × Bool :=
  if knotT p.now g = 0 then (p, false) else
  if stepE p.now (parkS (knotT p.now g)) = 0 then (⟨stepT p.now (parkS (knotT p.now g)), p.done ++ [parkS (knotT p.now g)]⟩, true) else (p, false)
def makeF (g : Tr) : Nat → Pl → List St
  | 0, p => p.done
  | f + 1, p => if (goHomeT g p).2 then makeF g f (goHomeT g p).1 else if (parkT g (goHomeT g p).1).2 then makeF g f (parkT g (goHomeT g p).1).1 else (parkT g (goHomeT g p).1).1.done
def makeT (a g : Tr) : List St := makeF g 199 ⟨a, []⟩
/-! The document's way from tree to tree. -/
inductive Seg (g : Tr) : Tr → List St → Tr → Prop
  | nil (a : Tr) : Seg g a [] a
  | home {a b : Tr} {i : Int} {s : St} {ss : List St} (h1 : 1 ≤ i) (h2 : i ≤ 99) (hs : homeS a g i = some s) (he : stepE a s = 0) (k : Seg g (stepT a s) ss b) : Seg g a (s :: ss) b
  | park {a b : Tr} {i : Int} {n : Nd} {ss : List St} (h1 : 1 ≤ i) (h2 : i ≤ 99) (hno : ∀ (j : Int) (s : St), 1 ≤ j → j ≤ 99 → homeS a g j = some s → stepE a s ≠ 0) (hs : homeS a g i = some ⟨61, n⟩) (hp : a i.toNat ≠ some (parkN i)) (he : stepE a (parkS i) = 0) (k : Seg g (stepT a (parkS i)) ss b) : Seg g a (parkS i :: ss) b
theorem seg_trans {g a b c : Tr} {ss ts : List St} (h : Seg g a ss b) (k : Seg g b ts c) : Seg g a (ss ++ ts) c := by
  induction h with
  | nil a => exact k
  | home h1 h2 hs he _ ih => exact Seg.home h1 h2 hs he (ih k)
  | park h1 h2 hno hs hp he _ ih => exact Seg.park h1 h2 hno hs hp he (ih k)
/-! Steps home. -/
theorem home_cases {a g : Tr} {id : Int} {s : St} (h : homeS a g id = some s) :
    (s = ⟨45, ⟨id, 0, []⟩⟩ ∧ g id.toNat = none ∧ ∃ m, a id.toNat = some m) ∨ (∃ n, s = ⟨43, n⟩ ∧ g id.toNat = some n ∧ a id.toNat = none) ∨ ∃ n m, s = ⟨61, n⟩ ∧ g id.toNat = some n ∧ a id.toNat = some m ∧ m ≠ n := by
  unfold homeS at h
  cases ha : a id.toNat with
  | none =>
    cases hg : g id.toNat with
    | none => rw [ha, hg] at h; cases h
    | some n => rw [ha, hg] at h; cases h; exact .inr (.inl ⟨n, rfl, rfl, rfl⟩)
  | some m =>
    cases hg : g id.toNat with
    | none => rw [ha, hg] at h; cases h; exact .inl ⟨rfl, rfl, m, rfl⟩
    | some n =>
      rw [ha, hg] at h
      have h' : (if ndEq m n then none else some (⟨61, n⟩ : St)) = some s := h
      split at h'
      · cases h'
      · rename_i hne
        cases h'
        exact .inr (.inr ⟨n, m, rfl, rfl, rfl, fun e => hne (ndEq_iff.2 e)⟩)
theorem home_none {a g : Tr} {id : Int} : homeS a g id = none ↔ a id.toNat = g id.toNat := by
  unfold homeS
  cases ha : a id.toNat with
  | none => cases hg : g id.toNat <;> simp
  | some m =>
    cases hg : g id.toNat with
    | none => simp
    | some n =>
      simp only [Option.some.injEq]
      constructor
      · intro h
        split at h
        · exact ndEq_iff.1 (by assumption)
        · cases h
      · intro h; rw [if_pos (ndEq_iff.2 h)]
theorem home_del {a g : Tr} {id : Int} {m : Nd} (ha : a id.toNat = some m) (hg : g id.toNat = none) : homeS a g id = some ⟨45, ⟨id, 0, []⟩⟩ := by unfold homeS; rw [ha, hg]
theorem home_new {a g : Tr} {id : Int} {n : Nd} (ha : a id.toNat = none) (hg : g id.toNat = some n) : homeS a g id = some ⟨43, n⟩ := by unfold homeS; rw [ha, hg]
theorem home_move {a g : Tr} {id : Int} {m n : Nd} (ha : a id.toNat = some m) (hg : g id.toNat = some n) (h : m ≠ n) : homeS a g id = some ⟨61, n⟩ := by
  unfold homeS; rw [ha, hg]
  show (if ndEq m n then none else some (⟨61, n⟩ : St)) = _
  rw [if_neg (fun e => h (ndEq_iff.1 e))]
theorem home_congr {a a' g : Tr} {id : Int} (h : a id.toNat = a' id.toNat) : homeS a g id = homeS a' g id := by unfold homeS; rw [h]
theorem digs_inj : ∀ x : Nat, x < 100 → ∀ y : Nat, y < 100 → digs (x : Int) = digs (y : Int) → x = y := by decide +kernel
theorem plain_park (l : Str) : plainLen (116 :: 126 :: l) = 1 := by
  unfold plainLen
  rw [List.takeWhile_cons, if_pos (by decide), List.takeWhile_cons, if_neg (by decide)]; rfl
theorem park_name (id : Int) : isName (116 :: 126 :: digs id) id = true := by
  unfold isName; rw [plain_park]; simp
theorem park_own {x y : Int} (hx0 : 0 ≤ x) (hx : x ≤ 99) (hy0 : 0 ≤ y) (hy : y ≤ 99) (h : isName (116 :: 126 :: digs x) y = true) : x = y := by
  unfold isName at h; rw [plain_park] at h
  simp only [List.length_cons, List.drop_succ_cons, List.drop_zero, Bool.and_eq_true, Bool.or_eq_true, beq_iff_eq] at h
  rcases h.2 with h | h
  · omega
  · obtain ⟨a, rfl⟩ := Int.eq_ofNat_of_zero_le hx0
    obtain ⟨b, rfl⟩ := Int.eq_ofNat_of_zero_le hy0
    have := digs_inj a (by omega) b (by omega) (by simpa using h)
    rw [this]
theorem park_ok {id : Int} (h1 : 1 ≤ id) (h2 : id ≤ 99) : StOk (parkS id) := .inl ⟨.inr rfl, h1, h2, Int.le_refl 0, by show (0 : Int) ≤ 99; omega, park_name id⟩
theorem trOk_id {t : Tr} (h : TrOk t) {id : Int} (h1 : 0 ≤ id) {n : Nd} (hn : t id.toNat = some n) : n.id = id ∧ 1 ≤ id ∧ id ≤ 99 ∧ NdOk n := by
  have := h.2 _ n hn
  refine ⟨by omega, by omega, by omega, by omega, by omega, this.2.2.2.1, this.2.2.2.2.1, this.2.2.2.2.2⟩
theorem home_ok {a g : Tr} (hg : TrOk g) {id : Int} (h1 : 1 ≤ id) (h2 : id ≤ 99) {s : St} (h : homeS a g id = some s) : StOk s ∧ s.node.id = id := by
  rcases home_cases h with ⟨rfl, _⟩ | ⟨n, rfl, hn, _⟩ | ⟨n, _, rfl, hn, _⟩
  · exact ⟨.inr ⟨rfl, h1, h2⟩, rfl⟩
  · have := trOk_id hg (by omega) hn; exact ⟨.inl ⟨.inl rfl, this.2.2.2⟩, this.1⟩
  · have := trOk_id hg (by omega) hn; exact ⟨.inl ⟨.inr rfl, this.2.2.2⟩, this.1⟩
/-- A step home that is done: the node is home, all else is as it was. -/
theorem home_done {a g : Tr} (hg : TrOk g) {id : Int} (h1 : 1 ≤ id) {s : St} (h : homeS a g id = some s) (he : stepE a s = 0) (j : Nat) : stepT a s j = if (j : Int) = id then g j else a j := by
  unfold stepT
  rw [if_pos he]
  rcases home_cases h with ⟨rfl, hn, _⟩ | ⟨n, rfl, hn, _⟩ | ⟨n, _, rfl, hn, _⟩
  · rw [if_pos rfl]
    unfold trRemove
    by_cases e : (j : Int) = id
    · rw [if_pos e, if_pos e, ← hn]; congr 1; omega
    · rw [if_neg e, if_neg e]
  · rw [if_neg (show ¬ ((43 : UInt8) = 45) by decide), put_at]
    have := (trOk_id hg (by omega) hn).1
    simp only
    rw [this]
    by_cases e : (j : Int) = id
    · rw [if_pos e, if_pos e, ← hn]; congr 1; omega
    · rw [if_neg e, if_neg e]
  · rw [if_neg (show ¬ ((61 : UInt8) = 45) by decide), put_at]
    have := (trOk_id hg (by omega) hn).1
    simp only
    rw [this]
    by_cases e : (j : Int) = id
    · rw [if_pos e, if_pos e, ← hn]; congr 1; omega
    · rw [if_neg e, if_neg e]
theorem park_done {a : Tr} {id : Int} (he : stepE a (parkS id) = 0) (j : Nat) : stepT a (parkS id) j = if (j : Int) = id then some (parkN id) else a j := by
  unfold stepT
  rw [if_pos he, if_neg (show ¬ ((parkS id).kind = 45) by show ¬ ((61 : UInt8) = 45); decide), put_at]; rfl
theorem seg_valid {g a b : Tr} {ss : List St} (h : Seg g a ss b) (hg : TrOk g) : Valid a → Valid b ∧ ∀ s ∈ ss, StOk s := by
  induction h with
  | nil a => intro h; exact ⟨h, by simp⟩
  | home h1 h2 hs he _ ih =>
    intro h
    have hk := (home_ok hg h1 h2 hs).1
    obtain ⟨k1, k2⟩ := ih (valid_step h hk)
    refine ⟨k1, fun s hm => ?_⟩
    rcases List.mem_cons.1 hm with rfl | hm
    · exact hk
    · exact k2 s hm
  | park h1 h2 hno hs hp he _ ih =>
    intro h
    have hk := park_ok h1 h2
    obtain ⟨k1, k2⟩ := ih (valid_step h hk)
    refine ⟨k1, fun s hm => ?_⟩
    rcases List.mem_cons.1 hm with rfl | hm
    · exact hk
    · exact k2 s hm
theorem seg_does {g a b : Tr} {ss : List St} (h : Seg g a ss b) : ∀ i, doAllE ss a i = (0, 0) ∧ doAllT ss a = b := by
  induction h with
  | nil a => intro i; exact ⟨rfl, rfl⟩
  | home h1 h2 hs he _ ih => intro i; rw [doAllE, doAllT, if_pos he, if_pos he]; exact ih _
  | park h1 h2 hno hs hp he _ ih => intro i; rw [doAllE, doAllT, if_pos he, if_pos he]; exact ih _
/-! How much is to come. -/
def parkedB (a : Tr) (i : Nat) : Bool := match a i with
  | none => false
  | some m => ndEq m (parkN i)
theorem parkedB_iff {a : Tr} {i : Nat} : parkedB a i = true ↔ a i = some (parkN i) := by
  unfold parkedB
  cases a i with
  | none => simp
  | some m => simp [ndEq_iff]
def weight (a g : Tr) (i : Nat) : Nat := match homeS a g i with
  | none => 0
  | some s => if s.kind == 61 && !parkedB a i then 2 else 1
def toCome (a g : Tr) : Nat := ((List.range' 1 99).map (weight a g)).sum
theorem weight_le (a g : Tr) (i : Nat) : weight a g i ≤ 2 := by
  unfold weight; split
  · omega
  · split <;> omega
theorem sum_le {f h : Nat → Nat} : ∀ (l : List Nat), (∀ i ∈ l, f i ≤ h i) → (l.map f).sum ≤ (l.map h).sum := by
  intro l
  induction l with
  | nil => simp
  | cons x l ih =>
    intro hh
    have h1 := hh x (by simp)
    have h2 := ih (fun i hi => hh i (by simp [hi]))
    simp only [List.map_cons, List.sum_cons]; omega
theorem sum_lt {f h : Nat → Nat} : ∀ (l : List Nat) (k : Nat), k ∈ l → (∀ i ∈ l, f i ≤ h i) → f k < h k → (l.map f).sum < (l.map h).sum := by
  intro l
  induction l with
  | nil => intro k hk; simp at hk
  | cons x l ih =>
    intro k hk hh hlt
    have h1 := hh x (by simp)
    have h2 := sum_le l (fun i hi => hh i (by simp [hi]))
    simp only [List.map_cons, List.sum_cons]
    rcases List.mem_cons.1 hk with rfl | hk
    · omega
    · have := ih k hk (fun i hi => hh i (by simp [hi])) hlt; omega
theorem sum_bd {f : Nat → Nat} {c : Nat} : ∀ (l : List Nat), (∀ i ∈ l, f i ≤ c) → (l.map f).sum ≤ c * l.length := by
  intro l
  induction l with
  | nil => simp
  | cons x l ih =>
    intro hh
    have h1 := hh x (by simp)
    have h2 := ih (fun i hi => hh i (by simp [hi]))
    simp only [List.map_cons, List.sum_cons, List.length_cons, Nat.mul_add]; omega
theorem toCome_le (a g : Tr) : toCome a g ≤ 198 := by
  have := sum_bd (f := weight a g) (c := 2) (List.range' 1 99) (fun i _ => weight_le a g i)
  simpa [toCome] using this
theorem weight_congr {a b g : Tr} {i : Nat} (h : a i = b i) : weight a g i = weight b g i := by
  unfold weight parkedB
  rw [home_congr (a := a) (a' := b) (by simpa using h), h]
theorem weight_home {a g : Tr} {i : Nat} (h : a i = g i) : weight a g i = 0 := by
  unfold weight
  rw [home_none.2 (by simpa using h)]
theorem weight_pos {a g : Tr} {i : Nat} {s : St} (h : homeS a g i = some s) : 1 ≤ weight a g i := by
  unfold weight; rw [h]; simp only; split <;> omega
theorem come_home {a g : Tr} (hg : TrOk g) {id : Int} (h1 : 1 ≤ id) (h2 : id ≤ 99) {s : St} (h : homeS a g id = some s) (he : stepE a s = 0) : toCome (stepT a s) g < toCome a g := by
  obtain ⟨m, rfl⟩ := Int.eq_ofNat_of_zero_le (show 0 ≤ id by omega)
  have hd := home_done hg h1 h he
  have hz : weight (stepT a s) g m = 0 := weight_home (by rw [hd, if_pos rfl])
  refine sum_lt _ m (by rw [List.mem_range'_1]; omega) (fun i _ => ?_) (by rw [hz]; exact weight_pos h)
  by_cases e : (i : Int) = m
  · have : i = m := by omega
    subst this; rw [hz]; omega
  · rw [weight_congr (show stepT a s i = a i by rw [hd, if_neg e])]; omega
theorem come_park {a g : Tr} {id : Int} (h1 : 1 ≤ id) (h2 : id ≤ 99) {n : Nd} (h : homeS a g id = some ⟨61, n⟩) (hp : a id.toNat ≠ some (parkN id)) (he : stepE a (parkS id) = 0) : toCome (stepT a (parkS id)) g < toCome a g := by
  obtain ⟨m, rfl⟩ := Int.eq_ofNat_of_zero_le (show 0 ≤ id by omega)
  have hd := park_done he
  have hz : weight (stepT a (parkS m)) g m ≤ 1 := by
    unfold weight
    split
    · omega
    · rw [parkedB_iff.2 (by rw [hd, if_pos rfl])]; simp
  have hw : weight a g m = 2 := by
    unfold weight; rw [h]
    have : parkedB a m = false := by
      cases hq : parkedB a m
      · rfl
      · exact absurd (parkedB_iff.1 hq) (by simpa using hp)
    rw [this]; rfl
  refine sum_lt _ m (by rw [List.mem_range'_1]; omega) (fun i _ => ?_) (by omega)
  by_cases e : (i : Int) = m
  · have : i = m := by omega
    subst this; omega
  · rw [weight_congr (show stepT a (parkS m) i = a i by rw [hd, if_neg e])]; omega
theorem seg_come {g a b : Tr} {ss : List St} (h : Seg g a ss b) (hg : TrOk g) : toCome b g + ss.length ≤ toCome a g := by
  induction h with
  | nil a => simp
  | home h1 h2 hs he _ ih => have := come_home hg h1 h2 hs he; simp only [List.length_cons]; omega
  | park h1 h2 hno hs hp he _ ih => have := come_park h1 h2 hs hp he; simp only [List.length_cons]; omega
theorem come_none {a g : Tr} (ha : TrOk a) (hg : TrOk g) (h : toCome a g = 0) : a = g := by
  funext i
  by_cases hi : 1 ≤ i ∧ i ≤ 99
  · apply Classical.byContradiction
    intro hne
    cases hs : homeS a g i with
    | none => exact hne (by have := home_none.1 hs; simpa using this)
    | some s =>
      have h1 := weight_pos hs
      have h2 : (List.map (fun _ => 0) (List.range' 1 99)).sum < toCome a g := sum_lt (f := fun _ => 0) (h := weight a g) _ i (by rw [List.mem_range'_1]; omega) (fun _ _ => Nat.zero_le _) h1
      omega
  · have e1 : a i = none := by
      cases h : a i with
      | none => rfl
      | some n => have := ha.2 i n h; omega
    have e2 : g i = none := by
      cases h : g i with
      | none => rfl
      | some n => have := hg.2 i n h; omega
    rw [e1, e2]
/-! Rounds. -/
theorem goHome_fold (g : Tr) : ∀ (l : List Nat) (p : Pl) (m : Bool), (∀ i ∈ l, 1 ≤ i ∧ i ≤ 99) →
    ∃ ss, (l.foldl (goOne g) (p, m)).1.done = p.done ++ ss ∧ Seg g p.now ss (l.foldl (goOne g) (p, m)).1.now ∧ ((l.foldl (goOne g) (p, m)).2 = (m || !ss.isEmpty)) ∧ (ss = [] → (l.foldl (goOne g) (p, m)).1 = p ∧ ∀ i ∈ l, ∀ s, homeS p.now g i = some s → stepE p.now s ≠ 0) := by
  intro l
  induction l with
  | nil => intro p m _; exact ⟨[], by simp, Seg.nil _, by simp, fun _ => ⟨rfl, by simp⟩⟩
  | cons i l ih =>
    intro p m hl
    have hi := hl i (by simp)
    rw [List.foldl_cons]
    cases hs : homeS p.now g i with
    | none =>
      have e : goOne g (p, m) i = (p, m) := by unfold goOne; rw [hs]
      rw [e]
      obtain ⟨ss, k1, k2, k3, k4⟩ := ih p m (fun j hj => hl j (by simp [hj]))
      refine ⟨ss, k1, k2, k3, fun h => ⟨(k4 h).1, fun j hj s hs' => ?_⟩⟩
      rcases List.mem_cons.1 hj with rfl | hj
      · rw [hs] at hs'; cases hs'
      · exact (k4 h).2 j hj s hs'
    | some s =>
      by_cases he : stepE p.now s = 0
      · have e : goOne g (p, m) i = (⟨stepT p.now s, p.done ++ [s]⟩, true) := by
          unfold goOne; rw [hs]; simp only; rw [if_pos he]
        rw [e]
        obtain ⟨ss, k1, k2, k3, k4⟩ := ih ⟨stepT p.now s, p.done ++ [s]⟩ true (fun j hj => hl j (by simp [hj]))
        refine ⟨s :: ss, ?_, Seg.home (by omega) (by omega) hs he k2, ?_, fun h => by cases h⟩
        · rw [k1]; simp
        · rw [k3]; simp
      · have e : goOne g (p, m) i = (p, m) := by
          unfold goOne; rw [hs]; simp only; rw [if_neg he]
        rw [e]
        obtain ⟨ss, k1, k2, k3, k4⟩ := ih p m (fun j hj => hl j (by simp [hj]))
        refine ⟨ss, k1, k2, k3, fun h => ⟨(k4 h).1, fun j hj t hs' => ?_⟩⟩
        rcases List.mem_cons.1 hj with rfl | hj
        · rw [hs] at hs'; cases hs'; exact he
        · exact (k4 h).2 j hj t hs'
end Go.Proofs.YtdcjimlhaklhfaaDoor

namespace Go.Proofs.YtdcjimlhaklhfaaDoor
open Go.RowKit
/-! How deep a node lies. -/
def deep (t : Tr) (x : Int) : Nat := scan (fun f => meetsF t f x 0) 0 200
theorem meets_zero (t : Tr) (x goal : Int) : meetsF t 0 x goal = false := rfl
theorem meets_succ {t : Tr} {f : Nat} {x goal : Int} {n : Nd} (hne : x ≠ goal) (hn : t x.toNat = some n) : meetsF t (f + 1) x goal = meetsF t f n.parent goal := by
  rw [meetsF, if_neg hne, hn]
theorem deep_le {t : Tr} (ht : TrOk t) {x : Int} (h : Goes t x 0) : deep t x ≤ 100 := by
  have h1 := (goes_meets ht).2 h
  unfold deep
  rcases scan_cases (fun f => meetsF t f x 0) 0 200 with ⟨_, _, _, h2⟩ | ⟨_, h2⟩
  · apply Classical.byContradiction
    intro hn
    have := h2 100 (by omega) (by omega)
    unfold meetsT at h1; rw [h1] at this; cases this
  · have := h2 100 (by omega) (by omega)
    unfold meetsT at h1; rw [h1] at this; cases this
theorem deep_hit {t : Tr} {x : Int} (h : deep t x < 200) : meetsF t (deep t x) x 0 = true ∧ ∀ j, j < deep t x → meetsF t j x 0 = false := by
  unfold deep at h ⊢
  rcases scan_cases (fun f => meetsF t f x 0) 0 200 with ⟨_, _, h1, h2⟩ | ⟨h1, _⟩
  · exact ⟨h1, fun j hj => h2 j (by omega) hj⟩
  · omega
theorem parent_goes {t : Tr} (hv : Valid t) {p : Int} (hp0 : 0 ≤ p) (h : isParentT t p = true) : Goes t p 0 := by
  rcases isParent_iff.1 h with rfl | ⟨_, n, hn⟩
  · exact goes_here t 0
  · have := hv.goes _ n hn
    rwa [(trOk_id hv.ok hp0 hn).1] at this
theorem deep_succ {t : Tr} (hv : Valid t) {x : Int} (hx : 1 ≤ x) {n : Nd} (hn : t x.toNat = some n) : deep t x = deep t n.parent + 1 := by
  have hp0 : 0 ≤ n.parent := (trOk_id hv.ok (by omega) hn).2.2.2.2.2.1
  have hg := parent_goes hv hp0 (hv.parent _ n hn)
  have hd := deep_le hv.ok hg
  obtain ⟨h1, h2⟩ := deep_hit (t := t) (x := n.parent) (by omega)
  show scan (fun f => meetsF t f x 0) 0 200 = _
  refine scan_hit (by omega) (by omega) ?_ ?_
  · rw [meets_succ (by omega) hn]; exact h1
  · intro j _ hj
    cases j with
    | zero => rfl
    | succ j => rw [meets_succ (by omega) hn]; exact h2 j (by omega)
theorem deep_up {t : Tr} (hv : Valid t) {goal : Int} : ∀ (f : Nat) (x : Int), 0 ≤ x → meetsF t f x goal = true → deep t goal ≤ deep t x := by
  intro f
  induction f with
  | zero => intro x _ h; cases h
  | succ f ih =>
    intro x hx h
    by_cases e : x = goal
    · rw [e]; omega
    · cases hn : t x.toNat with
      | none => rw [meetsF, if_neg e, hn] at h; cases h
      | some n =>
        rw [meets_succ e hn] at h
        have hb := trOk_id hv.ok hx hn
        have := ih n.parent hb.2.2.2.2.2.1 h
        have := deep_succ hv hb.2.1 hn
        omega
theorem no_loop {t : Tr} (hv : Valid t) {id : Int} (h1 : 1 ≤ id) {n : Nd} (hn : t id.toNat = some n) : ¬ Goes t n.parent id := by
  rintro ⟨f, hf⟩
  have h2 := deep_up hv f n.parent (trOk_id hv.ok (by omega) hn).2.2.2.2.2.1 hf
  have h3 := deep_succ hv h1 hn
  omega
/-! What is in the way. -/
def Stuck (a g : Tr) : Prop := ∀ (j : Int) (s : St), 1 ≤ j → j ≤ 99 → homeS a g j = some s → stepE a s ≠ 0
theorem fromAway_good {a g : Tr} (hv : Valid a) (_hg : Valid g) {id : Int} (h1 : 1 ≤ id) : ∀ (f : Nat) (p : Int), 0 ≤ p → meetsF a (f + 1) p id = true → ¬ Goes g p id →
    1 ≤ fromAwayF a g f p ∧ fromAwayF a g f p ≤ 99 ∧ (homeS a g (fromAwayF a g f p)).isSome = true ∧ ∃ m, a (fromAwayF a g f p).toNat = some m ∧ m.parent ≠ 0 := by
  intro f
  induction f with
  | zero =>
    intro p _ hm hno
    rw [meetsF] at hm
    by_cases e : p = id
    · rw [e] at hno; exact absurd (goes_here g id) hno
    · rw [if_neg e] at hm
      cases hp : a p.toNat with
      | none => rw [hp] at hm; cases hm
      | some n => rw [hp] at hm; cases hm
  | succ f ih =>
    intro p hp0 hm hno
    by_cases e : p = id
    · rw [e] at hno; exact absurd (goes_here g id) hno
    · cases hp : a p.toNat with
      | none => rw [meetsF, if_neg e, hp] at hm; cases hm
      | some n =>
        rw [meets_succ e hp] at hm
        have hb := trOk_id hv.ok hp0 hp
        unfold fromAwayF
        cases hq : (homeS a g p).isSome
        · rw [if_neg (by simp)]
          have e2 : a p.toNat = g p.toNat := home_none.1 (by simpa using hq)
          have e3 : (getT a p).parent = n.parent := by unfold getT; rw [hp]; rfl
          rw [e3]
          exact ih n.parent hb.2.2.2.2.2.1 hm (fun hh => hno (goes_up (by rw [← e2]; exact hp) hh))
        · rw [if_pos rfl]
          refine ⟨hb.2.1, hb.2.2.1, hq, n, hp, fun h0 => ?_⟩
          rw [h0, meetsF, if_neg (by omega)] at hm
          have := hv.ok.1
          simp only [Int.toNat_zero] at hm
          rw [this] at hm; cases hm
theorem atT_hit {t : Tr} {p : Int} {s : Str} (h : atT t p s ≠ 0) : 1 ≤ atT t p s ∧ atT t p s ≤ 99 ∧ ∃ m, t (atT t p s).toNat = some m ∧ m.parent = p ∧ m.name = s := by
  rcases scan_cases (spotIs t p s) 1 100 with ⟨e1, e2, e3, _⟩ | ⟨e, _⟩
  · unfold atT; rw [if_pos e1]
    generalize scan (spotIs t p s) 1 100 = k at *
    unfold spotIs at e3
    cases hk : t k with
    | none => rw [hk] at e3; simp at e3
    | some m =>
      rw [hk] at e3; simp at e3
      exact ⟨by omega, by omega, m, by simpa using hk, e3.1, e3.2⟩
  · unfold atT at h; rw [if_neg (by omega)] at h; exact absurd rfl h
theorem kidT_hit {t : Tr} {id : Int} (h : kidT t id ≠ 0) : 1 ≤ kidT t id ∧ kidT t id ≤ 99 ∧ ∃ m, t (kidT t id).toNat = some m ∧ m.parent = id := by
  rcases scan_cases (kidIs t id) 1 100 with ⟨e1, e2, e3, _⟩ | ⟨e, _⟩
  · unfold kidT; rw [if_pos e1]
    generalize scan (kidIs t id) 1 100 = k at *
    unfold kidIs at e3
    cases hk : t k with
    | none => rw [hk] at e3; simp at e3
    | some m =>
      rw [hk] at e3; simp at e3
      exact ⟨by omega, by omega, m, by simpa using hk, e3⟩
  · unfold kidT at h; rw [if_neg (by omega)] at h; exact absurd rfl h
/-- What stands in another's place is not home, and not parked. -/
theorem taker_away {a g : Tr} (_hv : Valid a) (hg : Valid g) {id : Int} (h1 : 1 ≤ id) {n : Nd} (hn : g id.toNat = some n) (h0 : atT a n.parent n.name ≠ 0) (hne : atT a n.parent n.name ≠ id) :
    ∃ t, homeS a g (atT a n.parent n.name) = some t ∧ t.kind ≠ 43 ∧ (t.kind = 61 → a (atT a n.parent n.name).toNat ≠ some (parkN (atT a n.parent n.name))) := by
  obtain ⟨y1, y2, m, hm, hp, hs⟩ := atT_hit h0
  generalize atT a n.parent n.name = y at *
  have hid := trOk_id hg.ok (by omega) hn
  cases hgy : g y.toNat with
  | none => exact ⟨_, home_del hm hgy, by show ((45 : UInt8) ≠ 43); decide, fun h => absurd h (by show ¬ ((45 : UInt8) = 61); decide)⟩
  | some k =>
    refine ⟨_, home_move hm hgy (fun e => ?_), by show ((61 : UInt8) ≠ 43); decide, fun _ e => ?_⟩
    · subst e
      have := hg.apart _ _ _ _ hgy hn hp hs
      omega
    · rw [hm] at e
      cases e
      have h3 : isName n.name n.id = true := hid.2.2.2.2.2.2.2
      rw [← hs, hid.1] at h3
      have := park_own (x := y) (y := id) (by omega) y2 (by omega) hid.2.2.1 h3
      exact hne this
theorem parent_away {a g : Tr} (hg : Valid g) {id : Int} (h1 : 1 ≤ id) {n : Nd} (hn : g id.toNat = some n) (hp : isParentT a n.parent = false) :
    1 ≤ n.parent ∧ n.parent ≤ 99 ∧ ∃ k, g n.parent.toNat = some k ∧ homeS a g n.parent = some ⟨43, k⟩ := by
  have hid := trOk_id hg.ok (by omega) hn
  have hb := hid.2.2.2
  have h2 := hg.parent _ n hn
  rcases isParent_iff.1 h2 with h0 | ⟨he, k, hk⟩
  · rw [h0] at hp; simp [isParentT] at hp
  · have hk' := trOk_id hg.ok hb.2.2.1 hk
    refine ⟨hk'.2.1, hk'.2.2.1, k, hk, home_new ?_ hk⟩
    cases ha : a n.parent.toNat with
    | none => rfl
    | some m =>
      have : isParentT a n.parent = true := isParent_iff.2 (.inr ⟨he, m, ha⟩)
      rw [this] at hp; cases hp
/-- Where a step home is not a move and the next is none either, that one is of a lesser rank. -/
def rank (a g : Tr) (x : Int) : Nat := if (g x.toNat).isSome then 1000 + deep g x else 500 - deep a x
theorem blocker_good {a g : Tr} (hv : Valid a) (hg : Valid g) (hst : Stuck a g) {id : Int} (h1 : 1 ≤ id) (h2 : id ≤ 99) {s : St} (hs : homeS a g id = some s) :
    1 ≤ blocker a g id ∧ blocker a g id ≤ 99 ∧ ∃ t, homeS a g (blocker a g id) = some t ∧ (t.kind = 61 → a (blocker a g id).toNat ≠ some (parkN (blocker a g id))) ∧ (s.kind ≠ 61 → t.kind ≠ 61 → rank a g (blocker a g id) < rank a g id) := by
  have hE := hst id s h1 h2 hs
  rcases home_cases hs with ⟨rfl, hgn, m, hm⟩ | ⟨n, rfl, hgn, ha⟩ | ⟨n, m, rfl, hgn, hm, hmn⟩
  · -- a deletion waits for a kid
    have eb : blocker a g id = kidT a id := by unfold blocker; rw [hs]; rfl
    have hk : kidT a id ≠ 0 := by
      intro h0
      apply hE
      show stepE a ⟨45, ⟨id, 0, []⟩⟩ = 0
      unfold stepE deleteE
      rw [if_neg (show ¬ ((45 : UInt8) = 43) by decide), if_neg (show ¬ ((45 : UInt8) = 61) by decide), if_pos rfl, kids_kid, h0]
      rw [hasT_iff.2 ⟨m, hm⟩]; rfl
    rw [eb]
    obtain ⟨k1, k2, mk, hmk, hpk⟩ := kidT_hit hk
    generalize kidT a id = k at *
    refine ⟨k1, k2, ?_⟩
    cases hgk : g k.toNat with
    | none =>
      refine ⟨_, home_del hmk hgk, fun h => absurd h (by show ¬ ((45 : UInt8) = 61); decide), fun _ _ => ?_⟩
      unfold rank; rw [hgk, hgn, if_neg (by simp), if_neg (by simp)]
      have e1 := deep_succ hv k1 hmk
      rw [hpk] at e1
      have e2 := deep_le hv.ok (hv.goes _ mk hmk)
      rw [(trOk_id hv.ok (by omega) hmk).1] at e2
      omega
    | some nk =>
      refine ⟨_, home_move hmk hgk (fun e => ?_), fun _ e => ?_, fun _ h => absurd rfl h⟩
      · subst e
        have := hg.parent _ mk hgk
        rw [hpk] at this
        rcases isParent_iff.1 this with h0 | ⟨_, x, hx⟩
        · omega
        · rw [hgn] at hx; cases hx
      · rw [hmk] at e; cases e; simp [parkN] at hpk; omega
  · -- a creation
    have hid := trOk_id hg.ok (by omega) hgn
    have eb : blocker a g id = inWay a g n := by
      unfold blocker; rw [hs]; show (if (43 : UInt8) = 45 then _ else _) = _; rw [if_neg (by decide)]
    rw [eb]
    have hno : hasT a id = false := by unfold hasT; rw [ha]; rfl
    cases hp : isParentT a n.parent
    · have ei : inWay a g n = n.parent := by unfold inWay; rw [hp]; rfl
      rw [ei]
      obtain ⟨p1, p2, k, hk, hh⟩ := parent_away hg h1 hgn hp
      refine ⟨p1, p2, _, hh, fun h => absurd h (by show ¬ ((43 : UInt8) = 61); decide), fun _ _ => ?_⟩
      unfold rank; rw [hk, hgn, if_pos (by simp), if_pos (by simp)]
      have := deep_succ hg h1 hgn
      omega
    · have hme : meetsT a n.parent n.id = false := by
        rw [hid.1]
        cases hq : meetsT a n.parent id
        · rfl
        · exfalso
          have key : ∀ f p, isParentT a p = true → meetsF a f p id = true → False := by
            intro f
            induction f with
            | zero => intro p _ h; cases h
            | succ f ih =>
              intro p hpp h
              by_cases e : p = id
              · rcases isParent_iff.1 hpp with h0 | ⟨_, x, hx⟩
                · omega
                · rw [e, ha] at hx; cases hx
              · cases hx : a p.toNat with
                | none => rw [meetsF, if_neg e, hx] at h; cases h
                | some x => rw [meets_succ e hx] at h; exact ih _ (hv.parent _ x hx) h
          exact key 100 _ hp hq
      have ei : inWay a g n = atT a n.parent n.name := by unfold inWay; rw [hp, hme]; rfl
      have h0 : atT a n.parent n.name ≠ 0 := by
        intro h0
        apply hE
        show stepE a ⟨43, n⟩ = 0
        unfold stepE createE
        rw [if_pos rfl, hid.1, hno, hp, h0]; rfl
      rw [ei]
      obtain ⟨y1, y2, my, hmy, _⟩ := atT_hit h0
      obtain ⟨t, ht, hk, hpk⟩ := taker_away hv hg h1 hgn h0 (fun e => by rw [e, ha] at hmy; cases hmy)
      refine ⟨y1, y2, t, ht, hpk, fun _ hk2 => ?_⟩
      -- it is deleted
      rcases home_cases ht with ⟨rfl, hgy, _⟩ | ⟨k, rfl, _⟩ | ⟨k, _, rfl, _⟩
      · unfold rank; rw [hgy, hgn, if_neg (by simp), if_pos (by simp)]; omega
      · exact absurd rfl hk
      · exact absurd rfl hk2
  · -- a move
    have hid := trOk_id hg.ok (by omega) hgn
    have eb : blocker a g id = inWay a g n := by
      unfold blocker; rw [hs]; show (if (61 : UInt8) = 45 then _ else _) = _; rw [if_neg (by decide)]
    rw [eb]
    cases hp : isParentT a n.parent
    · have ei : inWay a g n = n.parent := by unfold inWay; rw [hp]; rfl
      rw [ei]
      obtain ⟨p1, p2, k, hk, hh⟩ := parent_away hg h1 hgn hp
      exact ⟨p1, p2, _, hh, fun h => absurd h (by show ¬ ((43 : UInt8) = 61); decide), fun h => absurd rfl h⟩
    · cases hme : meetsT a n.parent n.id
      · have ei : inWay a g n = atT a n.parent n.name := by unfold inWay; rw [hp, hme]; rfl
        have hE2 : atT a n.parent n.name ≠ 0 ∧ atT a n.parent n.name ≠ id := by
          apply Classical.byContradiction
          intro hcon
          apply hE
          show stepE a ⟨61, n⟩ = 0
          unfold stepE moveE
          rw [if_neg (show ¬ ((61 : UInt8) = 43) by decide), if_pos rfl, hp, hme, hid.1, hasT_iff.2 ⟨m, hm⟩]
          have : (atT a n.parent n.name != 0 && atT a n.parent n.name != id) = false := by
            cases hq : (atT a n.parent n.name != 0 && atT a n.parent n.name != id)
            · rfl
            · rw [Bool.and_eq_true, bne_iff_ne, bne_iff_ne] at hq; exact absurd hq hcon
          rw [this]; rfl
        rw [ei]
        obtain ⟨y1, y2, _⟩ := atT_hit hE2.1
        obtain ⟨t, ht, _, hpk⟩ := taker_away hv hg h1 hgn hE2.1 hE2.2
        exact ⟨y1, y2, t, ht, hpk, fun h => absurd rfl h⟩
      · have ei : inWay a g n = fromAwayF a g 99 n.parent := by unfold inWay; rw [hp, hme]; rfl
        rw [ei]
        rw [hid.1] at hme
        obtain ⟨y1, y2, y3, my, hmy, hpy⟩ := fromAway_good hv hg h1 99 n.parent hid.2.2.2.2.2.1 hme (no_loop hg h1 hgn)
        obtain ⟨t, ht⟩ := Option.isSome_iff_exists.1 y3
        refine ⟨y1, y2, t, ht, fun _ e => ?_, fun h => absurd rfl h⟩
        rw [hmy] at e; cases e; exact hpy rfl
/-! The knot. -/
theorem iter_succ (f : Int → Int) : ∀ (k : Nat) (x : Int), iter f (k + 1) x = f (iter f k x) := by
  intro k
  induction k with
  | zero => intro x; rfl
  | succ k ih => intro x; rw [iter, ih]; rfl
def AwayAt (a g : Tr) (x : Int) : Prop := 1 ≤ x ∧ x ≤ 99 ∧ (homeS a g x).isSome = true
theorem iter_away {a g : Tr} (hv : Valid a) (hg : Valid g) (hst : Stuck a g) {x : Int} (h : AwayAt a g x) : ∀ k, AwayAt a g (iter (blocker a g) k x) := by
  intro k
  induction k with
  | zero => exact h
  | succ k ih =>
    rw [iter_succ]
    obtain ⟨s, hs⟩ := Option.isSome_iff_exists.1 ih.2.2
    obtain ⟨b1, b2, t, ht, _⟩ := blocker_good hv hg hst ih.1 ih.2.1 hs
    exact ⟨b1, b2, by rw [ht]; rfl⟩
theorem seek_hit {a g : Tr} : ∀ (f : Nat) (x : Int), (∃ k, k < f ∧ isMove a g (iter (blocker a g) k x) = true) → ∃ k, k < f ∧ seekF a g f x = iter (blocker a g) k x ∧ isMove a g (iter (blocker a g) k x) = true := by
  intro f
  induction f with
  | zero => rintro x ⟨k, hk, _⟩; omega
  | succ f ih =>
    rintro x ⟨k, hk, hm⟩
    rw [seekF]
    cases hx : isMove a g x
    · rw [if_neg (by simp)]
      cases k with
      | zero => rw [iter, hx] at hm; cases hm
      | succ k =>
        obtain ⟨j, hj, e1, e2⟩ := ih (blocker a g x) ⟨k, by omega, hm⟩
        exact ⟨j + 1, by omega, e1, e2⟩
    · rw [if_pos rfl]; exact ⟨0, by omega, rfl, hx⟩
theorem isMove_iff {a g : Tr} {x : Int} : isMove a g x = true ↔ ∃ n, homeS a g x = some ⟨61, n⟩ := by
  unfold isMove
  cases h : homeS a g x with
  | none => simp
  | some s =>
    obtain ⟨k, n⟩ := s
    simp only [beq_iff_eq, Option.some.injEq, St.mk.injEq]
    constructor
    · rintro rfl; exact ⟨n, rfl, rfl⟩
    · rintro ⟨_, e, _⟩; exact e
theorem move_found {a g : Tr} (hv : Valid a) (hg : Valid g) (hst : Stuck a g) {x : Int} (h : AwayAt a g x) : ∃ k, k < 99 ∧ isMove a g (iter (blocker a g) k x) = true := by
  apply Classical.byContradiction
  intro hcon
  have hno : ∀ k, k < 99 → isMove a g (iter (blocker a g) k x) = false := by
    intro k hk
    cases hq : isMove a g (iter (blocker a g) k x)
    · rfl
    · exact absurd ⟨k, hk, hq⟩ hcon
  have haw := iter_away hv hg hst h
  have hdown : ∀ k, isMove a g (iter (blocker a g) k x) = false → isMove a g (iter (blocker a g) (k + 1) x) = false → rank a g (iter (blocker a g) (k + 1) x) < rank a g (iter (blocker a g) k x) := by
    intro k h1 h2
    rw [iter_succ] at h2 ⊢
    have ha := haw k
    obtain ⟨s, hs⟩ := Option.isSome_iff_exists.1 ha.2.2
    obtain ⟨_, _, t, ht, _, hr⟩ := blocker_good hv hg hst ha.1 ha.2.1 hs
    refine hr (fun e => ?_) (fun e => ?_)
    · rw [isMove_iff.2 ⟨s.node, by rw [hs, ← e]⟩] at h1; cases h1
    · rw [isMove_iff.2 ⟨t.node, by rw [ht, ← e]⟩] at h2; cases h2
  have hmono : ∀ d i, i + d < 99 → rank a g (iter (blocker a g) (i + d) x) + d ≤ rank a g (iter (blocker a g) i x) := by
    intro d
    induction d with
    | zero => intro i _; simp
    | succ d ih =>
      intro i hi
      have h1 := ih i (by omega)
      have h2 := hdown (i + d) (hno _ (by omega)) (hno _ (by omega))
      rw [show i + (d + 1) = i + d + 1 by omega]
      omega
  have hnd : ((List.range 99).map (fun k => iter (blocker a g) k x)).Nodup := by
    rw [List.nodup_iff_pairwise_ne, List.pairwise_map]
    refine List.pairwise_lt_range.imp_of_mem (fun {i j} hi hj hij e => ?_)
    rw [List.mem_range] at hi hj
    have := hmono (j - i) i (by omega)
    rw [show i + (j - i) = j by omega, ← e] at this
    omega
  have hsub : ∀ y, AwayAt a g y → y ∈ (List.range' 1 99).map (fun i : Nat => (i : Int)) := by
    intro y hy
    refine List.mem_map.2 ⟨y.toNat, ?_, ?_⟩
    · rw [List.mem_range'_1]; have := hy.1; have := hy.2.1; omega
    · have := hy.1; show ((y.toNat : Nat) : Int) = y; omega
  have hin : iter (blocker a g) 99 x ∈ (List.range 99).map (fun k => iter (blocker a g) k x) := by
    apply Classical.byContradiction
    intro hni
    have := pigeon (iter (blocker a g) 99 x :: (List.range 99).map (fun k => iter (blocker a g) k x)) ((List.range' 1 99).map (fun i : Nat => (i : Int))) (List.nodup_cons.2 ⟨hni, hnd⟩) (fun y hy => by
      rcases List.mem_cons.1 hy with rfl | hy
      · exact hsub _ (haw 99)
      · obtain ⟨k, _, rfl⟩ := List.mem_map.1 hy
        exact hsub _ (haw k))
    simp at this
  obtain ⟨j, hj, e⟩ := List.mem_map.1 hin
  rw [List.mem_range] at hj
  have h1 := hdown 98 (hno 98 (by omega)) (by rw [show 98 + 1 = 99 from rfl, ← e]; exact hno j hj)
  have h2 := hmono (98 - j) j (by omega)
  rw [show j + (98 - j) = 98 by omega] at h2
  rw [show 98 + 1 = 99 from rfl, ← e] at h1
  omega
theorem firstAway_hit {a g : Tr} {x : Int} (h : AwayAt a g x) : AwayAt a g (firstAway a g) := by
  rcases scan_cases (awayIs a g) 1 100 with ⟨e1, e2, e3, _⟩ | ⟨_, e⟩
  · unfold firstAway; rw [if_pos e1]
    exact ⟨by omega, by omega, e3⟩
  · have h1 := h.1
    have h2 := h.2.1
    have := e x.toNat (by omega) (by omega)
    unfold awayIs at this
    rw [Int.toNat_of_nonneg (by omega)] at this
    rw [h.2.2] at this; cases this
theorem knot_good {a g : Tr} (hv : Valid a) (hg : Valid g) (hst : Stuck a g) {x : Int} (h : AwayAt a g x) :
    1 ≤ knotT a g ∧ knotT a g ≤ 99 ∧ (∃ n, homeS a g (knotT a g) = some ⟨61, n⟩) ∧ a (knotT a g).toNat ≠ some (parkN (knotT a g)) ∧ stepE a (parkS (knotT a g)) = 0 := by
  have h0 := firstAway_hit h
  have h99 := iter_away hv hg hst h0 99
  obtain ⟨k, _, e1, e2⟩ := seek_hit 99 _ (move_found hv hg hst h99)
  have hk := iter_away hv hg hst h99 k
  have ek : knotT a g = iter (blocker a g) k (iter (blocker a g) 99 (firstAway a g)) := e1
  rw [← ek] at hk e2
  have hun : a (knotT a g).toNat ≠ some (parkN (knotT a g)) := by
    -- it was come to by at least one step
    have key : ∀ j y, AwayAt a g y → isMove a g (iter (blocker a g) (j + 1) y) = true → a (iter (blocker a g) (j + 1) y).toNat ≠ some (parkN (iter (blocker a g) (j + 1) y)) := by
      intro j y hy hm
      rw [iter_succ] at hm ⊢
      have ha := iter_away hv hg hst hy j
      obtain ⟨s, hs⟩ := Option.isSome_iff_exists.1 ha.2.2
      obtain ⟨_, _, t, ht, hp, _⟩ := blocker_good hv hg hst ha.1 ha.2.1 hs
      obtain ⟨n, hn⟩ := isMove_iff.1 hm
      refine hp ?_
      rw [ht] at hn; cases hn; rfl
    have hadd : ∀ j m y, iter (blocker a g) j (iter (blocker a g) m y) = iter (blocker a g) (m + j) y := by
      intro j m
      induction m with
      | zero => intro y; rw [Nat.zero_add]; rfl
      | succ m ih => intro y; rw [show m + 1 + j = (m + j) + 1 by omega]; exact ih _
    have e3 : knotT a g = iter (blocker a g) (98 + k + 1) (firstAway a g) := by rw [ek, hadd]; congr 1; omega
    rw [e3] at e2 ⊢
    exact key _ _ h0 e2
  obtain ⟨n, hn⟩ := isMove_iff.1 e2
  refine ⟨hk.1, hk.2.1, ⟨n, hn⟩, hun, ?_⟩
  obtain ⟨m, hm⟩ : ∃ m, a (knotT a g).toNat = some m := by
    rcases home_cases hn with ⟨e, _⟩ | ⟨_, e, _⟩ | ⟨_, m, _, _, hm, _⟩
    · cases e
    · cases e
    · exact ⟨m, hm⟩
  have h1 := hk.1
  have h2 := hk.2.1
  generalize knotT a g = id at *
  show stepE a ⟨61, parkN id⟩ = 0
  unfold stepE moveE
  rw [if_neg (show ¬ ((61 : UInt8) = 43) by decide), if_pos rfl]
  have e1 : hasT a (parkN id).id = true := hasT_iff.2 ⟨m, hm⟩
  have e2 : isParentT a (parkN id).parent = true := rfl
  have e3 : meetsT a (parkN id).parent (parkN id).id = false := by
    show meetsF a 100 0 id = false
    rw [meetsF, if_neg (by omega)]
    simp only [Int.toNat_zero]
    rw [hv.ok.1]
  have e4 : (atT a (parkN id).parent (parkN id).name != 0 && atT a (parkN id).parent (parkN id).name != (parkN id).id) = false := by
    cases hq : (atT a (parkN id).parent (parkN id).name != 0 && atT a (parkN id).parent (parkN id).name != (parkN id).id)
    · rfl
    · rw [Bool.and_eq_true, bne_iff_ne, bne_iff_ne] at hq
      obtain ⟨y1, y2, my, hmy, hpy, hny⟩ := atT_hit hq.1
      have hb := trOk_id hv.ok (by omega) hmy
      have h3 := hb.2.2.2.2.2.2.2
      rw [hny, hb.1] at h3
      exact absurd (park_own (x := id) (y := atT a (parkN id).parent (parkN id).name) (by omega) h2 (by omega) y2 h3).symm hq.2
  rw [e1, e2, e3, e4]; rfl
theorem make_seg {g : Tr} (hg : Valid g) : ∀ (f : Nat) (p : Pl), Valid p.now → toCome p.now g < f → ∃ ss, makeF g f p = p.done ++ ss ∧ Seg g p.now ss g := by
  intro f
  induction f with
  | zero => intro p _ h; omega
  | succ f ih =>
    intro p hv hc
    obtain ⟨ss, k1, k2, k3, k4⟩ := goHome_fold g (List.range' 1 99) p false (fun i hi => by rw [List.mem_range'_1] at hi; omega)
    have hE : goHomeT g p = (List.range' 1 99).foldl (goOne g) (p, false) := by unfold goHomeT; rfl
    rw [← hE] at k1 k2 k3 k4
    have hv2 := (seg_valid k2 hg.ok hv).1
    have hc2 := seg_come k2 hg.ok
    rw [makeF]
    cases ss with
    | cons s ss =>
      rw [if_pos (by rw [k3]; rfl)]
      obtain ⟨ts, e1, e2⟩ := ih (goHomeT g p).1 hv2 (by simp only [List.length_cons] at hc2; omega)
      exact ⟨(s :: ss) ++ ts, by rw [e1, k1]; simp, seg_trans k2 e2⟩
    | nil =>
      obtain ⟨ep, hst⟩ := k4 rfl
      rw [if_neg (by rw [k3]; simp), ep]
      have hStuck : Stuck p.now g := by
        intro j s h1 h2 hs
        refine hst j.toNat (by rw [List.mem_range'_1]; omega) s ?_
        rw [Int.toNat_of_nonneg (by omega)]; exact hs
      by_cases haway : ∃ x, AwayAt p.now g x
      · obtain ⟨x, hx⟩ := haway
        obtain ⟨q1, q2, ⟨n, hn⟩, q3, q4⟩ := knot_good hv hg hStuck hx
        have e : parkT g p = (⟨stepT p.now (parkS (knotT p.now g)), p.done ++ [parkS (knotT p.now g)]⟩, true) := by
          unfold parkT; rw [if_neg (by omega), if_pos q4]
        rw [e, if_pos rfl]
        have hc3 := come_park q1 q2 hn q3 q4
        obtain ⟨ts, e1, e2⟩ := ih ⟨stepT p.now (parkS (knotT p.now g)), p.done ++ [parkS (knotT p.now g)]⟩ (valid_step hv (park_ok q1 q2)) (by show toCome (stepT p.now _) g < f; omega)
        exact ⟨parkS (knotT p.now g) :: ts, by rw [e1]; simp, Seg.park q1 q2 hStuck hn q3 q4 e2⟩
      · have hall : p.now = g := by
          funext i
          by_cases hi : 1 ≤ i ∧ i ≤ 99
          · cases hq : homeS p.now g i with
            | none => have := home_none.1 hq; simpa using this
            | some s => exact absurd ⟨(i : Int), by omega, by omega, by rw [hq]; rfl⟩ haway
          · have e1 : p.now i = none := by
              cases h : p.now i with
              | none => rfl
              | some n => have := hv.ok.2 i n h; omega
            have e2 : g i = none := by
              cases h : g i with
              | none => rfl
              | some n => have := hg.ok.2 i n h; omega
            rw [e1, e2]
        have e0 : knotT p.now g = 0 := by
          have hb : ∀ x, blocker p.now g x = 0 := by
            intro x; unfold blocker; rw [home_none.2 (by rw [hall])]
          have hm : ∀ x, isMove p.now g x = false := by
            intro x; unfold isMove; rw [home_none.2 (by rw [hall])]
          have : ∀ f x, seekF p.now g f x = 0 := by
            intro f
            induction f with
            | zero => intro x; rfl
            | succ f ih2 => intro x; rw [seekF, hm, if_neg (by simp)]; exact ih2 _
          exact this _ _
        have e : parkT g p = (p, false) := by unfold parkT; rw [if_pos e0]
        rw [e, if_neg (by simp)]
        exact ⟨[], by simp, by rw [hall]; exact Seg.nil g⟩
theorem makeT_seg {a g : Tr} (ha : Valid a) (hg : Valid g) : Seg g a (makeT a g) g := by
  obtain ⟨ss, e, h⟩ := make_seg hg 199 ⟨a, []⟩ ha (by have := toCome_le a g; show toCome a g < 199; omega)
  have : makeT a g = ss := by unfold makeT; rw [e]; rfl
  rw [this]; exact h
end Go.Proofs.YtdcjimlhaklhfaaDoor

namespace Go.Proofs.YtdcjimlhaklhfaaDoor
open Go.RowKit
/-! A script's text. -/
def stText (s : St) : Str := if s.kind = 45 then 45 :: digs s.node.id ++ [59] else s.kind :: nodeText s.node
def scriptText (ss : List St) : Str := ss.flatMap stText
def StCan (s : St) : Prop := StOk s ∧ (s.kind = 45 → s.node = ⟨s.node.id, 0, []⟩)
theorem home_can {a g : Tr} (hg : TrOk g) {id : Int} (h1 : 1 ≤ id) (h2 : id ≤ 99) {s : St} (h : homeS a g id = some s) : StCan s := by
  refine ⟨(home_ok hg h1 h2 h).1, fun hk => ?_⟩
  rcases home_cases h with ⟨rfl, _⟩ | ⟨n, rfl, _⟩ | ⟨n, _, rfl, _⟩
  · rfl
  · exact absurd hk (by show ¬ ((43 : UInt8) = 45); decide)
  · exact absurd hk (by show ¬ ((61 : UInt8) = 45); decide)
theorem seg_can {g a b : Tr} {ss : List St} (h : Seg g a ss b) (hg : TrOk g) : ∀ s ∈ ss, StCan s := by
  induction h with
  | nil a => simp
  | home h1 h2 hs he _ ih =>
    intro s hm
    rcases List.mem_cons.1 hm with rfl | hm
    · exact home_can hg h1 h2 hs
    · exact ih s hm
  | park h1 h2 hno hs hp he _ ih =>
    intro s hm
    rcases List.mem_cons.1 hm with rfl | hm
    · exact ⟨park_ok h1 h2, fun hk => absurd hk (by show ¬ ((61 : UInt8) = 45); decide)⟩
    · exact ih s hm
def stBody (s : St) : Str := if s.kind = 45 then 45 :: digs s.node.id else s.kind :: ndBody s.node
theorem stText_body (s : St) : stText s = stBody s ++ [59] := by
  unfold stText stBody
  split
  · rfl
  · rw [nodeText_body]; rfl
theorem stBody_no {s : St} (h : StOk s) : ∀ x ∈ stBody s, x ≠ 59 := by
  intro x hx
  unfold stBody at hx
  rcases h with ⟨hk, hn⟩ | ⟨hk, h1, h2⟩
  · have h45 : ¬ s.kind = 45 := by rcases hk with h | h <;> rw [h] <;> decide
    rw [if_neg h45] at hx
    rcases List.mem_cons.1 hx with rfl | hx
    · rcases hk with h | h <;> rw [h] <;> decide
    · exact body_no hn x hx
  · rw [if_pos hk] at hx
    rcases List.mem_cons.1 hx with rfl | hx
    · decide
    · exact (digs_noI (by omega) h2 x hx).1
theorem readStep_text {s : St} (h : StCan s) : readStep (stText s) = some s := by
  have hb : bodyB (stText s) = true := by rw [stText_body]; unfold bodyB; simp
  have hS : bodyS (stText s) = stBody s := by unfold bodyS; rw [if_pos hb, stText_body]; simp
  unfold readStep
  rw [if_pos hb, hS]
  obtain ⟨k, n⟩ := s
  rcases h with ⟨⟨hk, hn⟩ | ⟨hk, h1, h2⟩, hc⟩
  · simp only at hk hn
    have h45 : ¬ k = 45 := by rcases hk with h | h <;> rw [h] <;> decide
    unfold stBody
    rw [if_neg h45]
    show (if k = 43 ∨ k = 61 then (readNode (ndBody n)).map (fun n => (⟨k, n⟩ : St)) else _) = _
    rw [if_pos hk, readNode_body hn]; rfl
  · simp only at hk h1 h2 hc
    subst hk
    unfold stBody
    rw [if_pos rfl]
    show (if (45 : UInt8) = 43 ∨ (45 : UInt8) = 61 then (readNode (digs n.id)).map (fun n => (⟨45, n⟩ : St)) else if (45 : UInt8) = 45 then (if (number (digs n.id) 1 99).2 then some (⟨45, ⟨(number (digs n.id) 1 99).1, 0, []⟩⟩ : St) else none) else none) = _
    rw [if_neg (by decide), if_pos rfl]
    have e : number (digs n.id) 1 99 = (n.id, true) := by
      obtain ⟨m, hm⟩ := Int.eq_ofNat_of_zero_le (show 0 ≤ n.id by omega)
      rw [hm]; exact digs_num1 m (by omega) (by omega)
    rw [e, if_pos rfl, ← hc rfl]
theorem cut_script : ∀ (ss : List St), (∀ s ∈ ss, StOk s) → cut (scriptText ss) = ss.map stText := by
  intro ss
  induction ss with
  | nil => intro _; rfl
  | cons s ss ih =>
    intro h
    unfold scriptText at ih ⊢
    rw [List.flatMap_cons, stText_body, cut_cons (stBody_no (h s (by simp))), ih (fun x hx => h x (by simp [hx])), List.map_cons, stText_body]
theorem readSteps_map : ∀ (ss : List St), (∀ s ∈ ss, StCan s) → readSteps (ss.map stText) = ss := by
  intro ss
  induction ss with
  | nil => intro _; rfl
  | cons s ss ih =>
    intro h
    rw [List.map_cons, readSteps, readStep_text (h s (by simp)), ih (fun x hx => h x (by simp [hx]))]
theorem readSteps_script {ss : List St} (h : ∀ s ∈ ss, StCan s) : readSteps (cut (scriptText ss)) = ss ∧ (cut (scriptText ss)).length = ss.length := by
  rw [cut_script ss (fun s hs => (h s hs).1)]
  exact ⟨readSteps_map ss h, by simp⟩
theorem stText_len {s : St} (h : StOk s) : (stText s).length ≤ 19 := by
  unfold stText
  rcases h with ⟨hk, hn⟩ | ⟨hk, _⟩
  · have h45 : ¬ s.kind = 45 := by rcases hk with h | h <;> rw [h] <;> decide
    rw [if_neg h45]
    have := nodeText_len hn.2.2.2.2
    simp; omega
  · rw [if_pos hk]
    have := digs_len s.node.id
    simp; omega
theorem script_len : ∀ (ss : List St), (∀ s ∈ ss, StOk s) → (scriptText ss).length ≤ 19 * ss.length := by
  intro ss
  induction ss with
  | nil => intro _; simp [scriptText]
  | cons s ss ih =>
    intro h
    have h1 := stText_len (h s (by simp))
    have h2 := ih (fun x hx => h x (by simp [hx]))
    unfold scriptText at h2 ⊢
    rw [List.flatMap_cons, List.length_append, List.length_cons]; omega
theorem make_len {a g : Tr} (ha : Valid a) (hg : Valid g) : (makeT a g).length ≤ 198 := by
  have h1 := seg_come (makeT_seg ha hg) hg.ok
  have h2 := toCome_le a g
  omega
theorem make_text_len {a g : Tr} (ha : Valid a) (hg : Valid g) : (scriptText (makeT a g)).length ≤ 4000 := by
  have h1 := make_len ha hg
  have h2 := script_len (makeT a g) (fun s hs => (seg_can (makeT_seg ha hg) hg.ok s hs).1)
  omega
/-- What Compile answers: the script and the error. -/
def compileE (f t : Str) : Int := if 4000 < f.length ∨ 4000 < t.length then 1 else if (checkT f).1 ≠ 0 then (checkT f).1 else (checkT t).1
def compileT (f t : Str) : Str := if compileE f t = 0 then scriptText (makeT (gather (readNodes (cut f))) (gather (readNodes (cut t)))) else []
theorem compileE_parts {f t : Str} (h : compileE f t = 0) : (checkT f).1 = 0 ∧ (checkT t).1 = 0 ∧ f.length ≤ 4000 ∧ t.length ≤ 4000 := by
  unfold compileE at h
  split at h
  · cases h
  · rename_i hl
    split at h
    · rename_i h2; exact absurd h h2
    · rename_i h2
      exact ⟨Classical.byContradiction h2, h, by omega, by omega⟩
/-- Apply does Compile's script. -/
theorem apply_compile {f t : Str} (h : compileE f t = 0) : applyT f (compileT f t) = (t, 0, 0) := by
  obtain ⟨h1, h2, h3, h4⟩ := compileE_parts h
  have ha := valid_of_check h1
  have hg := valid_of_check h2
  have hseg := makeT_seg ha hg
  have ec : compileT f t = scriptText (makeT (gather (readNodes (cut f))) (gather (readNodes (cut t)))) := by unfold compileT; rw [if_pos h]
  rw [ec]
  obtain ⟨e1, e2⟩ := readSteps_script (seg_can hseg hg.ok)
  have hl := make_text_len ha hg
  obtain ⟨d1, d2⟩ := seg_does hseg 0
  unfold applyT
  rw [if_neg (by omega), if_neg (by simpa using h1), e1, e2, if_neg (by omega), d1, if_neg (by simp), d2, text_check h2]
end Go.Proofs.YtdcjimlhaklhfaaDoor

namespace Go.Proofs.YtdcjimlhaklhfaaDoor
open Go.RowKit
/-! The steps home that are still to come, as a list. -/
structure LeftInv (left : List St) (a g : Tr) : Prop where
  ids : (left.map (·.node.id)).Nodup
  mem : ∀ s, s ∈ left ↔ (1 ≤ s.node.id ∧ s.node.id ≤ 99 ∧ homeS a g s.node.id = some s)
theorem left_ok {left : List St} {a g : Tr} (h : LeftInv left a g) (hg : TrOk g) : ∀ s ∈ left, StOk s := by
  intro s hs
  obtain ⟨h1, h2, h3⟩ := (h.mem s).1 hs
  exact (home_ok hg h1 h2 h3).1
theorem left_len {left : List St} {a g : Tr} (h : LeftInv left a g) : left.length ≤ 99 := by
  have := pigeon (left.map (·.node.id)) ((List.range' 1 99).map (fun i : Nat => (i : Int))) h.ids (fun x hx => by
    obtain ⟨s, hs, rfl⟩ := List.mem_map.1 hx
    obtain ⟨h1, h2, _⟩ := (h.mem s).1 hs
    refine List.mem_map.2 ⟨s.node.id.toNat, ?_, ?_⟩
    · rw [List.mem_range'_1]; omega
    · show ((s.node.id.toNat : Nat) : Int) = s.node.id; omega)
  simpa using this
theorem flat_ids {f : Nd → List St} (hf : ∀ n, ∀ s ∈ f n, s.node.id = n.id) (hl : ∀ n, (f n).length ≤ 1) : ∀ (l : List Nd), (l.map (·.id)).Nodup → ((l.flatMap f).map (·.node.id)).Nodup ∧ ∀ s ∈ l.flatMap f, ∃ n ∈ l, s ∈ f n := by
  intro l
  induction l with
  | nil => intro _; simp
  | cons n l ih =>
    intro h
    rw [List.map_cons, List.nodup_cons] at h
    obtain ⟨h1, h2⟩ := ih h.2
    refine ⟨?_, fun s hs => ?_⟩
    · rw [List.flatMap_cons, List.map_append, List.nodup_append]
      refine ⟨?_, h1, fun x hx y hy e => ?_⟩
      · have := hl n
        match hq : f n with
        | [] => simp
        | [s] => simp
        | s :: t :: r => rw [hq] at this; simp at this
      · obtain ⟨s, hs, rfl⟩ := List.mem_map.1 hx
        obtain ⟨t, ht, rfl⟩ := List.mem_map.1 hy
        obtain ⟨m, hm, htm⟩ := h2 t ht
        rw [hf n s hs, hf m t htm] at e
        exact h.1 (List.mem_map.2 ⟨m, hm, e.symm⟩)
    · rw [List.flatMap_cons] at hs
      rcases List.mem_append.1 hs with hs | hs
      · exact ⟨n, by simp, hs⟩
      · obtain ⟨m, hm, hsm⟩ := h2 s hs; exact ⟨m, by simp [hm], hsm⟩
theorem homeB_id (a : List Nd) (n : Nd) : ∀ s ∈ homeB a n, s.node.id = n.id := by
  intro s hs
  unfold homeB at hs
  split at hs
  · simp at hs; rw [hs]
  · split at hs
    · simp at hs
    · simp at hs; rw [hs]
theorem homeA_id (b : List Nd) (n : Nd) : ∀ s ∈ homeA b n, s.node.id = n.id := by
  intro s hs
  unfold homeA at hs
  split at hs
  · simp at hs; rw [hs]
  · simp at hs
theorem left_start {na nb : List Nd} {a g : Tr} (ra : Rep na a) (rg : Rep nb g) (ha : TrOk a) (hg : TrOk g) : LeftInv (homesR na nb) a g := by
  obtain ⟨b1, b2⟩ := flat_ids (homeB_id na) (homeB_len na) nb rg.ids
  obtain ⟨a1, a2⟩ := flat_ids (homeA_id nb) (homeA_len nb) na ra.ids
  have hmB : ∀ n, n ∈ nb → ∀ s, s ∈ homeB na n ↔ (s.kind ≠ 45 ∧ homeS a g n.id = some s) := by
    intro n hn s
    obtain ⟨i, hi⟩ := (rep_mem rg hg).1 hn
    have hid := hg.2 i n hi
    have hgn : g n.id.toNat = some n := by rw [show n.id.toNat = i by omega]; exact hi
    unfold homeB
    rw [rep_look ra ha]
    cases hq : a n.id.toNat with
    | none =>
      rw [home_new hq hgn]
      simp only [List.mem_singleton, Option.some.injEq]
      constructor
      · rintro rfl; exact ⟨by show (43 : UInt8) ≠ 45; decide, rfl⟩
      · rintro ⟨_, rfl⟩; rfl
    | some m =>
      simp only
      cases he : ndEq m n
      · rw [home_move hq hgn (fun e => by rw [ndEq_iff.2 e] at he; cases he), if_neg (by simp)]
        simp only [List.mem_singleton, Option.some.injEq]
        constructor
        · rintro rfl; exact ⟨by show (61 : UInt8) ≠ 45; decide, rfl⟩
        · rintro ⟨_, rfl⟩; rfl
      · rw [if_pos rfl, home_none.2 (by rw [hq, hgn, ndEq_iff.1 he])]
        simp
  have hmA : ∀ n, n ∈ na → ∀ s, s ∈ homeA nb n ↔ (s.kind = 45 ∧ homeS a g n.id = some s) := by
    intro n hn s
    obtain ⟨i, hi⟩ := (rep_mem ra ha).1 hn
    have hid := ha.2 i n hi
    have han : a n.id.toNat = some n := by rw [show n.id.toNat = i by omega]; exact hi
    unfold homeA
    rw [rep_look rg hg]
    cases hq : g n.id.toNat with
    | none =>
      rw [home_del han hq]
      simp only [List.mem_singleton, Option.some.injEq]
      constructor
      · rintro rfl; exact ⟨rfl, rfl⟩
      · rintro ⟨_, rfl⟩; rfl
    | some m =>
      simp only [List.not_mem_nil, false_iff]
      rintro ⟨hk, hs⟩
      rcases home_cases hs with ⟨_, h0, _⟩ | ⟨k, rfl, _⟩ | ⟨k, _, rfl, _⟩
      · rw [hq] at h0; cases h0
      · exact absurd hk (by show ¬ ((43 : UInt8) = 45); decide)
      · exact absurd hk (by show ¬ ((61 : UInt8) = 45); decide)
  refine ⟨?_, fun s => ?_⟩
  · unfold homesR
    rw [List.map_append, List.nodup_append]
    refine ⟨b1, a1, fun x hx y hy e => ?_⟩
    obtain ⟨s, hs, rfl⟩ := List.mem_map.1 hx
    obtain ⟨t, ht, rfl⟩ := List.mem_map.1 hy
    obtain ⟨n, hn, hsn⟩ := b2 s hs
    obtain ⟨m, hm, htm⟩ := a2 t ht
    have e1 := homeB_id na n s hsn
    have e2 := homeA_id nb m t htm
    obtain ⟨k1, k2⟩ := (hmB n hn s).1 hsn
    obtain ⟨k3, k4⟩ := (hmA m hm t).1 htm
    rw [show m.id = n.id by rw [← e1, ← e2, e], k2] at k4
    cases k4
    exact k1 k3
  · unfold homesR
    rw [List.mem_append]
    constructor
    · rintro (hs | hs)
      · obtain ⟨n, hn, hsn⟩ := b2 s hs
        have e1 := homeB_id na n s hsn
        have hb := rg.ok n hn
        rw [e1]
        exact ⟨hb.1, hb.2.1, ((hmB n hn s).1 hsn).2⟩
      · obtain ⟨n, hn, hsn⟩ := a2 s hs
        have e1 := homeA_id nb n s hsn
        have hb := ra.ok n hn
        rw [e1]
        exact ⟨hb.1, hb.2.1, ((hmA n hn s).1 hsn).2⟩
    · rintro ⟨h1, h2, h3⟩
      rcases home_cases h3 with ⟨e, hgn, m, hm⟩ | ⟨n, e, hgn, han⟩ | ⟨n, m, e, hgn, hm, _⟩
      · right
        have hmem : m ∈ na := (rep_mem ra ha).2 ⟨_, hm⟩
        have hid := (trOk_id ha (by omega) hm).1
        refine List.mem_flatMap.2 ⟨m, hmem, (hmA m hmem s).2 ⟨by rw [e], by rw [hid]; exact h3⟩⟩
      · left
        have hmem : n ∈ nb := (rep_mem rg hg).2 ⟨_, hgn⟩
        have hid := (trOk_id hg (by omega) hgn).1
        refine List.mem_flatMap.2 ⟨n, hmem, (hmB n hmem s).2 ⟨by rw [e]; show (43 : UInt8) ≠ 45; decide, by rw [hid]; exact h3⟩⟩
      · left
        have hmem : n ∈ nb := (rep_mem rg hg).2 ⟨_, hgn⟩
        have hid := (trOk_id hg (by omega) hgn).1
        refine List.mem_flatMap.2 ⟨n, hmem, (hmB n hmem s).2 ⟨by rw [e]; show (61 : UInt8) ≠ 45; decide, by rw [hid]; exact h3⟩⟩
theorem left_erase {left : List St} {a g : Tr} (h : LeftInv left a g) (hg : TrOk g) {k : Nat} (hk : k < left.length) (he : stepE a left[k] = 0) : LeftInv (left.eraseIdx k) (stepT a left[k]) g := by
  have hm : left[k] ∈ left := List.getElem_mem hk
  obtain ⟨h1, h2, h3⟩ := (h.mem _).1 hm
  have hd := home_done hg h1 h3 he
  have hids : ∀ i (hi : i < left.length), i ≠ k → (left[i]).node.id ≠ (left[k]).node.id := by
    intro i hi hne e
    have := (List.nodup_iff_pairwise_ne.1 h.ids)
    rw [List.pairwise_map] at this
    rcases Nat.lt_or_gt_of_ne hne with hlt | hlt
    · exact List.pairwise_iff_getElem.1 this i k hi hk hlt e
    · exact List.pairwise_iff_getElem.1 this k i hk hi hlt e.symm
  refine ⟨List.Nodup.sublist (List.Sublist.map _ (List.eraseIdx_sublist _ _)) h.ids, fun s => ?_⟩
  rw [List.mem_eraseIdx_iff_getElem]
  constructor
  · rintro ⟨i, hi, hne, rfl⟩
    obtain ⟨j1, j2, j3⟩ := (h.mem _).1 (List.getElem_mem hi)
    refine ⟨j1, j2, ?_⟩
    rw [← j3]
    refine home_congr ?_
    rw [hd, if_neg (by have := hids i hi hne; omega)]
  · rintro ⟨j1, j2, j3⟩
    have hne : s.node.id ≠ (left[k]).node.id := by
      intro e
      rw [e] at j3
      have : homeS (stepT a left[k]) g (left[k]).node.id = none := home_none.2 (by rw [hd, if_pos (by omega)])
      rw [this] at j3; cases j3
    have hs : s ∈ left := (h.mem s).2 ⟨j1, j2, by rw [← j3]; refine home_congr ?_; rw [hd, if_neg (by omega)]⟩
    obtain ⟨i, hi, e⟩ := List.mem_iff_getElem.1 hs
    refine ⟨i, hi, fun e2 => ?_, e⟩
    subst e2; rw [e] at hne; exact hne rfl
theorem left_park {left : List St} {a g : Tr} (h : LeftInv left a g) {id : Int} (h1 : 1 ≤ id) {n : Nd} (hs : homeS a g id = some ⟨61, n⟩) (he : stepE a (parkS id) = 0) (hnp : parkS id ∉ left) (h2 : id ≤ 99) (hg : TrOk g) : LeftInv left (stepT a (parkS id)) g := by
  have hd := park_done he
  have hn : g id.toNat = some n := by
    rcases home_cases hs with ⟨e, _⟩ | ⟨_, e, _⟩ | ⟨k, m, e, hk, _⟩
    · cases e
    · cases e
    · cases e; exact hk
  have hid := (trOk_id hg (by omega) hn).1
  have hne : parkN id ≠ n := by
    intro e
    apply hnp
    refine (h.mem _).2 ⟨h1, h2, ?_⟩
    show homeS a g id = some ⟨61, parkN id⟩
    rw [e]; exact hs
  have hsame : ∀ j, 1 ≤ j → homeS (stepT a (parkS id)) g j = homeS a g j := by
    intro j hj
    by_cases e : j = id
    · subst e
      rw [hs]
      exact home_move (m := parkN j) (by rw [hd, if_pos (by omega)]) hn hne
    · refine home_congr ?_
      rw [hd, if_neg (by omega)]
  refine ⟨h.ids, fun s => ?_⟩
  rw [h.mem s]
  constructor
  · rintro ⟨j1, j2, j3⟩; exact ⟨j1, j2, by rw [hsame _ j1]; exact j3⟩
  · rintro ⟨j1, j2, j3⟩; exact ⟨j1, j2, by rw [← hsame _ j1]; exact j3⟩
theorem left_end {left : List St} {g : Tr} (h : LeftInv left g g) : left = [] := by
  cases left with
  | nil => rfl
  | cons s l =>
    obtain ⟨_, _, h3⟩ := (h.mem s).1 (by simp)
    rw [home_none.2 rfl] at h3; cases h3
/-- A park is never a step home where nothing can be done. -/
theorem park_not_left {left : List St} {a g : Tr} (h : LeftInv left a g) (hst : Stuck a g) {id : Int} (he : stepE a (parkS id) = 0) : parkS id ∉ left := by
  intro hm
  obtain ⟨h1, h2, h3⟩ := (h.mem _).1 hm
  exact hst _ _ h1 h2 h3 he
end Go.Proofs.YtdcjimlhaklhfaaDoor

namespace Go.Proofs.YtdcjimlhaklhfaaDoor
open Go.RowKit
/-! Which step home waits for which. -/
def kidOfR (a : List Nd) (id p : Int) : Bool := match lookR a id with
  | none => false
  | some m => m.parent == p
def waitsR (a b : List Nd) (s o : St) : Bool :=
  if s.kind = 45 then o.kind != 43 && kidOfR a o.node.id s.node.id
  else if o.kind != 43 && takenR a s.node.parent s.node.name == o.node.id && takenR a s.node.parent s.node.name != s.node.id then true
  else if o.kind = 45 then false
  else if s.kind = 43 then o.kind == 43 && o.node.id == s.node.parent
  else belowR b s.node.id o.node.id
def FreeAt (a b : List Nd) (left : List St) (s : St) : Prop := ∀ o ∈ left, waitsR a b s o = false
inductive Elim (a b : List Nd) : List St → Prop
  | nil : Elim a b []
  | step {left : List St} {k : Nat} (hk : k < left.length) (hf : FreeAt a b left left[k]) (h : Elim a b (left.eraseIdx k)) : Elim a b left
theorem elim_pick {a b : List Nd} {L : List St} (h : Elim a b L) : ∀ (S : St → Prop), (∀ s, S s → s ∈ L) → (∃ s, S s) → ∃ s, S s ∧ ∀ o, S o → waitsR a b s o = false := by
  induction h with
  | nil => rintro S hs ⟨s, h⟩; have := hs s h; simp at this
  | @step left k hk hf _ ih =>
    intro S hs hne
    by_cases hin : S left[k]
    · exact ⟨_, hin, fun o ho => hf o (hs o ho)⟩
    · refine ih S (fun s h => ?_) hne
      obtain ⟨i, hi, e⟩ := List.mem_iff_getElem.1 (hs s h)
      rw [List.mem_eraseIdx_iff_getElem]
      refine ⟨i, hi, fun e2 => ?_, e⟩
      subst e2; rw [e] at hin; exact hin h
theorem taker_waits {na nb : List Nd} {a g t : Tr} (ra : Rep na a) (hva : Valid a) (hvt : Valid t) (hvg : Valid g) (hmid : ∀ i, t i = a i ∨ t i = g i) {s : St} (hk : s.kind ≠ 45) (hn : g s.node.id.toNat = some s.node) (h1 : 1 ≤ s.node.id) (h0 : atT t s.node.parent s.node.name ≠ 0) (hne : atT t s.node.parent s.node.name ≠ s.node.id) :
    ∃ o, 1 ≤ o.node.id ∧ o.node.id ≤ 99 ∧ homeS t g o.node.id = some o ∧ waitsR na nb s o = true := by
  obtain ⟨y1, y2, my, hmy, hp, hnm⟩ := atT_hit h0
  obtain ⟨o, ho, hk43, _⟩ := taker_away hvt hvg h1 hn h0 hne
  generalize hy : atT t s.node.parent s.node.name = y at *
  have hoi := (home_ok hvg.ok y1 y2 ho).2
  refine ⟨o, by rw [hoi]; exact y1, by rw [hoi]; exact y2, by rw [hoi]; exact ho, ?_⟩
  have hta : a y.toNat = some my := by
    rcases hmid y.toNat with e | e
    · rw [← e]; exact hmy
    · rw [home_none.2 e] at ho; cases ho
  have hat : atT a s.node.parent s.node.name = y := by
    by_cases hz : atT a s.node.parent s.node.name = 0
    · exact (atT_none hz y.toNat my (by omega) (by omega) hta hp hnm).elim
    · have := atT_some hva hz y.toNat my hta hp hnm
      rw [← this]; omega
  unfold waitsR
  rw [if_neg hk, taken_same ra hva, hat, hoi, if_pos]
  simp [hk43, hne]
theorem free_does {na nb : List Nd} {a g t : Tr} (ra : Rep na a) (rg : Rep nb g) (hva : Valid a) (hvt : Valid t) (hvg : Valid g) (hmid : ∀ i, t i = a i ∨ t i = g i) {s : St} (h1 : 1 ≤ s.node.id) (h2 : s.node.id ≤ 99) (hs : homeS t g s.node.id = some s)
    (hfree : ∀ o : St, 1 ≤ o.node.id → o.node.id ≤ 99 → homeS t g o.node.id = some o → waitsR na nb s o = false) : stepE t s = 0 := by
  rcases home_cases hs with ⟨e, hgn, m, hm⟩ | ⟨n, e, hgn, han⟩ | ⟨n, m, e, hgn, hm, hmn⟩
  · -- a deletion
    have hk : s.kind = 45 := by rw [e]
    have hkid : kidT t s.node.id = 0 := by
      apply Classical.byContradiction
      intro hne
      obtain ⟨k1, k2, mk, hmk, hpk⟩ := kidT_hit hne
      generalize kidT t s.node.id = k at *
      have haway : ∃ o, homeS t g k = some o ∧ o.kind ≠ 43 := by
        cases hgk : g k.toNat with
        | none => exact ⟨_, home_del hmk hgk, by show (45 : UInt8) ≠ 43; decide⟩
        | some nk =>
          refine ⟨_, home_move hmk hgk (fun e => ?_), by show (61 : UInt8) ≠ 43; decide⟩
          subst e
          have := hvg.parent _ mk hgk
          rw [hpk] at this
          rcases isParent_iff.1 this with h0 | ⟨_, x, hx⟩
          · omega
          · rw [hgn] at hx; cases hx
      obtain ⟨o, ho, ho43⟩ := haway
      have hoi := (home_ok hvg.ok k1 k2 ho).2
      have hta : a k.toNat = some mk := by
        rcases hmid k.toNat with e | e
        · rw [← e]; exact hmk
        · rw [home_none.2 e] at ho; cases ho
      have := hfree o (by rw [hoi]; exact k1) (by rw [hoi]; exact k2) (by rw [hoi]; exact ho)
      unfold waitsR kidOfR at this
      rw [if_pos hk, hoi, rep_look ra hva.ok, hta] at this
      simp [ho43, hpk] at this
    unfold stepE deleteE
    rw [if_neg (by rw [hk]; decide), if_neg (by rw [hk]; decide), if_pos hk, kids_kid, hkid, hasT_iff.2 ⟨m, hm⟩]; rfl
  · -- a creation
    have hk : s.kind = 43 := by rw [e]
    have hsn : s.node = n := by rw [e]
    have hgs : g s.node.id.toNat = some s.node := by rw [hgn, hsn]
    have hpar : isParentT t s.node.parent = true := by
      cases hp : isParentT t s.node.parent
      · exfalso
        obtain ⟨p1, p2, k, hk2, hh⟩ := parent_away hvg h1 hgs hp
        have hki := (trOk_id hvg.ok (by omega) hk2).1
        have := hfree ⟨43, k⟩ (by show 1 ≤ k.id; omega) (by show k.id ≤ 99; omega) (by show homeS t g k.id = _; rw [hki]; exact hh)
        unfold waitsR at this
        rw [if_neg (by rw [hk]; decide)] at this
        simp [hk, hki] at this
      · rfl
    have hat : atT t s.node.parent s.node.name = 0 := by
      apply Classical.byContradiction
      intro hne
      obtain ⟨_, _, my, hmy, _⟩ := atT_hit hne
      obtain ⟨o, o1, o2, o3, o4⟩ := taker_waits (nb := nb) ra hva hvt hvg hmid (by rw [hk]; decide) hgs h1 hne (fun e2 => by rw [e2, han] at hmy; cases hmy)
      rw [hfree o o1 o2 o3] at o4; cases o4
    unfold stepE createE
    rw [if_pos hk, hpar, hat]
    have : hasT t s.node.id = false := by unfold hasT; rw [han]; rfl
    rw [this]; rfl
  · -- a move
    have hk : s.kind = 61 := by rw [e]
    have hsn : s.node = n := by rw [e]
    have hgs : g s.node.id.toNat = some s.node := by rw [hgn, hsn]
    have hidb := trOk_id hvg.ok (by omega) hgs
    -- all above it in the second tree are home
    have habove : ∀ p : Int, 0 ≤ p → Goes g s.node.parent p → ∀ k, g p.toNat = some k → t p.toNat = some k := by
      intro p hp0 hgo k hgk
      have hpb := trOk_id hvg.ok hp0 hgk
      cases hq : homeS t g p with
      | none => rw [home_none.1 hq]; exact hgk
      | some o =>
        exfalso
        have hoi := (home_ok hvg.ok hpb.2.1 hpb.2.2.1 hq).2
        have hw := hfree o (by rw [hoi]; exact hpb.2.1) (by rw [hoi]; exact hpb.2.2.1) (by rw [hoi]; exact hq)
        have ho45 : ¬ o.kind = 45 := by
          rcases home_cases hq with ⟨_, h0, _⟩ | ⟨_, rfl, _⟩ | ⟨_, _, rfl, _⟩
          · rw [hgk] at h0; cases h0
          · show ¬ ((43 : UInt8) = 45); decide
          · show ¬ ((61 : UInt8) = 45); decide
        have hne : s.node.id ≠ p := fun e2 => no_loop hvg h1 hgs (by rw [e2]; exact hgo)
        have hbel : belowR nb s.node.id p = true := by
          have h3 := meets_same rg hvg.ok s.node.id p
          rw [(goes_meets hvg.ok).2 (goes_up hgs hgo)] at h3
          simpa [hne] using h3
        unfold waitsR at hw
        rw [if_neg (by rw [hk]; decide)] at hw
        split at hw
        · cases hw
        · rw [if_neg (by rw [hk]; decide), hoi, hbel] at hw; cases hw
    have hpar : isParentT t s.node.parent = true := by
      rcases isParent_iff.1 (hvg.parent _ _ hgs) with h0 | ⟨he, k, hk2⟩
      · exact isParent_iff.2 (.inl h0)
      · exact isParent_iff.2 (.inr ⟨he, k, habove _ hidb.2.2.2.2.2.1 (goes_here g _) k hk2⟩)
    have hme : meetsT t s.node.parent s.node.id = false := by
      have key : ∀ f p, 0 ≤ p → Goes g s.node.parent p → isParentT g p = true → meetsF t f p s.node.id = true → Goes g p s.node.id := by
        intro f
        induction f with
        | zero => intro p _ _ _ h; cases h
        | succ f ih =>
          intro p hp0 hgo hpp h
          by_cases e2 : p = s.node.id
          · rw [e2]; exact goes_here g _
          · rcases isParent_iff.1 hpp with h0 | ⟨_, k, hk2⟩
            · rw [h0, meetsF, if_neg (by omega)] at h
              simp only [Int.toNat_zero] at h
              rw [hvt.ok.1] at h; cases h
            · have htk := habove p hp0 hgo k hk2
              rw [meets_succ e2 htk] at h
              have hkb := trOk_id hvg.ok hp0 hk2
              have hgo2 : Goes g s.node.parent k.parent := by
                obtain ⟨f0, hf0⟩ := hgo
                have tr : ∀ f x, meetsF g f x p = true → Goes g x k.parent := by
                  intro f
                  induction f with
                  | zero => intro x h; cases h
                  | succ f ih2 =>
                    intro x hx
                    by_cases e3 : x = p
                    · rw [e3]; exact goes_up hk2 (goes_here g _)
                    · cases hxx : g x.toNat with
                      | none => rw [meetsF, if_neg e3, hxx] at hx; cases hx
                      | some y => rw [meets_succ e3 hxx] at hx; exact goes_up hxx (ih2 _ hx)
                exact tr f0 _ hf0
              exact goes_up hk2 (ih k.parent hkb.2.2.2.2.2.1 hgo2 (hvg.parent _ k hk2) h)
      cases hq : meetsT t s.node.parent s.node.id
      · rfl
      · exact absurd (key 100 _ hidb.2.2.2.2.2.1 (goes_here g _) (hvg.parent _ _ hgs) hq) (no_loop hvg h1 hgs)
    have hat : (atT t s.node.parent s.node.name != 0 && atT t s.node.parent s.node.name != s.node.id) = false := by
      cases hq : (atT t s.node.parent s.node.name != 0 && atT t s.node.parent s.node.name != s.node.id)
      · rfl
      · exfalso
        rw [Bool.and_eq_true, bne_iff_ne, bne_iff_ne] at hq
        obtain ⟨o, o1, o2, o3, o4⟩ := taker_waits (nb := nb) ra hva hvt hvg hmid (by rw [hk]; decide) hgs h1 hq.1 hq.2
        rw [hfree o o1 o2 o3] at o4; cases o4
    unfold stepE moveE
    rw [if_neg (by rw [hk]; decide), if_pos hk, hpar, hme, hat, hasT_iff.2 ⟨m, hm⟩]; rfl
theorem seg_nopark {na nb : List Nd} {a g : Tr} (ra : Rep na a) (rg : Rep nb g) (hva : Valid a) (hvg : Valid g) (hel : Elim na nb (homesR na nb)) {t b : Tr} {ss : List St} (h : Seg g t ss b) :
    Valid t → (∀ i, t i = a i ∨ t i = g i) → b = g → ∀ left, LeftInv left t g → ss.length = left.length := by
  induction h with
  | nil t =>
    intro _ _ hb left hl
    subst hb
    rw [left_end hl]
  | @home t b i s ss h1 h2 hs he _ ih =>
    intro hvt hmid hb left hl
    have hoi := (home_ok hvg.ok h1 h2 hs).2
    have hm : s ∈ left := (hl.mem s).2 ⟨by rw [hoi]; exact h1, by rw [hoi]; exact h2, by rw [hoi]; exact hs⟩
    obtain ⟨k, hk, e⟩ := List.mem_iff_getElem.1 hm
    have hd := home_done hvg.ok h1 hs he
    have := ih (valid_step hvt (home_ok hvg.ok h1 h2 hs).1) (fun j => by
      rw [hd]
      by_cases e2 : (j : Int) = i
      · rw [if_pos e2]; exact .inr rfl
      · rw [if_neg e2]; exact hmid j) hb (left.eraseIdx k) (by have := left_erase hl hvg.ok hk (by rw [e]; exact he); rwa [e] at this)
    rw [List.length_eraseIdx_of_lt hk] at this
    rw [List.length_cons]; omega
  | @park t b i n ss h1 h2 hno hs hp he _ ih =>
    intro hvt hmid hb left hl
    exfalso
    have hstart := left_start ra rg hva.ok hvg.ok
    obtain ⟨s, ⟨s1, s2, s3⟩, hfree⟩ := elim_pick hel (fun s => 1 ≤ s.node.id ∧ s.node.id ≤ 99 ∧ homeS t g s.node.id = some s) (fun s ⟨s1, s2, s3⟩ => by
      refine (hstart.mem s).2 ⟨s1, s2, ?_⟩
      rcases hmid s.node.id.toNat with e | e
      · rw [← s3]; exact (home_congr e).symm
      · rw [home_none.2 e] at s3; cases s3) ⟨⟨61, n⟩, by
        have hoi := (home_ok hvg.ok h1 h2 hs).2
        exact ⟨by rw [hoi]; exact h1, by rw [hoi]; exact h2, by rw [hoi]; exact hs⟩⟩
    exact hno s.node.id s s1 s2 s3 (free_does ra rg hva hvt hvg hmid s1 s2 s3 (fun o o1 o2 o3 => hfree o ⟨o1, o2, o3⟩))
theorem make_nopark {na nb : List Nd} {a g : Tr} (ra : Rep na a) (rg : Rep nb g) (hva : Valid a) (hvg : Valid g) (hel : Elim na nb (homesR na nb)) : (makeT a g).length = (homesR na nb).length :=
  seg_nopark ra rg hva hvg hel (makeT_seg hva hvg) hva (fun _ => .inl rfl) rfl _ (left_start ra rg hva.ok hvg.ok)
end Go.Proofs.YtdcjimlhaklhfaaDoor

namespace Go.Proofs.YtdcjimlhaklhfaaDoor
open Go.RowKit
theorem kind_eq (k : UInt8) (n : Nat) (hn : n < 256) : (((k.toNat : Int) == (n : Int)) = (k == UInt8.ofNat n)) := by
  rw [Bool.eq_iff_iff, beq_iff_eq, beq_iff_eq]
  constructor
  · intro h; exact UInt8.toNat_inj.1 (by rw [UInt8.toNat_ofNat_of_lt' (by simpa using hn)]; omega)
  · intro h; rw [h, UInt8.toNat_ofNat_of_lt' (by simpa using hn)]
theorem kind_43 (k : UInt8) : ((k.toNat : Int) == 43) = (k == 43) := kind_eq k 43 (by omega)
theorem kind_45 (k : UInt8) : ((k.toNat : Int) == 45) = (k == 45) := kind_eq k 45 (by omega)
theorem kind_43n (k : UInt8) : ((k.toNat : Int) != 43) = (k != 43) := by show (!((k.toNat : Int) == 43)) = !(k == 43); rw [kind_43]
theorem waits_1 {a b : List Nd} {s o : St} (h : s.kind = 45) : waitsR a b s o = (o.kind != 43 && kidOfR a o.node.id s.node.id) := by unfold waitsR; rw [if_pos h]
set_option maxHeartbeats 4000000 in
set_option maxRecDepth 100000 in
theorem waits_del (na nb : List Nd) (x y : Nd) (ok : UInt8) (ao bo : Option Addr) (ca cb : Nat) (w : World) (ha : Row w ao na.length 3 (ndCells na)) (hla : na.length ≤ 4000) :
    Calls Tryd.prog 69 #[.slice ao na.length ca, .slice bo nb.length cb, .agg #[.int .u8 45, .int .i64 x.id, .int .i64 x.parent, .string (bs x.name)], .agg #[.int .u8 ok.toNat, .int .i64 y.id, .int .i64 y.parent, .string (bs y.name)]] w fun e w' => e = .returned (.bool (waitsR na nb ⟨45, x⟩ ⟨ok, y⟩)) ∧ Below w.heap.size w w' := by
  rw [waits_1 rfl]
  have hb1 := ((Below.refl w.heap.size w).alloc (Nat.le_refl _) (.cells #[.int .u8 45, .int .i64 x.id, .int .i64 x.parent, .string (bs x.name)] 115))
  have hb2 := hb1.alloc hb1.size (.cells #[.int .u8 ok.toNat, .int .i64 y.id, .int .i64 y.parent, .string (bs y.name)] 115)
  have hb3 := hb2.alloc hb2.size (.cells #[.int .i64 x.id, .int .i64 x.parent, .string (bs x.name)] 110)
  have hrow3 := Row.below ha hb3
  have HF := hide (find_any na y.id ao ca _ hrow3 hla)
  have hkn := kind_43n ok
  have HB := hide hb3
  have HR := hide ha
  show Calls _ _ _ w fun e w' => e = .returned (.bool (ok != 43 && kidOfR na y.id x.id)) ∧ Below w.heap.size w w'
  unfold kidOfR
  by_cases hf : findN na y.id < na.length
  · obtain ⟨q1, q2⟩ := lookR_some hf
    obtain ⟨g, hao, hg, c0, c1, c2⟩ := nd_cells ha (Below.refl _ _) hf
    have hg3 : g < w.heap.size := hg
    rw [q1]
    simp only
    rw [q2] at HF
    rw [hao] at HF ⊢
    have hfn0 : (0 : Int) ≤ findN na y.id := by omega
    have hfn1 : (findN na y.id : Int) < na.length := by omega
    have hn1 : ¬ g = w.heap.size := by omega
    have hn2 : ¬ g = w.heap.size + 1 := by omega
    have hn3 : ¬ g = w.heap.size + 1 + 1 := by omega
    have hn4 : g < w.heap.size + 1 := by omega
    have hn5 : g < w.heap.size + 1 + 1 := by omega
    clear hb1 hb2 hb3 hrow3 ha q1 q2 hao
    generalize na[findN na y.id] = m at *
    generalize findN na y.id = fn at *
    cases hq : (ok != 43)
    · rw [hq] at hkn
      go_enter Tryd.func69, Tryd.ntmps69
      go_wp2_with fail
      refine (unhide HF).mono ?_
      rintro e w1 ⟨rfl, rfl⟩
      go_wp2
      go_quiet (fail)
      go_wp2
      go_ret
      exact ⟨rfl, below_drewN (unhide HB) _⟩
    · rw [hq] at hkn
      go_enter Tryd.func69, Tryd.ntmps69
      go_wp2_with fail
      refine (unhide HF).mono ?_
      rintro e w1 ⟨rfl, rfl⟩
      go_wp2
      go_quiet (fail)
      go_wp2
      go_ret
      exact ⟨by first | rfl | (rw [Bool.true_and]), below_drewN (unhide HB) _⟩
  · obtain ⟨q1, q2⟩ := lookR_none hf
    rw [q1]
    simp only [Bool.and_false]
    rw [q2] at HF
    clear hb1 hb2 hb3 hrow3 ha q1 q2
    cases hq : (ok != 43)
    all_goals
      rw [hq] at hkn
      go_enter Tryd.func69, Tryd.ntmps69
      go_wp2_with fail
      refine (unhide HF).mono ?_
      rintro e w1 ⟨rfl, rfl⟩
      go_wp2
      go_quiet (fail)
      go_wp2
      go_ret
      exact ⟨rfl, below_drewN (unhide HB) _⟩
end Go.Proofs.YtdcjimlhaklhfaaDoor

namespace Go.Proofs.YtdcjimlhaklhfaaDoor
open Go.RowKit
theorem waits_2 {a b : List Nd} {s o : St} (h : s.kind ≠ 45) : waitsR a b s o =
    (if (o.kind != 43 && takenR a s.node.parent s.node.name == o.node.id && takenR a s.node.parent s.node.name != s.node.id) then true else if (o.kind == 45) then false else if (s.kind == 43) then (!(o.kind != 43) && o.node.id == s.node.parent) else belowR b s.node.id o.node.id) := by
  unfold waitsR
  rw [if_neg h]
  by_cases hA : (o.kind != 43 && takenR a s.node.parent s.node.name == o.node.id && takenR a s.node.parent s.node.name != s.node.id) = true
  · rw [if_pos hA, if_pos hA]
  · rw [if_neg hA, if_neg hA]
    by_cases h45 : o.kind = 45
    · simp [h45]
    · by_cases h43 : s.kind = 43
      · simp [h45, h43, bne]
      · simp [h45, h43]
set_option maxHeartbeats 8000000 in
set_option maxRecDepth 100000 in
theorem waits_put (na nb : List Nd) (x y : Nd) (sk ok : UInt8) (hsk : sk = 43 ∨ sk = 61) (ao bo : Option Addr) (ca cb : Nat) (w : World) (ha : Row w ao na.length 3 (ndCells na)) (hla : na.length ≤ 4000) (hb : Row w bo nb.length 3 (ndCells nb)) (hlb : nb.length ≤ 4000) :
    Calls Tryd.prog 69 #[.slice ao na.length ca, .slice bo nb.length cb, .agg #[.int .u8 sk.toNat, .int .i64 x.id, .int .i64 x.parent, .string (bs x.name)], .agg #[.int .u8 ok.toNat, .int .i64 y.id, .int .i64 y.parent, .string (bs y.name)]] w fun e w' => e = .returned (.bool (waitsR na nb ⟨sk, x⟩ ⟨ok, y⟩)) ∧ Below w.heap.size w w' := by
  have HW := hide (waits_2 (a := na) (b := nb) (s := ⟨sk, x⟩) (o := ⟨ok, y⟩) (show sk ≠ 45 by rcases hsk with h | h <;> rw [h] <;> decide))
  have hb1 := ((Below.refl w.heap.size w).alloc (Nat.le_refl _) (.cells #[.int .u8 sk.toNat, .int .i64 x.id, .int .i64 x.parent, .string (bs x.name)] 115))
  have hb2 := hb1.alloc hb1.size (.cells #[.int .u8 ok.toNat, .int .i64 y.id, .int .i64 y.parent, .string (bs y.name)] 115)
  have hb3 := hb2.alloc hb2.size (.cells #[.int .i64 x.id, .int .i64 x.parent, .string (bs x.name)] 110)
  have HT := hide (taken_any na x.parent x.name ao ca _ (Row.below ha hb3) hla)
  have HBE := hide (below_any nb x.id y.id bo cb _ (Row.below hb hb3) hlb)
  have hk1 := kind_43n ok
  have hk2 := kind_45 ok
  have hk3 : ((ok.toNat : Int) == 43) = !(ok != 43) := by rw [kind_43]; cases h : (ok == 43) <;> simp [bne, h]
  have HB := hide hb3
  clear hb1 hb2 hb3 ha hb
  generalize waitsR na nb ⟨sk, x⟩ ⟨ok, y⟩ = R at *
  simp only at HW
  generalize takenR na x.parent x.name = T at *
  generalize belowR nb x.id y.id = D at *
  generalize hq1 : (ok != 43) = b1 at *
  generalize hq2 : (T == y.id) = b2 at *
  generalize hq3 : (T != x.id) = b3 at *
  generalize hq4 : (ok == 45) = b4 at *
  generalize hq5 : (y.id == x.parent) = b5 at *
  clear hq1 hq4
  rcases hsk with rfl | rfl
  all_goals
    rcases b1 <;> rcases b2 <;> rcases b3 <;> rcases b4
    all_goals
      simp at HW
      go_enter Tryd.func69, Tryd.ntmps69
      go_wp2_with fail
      refine (unhide HT).mono ?_
      rintro e w1 ⟨rfl, rfl⟩
      go_wp2_with (first | (go_at_call 83; refine (unhide HBE).mono ?_; rintro e w2 ⟨rfl, rfl⟩) | go_in)
      go_ret
      exact ⟨ret_bool (by rw [unhide HW]), unhide HB⟩
theorem waits_any (na nb : List Nd) (s o : St) (hs : StOk s) (ao bo : Option Addr) (ca cb : Nat) (w : World) (ha : Row w ao na.length 3 (ndCells na)) (hla : na.length ≤ 4000) (hb : Row w bo nb.length 3 (ndCells nb)) (hlb : nb.length ≤ 4000) :
    Calls Tryd.prog 69 #[.slice ao na.length ca, .slice bo nb.length cb, .agg #[.int .u8 s.kind.toNat, .int .i64 s.node.id, .int .i64 s.node.parent, .string (bs s.node.name)], .agg #[.int .u8 o.kind.toNat, .int .i64 o.node.id, .int .i64 o.node.parent, .string (bs o.node.name)]] w fun e w' => e = .returned (.bool (waitsR na nb s o)) ∧ Below w.heap.size w w' := by
  obtain ⟨sk, x⟩ := s
  obtain ⟨ok, y⟩ := o
  rcases hs with ⟨h, _⟩ | ⟨h, _⟩
  · exact waits_put na nb x y sk ok h ao bo ca cb w ha hla hb hlb
  · simp only at h
    subst h
    exact waits_del na nb x y ok ao bo ca cb w ha hla
end Go.Proofs.YtdcjimlhaklhfaaDoor
