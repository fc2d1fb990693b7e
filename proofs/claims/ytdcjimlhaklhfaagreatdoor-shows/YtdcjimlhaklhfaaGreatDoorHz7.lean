import Derived.Test.YtdcjimlhaklhfaaGreatDoorHz6
import Derived.Test.YtdcjimlhaklhfaaGreatDoorHz5
import Derived.Test.YtdcjimlhaklhfaaGreatDoorHz4
namespace Go.Proofs.YtdcjimlhaklhfaaGreatDoor
open Go.RowKit
attribute [local go_sem ↓] Go.wp_at_zero Go.wp_at_succ
theorem digits_digs (n : Int) (w : World) (h0 : 0 ≤ n) (h1 : n ≤ 99) :
    Calls Tryz.prog 30 #[.int .i64 n] w fun e w' => e = .returned (.string (bs (digs n))) ∧ Below w.heap.size w w' := by
  have e : dec n.toNat = digs n := by rw [← digs_dec n.toNat (by omega), Int.toNat_of_nonneg h0]
  rw [← e]; exact digits_any n w h0 (by omega)
abbrev trOf (ns : List Nd) : Tr := fun i => lookR ns (i : Int)
theorem textAt_some {t : Tr} {i : Nat} {n : Nd} (h : t i = some n) (hid : n.id = (i : Int)) : textAt t i = digs (i : Int) ++ [32] ++ digs n.parent ++ [32] ++ n.name ++ [59] := by
  unfold textAt; rw [h]; show nodeText n = _; unfold nodeText; rw [hid]
theorem textAt_none {t : Tr} {i : Nat} (h : t i = none) : textAt t i = [] := by unfold textAt; rw [h]
theorem kept2 {W0 W w1 : World} {g : Nat} {o1 o2 : Nat} {a b : Value} (hg : g < W0.heap.size) (hb : Below W.heap.size W w1) (h : W.cell? ⟨g, o1, none⟩ = some a ∧ W.cell? ⟨g, o2, none⟩ = some b ∧ Below W0.heap.size W0 W) : w1.cell? ⟨g, o1, none⟩ = some a ∧ w1.cell? ⟨g, o2, none⟩ = some b ∧ Below W0.heap.size W0 w1 := by
  have hlt : g < W.heap.size := by have := h.2.2.size; omega
  exact ⟨by rw [hb.cell (p := ⟨g, o1, none⟩) hlt]; exact h.1, by rw [hb.cell (p := ⟨g, o2, none⟩) hlt]; exact h.2.1, h.2.2.trans (hb.mono h.2.2.size)⟩
set_option maxHeartbeats 4000000 in
set_option maxRecDepth 100000 in
theorem print_any (ns : List Nd) (ao : Option Addr) (cap : Nat) (w : World) (hrow : Row w ao ns.length 3 (ndCells ns)) (hl : ns.length ≤ 4000) (ht : TrOk (trOf ns)) :
    Calls Tryz.prog 39 #[.slice ao ns.length cap] w fun e w' => e = .returned (.string (bs (textT (trOf ns)))) ∧ Below w.heap.size w w' := by
  have HROW := hide hrow; clear hrow
  have HT := hide ht; clear ht
  have HTT : Hid (textT (trOf ns) = textTo (trOf ns) 99) := hide rfl
  go_enter Tryz.func39, Tryz.ntmps39
  go_wp2
  go_loopw [3, 4] (fun s i wr => ∃ k : Nat, k ≤ 99 ∧ s = .string (bs (textTo (trOf ns) k)) ∧ i = .int .i64 ((k : Int) + 1) ∧ Below w.heap.size w wr) (fun _ i _ => 100 - (intOf i).toNat)
  case atStart => exact ⟨0, Nat.zero_le _, rfl, rfl, Below.refl _ _⟩
  case round =>
    obtain ⟨k, hk, rfl, rfl, hbel⟩ := hrel
    have hsl := textTo_len (unhide HT) k
    have HSU := hide (textTo_succ (trOf ns) k)
    by_cases hlt : k < 99
    · have HF := hide (find_any ns ((k : Int) + 1) ao cap wr ((unhide HROW).below hbel) hl)
      by_cases hf : findN ns ((k : Int) + 1) < ns.length
      · obtain ⟨q1, q2⟩ := lookR_some hf
        obtain ⟨g, hao, hg, _, c1, c2⟩ := nd_cells (unhide HROW) hbel hf
        rw [q2] at HF
        rw [hao] at HF ⊢
        have hidn := (lookR_mem q1).2
        have q1' : trOf ns (k + 1) = some (ns[findN ns ((k : Int) + 1)]) := by
          show lookR ns ((k + 1 : Nat) : Int) = _
          rw [show ((k + 1 : Nat) : Int) = (k : Int) + 1 by omega]; exact q1
        have hok := (unhide HT).2 _ _ q1'
        have HTX := hide (textAt_some q1' (by rw [hidn]; omega))
        clear q1 q2 q1' hao hidn
        generalize hfn : findN ns ((k : Int) + 1) = fn at *
        clear hfn
        have hfn0 : (0 : Int) ≤ fn := by omega
        have hfn1 : (fn : Int) < ns.length := by omega
        generalize ns[fn] = nd at *
        obtain ⟨_, _, _, hp0, hp1, hnm⟩ := hok
        have hnl := name_len hnm
        clear hnm
        have l1 := digs_len ((k : Int) + 1)
        have l2 := digs_len nd.parent
        have HNEW : Hid (textTo (trOf ns) (k + 1) = textTo (trOf ns) k ++ digs ((k : Int) + 1) ++ [32] ++ digs nd.parent ++ [32] ++ nd.name ++ [59]) := by
          apply hide
          rw [unhide HSU, unhide HTX, show ((k + 1 : Nat) : Int) = (k : Int) + 1 by omega]
          simp only [List.append_assoc]
        clear HSU HTX
        generalize textTo (trOf ns) k = S at *
        generalize ha : digs ((k : Int) + 1) = a at *
        generalize hb : digs nd.parent = b at *
        have a0 := add_bs S a (by omega) (by omega)
        have a1 := add_32 (S ++ a) (by simp; omega)
        have a2 := add_bs (S ++ a ++ [32]) b (by simp; omega) (by omega)
        have a3 := add_32 (S ++ a ++ [32] ++ b) (by simp; omega)
        have a4 := add_bs (S ++ a ++ [32] ++ b ++ [32]) nd.name (by simp; omega) (by omega)
        have a5 := add_59 (S ++ a ++ [32] ++ b ++ [32] ++ nd.name) (by simp; omega)
        generalize S ++ a ++ [32] ++ b ++ [32] ++ nd.name ++ [59] = r6 at *
        generalize S ++ a ++ [32] ++ b ++ [32] ++ nd.name = r5 at *
        generalize S ++ a ++ [32] ++ b ++ [32] = r4 at *
        generalize S ++ a ++ [32] ++ b = r3 at *
        generalize S ++ a ++ [32] = r2 at *
        generalize S ++ a = r1 at *
        have HS0 := hide (show wr.drew.cell? ⟨g, fn * 3 + 1, none⟩ = some (.int .i64 nd.parent) ∧ wr.drew.cell? ⟨g, fn * 3 + 2, none⟩ = some (.string (bs nd.name)) ∧ Below w.heap.size w wr.drew from ⟨c1, c2, hbel.drew⟩)
        clear c1 c2
        go_wp2_with fail
        refine (unhide HF).mono ?_
        rintro e w' ⟨rfl, rfl⟩
        go_wp2
        go_region_held3 (fun W => W.cell? ⟨g, fn * 3 + 1, none⟩ = some (.int .i64 nd.parent) ∧ W.cell? ⟨g, fn * 3 + 2, none⟩ = some (.string (bs nd.name)) ∧ Below w.heap.size w W) (first | exact unhide HS0 | assumption) ((go_at_call 30; refine (digits_digs _ _ (by omega) (by omega)).mono ?_; rintro e w1 ⟨rfl, hb1⟩; have hs1 := kept2 hg hb1 (by first | assumption | exact unhide HS0); have hbx := hs1.2.2))
        all_goals
          go_wp2
          go_roundw
          case rel => exact ⟨k + 1, by omega, by rw [unhide HNEW], by go_num, hs1.2.2⟩
          case measure => simp [intOf]; omega
      · obtain ⟨q1, q2⟩ := lookR_none hf
        have q1' : trOf ns (k + 1) = none := by
          show lookR ns ((k + 1 : Nat) : Int) = _
          rw [show ((k + 1 : Nat) : Int) = (k : Int) + 1 by omega]; exact q1
        have HNEW : Hid (textTo (trOf ns) (k + 1) = textTo (trOf ns) k) := by apply hide; rw [unhide HSU, textAt_none q1']; simp
        rw [q2] at HF
        clear q1 q2 hf q1'
        go_wp2_with fail
        refine (unhide HF).mono ?_
        rintro e w' ⟨rfl, rfl⟩
        go_wp2
        go_roundw
        case rel => exact ⟨k + 1, by omega, by rw [unhide HNEW], by go_num, hbel⟩
        case measure => simp [intOf]; omega
    · have hk9 : k = 99 := by omega
      subst hk9
      go_wp2
      go_ret
      exact ⟨ret_str (by rw [unhide HTT]), hbel⟩
end Go.Proofs.YtdcjimlhaklhfaaGreatDoor

namespace Go.Proofs.YtdcjimlhaklhfaaGreatDoor
open Go.RowKit
theorem findR_bd' (ns : List Nd) (id : Int) : decide (0 ≤ findR ns id) = (lookR ns id).isSome := by
  unfold findR lookR
  split
  · rw [decide_eq_true (by omega)]; rfl
  · rw [decide_eq_false (by omega)]; rfl
/-- A list of nodes that holds a tree. -/
structure Rep (ns : List Nd) (t : Tr) : Prop where
  uniq : Unique ns
  ids : (ns.map (·.id)).Nodup
  ok : ∀ n ∈ ns, NdOk n
  look : ∀ i : Nat, lookR ns (i : Int) = t i
theorem rep_len {ns : List Nd} {t : Tr} (h : Rep ns t) : ns.length ≤ 99 := by
  have := pigeon (ns.map (·.id)) ((List.range' 1 99).map (fun i : Nat => (i : Int))) h.ids (fun x hx => by
    obtain ⟨n, hn, rfl⟩ := List.mem_map.1 hx
    have hb := h.ok n hn
    refine List.mem_map.2 ⟨n.id.toNat, ?_, ?_⟩
    · rw [List.mem_range'_1]; have := hb.1; have := hb.2.1; omega
    · have := hb.1; show ((n.id.toNat : Nat) : Int) = n.id; omega)
  simpa using this
theorem rep_look {ns : List Nd} {t : Tr} (h : Rep ns t) (ht : TrOk t) (x : Int) : lookR ns x = t x.toNat := by
  by_cases hx : 0 ≤ x
  · have := h.look x.toNat
    rwa [Int.toNat_of_nonneg hx] at this
  · rw [show x.toNat = 0 by omega, ht.1]
    cases hl : lookR ns x with
    | none => rfl
    | some n =>
      obtain ⟨h1, h2⟩ := lookR_mem hl
      have := (h.ok n h1).1
      omega
theorem rep_mem {ns : List Nd} {t : Tr} (h : Rep ns t) (ht : TrOk t) {n : Nd} : n ∈ ns ↔ ∃ i, t i = some n := by
  constructor
  · intro hn
    refine ⟨n.id.toNat, ?_⟩
    rw [← rep_look h ht]; exact lookR_of h.uniq hn
  · rintro ⟨i, hi⟩
    rw [← h.look i] at hi
    exact (lookR_mem hi).1
theorem findR_has {ns : List Nd} {t : Tr} (h : Rep ns t) (ht : TrOk t) (id : Int) : decide (0 ≤ findR ns id) = hasT t id := by
  unfold hasT
  rw [← rep_look h ht, (findR_bd' ns id)]
theorem folder_same {ns : List Nd} {t : Tr} (h : Rep ns t) (ht : TrOk t) (p : Int) : folderR ns p = isParentT t p := by
  unfold folderR isParentT hasT
  rw [rep_look h ht]
theorem meets_same {ns : List Nd} {t : Tr} (h : Rep ns t) (ht : TrOk t) (p id : Int) : (p == id || belowR ns p id) = meetsT t p id := by
  have hfun : (fun x : Int => t x.toNat) = lookR ns := funext fun x => (rep_look h ht x).symm
  unfold meetsT belowR
  rw [meets_below, hfun, below_same (ns := ns) (look := lookR ns) (fun x n h => lookR_mem h) (rep_len h) (show ns.length ≤ ns.length + 1 by omega) p]
  congr 1
theorem kids_same {ns : List Nd} {t : Tr} (h : Rep ns t) (ht : TrOk t) (id : Int) : kidsR ns id = kidsT t id := by
  unfold kidsR kidsT
  rcases scan_cases (kidAt ns id) 0 ns.length with ⟨a1, _, a3, _⟩ | ⟨a1, a2⟩
  · rw [decide_eq_true a1]
    generalize scan (kidAt ns id) 0 ns.length = k at *
    obtain ⟨i, hi⟩ := (rep_mem h ht).1 (ndAt_mem a1)
    have hb := ht.2 i _ hi
    rcases scan_cases (kidIs t id) 1 100 with ⟨b1, _⟩ | ⟨_, b2⟩
    · rw [decide_eq_true b1]
    · have := b2 i hb.2.1 (by omega)
      unfold kidIs at this; rw [hi] at this
      unfold kidAt at a3
      have a3' : (ndAt ns k).parent == id := a3
      simp only at this
      rw [this] at a3'; cases a3'
  · rw [decide_eq_false (by omega)]
    rcases scan_cases (kidIs t id) 1 100 with ⟨b1, _, b3, _⟩ | ⟨b1, _⟩
    · generalize scan (kidIs t id) 1 100 = i at *
      unfold kidIs at b3
      cases hi : t i with
      | none => rw [hi] at b3; simp at b3
      | some n =>
        rw [hi] at b3
        have hm : n ∈ ns := (rep_mem h ht).2 ⟨i, hi⟩
        obtain ⟨j, hj, rfl⟩ := mem_ndAt hm
        have := a2 j (by omega) hj
        unfold kidAt at this
        simp only at b3
        rw [this] at b3; cases b3
    · rw [decide_eq_false (by omega)]
theorem taken_same {ns : List Nd} {t : Tr} (h : Rep ns t) (hv : Valid t) (p : Int) (s : Str) : takenR ns p s = atT t p s := by
  have ht := hv.ok
  unfold takenR takenN
  rcases scan_cases (placeIs ns p s) 0 ns.length with ⟨a1, _, a3, _⟩ | ⟨a1, a2⟩
  · rw [if_pos a1]
    generalize scan (placeIs ns p s) 0 ns.length = k at *
    obtain ⟨i, hi⟩ := (rep_mem h ht).1 (ndAt_mem a1)
    have hb := ht.2 i _ hi
    unfold placeIs at a3
    rw [Bool.and_eq_true, beq_iff_eq, beq_iff_eq] at a3
    by_cases h0 : atT t p s = 0
    · exact (atT_none h0 i _ hb.2.1 hb.2.2.1 hi a3.1 a3.2).elim
    · have := atT_some hv h0 i _ hi a3.1 a3.2
      rw [← this]; exact hb.1
  · rw [if_neg (by omega)]
    unfold atT
    rcases scan_cases (spotIs t p s) 1 100 with ⟨b1, _, b3, _⟩ | ⟨b1, _⟩
    · generalize scan (spotIs t p s) 1 100 = i at *
      unfold spotIs at b3
      cases hi : t i with
      | none => rw [hi] at b3; simp at b3
      | some n =>
        rw [hi] at b3
        have hm : n ∈ ns := (rep_mem h ht).2 ⟨i, hi⟩
        obtain ⟨j, hj, rfl⟩ := mem_ndAt hm
        have := a2 j (by omega) hj
        unfold placeIs at this
        simp only at b3
        rw [this] at b3; cases b3
    · rw [if_neg (by omega)]
/-- One who goes up in a tree meets only what is there. -/
theorem goes_there {t : Tr} (hv : Valid t) {goal : Int} (hg : 1 ≤ goal) (hno : hasT t goal = false) : ∀ (f : Nat) (p : Int), isParentT t p = true → meetsF t f p goal = false := by
  intro f
  induction f with
  | zero => intro p _; rfl
  | succ f ih =>
    intro p hp
    have hne : ¬ p = goal := by
      intro e; subst e
      rcases isParent_iff.1 hp with h0 | ⟨_, hn⟩
      · omega
      · rw [hasT_iff.2 hn] at hno; cases hno
    rw [meetsF, if_neg hne]
    cases hl : t p.toNat with
    | none => rfl
    | some n => exact ih n.parent (hv.parent _ n hl)
theorem doR_same {ns : List Nd} {t : Tr} (h : Rep ns t) (hv : Valid t) {s : St} (hs : StOk s) : doR ns s = stepE t s := by
  have ht := hv.ok
  have hF := findR_has h ht s.node.id
  rcases hs with ⟨hk, h1, h2, _⟩ | ⟨hk, h1, h2⟩
  · have h45 : ¬ s.kind = 45 := by rcases hk with e | e <;> (rw [e]; decide)
    have hP : putR ns s.node = if !isParentT t s.node.parent then 4 else if meetsT t s.node.parent s.node.id then 5 else if (atT t s.node.parent s.node.name != 0 && atT t s.node.parent s.node.name != s.node.id) then 6 else 0 := by
      unfold putR; rw [folder_same h ht, meets_same h ht, taken_same h hv]
    unfold doR stepE
    rw [if_neg h45]
    rcases hk with hk | hk
    · rw [if_pos hk]
      unfold createE
      rw [← hF]
      by_cases hf : 0 ≤ findR ns s.node.id
      · rw [if_pos ⟨hk, hf⟩, if_pos (by simpa using hf)]
      · have hno : hasT t s.node.id = false := by rw [← hF]; exact decide_eq_false hf
        rw [if_neg (fun hh => hf hh.2), if_neg (fun hh => by rw [hk] at hh; exact absurd hh.1 (by decide)), if_neg (by simpa using hf), hP]
        cases hp : isParentT t s.node.parent
        · rfl
        · rw [show meetsT t s.node.parent s.node.id = false from goes_there hv h1 hno 100 _ hp]
          have hat : (atT t s.node.parent s.node.name != 0 && atT t s.node.parent s.node.name != s.node.id) = (atT t s.node.parent s.node.name != 0) := by
            cases h6 : (atT t s.node.parent s.node.name != 0)
            · rfl
            · rw [Bool.true_and, bne_iff_ne]
              intro e
              rw [← taken_same h hv] at e h6
              have htk : takenN ns s.node.parent s.node.name < ns.length := by
                unfold takenR at h6
                rcases Nat.lt_or_ge (takenN ns s.node.parent s.node.name) ns.length with hh | hh
                · exact hh
                · rw [if_neg (by omega)] at h6; simp at h6
              unfold takenR at e
              rw [if_pos htk] at e
              obtain ⟨i, hi⟩ := (rep_mem h ht).1 (ndAt_mem htk)
              have hb := ht.2 i _ hi
              have : hasT t s.node.id = true := hasT_iff.2 ⟨_, by rw [← e, hb.1]; exact hi⟩
              rw [hno] at this; cases this
          rw [hat]; rfl
    · have h43 : ¬ s.kind = 43 := by rw [hk]; decide
      rw [if_neg (c := s.kind = 43) h43, if_pos (c := s.kind = 61) hk, if_neg (c := s.kind = 43 ∧ 0 ≤ findR ns s.node.id) (fun hh => h43 hh.1)]
      unfold moveE
      rw [← hF]
      by_cases hf : 0 ≤ findR ns s.node.id
      · rw [decide_eq_true hf, if_neg (c := s.kind = 61 ∧ findR ns s.node.id < 0) (by omega), hP]; rfl
      · rw [decide_eq_false hf, if_pos (c := s.kind = 61 ∧ findR ns s.node.id < 0) ⟨hk, by omega⟩]; rfl
  · have h43 : ¬ s.kind = 43 := by rw [hk]; decide
    have h61 : ¬ s.kind = 61 := by rw [hk]; decide
    unfold doR stepE
    rw [if_pos (c := s.kind = 45) hk, if_neg (c := s.kind = 43) h43, if_neg (c := s.kind = 61) h61, if_pos (c := s.kind = 45) hk]
    unfold delR deleteE
    rw [← hF, kids_same h ht]
    by_cases hf : 0 ≤ findR ns s.node.id
    · rw [decide_eq_true hf, if_neg (c := findR ns s.node.id < 0) (by omega)]; rfl
    · rw [decide_eq_false hf, if_pos (c := findR ns s.node.id < 0) (by omega)]; rfl
theorem nodup_snoc {l : List Int} {a : Int} (h : l.Nodup) (ha : a ∉ l) : (l ++ [a]).Nodup := by
  rw [List.nodup_append]
  exact ⟨h, by simp, fun x hx y hy => by simp at hy; subst hy; exact fun e => ha (e ▸ hx)⟩
theorem ids_unique {ns : List Nd} (h : (ns.map (·.id)).Nodup) : Unique ns := by
  induction ns with
  | nil => intro n m hn; simp at hn
  | cons a ns ih =>
    rw [List.map_cons, List.nodup_cons] at h
    intro n m hn hm e
    rcases List.mem_cons.1 hn with rfl | hn'
    · rcases List.mem_cons.1 hm with rfl | hm'
      · rfl
      · exact absurd (List.mem_map.2 ⟨m, hm', e.symm⟩) h.1
    · rcases List.mem_cons.1 hm with rfl | hm'
      · exact absurd (List.mem_map.2 ⟨n, hn', e⟩) h.1
      · exact ih h.2 n m hn' hm' e
theorem look_eq {ns : List Nd} (hu : Unique ns) {x : Int} {o : Option Nd} (hs : ∀ n, o = some n → n ∈ ns ∧ n.id = x) (hn : o = none → ∀ n ∈ ns, n.id ≠ x) : lookR ns x = o := by
  cases o with
  | some n => obtain ⟨h1, h2⟩ := hs n rfl; rw [← h2]; exact lookR_of hu h1
  | none =>
    cases hl : lookR ns x with
    | none => rfl
    | some m => obtain ⟨h1, h2⟩ := lookR_mem hl; exact absurd h2 (hn rfl m h1)
theorem filter_ids {ns : List Nd} (h : (ns.map (·.id)).Nodup) (x : Nd) : ((ns.filter (otherB x)).map (·.id)).Nodup :=
  List.Nodup.sublist (List.Sublist.map _ List.filter_sublist) h
theorem mem_filter' {ns : List Nd} {x n : Nd} : n ∈ ns.filter (otherB x) ↔ n ∈ ns ∧ n.id ≠ x.id := by
  rw [List.mem_filter]; unfold otherB; rw [bne_iff_ne]
theorem rep_remove {ns : List Nd} {t : Tr} (h : Rep ns t) (ht : TrOk t) (x : Nd) : Rep (layR ns x false) (trRemove t x.id) := by
  have e : layR ns x false = ns.filter (otherB x) := by unfold layR; simp
  rw [e]
  have hu := ids_unique (filter_ids h.ids x)
  refine ⟨hu, filter_ids h.ids x, fun n hn => h.ok n (mem_filter'.1 hn).1, fun i => ?_⟩
  unfold trRemove
  by_cases hi : (i : Int) = x.id
  · rw [if_pos hi]
    exact look_eq hu (fun n hn => by cases hn) (fun _ n hn => by rw [hi]; exact (mem_filter'.1 hn).2)
  · rw [if_neg hi]
    refine look_eq hu (fun n hn => ?_) (fun hn n hm => ?_)
    · have hb := ht.2 i n hn
      exact ⟨mem_filter'.2 ⟨(rep_mem h ht).2 ⟨i, hn⟩, by rw [hb.1]; exact hi⟩, hb.1⟩
    · rw [← h.look i] at hn
      exact lookR_no hn n (mem_filter'.1 hm).1
theorem rep_put {ns : List Nd} {t : Tr} (h : Rep ns t) (ht : TrOk t) {x : Nd} (hx : NdOk x) : Rep (layR ns x true) (trPut t x) := by
  have e : layR ns x true = ns.filter (otherB x) ++ [x] := by unfold layR; simp
  rw [e]
  have hids : ((ns.filter (otherB x) ++ [x]).map (·.id)).Nodup := by
    rw [List.map_append]
    refine nodup_snoc (filter_ids h.ids x) (fun hm => ?_)
    obtain ⟨n, hn, e⟩ := List.mem_map.1 hm
    exact (mem_filter'.1 hn).2 e
  have hu := ids_unique hids
  have hmem : ∀ n, n ∈ ns.filter (otherB x) ++ [x] ↔ (n ∈ ns ∧ n.id ≠ x.id) ∨ n = x := by
    intro n; rw [List.mem_append, mem_filter', List.mem_singleton]
  refine ⟨hu, hids, fun n hn => ?_, fun i => ?_⟩
  · rcases (hmem n).1 hn with ⟨h1, _⟩ | rfl
    · exact h.ok n h1
    · exact hx
  · unfold trPut
    by_cases hi : (i : Int) = x.id
    · rw [if_pos hi]
      exact look_eq hu (fun n hn => by cases hn; exact ⟨(hmem x).2 (.inr rfl), hi.symm⟩) (fun hn => by cases hn)
    · rw [if_neg hi]
      refine look_eq hu (fun n hn => ?_) (fun hn n hm => ?_)
      · have hb := ht.2 i n hn
        exact ⟨(hmem n).2 (.inl ⟨(rep_mem h ht).2 ⟨i, hn⟩, by rw [hb.1]; exact hi⟩), hb.1⟩
      · rw [← h.look i] at hn
        rcases (hmem n).1 hm with ⟨h1, _⟩ | rfl
        · exact lookR_no hn n h1
        · exact fun e => hi e.symm
theorem rep_read {l : Str} (h : (checkT l).1 = 0) : Rep (readNodes (cut l)) (gather (readNodes (cut l))) := by
  obtain ⟨_, _, _, ho, _⟩ := check_parts h
  have hk := readNodes_bd (cut l)
  generalize readNodes (cut l) = ns at *
  refine ⟨ordered_unique ho, ?_, hk, fun i => ?_⟩
  · have hr := ordered_rises ho
    rw [List.nodup_iff_pairwise_ne, List.pairwise_map]
    exact hr.imp (fun hab => by omega)
  · have := gather_look (ordered_unique ho) (fun n hn => (hk n hn).1) (i : Int)
    rw [Int.toNat_natCast] at this; exact this.symm
end Go.Proofs.YtdcjimlhaklhfaaGreatDoor

namespace Go.Proofs.YtdcjimlhaklhfaaGreatDoor
open Go.RowKit
theorem below_grown {w w1 w2 : World} {b : Nat} (h : Below w.heap.size w w1) (hg : w1.grownBy w2 (some b)) (hb : w.heap.size ≤ b) : Below w.heap.size w w2 :=
  h.grown hg h.size (fun k hk => by cases hk; exact hb)
theorem doAllT_ok : ∀ (ss : List St) (t : Tr), TrOk t → (∀ s ∈ ss, StOk s) → TrOk (doAllT ss t) := by
  intro ss
  induction ss with
  | nil => intro t h _; exact h
  | cons s ss ih =>
    intro t h hs
    unfold doAllT
    split
    · exact ih _ (stepT_ok h (hs s (by simp))) (fun x hx => hs x (by simp [hx]))
    · exact h
theorem ret_sii {a : Str} {n : Nat} {e : Int} {r : Str × Nat × Int} (h : r = (a, n, e)) : Ending.returned (.tuple #[.string (bs a), .int .i64 n, .int .i64 e]) = .returned (.tuple #[.string (bs r.1), .int .i64 r.2.1, .int .i64 r.2.2]) := by rw [h]
theorem applyT_long {l sc : Str} (h : 4000 < l.length ∨ 4000 < sc.length) : applyT l sc = ([], 0, 1) := by unfold applyT; rw [if_pos h]
theorem applyT_check {l sc : Str} (h : ¬ (4000 < l.length ∨ 4000 < sc.length)) (h2 : (checkT l).1 ≠ 0) : applyT l sc = ([], (checkT l).2, (checkT l).1) := by unfold applyT; rw [if_neg h, if_pos h2]
theorem applyT_step {l sc : Str} (h : ¬ (4000 < l.length ∨ 4000 < sc.length)) (h2 : ¬ (checkT l).1 ≠ 0) (h3 : (readSteps (cut sc)).length < (cut sc).length) : applyT l sc = ([], (readSteps (cut sc)).length, 7) := by unfold applyT; rw [if_neg h, if_neg h2, if_pos h3]
theorem applyT_do {l sc : Str} (h : ¬ (4000 < l.length ∨ 4000 < sc.length)) (h2 : ¬ (checkT l).1 ≠ 0) (h3 : ¬ (readSteps (cut sc)).length < (cut sc).length) (h4 : (doAllE (readSteps (cut sc)) (gather (readNodes (cut l))) 0).1 ≠ 0) : applyT l sc = ([], (doAllE (readSteps (cut sc)) (gather (readNodes (cut l))) 0).2, (doAllE (readSteps (cut sc)) (gather (readNodes (cut l))) 0).1) := by unfold applyT; rw [if_neg h, if_neg h2, if_neg h3, if_pos h4]
theorem applyT_ok {l sc : Str} (h : ¬ (4000 < l.length ∨ 4000 < sc.length)) (h2 : ¬ (checkT l).1 ≠ 0) (h3 : ¬ (readSteps (cut sc)).length < (cut sc).length) (h4 : ¬ (doAllE (readSteps (cut sc)) (gather (readNodes (cut l))) 0).1 ≠ 0) : applyT l sc = (textT (doAllT (readSteps (cut sc)) (gather (readNodes (cut l)))), 0, 0) := by unfold applyT; rw [if_neg h, if_neg h2, if_neg h3, if_neg h4]
set_option maxHeartbeats 2000000 in
theorem apply_any (s sc : ByteArray) (w : World) :
    Calls Tryz.prog 24 #[.string s, .string sc] w fun e w' => e = .returned (.tuple #[.string (bs (applyT (sl s) (sl sc)).1), .int .i64 (applyT (sl s) (sl sc)).2.1, .int .i64 (applyT (sl s) (sl sc)).2.2]) ∧ Below w.heap.size w w' := by
  by_cases hL : 4000 < s.size ∨ 4000 < sc.size
  · have HA := hide (applyT_long (l := sl s) (sc := sl sc) (by rw [sl_length, sl_length]; exact hL))
    generalize applyT (sl s) (sl sc) = A at *
    have hL' : 4000 < s.size ∨ (¬ 4000 < s.size ∧ 4000 < sc.size) := by omega
    clear hL
    rcases hL' with h | ⟨h, h'⟩
    all_goals
      go_enter Tryz.func24, Tryz.ntmps24
      go_wp2
      go_ret3
      exact ⟨ret_sii (unhide HA), Below.refl _ _⟩
  · have hLl : ¬ (4000 < (sl s).length ∨ 4000 < (sl sc).length) := by rw [sl_length, sl_length]; exact hL
    have h4 : ¬ 4000 < s.size := by omega
    have h5 : ¬ 4000 < sc.size := by omega
    have HRD := hide (fun W => read_any s W)
    by_cases hC : (checkT (sl s)).1 ≠ 0
    · have HA := hide (applyT_check hLl hC)
      have hC' : ((checkT (sl s)).1 != 0) = true := by rw [bne_iff_ne]; exact hC
      generalize applyT (sl s) (sl sc) = A at *
      generalize checkT (sl s) = c at *
      generalize readT (sl s) = T at *
      clear hC hL hLl
      go_enter Tryz.func24, Tryz.ntmps24
      go_wp2_with fail
      refine (unhide HRD _).mono ?_
      rintro e w1 ⟨rfl, hb1⟩
      have HN := hide (treeAt_new w1)
      have HB1 := hide hb1; clear hb1
      go_wp2_with (refine wpList_store_mid (by rfl) 88 (.tmp 7) (.tmp 23) (by rfl) w1.heap.size 0 (treeCells T).toArray (by rfl) (by rfl) (by exact treeAt_there (unhide HN) T) (treeSize' T) (treeOne T) ?_)
      go_ret3
      exact ⟨ret_sii (unhide HA), below_setCells ((unhide HB1).alloc (unhide HB1).size _) (unhide HB1).size (by have := (unhide HB1).size; simp; omega) _ _⟩
    · have hc0 : (checkT (sl s)).1 = 0 := Classical.not_not.1 hC
      have hTG : readT (sl s) = gather (readNodes (cut (sl s))) := by unfold readT; rw [if_pos hc0]
      have hOK := gather_ok (cut (sl s))
      rw [hc0, hTG] at HRD
      have HSR := hide (fun W => stepsRead_any sc W (by omega))
      have HSO := hide (readSteps_ok (cut (sl sc)))
      have hsl := readSteps_length (cut (sl sc))
      have hcl : (cut (sl sc)).length ≤ 4000 := by have := cut_length_le (sl sc); rw [sl_length] at this; omega
      by_cases hS : (readSteps (cut (sl sc))).length < (cut (sl sc)).length
      · have HA := hide (applyT_step hLl hC hS)
        have hd : decide ((readSteps (cut (sl sc))).length = (cut (sl sc)).length) = false := decide_eq_false (by omega)
        rw [hd] at HSR
        generalize applyT (sl s) (sl sc) = A at *
        generalize gather (readNodes (cut (sl s))) = T at *
        generalize (checkT (sl s)).2 = c2 at *
        generalize readSteps (cut (sl sc)) = ss at *
        clear hC hL hLl hc0 hTG hd
        go_enter Tryz.func24, Tryz.ntmps24
        go_wp2_with fail
        refine (unhide HRD _).mono ?_
        rintro e w1 ⟨rfl, hb1⟩
        have HN := hide (treeAt_new w1)
        have HB1 := hide hb1; clear hb1
        have HB2 : Hid (Below w.heap.size w ((w1.alloc (.cells Tryz.zeroCells88 88)).setCells w1.heap.size 0 (treeCells T))) := hide (below_setCells ((unhide HB1).alloc (unhide HB1).size _) (unhide HB1).size (by have := (unhide HB1).size; simp; omega) _ _)
        go_wp2_with (refine wpList_store_mid (by rfl) 88 (.tmp 7) (.tmp 23) (by rfl) w1.heap.size 0 (treeCells T).toArray (by rfl) (by rfl) (by exact treeAt_there (unhide HN) T) (treeSize' T) (treeOne T) ?_)
        refine (unhide HSR _).mono ?_
        rintro e w3 ⟨⟨ao, cap, rfl, hrow, hge⟩, hb3⟩
        have HB3 := hide ((unhide HB2).trans (hb3.mono (unhide HB2).size))
        clear hrow hge hb3
        go_wp2
        go_ret3
        exact ⟨ret_sii (unhide HA), unhide HB3⟩
      · have hd : decide ((readSteps (cut (sl sc))).length = (cut (sl sc)).length) = true := decide_eq_true (by omega)
        rw [hd] at HSR
        have HDA := hide (fun b ao cap W h1 h2 h3 => doAll_any (x := ext0) (gather (readNodes (cut (sl s)))) b (readSteps (cut (sl sc))) ao cap W hOK h1 h2 h3 (unhide HSO) (by omega))
        have HTO := hide (doAllT_ok (readSteps (cut (sl sc))) _ hOK (unhide HSO))
        have HTX := hide (fun b W h => text_any (x := ext0) (doAllT (readSteps (cut (sl sc))) (gather (readNodes (cut (sl s))))) b W (unhide HTO) h)
        by_cases hE : (doAllE (readSteps (cut (sl sc))) (gather (readNodes (cut (sl s)))) 0).1 ≠ 0
        · have HA := hide (applyT_do hLl hC hS hE)
          have hE' : ((doAllE (readSteps (cut (sl sc))) (gather (readNodes (cut (sl s)))) 0).1 != 0) = true := by rw [bne_iff_ne]; exact hE
          generalize applyT (sl s) (sl sc) = A at *
          generalize doAllE (readSteps (cut (sl sc))) (gather (readNodes (cut (sl s)))) 0 = E at *
          generalize doAllT (readSteps (cut (sl sc))) (gather (readNodes (cut (sl s)))) = T2 at *
          generalize gather (readNodes (cut (sl s))) = T at *
          generalize (checkT (sl s)).2 = c2 at *
          generalize readSteps (cut (sl sc)) = ss at *
          clear hC hL hLl hc0 hTG hd hE hS
          go_enter Tryz.func24, Tryz.ntmps24
          go_wp2_with fail
          refine (unhide HRD _).mono ?_
          rintro e w1 ⟨rfl, hb1⟩
          have HN := hide (treeAt_new w1)
          have HB1 := hide hb1; clear hb1
          have HB2 : Hid (Below w.heap.size w ((w1.alloc (.cells Tryz.zeroCells88 88)).setCells w1.heap.size 0 (treeCells T))) := hide (below_setCells ((unhide HB1).alloc (unhide HB1).size _) (unhide HB1).size (by have := (unhide HB1).size; simp; omega) _ _)
          have HT2 : Hid (TreeAt ext0 ((w1.alloc (.cells Tryz.zeroCells88 88)).setCells w1.heap.size 0 (treeCells T)) w1.heap.size T) := hide (treeAt_stored (unhide HN) T)
          go_wp2_with (refine wpList_store_mid (by rfl) 88 (.tmp 7) (.tmp 23) (by rfl) w1.heap.size 0 (treeCells T).toArray (by rfl) (by rfl) (by exact treeAt_there (unhide HN) T) (treeSize' T) (treeOne T) ?_)
          refine (unhide HSR _).mono ?_
          rintro e w3 ⟨⟨ao, cap, rfl, hrow, hge⟩, hb3⟩
          have HB3 := hide ((unhide HB2).trans (hb3.mono (unhide HB2).size))
          have HT3 := hide ((unhide HT2).below hb3)
          have HR3 := hide hrow
          have HNE : Hid (∀ g, ao = some ⟨g, 0, none⟩ → g ≠ w1.heap.size) := hide (fun g hg => by have h1 := hge g hg; have h2 := (unhide HT2).lt; omega)
          clear hrow hge hb3
          go_wp2_with fail
          refine (unhide HDA _ _ _ _ (unhide HT3) (unhide HR3) (unhide HNE)).mono ?_
          rintro e w4 ⟨rfl, hT4, hg4⟩
          have HB4 := hide (below_grown (unhide HB3) hg4 (unhide HB1).size)
          clear hT4 hg4
          go_wp2
          go_ret3
          exact ⟨ret_sii (unhide HA), unhide HB4⟩
        · have HA := hide (applyT_ok hLl hC hS hE)
          have hE' : ((doAllE (readSteps (cut (sl sc))) (gather (readNodes (cut (sl s)))) 0).1 != 0) = false := by rw [bne_eq_false_iff_eq]; exact Classical.not_not.1 hE
          generalize applyT (sl s) (sl sc) = A at *
          generalize doAllE (readSteps (cut (sl sc))) (gather (readNodes (cut (sl s)))) 0 = E at *
          generalize doAllT (readSteps (cut (sl sc))) (gather (readNodes (cut (sl s)))) = T2 at *
          generalize gather (readNodes (cut (sl s))) = T at *
          generalize (checkT (sl s)).2 = c2 at *
          generalize readSteps (cut (sl sc)) = ss at *
          clear hC hL hLl hc0 hTG hd hE hS
          go_enter Tryz.func24, Tryz.ntmps24
          go_wp2_with fail
          refine (unhide HRD _).mono ?_
          rintro e w1 ⟨rfl, hb1⟩
          have HN := hide (treeAt_new w1)
          have HB1 := hide hb1; clear hb1
          have HB2 : Hid (Below w.heap.size w ((w1.alloc (.cells Tryz.zeroCells88 88)).setCells w1.heap.size 0 (treeCells T))) := hide (below_setCells ((unhide HB1).alloc (unhide HB1).size _) (unhide HB1).size (by have := (unhide HB1).size; simp; omega) _ _)
          have HT2 : Hid (TreeAt ext0 ((w1.alloc (.cells Tryz.zeroCells88 88)).setCells w1.heap.size 0 (treeCells T)) w1.heap.size T) := hide (treeAt_stored (unhide HN) T)
          go_wp2_with (refine wpList_store_mid (by rfl) 88 (.tmp 7) (.tmp 23) (by rfl) w1.heap.size 0 (treeCells T).toArray (by rfl) (by rfl) (by exact treeAt_there (unhide HN) T) (treeSize' T) (treeOne T) ?_)
          refine (unhide HSR _).mono ?_
          rintro e w3 ⟨⟨ao, cap, rfl, hrow, hge⟩, hb3⟩
          have HB3 := hide ((unhide HB2).trans (hb3.mono (unhide HB2).size))
          have HT3 := hide ((unhide HT2).below hb3)
          have HR3 := hide hrow
          have HNE : Hid (∀ g, ao = some ⟨g, 0, none⟩ → g ≠ w1.heap.size) := hide (fun g hg => by have h1 := hge g hg; have h2 := (unhide HT2).lt; omega)
          clear hrow hge hb3
          go_wp2_with fail
          refine (unhide HDA _ _ _ _ (unhide HT3) (unhide HR3) (unhide HNE)).mono ?_
          rintro e w4 ⟨rfl, hT4, hg4⟩
          have HT4 := hide hT4
          have HB4 := hide (below_grown (unhide HB3) hg4 (unhide HB1).size)
          clear hT4 hg4
          go_wp2_with fail
          refine (unhide HTX _ _ (unhide HT4)).mono ?_
          rintro e w5 ⟨rfl, hb5⟩
          have HB5 := hide ((unhide HB4).trans (hb5.mono (unhide HB4).size))
          clear hb5
          go_wp2
          go_ret3
          exact ⟨ret_sii (unhide HA), unhide HB5⟩
end Go.Proofs.YtdcjimlhaklhfaaGreatDoor

namespace Go.Proofs.YtdcjimlhaklhfaaGreatDoor
open Go.RowKit
theorem rep_trOf {ns : List Nd} {t : Tr} (h : Rep ns t) : trOf ns = t := funext h.look
theorem rep_step {ns : List Nd} {t : Tr} (h : Rep ns t) (hv : Valid t) {s : St} (hs : StOk s) (he : stepE t s = 0) : Rep (lastR ns s) (stepT t s) := by
  unfold lastR stepT
  rw [if_pos he]
  rcases hs with ⟨hk, hn⟩ | ⟨hk, _⟩
  · have h45 : ¬ s.kind = 45 := by rcases hk with e | e <;> (rw [e]; decide)
    rw [if_neg h45, decide_eq_true (show s.kind ≠ 45 from h45)]
    exact rep_put h hv.ok hn
  · rw [if_pos hk, decide_eq_false (fun hh => hh hk)]
    exact rep_remove h hv.ok s.node
set_option maxHeartbeats 2000000 in
set_option maxRecDepth 100000 in
theorem rapply_any (s sc : ByteArray) (w : World) :
    Calls Tryz.prog 25 #[.string s, .string sc] w fun e w' => e = .returned (.tuple #[.string (bs (applyT (sl s) (sl sc)).1), .int .i64 (applyT (sl s) (sl sc)).2.1, .int .i64 (applyT (sl s) (sl sc)).2.2]) ∧ Below w.heap.size w w' := by
  by_cases hL : 4000 < s.size ∨ 4000 < sc.size
  · have HA := hide (applyT_long (l := sl s) (sc := sl sc) (by rw [sl_length, sl_length]; exact hL))
    generalize applyT (sl s) (sl sc) = A at *
    have hL' : 4000 < s.size ∨ (¬ 4000 < s.size ∧ 4000 < sc.size) := by omega
    clear hL
    rcases hL' with h | ⟨h, h'⟩
    all_goals
      go_enter Tryz.func25, Tryz.ntmps25
      go_wp2
      go_ret3
      exact ⟨ret_sii (unhide HA), Below.refl _ _⟩
  · have hLl : ¬ (4000 < (sl s).length ∨ 4000 < (sl sc).length) := by rw [sl_length, sl_length]; exact hL
    have h4 : ¬ 4000 < s.size := by omega
    have h5 : ¬ 4000 < sc.size := by omega
    have HCK := hide (fun W => rcheck_any s W)
    rw [check_same] at HCK
    by_cases hC : (checkT (sl s)).1 ≠ 0
    · have HA := hide (applyT_check hLl hC)
      have hC' : ((checkT (sl s)).1 != 0) = true := by rw [bne_iff_ne]; exact hC
      generalize applyT (sl s) (sl sc) = A at *
      generalize checkT (sl s) = c at *
      clear hC hL hLl
      go_enter Tryz.func25, Tryz.ntmps25
      go_wp2_with fail
      refine (unhide HCK _).mono ?_
      rintro e w1 ⟨rfl, hb1⟩
      go_wp2
      go_ret3
      exact ⟨ret_sii (unhide HA), hb1⟩
    · have hc0 : (checkT (sl s)).1 = 0 := Classical.not_not.1 hC
      rw [hc0] at HCK
      have hfull := (check_parts hc0).2.2.1
      have HREP := hide (rep_read hc0)
      have HVAL := hide (valid_of_check hc0)
      have HND := hide (fun W => nodes_any s W (by omega))
      have HSR := hide (fun W => rsteps_any sc W (by omega))
      have HSO := hide (readSteps_ok (cut (sl sc)))
      have hsl := readSteps_length (cut (sl sc))
      have hcl : (cut (sl sc)).length ≤ 4000 := by have := cut_length_le (sl sc); rw [sl_length] at this; omega
      by_cases hS : (readSteps (cut (sl sc))).length < (cut (sl sc)).length
      · have HA := hide (applyT_step hLl hC hS)
        generalize applyT (sl s) (sl sc) = A at *
        generalize (checkT (sl s)).2 = c2 at *
        generalize readNodes (cut (sl s)) = ns at *
        generalize readSteps (cut (sl sc)) = ss at *
        clear hC hL hLl hc0
        go_enter Tryz.func25, Tryz.ntmps25
        go_wp2_with fail
        refine (unhide HCK _).mono ?_
        rintro e w1 ⟨rfl, hb1⟩
        go_wp2_with fail
        refine (unhide HND _).mono ?_
        rintro e w2 ⟨⟨hno, _⟩ | ⟨_, ao, cap, rfl, hrow, hcap⟩, hb2⟩
        · exact absurd hno hfull
        · clear hrow hcap
          go_wp2_with fail
          refine (unhide HSR _).mono ?_
          rintro e w3 ⟨⟨_, rfl⟩ | ⟨hno, _⟩, hb3⟩
          · have HB := hide ((hb1.trans (hb2.mono hb1.size)).trans (hb3.mono (hb1.trans (hb2.mono hb1.size)).size))
            clear hb1 hb2 hb3
            go_wp2
            go_ret3
            exact ⟨ret_sii (unhide HA), unhide HB⟩
          · exact absurd hS hno
      · have HA1 : Hid ((doAllE (readSteps (cut (sl sc))) (gather (readNodes (cut (sl s)))) 0).1 ≠ 0 → applyT (sl s) (sl sc) = ([], (doAllE (readSteps (cut (sl sc))) (gather (readNodes (cut (sl s)))) 0).2, (doAllE (readSteps (cut (sl sc))) (gather (readNodes (cut (sl s)))) 0).1)) := hide (fun h => applyT_do hLl hC hS h)
        have HA2 : Hid ((doAllE (readSteps (cut (sl sc))) (gather (readNodes (cut (sl s)))) 0).1 = 0 → applyT (sl s) (sl sc) = (textT (doAllT (readSteps (cut (sl sc))) (gather (readNodes (cut (sl s))))), 0, 0)) := hide (fun h => applyT_ok hLl hC hS (fun hh => hh h))
        generalize applyT (sl s) (sl sc) = A at *
        generalize (checkT (sl s)).2 = c2 at *
        generalize readNodes (cut (sl s)) = ns at *
        generalize readSteps (cut (sl sc)) = ss at *
        generalize gather ns = t at *
        have hssl : ss.length ≤ 4000 := by omega
        clear hC hL hLl hc0
        have HI0 : Hid (doAllE ss t 0 = doAllE (ss.drop 0) t 0 ∧ doAllT ss t = doAllT (ss.drop 0) t) := hide ⟨rfl, rfl⟩
        generalize doAllE ss t 0 = E at *
        generalize doAllT ss t = T at *
        go_enter Tryz.func25, Tryz.ntmps25
        go_wp2_with fail
        refine (unhide HCK _).mono ?_
        rintro e w1 ⟨rfl, hb1⟩
        go_wp2_with fail
        refine (unhide HND _).mono ?_
        rintro e w2 ⟨⟨hno, _⟩ | ⟨_, ao, cap, rfl, hrow, hcap⟩, hb2⟩
        · exact absurd hno hfull
        · have HROW := hide hrow
          clear hrow hcap
          go_wp2_with fail
          refine (unhide HSR _).mono ?_
          rintro e w3 ⟨⟨hyes, _⟩ | ⟨_, ao2, cap2, rfl, hrow2⟩, hb3⟩
          · exact absurd hyes hS
          · have HB := hide ((hb1.trans (hb2.mono hb1.size)).trans (hb3.mono (hb1.trans (hb2.mono hb1.size)).size))
            have HROW3 := hide ((unhide HROW).below hb3)
            have HSROW := hide hrow2
            clear hb1 hb2 hb3 hrow2 HROW HCK HND HSR
            go_wp2
            go_loopw [9, 13] (fun v i wr => ∃ k : Nat, ∃ ns' : List Nd, ∃ t' : Tr, ∃ ao' : Option Addr, ∃ cap' : Nat, k ≤ ss.length ∧ v = .slice ao' ns'.length cap' ∧ i = .int .i64 k ∧ Hid (Row wr ao' ns'.length 3 (ndCells ns')) ∧ Hid (Below w3.heap.size w3 wr) ∧ Hid (Rep ns' t' ∧ Valid t') ∧ Hid (E = doAllE (ss.drop k) t' k ∧ T = doAllT (ss.drop k) t')) (fun _ i _ => ss.length - (intOf i).toNat)
            case atStart => exact ⟨0, ns, t, ao, cap, Nat.zero_le _, rfl, rfl, HROW3, hide (Below.refl _ _), hide ⟨unhide HREP, unhide HVAL⟩, HI0⟩
            case round =>
              obtain ⟨k, ns', t', ao', cap', hk, rfl, rfl, HR, HBL, HRV, HI⟩ := hrel
              have hnl := rep_len (unhide HRV).1
              by_cases hlt : k < ss.length
              · obtain ⟨g, hao, hg, c0, c1, c2', c3⟩ := st_cells ((unhide HSROW).below (unhide HBL)) hlt
                have HSK := hide (unhide HSO _ (List.getElem_mem hlt))
                have HDO := hide (rdo_any ns' ss[k] ao' cap' wr (unhide HR) (by omega) (unhide HSK))
                rw [doR_same (unhide HRV).1 (unhide HRV).2 (unhide HSK)] at HDO
                rw [hao]
                clear hao
                by_cases hE : stepE t' ss[k] = 0
                · have HI2 := hide (doAll_cons hlt hE)
                  have HRV2 : Hid (Rep (lastR ns' ss[k]) (stepT t' ss[k]) ∧ Valid (stepT t' ss[k])) := hide ⟨rep_step (unhide HRV).1 (unhide HRV).2 (unhide HSK) hE, valid_step (unhide HRV).2 (unhide HSK)⟩
                  rw [hE] at HDO
                  clear hE
                  generalize lastR ns' ss[k] = L at *
                  generalize stepT t' ss[k] = t2 at *
                  generalize ss[k] = st at *
                  go_wp2_with fail
                  refine (unhide HDO).mono ?_
                  rintro e w4 ⟨⟨hne, _⟩ | ⟨_, ao3, cap3, rfl, hr⟩, hb4⟩
                  · exact absurd rfl hne
                  · have HR4 := hide hr
                    have HB4 := hide ((unhide HBL).trans (hb4.mono (unhide HBL).size))
                    clear hr hb4 c0 c1 c2' c3
                    go_wp2
                    go_roundw
                    case rel => exact ⟨k + 1, L, t2, ao3, cap3, by omega, rfl, by go_num, HR4, HB4, HRV2, hide ⟨(unhide HI).1.trans (unhide HI2).1, (unhide HI).2.trans (unhide HI2).2⟩⟩
                    case measure => simp [intOf]; omega
                · have HI2 := hide (doAll_stop hlt hE)
                  have hE' : (stepE t' ss[k] != 0) = true := by rw [bne_iff_ne]; exact hE
                  have HEN := hide hE
                  clear hE
                  generalize stepE t' ss[k] = ee at *
                  generalize ss[k] = st at *
                  go_wp2_with fail
                  refine (unhide HDO).mono ?_
                  rintro e w4 ⟨⟨_, rfl⟩ | ⟨h0, _⟩, hb4⟩
                  · have HB4 := hide ((unhide HBL).trans (hb4.mono (unhide HBL).size))
                    clear hb4 c0 c1 c2' c3
                    go_wp2
                    go_ret3
                    have hEE : E = (ee, k) := (unhide HI).1.trans (unhide HI2).1
                    exact ⟨ret_sii (by rw [unhide HA1 (by rw [hEE]; exact unhide HEN), hEE]), (unhide HB).trans ((unhide HB4).mono (unhide HB).size)⟩
                  · exact absurd h0 (unhide HEN)
              · have HE : Hid (E = (0, 0) ∧ T = t') := by
                  apply hide; rw [(unhide HI).1, (unhide HI).2, List.drop_eq_nil_of_le (by omega)]; exact ⟨rfl, rfl⟩
                have HPR := hide (print_any ns' ao' cap' wr (unhide HR) (by omega) (by rw [rep_trOf (unhide HRV).1]; exact (unhide HRV).2.ok))
                rw [rep_trOf (unhide HRV).1] at HPR
                go_wp2_with fail
                refine (unhide HPR).mono ?_
                rintro e w4 ⟨rfl, hb4⟩
                have HB4 := hide ((unhide HBL).trans (hb4.mono (unhide HBL).size))
                clear hb4
                go_wp2
                go_ret3
                refine ⟨ret_sii (by rw [unhide HA2 (by rw [(unhide HE).1]), (unhide HE).2]), (unhide HB).trans ((unhide HB4).mono (unhide HB).size)⟩
end Go.Proofs.YtdcjimlhaklhfaaGreatDoor

namespace Go.Proofs.YtdcjimlhaklhfaaGreatDoor
open Go.RowKit
set_option maxHeartbeats 1000000 in
theorem plain_apply (x y : Int) (s t : ByteArray) (w : World) :
    Calls Tryz.prog 11 #[.agg #[.int .i64 2, .int .i64 x, .int .i64 y, .string s, .string t]] w fun e w' => e = .returned (.bool true) ∧ Below w.heap.size w w' := by
  have HC := hide (fun W => apply_any s t W)
  have HR := hide (fun W => rapply_any s t W)
  generalize applyT (sl s) (sl t) = c at *
  obtain ⟨c0, c1, c2⟩ := c
  simp only at HC HR
  have hbb : ((bs c0).toList == (bs c0).toList) = true := by simp
  go_enter Tryz.func11, Tryz.ntmps11
  go_wp2_with fail
  refine (unhide HC _).mono ?_
  rintro e w1 ⟨rfl, hb1⟩
  obtain ⟨hc1, hf1⟩ := bcell hb1
  have hz1 := lt_kept hb1
  have HB1 : Hid (Below w.heap.size w w1) := hide (((Below.refl _ _).alloc (Nat.le_refl _) _).trans (hb1.mono (by simp)))
  clear hb1
  go_wp2_with fail
  refine (unhide HR _).mono ?_
  rintro e w2 ⟨rfl, hb2⟩
  have HB2 : Hid (Below w.heap.size w w2) := hide ((unhide HB1).trans (hb2.mono (unhide HB1).size))
  clear hb2 hc1 hf1 hz1
  go_wp2_with go_in
  go_ret
  exact ⟨ret_bool (by simp), unhide HB2⟩
set_option maxHeartbeats 1000000 in
theorem step_apply (v : Value) (x y : Int) (s t : ByteArray) (w : World) :
    Calls Tryz.prog 10 #[v, .agg #[.int .i64 2, .int .i64 x, .int .i64 y, .string s, .string t]] w fun e w' => e = .returned (.bool true) ∧ Below w.heap.size w w' := by
  have HP := hide (fun W => plain_apply x y s t W)
  go_enter Tryz.func10, Tryz.ntmps10
  go_wp2_with fail
  refine (unhide HP _).mono ?_
  rintro e w1 ⟨rfl, hb1⟩
  go_wp2
  go_ret
  exact ⟨rfl, ((Below.refl _ _).alloc (Nat.le_refl _) _).trans (hb1.mono (by simp))⟩
set_option maxHeartbeats 2000000 in
theorem upto_apply (ao : Option Addr) (len cap : Nat) (w : World) (hops : OpsAt w ao len) (hlen : len ≤ 140737488355328) :
    Calls Tryz.prog 9 #[.slice ao len cap, .int .i64 2, .int .i64 2, .int .i64 2, .int .i64 2] w fun e w' => e = .returned (.int .i64 (-1)) ∧ Below w.heap.size w w' := by
  have HO := hide hops; clear hops
  go_enter Tryz.func9, Tryz.ntmps9
  go_wp2
  go_loopw [12] (fun i wr => ∃ k : Nat, k ≤ len ∧ i = .int .i64 k ∧ Below w.heap.size w wr) (fun i _ => len - (intOf i).toNat)
  case atStart => exact ⟨0, Nat.zero_le _, rfl, (Below.refl _ _).alloc (Nat.le_refl _) _⟩
  case round =>
    obtain ⟨k, hk, rfl, hbel⟩ := hrel
    have hsz := hbel.size
    by_cases hlt : k < len
    · obtain ⟨b, off, hao, hb, hcells⟩ := unhide HO (by omega)
      obtain ⟨kd, x, y, s, t, e0, e1, e2, e3, e4⟩ := hcells k hlt
      clear hcells
      rw [← hbel.cell (p := ⟨b, _, none⟩) hb] at e0 e1 e2 e3 e4
      rw [hao]
      clear hao
      by_cases h1 : kd = 2
      · subst h1
        have HS := hide (fun v W => step_apply v x y s t W)
        have HB1 := hide (hbel.alloc hsz (.cells #[.int .i64 2, .int .i64 x, .int .i64 y, .string s, .string t] 30))
        go_wp2_with fail
        refine (unhide HS _ _).mono ?_
        rintro e w2 ⟨rfl, hb2⟩
        obtain ⟨hc2, hf2⟩ := bcell hb2
        have HB2 : Hid (Below w.heap.size w w2) := hide ((unhide HB1).trans (hb2.mono (by simp; omega)))
        clear hb2 e0 e1 e2 e3 e4
        go_wp2
        go_roundw
        case rel => exact ⟨k + 1, by omega, by go_num, unhide HB2⟩
        case measure => simp [intOf]; omega
      · have HB1 := hide (hbel.alloc hsz (.cells #[.int .i64 kd, .int .i64 x, .int .i64 y, .string s, .string t] 30))
        have h12 : kd < 2 ∨ 2 < kd := by omega
        clear h1
        rcases h12 with h1 | h1
        all_goals
          go_wp2
          go_roundw
          case rel => exact ⟨k + 1, by omega, by go_num, unhide HB1⟩
          case measure => simp [intOf]; omega
    · go_wp2
      go_ret
      exact ⟨rfl, hbel⟩
set_option maxHeartbeats 1000000 in
theorem applies_any (ao : Option Addr) (len cap : Nat) (w : World) (hops : OpsAt w ao len) (hlen : len ≤ 140737488355328) :
    Calls Tryz.prog 4 #[.slice ao len cap] w fun e w' => e = .returned (.bool true) ∧ Below w.heap.size w w' := by
  have HU := hide (upto_apply ao len cap w hops hlen)
  clear hops
  go_enter Tryz.func4, Tryz.ntmps4
  go_wp2_with fail
  refine (unhide HU).mono ?_
  rintro e w1 ⟨rfl, hb1⟩
  go_wp2
  go_ret
  exact ⟨rfl, hb1⟩
end Go.Proofs.YtdcjimlhaklhfaaGreatDoor
