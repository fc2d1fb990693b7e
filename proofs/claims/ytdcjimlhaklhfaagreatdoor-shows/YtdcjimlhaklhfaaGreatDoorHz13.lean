import Derived.Test.YtdcjimlhaklhfaaGreatDoorHz12
import Derived.Test.YtdcjimlhaklhfaaGreatDoorHz3
import Derived.Test.YtdcjimlhaklhfaaGreatDoorHz6
import Derived.Test.YtdcjimlhaklhfaaGreatDoorHz7
import Derived.BigQuiet
import Derived.Deep.RegionWith
import Derived.Test.YtdcjimlhaklhfaaGreatDoorHz11
import Derived.Deep.Cut
import Derived.Deep.RegionLaw
import Derived.Deep.AppendLies
import Derived.Test.YtdcjimlhaklhfaaGreatDoorHz5
namespace Go.Proofs.YtdcjimlhaklhfaaGreatDoor
open Go.RowKit
/-! The document's side: logs. -/
theorem Tryz.infoEntry : (Tryz.prog.info? 66).map (fun i => (i.zero, i.size, i.bytes)) = some (some (.agg #[.int .i64 0, .int .i64 0, .int .i64 0, .int .i64 0, .string ByteArray.empty]), 5, 48) := by kernel_rfl
theorem first_cases (a b a' b' : Int) : (if a ≠ a' then decide (a < a') else decide (b < b')) = (decide (a < a') || (a == a' && decide (b < b'))) := by
  by_cases h : a = a'
  · subst h; simp
  · rw [if_pos h, show (a == a') = false by simpa using h]; simp
set_option maxHeartbeats 1000000 in
theorem first_any (x y : Lo) (w : World) :
    Calls Tryz.prog 85 #[.agg #[.int .i64 x.count, .int .i64 x.site, .int .i64 x.node.id, .int .i64 x.node.parent, .string (bs x.node.name)], .agg #[.int .i64 y.count, .int .i64 y.site, .int .i64 y.node.id, .int .i64 y.node.parent, .string (bs y.node.name)]] w fun e w' => e = .returned (.bool (ahead x y)) ∧ Below w.heap.size w w' := by
  have HA : Hid (ahead x y = (decide (x.count < y.count) || (x.count == y.count && decide (x.site < y.site)))) := hide (first_cases _ _ _ _)
  generalize ahead x y = q at *
  rcases Int.lt_trichotomy x.count y.count with h | h | h
  · have hd : decide (x.count < y.count) = true := by simpa using h
    have HQ : Hid (q = true) := by apply hide; rw [unhide HA, hd]; rfl
    go_enter Tryz.func85, Tryz.ntmps85
    go_wp2
    go_ret
    exact ⟨ret_bool (unhide HQ).symm, ((Below.refl _ _).alloc (Nat.le_refl _) _).alloc (by simp) _⟩
  · have hd : decide (x.count < y.count) = false := by simp; omega
    have he : (x.count == y.count) = true := by simpa using h
    have HQ : Hid (q = decide (x.site < y.site)) := by apply hide; rw [unhide HA, hd, he]; rfl
    clear h
    go_enter Tryz.func85, Tryz.ntmps85
    go_wp2
    go_ret
    exact ⟨ret_bool (unhide HQ).symm, ((Below.refl _ _).alloc (Nat.le_refl _) _).alloc (by simp) _⟩
  · have hd : decide (x.count < y.count) = false := by simp; omega
    have he : (x.count == y.count) = false := by simp; omega
    have HQ : Hid (q = false) := by apply hide; rw [unhide HA, hd, he]; rfl
    go_enter Tryz.func85, Tryz.ntmps85
    go_wp2
    go_ret
    exact ⟨ret_bool (unhide HQ).symm, ((Below.refl _ _).alloc (Nat.le_refl _) _).alloc (by simp) _⟩
set_option maxHeartbeats 2000000 in
theorem known_any (l : List Lo) (x : Lo) (ao : Option Addr) (cap : Nat) (w : World) (hrow : Row w ao l.length 5 (loCells l)) (hl : l.length ≤ 8000) :
    Calls Tryz.prog 53 #[.slice ao l.length cap, .agg #[.int .i64 x.count, .int .i64 x.site, .int .i64 x.node.id, .int .i64 x.node.parent, .string (bs x.node.name)]] w fun e w' => e = .returned (.bool (hasStamp l x)) ∧ Below w.heap.size w w' := by
  have HROW := hide hrow; clear hrow
  go_enter Tryz.func53, Tryz.ntmps53
  go_wp2
  go_loopw [5] (fun i wr => ∃ k : Nat, k ≤ l.length ∧ i = .int .i64 k ∧ Below w.heap.size w wr ∧ w.heap.size < wr.heap.size ∧ wr.cell? ⟨w.heap.size, 0, none⟩ = some (.int .i64 x.count) ∧ wr.cell? ⟨w.heap.size, 1, none⟩ = some (.int .i64 x.site) ∧ Hid (∀ j (hj : j < l.length), j < k → sameStamp l[j] x = false)) (fun i _ => l.length - (intOf i).toNat)
  case atStart =>
    refine ⟨0, Nat.zero_le _, rfl, (Below.refl _ _).alloc (Nat.le_refl _) _, by simp, ?_, ?_, hide (fun j hj h => by omega)⟩
    · simp [go_sem]
    · simp [go_sem]
  case round =>
    obtain ⟨k, hk, rfl, hbel, hsz, x0, x1, HN⟩ := hrel
    by_cases hlt : k < l.length
    · obtain ⟨g, hao, hg, c0, c1, c2, c3, c4⟩ := lo_cells (unhide HROW) hbel (Nat.le_refl _) hlt
      rw [hao]
      clear hao c2 c3 c4
      have hk0 : (0 : Int) ≤ k := by omega
      have hk1 : (k : Int) < l.length := by omega
      have HS : Hid (sameStamp l[k] x = ((l[k]).count == x.count && (l[k]).site == x.site)) := hide rfl
      have HNX : Hid (sameStamp l[k] x = false → ∀ j (hj : j < l.length), j < k + 1 → sameStamp l[j] x = false) := by
        apply hide; intro hh j hj hjk
        by_cases e : j = k
        · subst e; exact hh
        · exact unhide HN j hj (by omega)
      have HYS : Hid (sameStamp l[k] x = true → hasStamp l x = true) := by
        apply hide; intro hh; unfold hasStamp; rw [List.any_eq_true]; exact ⟨l[k], List.getElem_mem hlt, hh⟩
      generalize l[k] = y at *
      cases h0 : (y.count == x.count)
      · have HF := hide (unhide HNX (by rw [unhide HS, h0]; rfl))
        go_wp2
        go_quiet (fail)
        go_wp2
        go_roundw
        case rel => exact ⟨k + 1, by omega, by go_num, below_drewN hbel _, hsz, x0, x1, HF⟩
        case measure => simp [intOf]; omega
      · cases h1 : (y.site == x.site)
        · have HF := hide (unhide HNX (by rw [unhide HS, h0, h1]; rfl))
          go_wp2
          go_quiet (fail)
          go_wp2
          go_roundw
          case rel => exact ⟨k + 1, by omega, by go_num, below_drewN hbel _, hsz, x0, x1, HF⟩
          case measure => simp [intOf]; omega
        · have HF := hide (unhide HYS (by rw [unhide HS, h0, h1]; rfl))
          go_wp2
          go_quiet (fail)
          go_wp2
          go_ret
          exact ⟨ret_bool (unhide HF).symm, below_drewN hbel _⟩
    · have HF := hide (hasStamp_take (unhide HN) hlt)
      go_wp2
      go_ret
      exact ⟨ret_bool (unhide HF).symm, hbel⟩
end Go.Proofs.YtdcjimlhaklhfaaGreatDoor

namespace Go.Proofs.YtdcjimlhaklhfaaGreatDoor
open Go.RowKit
def jStep (x : Lo) (p : List Lo × Bool) (y : Lo) : List Lo × Bool := if ahead x y && !p.2 then (p.1 ++ [x] ++ [y], true) else (p.1 ++ [y], p.2)
def jTo (x : Lo) (l : List Lo) : List Lo × Bool := l.foldl (jStep x) ([], false)
theorem jTo_take (x : Lo) (l : List Lo) (k : Nat) (h : k < l.length) : jTo x (l.take (k + 1)) = jStep x (jTo x (l.take k)) l[k] := by
  unfold jTo; rw [List.take_succ_eq_append_getElem h, List.foldl_append]; rfl
theorem jStep_true (x : Lo) : ∀ (l acc : List Lo), l.foldl (jStep x) (acc, true) = (acc ++ l, true) := by
  intro l
  induction l with
  | nil => intro acc; simp
  | cons y l ih =>
    intro acc
    rw [List.foldl_cons, show jStep x (acc, true) y = (acc ++ [y], true) by unfold jStep; simp, ih]; simp
theorem jStep_false (x : Lo) : ∀ (l acc : List Lo), (if (l.foldl (jStep x) (acc, false)).2 then (l.foldl (jStep x) (acc, false)).1 else (l.foldl (jStep x) (acc, false)).1 ++ [x]) = acc ++ ins x l := by
  intro l
  induction l with
  | nil => intro acc; simp [ins]
  | cons y l ih =>
    intro acc
    rw [List.foldl_cons]
    cases h : ahead x y with
    | true =>
      rw [show jStep x (acc, false) y = (acc ++ [x] ++ [y], true) by unfold jStep; simp [h], jStep_true]
      simp [ins, h]
    | false =>
      rw [show jStep x (acc, false) y = (acc ++ [y], false) by unfold jStep; simp [h], ih]
      simp [ins, h]
theorem jTo_end (x : Lo) (l : List Lo) : (if (jTo x l).2 then (jTo x l).1 else (jTo x l).1 ++ [x]) = ins x l := by
  unfold jTo; have := jStep_false x l []; simpa using this
theorem jStep_len (x : Lo) (p : List Lo × Bool) (y : Lo) : (jStep x p y).1.length ≤ p.1.length + 2 := by unfold jStep; split <;> simp
theorem jTo_len (x : Lo) : ∀ (l : List Lo), (jTo x l).1.length ≤ 2 * l.length := by
  refine list_snoc_ind (by simp [jTo]) ?_
  intro l y ih
  have := jStep_len x (jTo x l) y
  rw [show jTo x (l ++ [y]) = jStep x (jTo x l) y by simp [jTo], List.length_append]; simp; omega
theorem own_base {w : World} {base base' : Nat} {e : TypeId} {size : Nat} {v : Value} {n : Nat} {xs : List Value} (h : w.ownsRow base e size v n xs) (hb : base' ≤ base) : w.ownsRow base' e size v n xs := by
  refine ⟨h.1, ?_⟩
  rcases h.2 with hn | ⟨g, cap, cur, rfl, hg, rest⟩
  · exact .inl hn
  · exact .inr ⟨g, cap, cur, rfl, by omega, rest⟩
set_option maxHeartbeats 4000000 in
set_option maxRecDepth 100000 in
theorem joined_any (l : List Lo) (x : Lo) (ao : Option Addr) (cap : Nat) (w : World) (hrow : Row w ao l.length 5 (loCells l)) (hl : l.length ≤ 8000) :
    Calls Tryz.prog 54 #[.slice ao l.length cap, .agg #[.int .i64 x.count, .int .i64 x.site, .int .i64 x.node.id, .int .i64 x.node.parent, .string (bs x.node.name)]] w fun e w' => ∃ fo cf, e = .returned (.slice fo (ins x l).length cf) ∧ w'.ownsRow w.heap.size 66 5 (.slice fo (ins x l).length cf) (ins x l).length (loCells (ins x l)) ∧ Below w.heap.size w w' := by
  obtain ⟨i0, hi, hz0, hz1, hz2⟩ := info_parts Tryz.infoEntry
  obtain ⟨w0, hw0⟩ : ∃ w0, w.alloc (Obj.cells #[.int .i64 x.count, .int .i64 x.site, .int .i64 x.node.id, .int .i64 x.node.parent, .string (bs x.node.name)] 66) = w0 := ⟨_, rfl⟩
  have hbw : Below w.heap.size w w0 := by rw [← hw0]; exact (Below.refl _ _).alloc (Nat.le_refl _) _
  have HBW := hide hbw
  have HROW := hide (hrow.below hbw)
  have hlt0 : w.heap.size < w0.heap.size := by rw [← hw0]; simp
  have HOP : Hid (OpAt w0 w.heap.size x) := by apply hide; rw [← hw0]; exact opAt_new w x _
  clear hrow hbw
  go_enter Tryz.func54, Tryz.ntmps54
  go_wp2
  try rw [hw0]
  clear hw0
  go_loopw [5, 6, 7] (fun v d i wr => ∃ k : Nat, k ≤ l.length ∧ i = .int .i64 k ∧ d = .bool (jTo x (l.take k)).2 ∧ wr.ownsRow w0.heap.size 66 5 v (jTo x (l.take k)).1.length (loCells (jTo x (l.take k)).1) ∧ Below w0.heap.size w0 wr) (fun _ _ i _ => l.length - (intOf i).toNat)
  case atStart => exact ⟨0, Nat.zero_le _, rfl, rfl, World.ownsRow_nil _ _ _ _, Below.refl _ _⟩
  case round =>
    obtain ⟨k, hk, rfl, rfl, hown, hbel⟩ := hrel
    have hjl := jTo_len x (l.take k)
    rw [List.length_take] at hjl
    have HOPr := hide ((unhide HOP).below hbel hlt0)
    obtain ⟨hpr, x0, x1, x2, x3, x4⟩ := unhide HOPr
    by_cases hlt : k < l.length
    · obtain ⟨g, hao, hg, c0, c1, c2, c3, c4⟩ := lo_cells (unhide HROW) hbel (Nat.le_refl _) hlt
      rw [hao]
      clear hao
      have hk0 : (0 : Int) ≤ k := by omega
      have hk1 : (k : Int) < l.length := by omega
      have hsz := hbel.size
      have hgr : g < wr.heap.size := by omega
      have HST := hide (jTo_take x l k hlt)
      have HFI := hide (fun W => first_any x l[k] W)
      generalize l[k] = y at *
      have HJS : Hid (jStep x (jTo x (l.take k)) y = if ahead x y && !(jTo x (l.take k)).2 then ((jTo x (l.take k)).1 ++ [x] ++ [y], true) else ((jTo x (l.take k)).1 ++ [y], (jTo x (l.take k)).2)) := hide rfl
      generalize ahead x y = q at *
      generalize (jTo x (l.take k)).1 = acc at *
      generalize (jTo x (l.take k)).2 = d at *
      have HOWN := hide hown; clear hown
      have HB := hide hbel; clear hbel
      have HRC : Hid (wr.cell? ⟨g, k * 5, none⟩ = some (.int .i64 y.count) ∧ wr.cell? ⟨g, k * 5 + 1, none⟩ = some (.int .i64 y.site) ∧ wr.cell? ⟨g, k * 5 + 2, none⟩ = some (.int .i64 y.node.id) ∧ wr.cell? ⟨g, k * 5 + 3, none⟩ = some (.int .i64 y.node.parent) ∧ wr.cell? ⟨g, k * 5 + 4, none⟩ = some (.string (bs y.node.name))) := hide ⟨c0, c1, c2, c3, c4⟩
      go_wp2
      go_region_with (go_at_call 85; refine (unhide HFI _).mono ?_; rintro e w2 ⟨rfl, hb2⟩)
      all_goals
        have hb2' : Below wr.heap.size wr w2 := (Below.refl wr.heap.size wr).drew.trans (hb2.mono (by simp [heap_drew]))
        have HB2 := hide ((unhide HB).trans (hb2'.mono hsz))
        have HOWN2 := hide (own_below (unhide HOWN) hb2')
        have HOP2 := hide ((unhide HOPr).below hb2' hpr)
        have hs2 := hb2'.size
        have HRC2 : Hid (w2.cell? ⟨g, k * 5, none⟩ = some (.int .i64 y.count) ∧ w2.cell? ⟨g, k * 5 + 1, none⟩ = some (.int .i64 y.site) ∧ w2.cell? ⟨g, k * 5 + 2, none⟩ = some (.int .i64 y.node.id) ∧ w2.cell? ⟨g, k * 5 + 3, none⟩ = some (.int .i64 y.node.parent) ∧ w2.cell? ⟨g, k * 5 + 4, none⟩ = some (.string (bs y.node.name))) := by
          apply hide
          obtain ⟨r0, r1, r2, r3, r4⟩ := unhide HRC
          exact ⟨(hb2'.cell (p := ⟨g, _, none⟩) hgr).trans r0, (hb2'.cell (p := ⟨g, _, none⟩) hgr).trans r1, (hb2'.cell (p := ⟨g, _, none⟩) hgr).trans r2, (hb2'.cell (p := ⟨g, _, none⟩) hgr).trans r3, (hb2'.cell (p := ⟨g, _, none⟩) hgr).trans r4⟩
        clear hb2 hb2' x0 x1 x2 x3 x4 c0 c1 c2 c3 c4
        have hsw : w0.heap.size ≤ w2.heap.size := (unhide HB2).size
        have hgn : g < w2.heap.size := by omega
        rcases (show (q = true ∧ d = false) ∨ (q && !d) = false from by cases q <;> cases d <;> simp) with ⟨hq, hd⟩ | hqd
        · subst hq hd
          have HJ2 : Hid (jTo x (l.take (k + 1)) = (acc ++ [x] ++ [y], true)) := hide ((unhide HST).trans (unhide HJS))
          obtain ⟨_, x0, x1, x2, x3, x4⟩ := unhide HOP2
          go_wp2_with (first
            | (at_builtin; (refine wpList_append_own _ rfl _ _ 38 rfl w0.heap.size 66 i0 (.agg #[.int .i64 0, .int .i64 0, .int .i64 0, .int .i64 0, .string ByteArray.empty]) 5 48 Tryz.underlying38 hi hz0 hz1 hz2 rfl (by decide) _ _ _ rfl (own_below (unhide HOWN2) ((Below.refl _ _).alloc (Nat.le_refl _) _)) ⟨w2.heap.size, 0, none⟩ 1 1 (loC x) rfl rfl (news_five _ _ _ _ _ _) (by simp [Value.oneCell', loC]) (by unfold maxLen; omega) (by omega) (by simp; omega) ?_))
            | go_in)
          intro v' w3 hown3 hg3 _
          have hb3 : Below w0.heap.size w0 w3 := ((unhide HB2).alloc hsw _).grown hg3 (by simp; omega) (own_ge (unhide HOWN2))
          have hk3 : Keeps (fun k => w0.heap.size ≤ k) w2 w3 := (Keeps.of_below (S := fun k => w0.heap.size ≤ k) ((Below.refl w2.heap.size w2).alloc (Nat.le_refl _) _) (fun k h1 h2 => by omega)).trans (Keeps.of_grown hg3) (fun k _ h => own_ge (unhide HOWN2) k h)
          obtain ⟨y0, y1, y2, y3, y4⟩ := unhide HRC2
          have hgb : w3.heap[g]? = w2.heap[g]? := hk3.block g hgn (by omega)
          have z0 := (World.cell?_of_block (a := ⟨g, k * 5, none⟩) hgb).trans y0
          have z1 := (World.cell?_of_block (a := ⟨g, k * 5 + 1, none⟩) hgb).trans y1
          have z2 := (World.cell?_of_block (a := ⟨g, k * 5 + 2, none⟩) hgb).trans y2
          have z3 := (World.cell?_of_block (a := ⟨g, k * 5 + 3, none⟩) hgb).trans y3
          have z4 := (World.cell?_of_block (a := ⟨g, k * 5 + 4, none⟩) hgb).trans y4
          have HOWN3 : Hid (w3.ownsRow w0.heap.size 66 5 v' (acc.length + 1) (loCells (acc ++ [x]))) := by apply hide; rw [loCells_snoc]; exact hown3
          have HB3 := hide hb3
          have hsw3 : w0.heap.size ≤ w3.heap.size := hb3.size
          clear hown3 hg3 hb3 hk3 hgb y0 y1 y2 y3 y4 x0 x1 x2 x3 x4
          go_wp2_with (first
            | (at_builtin; (refine wpList_append_own _ rfl _ _ 38 rfl w0.heap.size 66 i0 (.agg #[.int .i64 0, .int .i64 0, .int .i64 0, .int .i64 0, .string ByteArray.empty]) 5 48 Tryz.underlying38 hi hz0 hz1 hz2 rfl (by decide) _ _ _ rfl (own_below (unhide HOWN3) ((Below.refl _ _).alloc (Nat.le_refl _) _)) ⟨w3.heap.size, 0, none⟩ 1 1 (loC y) rfl rfl (news_five _ _ _ _ _ _) (by simp [Value.oneCell', loC]) (by unfold maxLen; omega) (by omega) (by simp; omega) ?_))
            | go_in)
          intro v2 w4 hown4 hg4 _
          have hb4 : Below w0.heap.size w0 w4 := ((unhide HB3).alloc hsw3 _).grown hg4 (by simp; omega) (own_ge (unhide HOWN3))
          have hown5 : w4.ownsRow w0.heap.size 66 5 v2 (jTo x (l.take (k + 1))).1.length (loCells (jTo x (l.take (k + 1))).1) := by
            rw [unhide HJ2]
            show w4.ownsRow _ _ _ _ (acc ++ [x] ++ [y]).length (loCells (acc ++ [x] ++ [y]))
            rw [loCells_snoc, List.length_append, List.length_append]; exact hown4
          clear hg4 hown4 z0 z1 z2 z3 z4
          go_wp2
          go_roundw
          case rel => exact ⟨k + 1, by omega, by go_num, by rw [unhide HJ2], hown5, hb4⟩
          case measure => simp [intOf]; omega
        · have HJ2 : Hid (jTo x (l.take (k + 1)) = (acc ++ [y], d)) := by
            apply hide; rw [unhide HST, unhide HJS, hqd]; rfl
          have hqd' : q = false ∨ (q = true ∧ d = true) := by cases q <;> cases d <;> simp at hqd ⊢
          clear hqd
          obtain ⟨y0, y1, y2, y3, y4⟩ := unhide HRC2
          rcases hqd' with hq | ⟨hq, hd⟩
          case' inl => subst hq
          case' inr => subst hq hd
          all_goals
            go_wp2_with (first
              | (at_builtin; (refine wpList_append_own _ rfl _ _ 38 rfl w0.heap.size 66 i0 (.agg #[.int .i64 0, .int .i64 0, .int .i64 0, .int .i64 0, .string ByteArray.empty]) 5 48 Tryz.underlying38 hi hz0 hz1 hz2 rfl (by decide) _ _ _ rfl (own_below (unhide HOWN2) ((Below.refl _ _).alloc (Nat.le_refl _) _)) ⟨w2.heap.size, 0, none⟩ 1 1 (loC y) rfl rfl (news_five _ _ _ _ _ _) (by simp [Value.oneCell', loC]) (by unfold maxLen; omega) (by omega) (by simp; omega) ?_))
              | go_in)
            intro v2 w4 hown4 hg4 _
            have hb4 : Below w0.heap.size w0 w4 := ((unhide HB2).alloc hsw _).grown hg4 (by simp; omega) (own_ge (unhide HOWN2))
            have hown5 : w4.ownsRow w0.heap.size 66 5 v2 (jTo x (l.take (k + 1))).1.length (loCells (jTo x (l.take (k + 1))).1) := by
              rw [unhide HJ2]
              show w4.ownsRow _ _ _ _ (acc ++ [y]).length (loCells (acc ++ [y]))
              rw [loCells_snoc, List.length_append]; exact hown4
            clear hg4 hown4 y0 y1 y2 y3 y4
            go_wp2
            go_roundw
            case rel => exact ⟨k + 1, by omega, by go_num, by rw [unhide HJ2], hown5, hb4⟩
            case measure => simp [intOf]; omega
    · have HE : Hid ((if (jTo x (l.take k)).2 then (jTo x (l.take k)).1 else (jTo x (l.take k)).1 ++ [x]) = ins x l) := by apply hide; rw [List.take_of_length_le (by omega)]; exact jTo_end x l
      generalize (jTo x (l.take k)).1 = acc at *
      generalize (jTo x (l.take k)).2 = d at *
      have hsz := hbel.size
      cases d with
      | true =>
        obtain ⟨fo, cf, rfl, _⟩ := row_of_owns hown
        have HE2 : Hid (ins x l = acc) := hide (unhide HE).symm
        have HOWN := hide hown; clear hown
        go_wp2
        go_ret
        refine ⟨fo, cf, by rw [unhide HE2]; rfl, ?_, (unhide HBW).trans (hbel.mono (by omega))⟩
        rw [unhide HE2]
        exact own_base (unhide HOWN) (by omega)
      | false =>
        have HE2 : Hid (ins x l = acc ++ [x]) := hide (unhide HE).symm
        have HOWN := hide hown; clear hown
        have hal : acc.length + 1 ≤ 20000 := by omega
        go_wp2_with (first
          | (at_builtin; (refine wpList_append_own _ rfl _ _ 38 rfl w0.heap.size 66 i0 (.agg #[.int .i64 0, .int .i64 0, .int .i64 0, .int .i64 0, .string ByteArray.empty]) 5 48 Tryz.underlying38 hi hz0 hz1 hz2 rfl (by decide) _ _ _ rfl (own_below (unhide HOWN) ((Below.refl _ _).alloc (Nat.le_refl _) _)) ⟨wr.heap.size, 0, none⟩ 1 1 (loC x) rfl rfl (news_five _ _ _ _ _ _) (by simp [Value.oneCell', loC]) (by unfold maxLen; omega) (by omega) (by simp; omega) ?_))
          | go_in)
        intro v' w3 hown3 hg3 _
        have hb3 : Below w0.heap.size w0 w3 := (hbel.alloc hsz _).grown hg3 (by simp; omega) (own_ge (unhide HOWN))
        have hown4 : w3.ownsRow w0.heap.size 66 5 v' (acc ++ [x]).length (loCells (acc ++ [x])) := by rw [loCells_snoc, List.length_append]; exact hown3
        obtain ⟨fo, cf, rfl, _⟩ := row_of_owns hown4
        have HOWN4 := hide hown4
        clear hown3 hg3 hown4
        go_wp2
        go_ret
        refine ⟨fo, cf, by rw [unhide HE2]; rfl, ?_, (unhide HBW).trans (hb3.mono (by omega))⟩
        rw [unhide HE2]
        exact own_base (unhide HOWN4) (by omega)
end Go.Proofs.YtdcjimlhaklhfaaGreatDoor

namespace Go.Proofs.YtdcjimlhaklhfaaGreatDoor
open Go.RowKit
attribute [local go_sem ↓] Go.wp_at_zero Go.wp_at_succ
theorem set5 {W : World} {B : Nat} (x0 x1 x2 x3 x4 : Value) (h0 : (W.cell? ⟨B, 0, none⟩).isSome = true) (h1 : (W.cell? ⟨B, 1, none⟩).isSome = true) (h2 : (W.cell? ⟨B, 2, none⟩).isSome = true) (h3 : (W.cell? ⟨B, 3, none⟩).isSome = true) (h4 : (W.cell? ⟨B, 4, none⟩).isSome = true) :
    let Z := ((((W.setCell ⟨B, 0, none⟩ x0).setCell ⟨B, 1, none⟩ x1).setCell ⟨B, 2, none⟩ x2).setCell ⟨B, 3, none⟩ x3).setCell ⟨B, 4, none⟩ x4
    Z.cell? ⟨B, 0, none⟩ = some x0 ∧ Z.cell? ⟨B, 1, none⟩ = some x1 ∧ Z.cell? ⟨B, 2, none⟩ = some x2 ∧ Z.cell? ⟨B, 3, none⟩ = some x3 ∧ Z.cell? ⟨B, 4, none⟩ = some x4 := by
  obtain ⟨u0, e0⟩ := Option.isSome_iff_exists.1 h0
  obtain ⟨u1, e1⟩ := Option.isSome_iff_exists.1 h1
  obtain ⟨u2, e2⟩ := Option.isSome_iff_exists.1 h2
  obtain ⟨u3, e3⟩ := Option.isSome_iff_exists.1 h3
  obtain ⟨u4, e4⟩ := Option.isSome_iff_exists.1 h4
  refine ⟨?_, ?_, ?_, ?_, ?_⟩ <;> simp [go_sem, e0, e1, e2, e3, e4]
theorem rparts_five {r : Str} (h : (rparts r).length = 5) : ∃ a b c d e, rparts r = [a, b, c, d, e] := len5 h
theorem readOp_r (r : Str) : readOp r = opOf (rparts r) := by
  unfold readOp rparts; split <;> rfl
set_option maxHeartbeats 1000000 in
theorem entry_no (s : ByteArray) (w : World) (hs : s.size ≤ 4000) (h5 : (rparts (sl s)).length ≠ 5) :
    Calls Tryz.prog 84 #[.string s] w fun e w' => OpRes (readOp (sl s)) e ∧ Below w.heap.size w w' := by
  rw [readOp_r, opOf_other h5]
  have HP := hide (fun W => rparts_any s W hs)
  have hne : (((rparts (sl s)).length : Int) != 5) = true := by rw [bne_iff_ne]; omega
  generalize (rparts (sl s)).length = n at *
  go_enter Tryz.func84, Tryz.ntmps84
  go_wp2_with fail
  refine (unhide HP _).mono ?_
  rintro e w1 ⟨ao, cap, rfl, hrow, hbel⟩
  clear hrow
  obtain ⟨hc, hf⟩ := bcell hbel
  have hz : w.heap.size + 1 ≤ w1.heap.size := by have := hbel.size; simp at this; omega
  have HB0 : Hid (Below w.heap.size w w1) := hide (((Below.refl _ _).alloc (Nat.le_refl _) _).trans (hbel.mono (by simp)))
  go_wp2
  refine bodyPost_ret (v := .tuple #[.agg #[.int .i64 0, .int .i64 0, .int .i64 0, .int .i64 0, .string ByteArray.empty], .bool false]) (by simp [results, Tryz.results84, go_sem, hc]; rfl) rfl ⟨opRes_none, ?_⟩
  exact (((((unhide HB0).setCell (by simp) _).setCell (by simp) _).setCell (by simp) _).setCell (by simp) _).setCell (by simp) _
theorem call_on {W0 W w1 : World} (h : Below W0.heap.size W0 W) (hb : Below W.heap.size W w1) : Below W0.heap.size W0 w1 := h.trans (hb.mono h.size)
theorem below_more {W0 W : World} {o : Obj} (h : Below W0.heap.size W0 W) : Below W0.heap.size W0 (W.alloc o) := h.alloc h.size o
theorem five_cells {w : World} {B : Nat} {a b c d e : Value} {T : TypeId} (h : w.heap[B]? = some (.cells #[a, b, c, d, e] T (0, 0))) : w.cell? ⟨B, 0, none⟩ = some a ∧ w.cell? ⟨B, 1, none⟩ = some b ∧ w.cell? ⟨B, 2, none⟩ = some c ∧ w.cell? ⟨B, 3, none⟩ = some d ∧ w.cell? ⟨B, 4, none⟩ = some e ∧ (∀ j, w.frozen? ⟨B, j, none⟩ = false) ∧ B < w.heap.size := by
  refine ⟨?_, ?_, ?_, ?_, ?_, fun j => by simp [World.frozen?, h], lt_of_block h⟩
  all_goals rw [cell_of_row w B _ _ _ _ h]; rfl
theorem dash5 (s : Str) : ((bs s).toList == [45]) = (s == [45]) := by rw [tl_sl, sl_bs]
theorem set5_block {W : World} {B : Nat} {a b c d e : Value} {T : TypeId} (x0 x1 x2 x3 x4 : Value) (h : W.heap[B]? = some (.cells #[a, b, c, d, e] T (0, 0))) :
    (((((W.setCell ⟨B, 0, none⟩ x0).setCell ⟨B, 1, none⟩ x1).setCell ⟨B, 2, none⟩ x2).setCell ⟨B, 3, none⟩ x3).setCell ⟨B, 4, none⟩ x4).heap[B]? = some (.cells #[x0, x1, x2, x3, x4] T (0, 0)) := by
  have h0 := heap_setCell_same W B 0 _ _ x0 h
  have h1 := heap_setCell_same _ B 1 _ _ x1 h0
  have h2 := heap_setCell_same _ B 2 _ _ x2 h1
  have h3 := heap_setCell_same _ B 3 _ _ x3 h2
  have h4 := heap_setCell_same _ B 4 _ _ x4 h3
  rw [h4]; rfl
set_option maxHeartbeats 8000000 in
set_option maxRecDepth 100000 in
theorem entry_yes (s : ByteArray) (w : World) (hs : s.size ≤ 4000) (a b c d f : Str) (h5 : rparts (sl s) = [a, b, c, d, f]) :
    Calls Tryz.prog 84 #[.string s] w fun e w' => OpRes (readOp (sl s)) e ∧ Below w.heap.size w w' := by
  rw [readOp_r, h5]
  show Calls Tryz.prog 84 #[.string s] w fun e w' => OpRes (opOf5 a b c d f) e ∧ Below w.heap.size w w'
  have hl := rparts_len (sl s) (by rw [sl_length]; exact hs)
  rw [h5] at hl
  have hla : (bs a).size ≤ 4000 := by rw [bs_size]; exact hl a (by simp)
  have hlb : (bs b).size ≤ 4000 := by rw [bs_size]; exact hl b (by simp)
  have hlc : (bs c).size ≤ 4000 := by rw [bs_size]; exact hl c (by simp)
  have hld : (bs d).size ≤ 4000 := by rw [bs_size]; exact hl d (by simp)
  have hlf : (bs f).size ≤ 4000 := by rw [bs_size]; exact hl f (by simp)
  have HP : Hid (∀ W, Calls Tryz.prog 72 #[.string s] W fun e w' => ∃ ao cap, e = .returned (.slice ao 5 cap) ∧ Row w' ao 5 1 [.string (bs a), .string (bs b), .string (bs c), .string (bs d), .string (bs f)] ∧ Below W.heap.size W w') := by
    apply hide; intro W; have := rparts_any s W hs; rw [h5] at this; exact this
  clear hl h5
  go_enter Tryz.func84, Tryz.ntmps84
  go_wp2_with fail
  refine (unhide HP _).mono ?_
  rintro e W0 ⟨ao, cap, rfl, hrow, hbel⟩
  obtain ⟨g, hao, hgW, hcel⟩ := hrow.2 (by omega)
  rw [hao]
  have d0 := hcel 0 _ rfl
  have d1 := hcel 1 _ rfl
  have d2 := hcel 2 _ rfl
  have D2 := hide d2
  have D3 := hide (hcel 3 _ rfl)
  have D4 := hide (hcel 4 _ rfl)
  clear hcel hao hrow
  have hzN : w.heap.size < W0.heap.size := by have := hbel.size; simp at this; omega
  obtain ⟨hcN, hfN⟩ := bcell hbel
  have HN : Hid (∀ o, W0.cell? ⟨w.heap.size, o, none⟩ = (w.alloc (Obj.cells #[.int .i64 0, .int .i64 0, .int .i64 0, .int .i64 0, .string ⟨#[]⟩] 66)).cell? ⟨w.heap.size, o, none⟩) := hide (fun o => hcN _ o (by simp))
  have HNB : Hid (W0.heap[w.heap.size]? = some (.cells #[.int .i64 0, .int .i64 0, .int .i64 0, .int .i64 0, .string ⟨#[]⟩] 66 (0, 0))) := hide ((hbel.block w.heap.size (by simp)).trans (heap_alloc_new w _))
  have HNF : Hid (∀ o, W0.frozen? ⟨w.heap.size, o, none⟩ = false) := hide (fun o => by rw [hfN _ o (by simp)]; exact frozen_of_row _ _ _ _ _ (heap_alloc_new w _))
  have hgN : ¬ g = w.heap.size := by
    intro e; have h0 := (five_cells (unhide HNB)).1; rw [← e, d0] at h0; cases h0
  have hNg : ¬ w.heap.size = g := fun e => hgN e.symm
  have HBW : Hid (Below w.heap.size w W0) := hide (((Below.refl _ _).alloc (Nat.le_refl _) _).trans (hbel.mono (by simp)))
  clear hbel hcN hfN
  have HD := hide (show W0.drew.cell? ⟨g, 0, none⟩ = some (.string (bs a)) ∧ W0.drew.cell? ⟨g, 1, none⟩ = some (.string (bs b)) ∧ W0.drew.cell? ⟨g, 2, none⟩ = some (.string (bs c)) ∧ Below W0.heap.size W0 W0.drew from ⟨d0, d1, d2, (Below.refl _ _).drew⟩)
  clear d0 d1 d2
  go_wp2
  go_cut [5] from 9 (fun p wx => ∃ B : Nat, p = .pointer (some ⟨B, 0, none⟩) ∧ W0.heap.size ≤ B ∧ wx.heap[B]? = some (.cells #[.int .i64 (numR a 1 9999), .int .i64 (numR b 1 9), .int .i64 0, .int .i64 0, .string ⟨#[]⟩] 66 (0, 0)) ∧ Below W0.heap.size W0 wx)
  case first =>
    have d0 : W0.cell? ⟨g, 0, none⟩ = some (.string (bs a)) := (unhide HD).1
    have d1 : W0.cell? ⟨g, 1, none⟩ = some (.string (bs b)) := (unhide HD).2.1
    go_region_with (go_at_call 91; refine (rnumber_any _ _ _ _ (by first | exact hla | exact hlb) (by omega) (by omega)).mono ?_; rintro e w1 ⟨rfl, hb1⟩; have hB1 := call_on (by first | exact (Below.refl W0.heap.size W0).drew | exact ((Below.refl W0.heap.size W0).alloc (Nat.le_refl _) _).drew | assumption | exact below_more (by assumption)) hb1; obtain ⟨hc1, hf1⟩ := bcell hb1; have hzs := lt_kept hb1; have e0 := (hB1.cell (p := ⟨g, 0, none⟩) hgW).trans d0; have e1 := (hB1.cell (p := ⟨g, 1, none⟩) hgW).trans d1; have hg1 : g < w1.heap.size := Nat.lt_of_lt_of_le hgW hB1.size; have hg2 : ¬ g = w1.heap.size := Nat.ne_of_lt hg1; have hsz1 := hB1.size; have hbk := hb1.block; (first | have hal := (hb1.block W0.heap.size (by simp [heap_drew])).trans (heap_alloc_new W0 _) | have hal := (hb1.block W0.heap.size (lt_of_block hal)).trans hal | skip); clear hb1)
    all_goals go_wp2_with fail
    all_goals go_meet
    all_goals rw [sl_bs, sl_bs]
    all_goals first
      | exact ⟨_, rfl, hsz1, heap_alloc_new _ _, hB1.alloc hsz1 _⟩
      | exact ⟨_, rfl, Nat.le_refl _, set5_block _ _ _ _ _ ((hbk _ (by simp)).trans (heap_alloc_new _ _)), ((((hB1.setCell (Nat.le_refl _) _).setCell (Nat.le_refl _) _).setCell (Nat.le_refl _) _).setCell (Nat.le_refl _) _).setCell (Nat.le_refl _) _⟩
      | (refine ⟨_, rfl, ?_, set5_block _ _ _ _ _ ((hbk _ (by simp)).trans (heap_alloc_new _ _)), ((((hB1.setCell ?_ _).setCell ?_ _).setCell ?_ _).setCell ?_ _).setCell ?_ _⟩ <;> assumption)
      | exact ⟨_, rfl, Nat.le_refl _, set5_block _ _ _ _ _ hal, ((((hB1.setCell (Nat.le_refl _) _).setCell (Nat.le_refl _) _).setCell (Nat.le_refl _) _).setCell (Nat.le_refl _) _).setCell (Nat.le_refl _) _⟩
      | skip
  case rest =>
    obtain ⟨B, hp, hB, hblk, hbel⟩ := hcut
    subst hp
    have HRS : Hid (opOf5 a b c d f = if (number a 1 9999).2 && (number b 1 9).2 && (number c 1 99).2 && (number d 0 100).2 && placeB ⟨(number c 1 99).1, (number d 0 100).1, f⟩ then some ⟨(number a 1 9999).1, (number b 1 9).1, ⟨(number c 1 99).1, (number d 0 100).1, f⟩⟩ else none) := hide rfl
    have t2 := (hbel.cell (p := ⟨g, 2, none⟩) hgW).trans (unhide D2)
    have T3 := hide ((hbel.cell (p := ⟨g, 3, none⟩) hgW).trans (unhide D3))
    have T4 := hide ((hbel.cell (p := ⟨g, 4, none⟩) hgW).trans (unhide D4))
    have hgc : g < wc.heap.size := Nat.lt_of_lt_of_le hgW hbel.size
    have hNc : w.heap.size < wc.heap.size := Nat.lt_of_lt_of_le hzN hbel.size
    have hBc : B < wc.heap.size := lt_of_block hblk
    have HBK := hide hblk
    have HNK := hide ((hbel.block w.heap.size hzN).trans (unhide HNB))
    have HBL : Hid (Below w.heap.size w wc) := hide ((unhide HBW).trans (hbel.mono (by omega)))
    clear hblk hbel HD HN HNF HNB D2 D3 D4 HBW
    have HC := hide (fun W => rnumber_any (bs c) 1 99 W hlc (by omega) (by omega))
    have HDD := hide (fun W => rnumber_any (bs d) 0 100 W hld (by omega) (by omega))
    rw [sl_bs] at HC HDD
    go_wp2_with fail
    refine (unhide HC _).mono ?_
    rintro e w2 ⟨rfl, hb2⟩
    have t3 := (hb2.cell (p := ⟨g, 3, none⟩) hgc).trans (unhide T3)
    have T42 := hide ((hb2.cell (p := ⟨g, 4, none⟩) hgc).trans (unhide T4))
    have HBK2 := hide ((hb2.block B hBc).trans (unhide HBK))
    have HNK2 := hide ((hb2.block w.heap.size hNc).trans (unhide HNK))
    have HBL2 := hide ((unhide HBL).trans (hb2.mono (Nat.le_of_lt hNc)))
    have hgc2 : g < w2.heap.size := Nat.lt_of_lt_of_le hgc hb2.size
    have hNc2 : w.heap.size < w2.heap.size := Nat.lt_of_lt_of_le hNc hb2.size
    have hBc2 : B < w2.heap.size := Nat.lt_of_lt_of_le hBc hb2.size
    clear hb2 t2
    go_wp2_with fail
    refine (unhide HDD _).mono ?_
    rintro e w3 ⟨rfl, hb3⟩
    have t4 := (hb3.cell (p := ⟨g, 4, none⟩) hgc2).trans (unhide T42)
    have HBK3 := hide ((hb3.block B hBc2).trans (unhide HBK2))
    have HNK3 := hide ((hb3.block w.heap.size hNc2).trans (unhide HNK2))
    have HBL3 := hide ((unhide HBL2).trans (hb3.mono (Nat.le_of_lt hNc2)))
    have hgc3 : g < w3.heap.size := Nat.lt_of_lt_of_le hgc2 hb3.size
    clear hb3 t3 HBK HNK HBL HBK2 HNK2 HBL2 T3 T4 T42 hgc hNc hBc hgc2 hNc2 hBc2
    obtain ⟨b0, b1, b2, b3, b4, bf, bl⟩ := five_cells (unhide HBK3)
    obtain ⟨n0, n1, n2, n3, n4, nf, nl⟩ := five_cells (unhide HNK3)
    have hNB : ¬ w.heap.size = B := by omega
    have hBN : ¬ B = w.heap.size := by omega
    have hBg : ¬ B = g := by omega
    have hgB : ¬ g = B := by omega
    have bda := number_bd a 1 9999 (by omega)
    have bdb := number_bd b 1 9 (by omega)
    have bdc := number_bd c 1 99 (by omega)
    have bdd := number_bd d 0 100 (by omega)
    rcases (show (number a 1 9999).2 = false ∨ ((number a 1 9999).2 = true ∧ (number b 1 9).2 = false) ∨ ((number a 1 9999).2 = true ∧ (number b 1 9).2 = true ∧ (number c 1 99).2 = false) ∨ ((number a 1 9999).2 = true ∧ (number b 1 9).2 = true ∧ (number c 1 99).2 = true ∧ (number d 0 100).2 = false) ∨ ((number a 1 9999).2 = true ∧ (number b 1 9).2 = true ∧ (number c 1 99).2 = true ∧ (number d 0 100).2 = true) from by cases (number a 1 9999).2 <;> cases (number b 1 9).2 <;> cases (number c 1 99).2 <;> cases (number d 0 100).2 <;> simp) with h1 | ⟨h1, h2⟩ | ⟨h1, h2, h3⟩ | ⟨h1, h2, h3, h4⟩ | ⟨h1, h2, h3, h4⟩
    case inr.inr.inr.inr =>
      generalize hn1 : numR a 1 9999 = y1 at *
      generalize hn2 : numR b 1 9 = y2 at *
      generalize hn3 : numR c 1 99 = y3 at *
      generalize hn4 : numR d 0 100 = y4 at *
      rw [numR_yes h1] at hn1
      rw [numR_yes h2] at hn2
      rw [numR_yes h3] at hn3
      rw [numR_yes h4] at hn4
      rw [hn1] at bda
      rw [hn2] at bdb
      rw [hn3] at bdc
      rw [hn4] at bdd
      have HR : Hid (opOf5 a b c d f = if placeB ⟨y3, y4, f⟩ then some ⟨y1, y2, ⟨y3, y4, f⟩⟩ else none) := by apply hide; rw [unhide HRS, h1, h2, h3, h4, hn1, hn2, hn3, hn4]; rfl
      have HPB : Hid (placeB ⟨y3, y4, f⟩ = if y4 = 100 then f == [45] else (y4 % 2 == 0 && isName f y3)) := hide rfl
      clear HRS hn1 hn2 hn3 hn4 h1 h2 h3 h4
      obtain ⟨u1, _⟩ := bda
      obtain ⟨u2, _⟩ := bdb
      obtain ⟨u3, v3⟩ := bdc
      obtain ⟨u4, v4⟩ := bdd
      have k1 : decide (y1 < 0) = false := by simp; omega
      have k2 : decide (y2 < 0) = false := by simp; omega
      have k3 : decide (y3 < 0) = false := by simp; omega
      have k4 : decide (y4 < 0) = false := by simp; omega
      by_cases hodd : y4 % 2 = 1
      · have k5 : (y4 % 2 == 1) = true := by simpa using hodd
        have HRN : Hid (opOf5 a b c d f = none) := by
          apply hide
          have hpf : placeB ⟨y3, y4, f⟩ = false := by rw [unhide HPB, if_neg (by omega), show (y4 % 2 == 0) = false by simp; omega]; rfl
          rw [unhide HR, hpf]; rfl
        clear HR HPB hodd
        go_wp2
        refine bodyPost_ret (v := .tuple #[.agg #[.int .i64 0, .int .i64 0, .int .i64 0, .int .i64 0, .string ByteArray.empty], .bool false]) (by simp [results, Tryz.results84, go_sem, n0, n1, n2, n3, n4]; rfl) rfl ⟨by rw [unhide HRN]; exact opRes_none, ?_⟩
        exact (((((unhide HBL3).setCell (Nat.le_refl _) _).setCell (Nat.le_refl _) _).setCell (Nat.le_refl _) _).setCell (Nat.le_refl _) _).setCell (Nat.le_refl _) _
      · have k5 : (y4 % 2 == 1) = false := by simpa using hodd
        have HB5 : Hid ((((w3.setCell ⟨B, 2, none⟩ (.int .i64 y3)).setCell ⟨B, 3, none⟩ (.int .i64 y4)).setCell ⟨B, 4, none⟩ (.string (bs f))).heap[B]? = some (.cells #[.int .i64 y1, .int .i64 y2, .int .i64 y3, .int .i64 y4, .string (bs f)] 66 (0, 0))) := by
          apply hide
          have q0 := heap_setCell_same w3 B 2 _ _ (.int .i64 y3) (unhide HBK3)
          have q1 := heap_setCell_same _ B 3 _ _ (.int .i64 y4) q0
          have q2 := heap_setCell_same _ B 4 _ _ (.string (bs f)) q1
          rw [q2]; rfl
        have hK5 : Keeps (fun k => k = B) w3 (((w3.setCell ⟨B, 2, none⟩ (.int .i64 y3)).setCell ⟨B, 3, none⟩ (.int .i64 y4)).setCell ⟨B, 4, none⟩ (.string (bs f))) := ((Keeps.set w3 B 2 _).trans (Keeps.set _ B 3 _) (fun _ _ h => h)).trans (Keeps.set _ B 4 _) (fun _ _ h => h)
        have HN5 := hide ((hK5.block w.heap.size nl hNB).trans (unhide HNK3))
        have s4 : (((w3.setCell ⟨B, 2, none⟩ (.int .i64 y3)).setCell ⟨B, 3, none⟩ (.int .i64 y4)).setCell ⟨B, 4, none⟩ (.string (bs f))).cell? ⟨g, 4, none⟩ = some (.string (bs f)) := (World.cell?_of_block (a := ⟨g, 4, none⟩) (hK5.block g hgc3 hgB)).trans t4
        have S4 := hide s4
        have hs5 : w3.heap.size ≤ (((w3.setCell ⟨B, 2, none⟩ (.int .i64 y3)).setCell ⟨B, 3, none⟩ (.int .i64 y4)).setCell ⟨B, 4, none⟩ (.string (bs f))).heap.size := hK5.size
        have HBL5 := hide ((((unhide HBL3).setCell (p := ⟨B, 2, none⟩) (show w.heap.size ≤ B by omega) (.int .i64 y3)).setCell (p := ⟨B, 3, none⟩) (show w.heap.size ≤ B by omega) (.int .i64 y4)).setCell (p := ⟨B, 4, none⟩) (show w.heap.size ≤ B by omega) (.string (bs f)))
        clear hK5 s4
        go_upto_region 10 with fail
        clear b0 b1 b2 b3 b4 bf n0 n1 n2 n3 n4 nf t4
        generalize ((w3.setCell ⟨B, 2, none⟩ (.int .i64 y3)).setCell ⟨B, 3, none⟩ (.int .i64 y4)).setCell ⟨B, 4, none⟩ (.string (bs f)) = w5 at *
        have hg5 : g < w5.heap.size := Nat.lt_of_lt_of_le hgc3 hs5
        obtain ⟨b0, b1, b2, b3, b4, bf, bl5⟩ := five_cells (unhide HB5)
        obtain ⟨n0, n1, n2, n3, n4, nf, nl5⟩ := five_cells (unhide HN5)
        have t4 := unhide S4
        by_cases h100 : y4 = 100
        · have k6 : (y4 == 100) = true := by simpa using h100
          have HPF : Hid (placeB ⟨y3, y4, f⟩ = (f == [45])) := by apply hide; rw [unhide HPB, if_pos h100]
          have hde := dash_eq f
          have HDE := hide hde
          clear h100
          go_wp2
          go_region
          all_goals
            go_wp2
            refine bodyPost_ret (v := .tuple #[.agg #[.int .i64 y1, .int .i64 y2, .int .i64 y3, .int .i64 y4, .string (bs f)], .bool (f == [45])]) (by simp [results, Tryz.results84, go_sem, n0, n1, n2, n3, n4, dash5]) rfl ⟨?_, ?_⟩
            · refine ⟨y1, y2, y3, y4, bs f, ?_, fun x hx => ?_⟩
              · rw [unhide HR, unhide HPF]; cases (f == [45]) <;> rfl
              · rw [unhide HR, unhide HPF] at hx
                cases hq : (f == [45]) with
                | false => rw [hq] at hx; cases hx
                | true => rw [hq] at hx; cases hx; exact ⟨rfl, rfl, rfl, rfl, rfl⟩
            · exact (((((unhide HBL5).setCell (Nat.le_refl _) _).setCell (Nat.le_refl _) _).setCell (Nat.le_refl _) _).setCell (Nat.le_refl _) _).setCell (Nat.le_refl _) _ |>.drew
        · have k6 : (y4 == 100) = false := by simpa using h100
          have HPF : Hid (placeB ⟨y3, y4, f⟩ = isName f y3) := by apply hide; rw [unhide HPB, if_neg h100, show (y4 % 2 == 0) = true by simp; omega]; rfl
          have HNM := hide (fun W => named_any (bs f) y3 W hlf u3 v3)
          rw [sl_bs] at HNM
          generalize isName f y3 = q at *
          clear h100
          go_wp2_with fail
          refine (unhide HNM _).mono ?_
          rintro e w6 ⟨rfl, hb6⟩
          have HB6 := hide ((hb6.block B bl5).trans (unhide HB5))
          have HN6 := hide ((hb6.block w.heap.size nl5).trans (unhide HN5))
          have HBL6 := hide ((unhide HBL5).trans (hb6.mono (Nat.le_of_lt nl5)))
          clear b0 b1 b2 b3 b4 bf n0 n1 n2 n3 n4 nf t4 hb6
          obtain ⟨b0, b1, b2, b3, b4, bf, bl6⟩ := five_cells (unhide HB6)
          obtain ⟨n0, n1, n2, n3, n4, nf, nl6⟩ := five_cells (unhide HN6)
          go_wp2
          refine bodyPost_ret (v := .tuple #[.agg #[.int .i64 y1, .int .i64 y2, .int .i64 y3, .int .i64 y4, .string (bs f)], .bool q]) (by simp [results, Tryz.results84, go_sem, n0, n1, n2, n3, n4]) rfl ⟨?_, ?_⟩
          · refine ⟨y1, y2, y3, y4, bs f, ?_, fun x hx => ?_⟩
            · rw [unhide HR, unhide HPF]; cases q <;> rfl
            · rw [unhide HR, unhide HPF] at hx
              cases q with
              | false => cases hx
              | true => cases hx; exact ⟨rfl, rfl, rfl, rfl, rfl⟩
          · exact (((((unhide HBL6).setCell (Nat.le_refl _) _).setCell (Nat.le_refl _) _).setCell (Nat.le_refl _) _).setCell (Nat.le_refl _) _).setCell (Nat.le_refl _) _
    case inl =>
      have e1 := numR_neg h1
      have HR : Hid (opOf5 a b c d f = none) := by apply hide; rw [unhide HRS]; simp [*]
      clear HRS h1
      generalize numR a 1 9999 = y1 at *
      generalize numR b 1 9 = y2 at *
      generalize numR c 1 99 = y3 at *
      generalize numR d 0 100 = y4 at *
      subst e1
      go_wp2
      refine bodyPost_ret (v := .tuple #[.agg #[.int .i64 0, .int .i64 0, .int .i64 0, .int .i64 0, .string ByteArray.empty], .bool false]) (by simp [results, Tryz.results84, go_sem, n0, n1, n2, n3, n4]; rfl) rfl ⟨by rw [unhide HR]; exact opRes_none, ?_⟩
      exact (((((unhide HBL3).setCell (Nat.le_refl _) _).setCell (Nat.le_refl _) _).setCell (Nat.le_refl _) _).setCell (Nat.le_refl _) _).setCell (Nat.le_refl _) _
    case inr.inl =>
      have z1 : 0 ≤ numR a 1 9999 := by rw [numR_yes h1]; exact bda.1
      have e1 := numR_neg h2
      have HR : Hid (opOf5 a b c d f = none) := by apply hide; rw [unhide HRS]; simp [*]
      clear HRS h1 h2
      generalize numR a 1 9999 = y1 at *
      generalize numR b 1 9 = y2 at *
      generalize numR c 1 99 = y3 at *
      generalize numR d 0 100 = y4 at *
      subst e1
      have k1 : decide (y1 < 0) = false := by simp; omega
      go_wp2
      refine bodyPost_ret (v := .tuple #[.agg #[.int .i64 0, .int .i64 0, .int .i64 0, .int .i64 0, .string ByteArray.empty], .bool false]) (by simp [results, Tryz.results84, go_sem, n0, n1, n2, n3, n4]; rfl) rfl ⟨by rw [unhide HR]; exact opRes_none, ?_⟩
      exact (((((unhide HBL3).setCell (Nat.le_refl _) _).setCell (Nat.le_refl _) _).setCell (Nat.le_refl _) _).setCell (Nat.le_refl _) _).setCell (Nat.le_refl _) _
    case inr.inr.inl =>
      have z1 : 0 ≤ numR a 1 9999 := by rw [numR_yes h1]; exact bda.1
      have z2 : 0 ≤ numR b 1 9 := by rw [numR_yes h2]; exact bdb.1
      have e1 := numR_neg h3
      have HR : Hid (opOf5 a b c d f = none) := by apply hide; rw [unhide HRS]; simp [*]
      clear HRS h1 h2 h3
      generalize numR a 1 9999 = y1 at *
      generalize numR b 1 9 = y2 at *
      generalize numR c 1 99 = y3 at *
      generalize numR d 0 100 = y4 at *
      subst e1
      have k1 : decide (y1 < 0) = false := by simp; omega
      have k2 : decide (y2 < 0) = false := by simp; omega
      go_wp2
      refine bodyPost_ret (v := .tuple #[.agg #[.int .i64 0, .int .i64 0, .int .i64 0, .int .i64 0, .string ByteArray.empty], .bool false]) (by simp [results, Tryz.results84, go_sem, n0, n1, n2, n3, n4]; rfl) rfl ⟨by rw [unhide HR]; exact opRes_none, ?_⟩
      exact (((((unhide HBL3).setCell (Nat.le_refl _) _).setCell (Nat.le_refl _) _).setCell (Nat.le_refl _) _).setCell (Nat.le_refl _) _).setCell (Nat.le_refl _) _
    case inr.inr.inr.inl =>
      have z1 : 0 ≤ numR a 1 9999 := by rw [numR_yes h1]; exact bda.1
      have z2 : 0 ≤ numR b 1 9 := by rw [numR_yes h2]; exact bdb.1
      have z3 : 0 ≤ numR c 1 99 := by rw [numR_yes h3]; exact bdc.1
      have e1 := numR_neg h4
      have HR : Hid (opOf5 a b c d f = none) := by apply hide; rw [unhide HRS]; simp [*]
      clear HRS h1 h2 h3 h4
      generalize numR a 1 9999 = y1 at *
      generalize numR b 1 9 = y2 at *
      generalize numR c 1 99 = y3 at *
      generalize numR d 0 100 = y4 at *
      subst e1
      have k1 : decide (y1 < 0) = false := by simp; omega
      have k2 : decide (y2 < 0) = false := by simp; omega
      have k3 : decide (y3 < 0) = false := by simp; omega
      go_wp2
      refine bodyPost_ret (v := .tuple #[.agg #[.int .i64 0, .int .i64 0, .int .i64 0, .int .i64 0, .string ByteArray.empty], .bool false]) (by simp [results, Tryz.results84, go_sem, n0, n1, n2, n3, n4]; rfl) rfl ⟨by rw [unhide HR]; exact opRes_none, ?_⟩
      exact (((((unhide HBL3).setCell (Nat.le_refl _) _).setCell (Nat.le_refl _) _).setCell (Nat.le_refl _) _).setCell (Nat.le_refl _) _).setCell (Nat.le_refl _) _
theorem entry_any (s : ByteArray) (w : World) (hs : s.size ≤ 4000) :
    Calls Tryz.prog 84 #[.string s] w fun e w' => OpRes (readOp (sl s)) e ∧ Below w.heap.size w w' := by
  by_cases h5 : (rparts (sl s)).length = 5
  · obtain ⟨a, b, c, d, e, h⟩ := rparts_five h5
    exact entry_yes s w hs a b c d e h
  · exact entry_no s w hs h5
end Go.Proofs.YtdcjimlhaklhfaaGreatDoor

namespace Go.Proofs.YtdcjimlhaklhfaaGreatDoor
open Go.RowKit
attribute [local go_sem ↓] Go.wp_at_zero Go.wp_at_succ
theorem logText_take' (L : List Lo) (k : Nat) (h : k < L.length) : logText (L.take (k + 1)) = logText (L.take k) ++ loText L[k] := by
  rw [List.take_succ_eq_append_getElem h, logText_snoc]
theorem wr_kept {W0 W w1 : World} {g p o0 o1 : Nat} {a b c d e : Value} (hg : g < W0.heap.size) (hp : p < W0.heap.size) (hb : Below W.heap.size W w1) (h : W.cell? ⟨g, o0, none⟩ = some a ∧ W.cell? ⟨g, o1, none⟩ = some b ∧ W.cell? ⟨p, 0, none⟩ = some c ∧ W.cell? ⟨p, 1, none⟩ = some d ∧ W.cell? ⟨p, 2, none⟩ = some e ∧ Below W0.heap.size W0 W) :
    w1.cell? ⟨g, o0, none⟩ = some a ∧ w1.cell? ⟨g, o1, none⟩ = some b ∧ w1.cell? ⟨p, 0, none⟩ = some c ∧ w1.cell? ⟨p, 1, none⟩ = some d ∧ w1.cell? ⟨p, 2, none⟩ = some e ∧ Below W0.heap.size W0 w1 := by
  obtain ⟨h1, h2, h3, h4, h5, h6⟩ := h
  have hs := h6.size
  have hg' : g < W.heap.size := by omega
  have hp' : p < W.heap.size := by omega
  exact ⟨(hb.cell (p := ⟨g, _, none⟩) hg').trans h1, (hb.cell (p := ⟨g, _, none⟩) hg').trans h2, (hb.cell (p := ⟨p, _, none⟩) hp').trans h3, (hb.cell (p := ⟨p, _, none⟩) hp').trans h4, (hb.cell (p := ⟨p, _, none⟩) hp').trans h5, h6.trans (hb.mono hs)⟩
set_option maxHeartbeats 4000000 in
set_option maxRecDepth 100000 in
theorem written_any (L : List Lo) (ao : Option Addr) (cap : Nat) (w : World) (hrow : Row w ao L.length 5 (loCells L)) (hx : ∀ x ∈ L, LoOk x) (hl : L.length ≤ 4000) :
    Calls Tryz.prog 15 #[.slice ao L.length cap] w fun e w' => e = .returned (.string (bs (logText L))) ∧ Below w.heap.size w w' := by
  have HROW := hide hrow; clear hrow
  have HX := hide hx; clear hx
  go_enter Tryz.func15, Tryz.ntmps15
  go_wp2
  go_loopw [3, 4] (fun s i wr => ∃ k : Nat, ∃ S : Str, k ≤ L.length ∧ i = .int .i64 k ∧ s = .string (bs S) ∧ Below w.heap.size w wr ∧ Hid (S = logText (L.take k))) (fun _ i _ => L.length - (intOf i).toNat)
  case atStart => exact ⟨0, [], Nat.zero_le _, rfl, rfl, Below.refl _ _, hide (by simp [logText])⟩
  case round =>
    obtain ⟨k, S, hk, rfl, rfl, hbel, HS⟩ := hrel
    by_cases hlt : k < L.length
    · obtain ⟨g, hao, hg, c0, c1, c2, c3, c4⟩ := lo_cells (unhide HROW) hbel (Nat.le_refl _) hlt
      rw [hao]
      clear hao
      have hk0 : (0 : Int) ≤ k := by omega
      have hk1 : (k : Int) < L.length := by omega
      have hxk := unhide HX _ (List.getElem_mem hlt)
      have HSN := hide (logText_take' L k hlt)
      have hsl : S.length ≤ 32 * 4000 := by
        rw [unhide HS]
        have := logText_len (L.take k) (fun x h => unhide HX x (List.mem_of_mem_take h))
        rw [List.length_take] at this; omega
      have hsz := hbel.size
      generalize L[k] = x at *
      have q1 := hxk.1
      have q2 := hxk.2.1
      have q3 := hxk.2.2.1
      have q4 := hxk.2.2.2.1
      have q5 := hxk.2.2.2.2.1
      have q6 := hxk.2.2.2.2.2.1
      have q7 := hxk.2.2.2.2.2.2.1
      have q8 := hxk.2.2.2.2.2.2.2.1
      have hnl := ndW_name hxk.2.2.2.2
      have l1 := dec_len x.count.toNat (by omega)
      have l2 := dec_len x.site.toNat (by omega)
      have l3 := dec_len x.node.id.toNat (by omega)
      have l4 := dec_len x.node.parent.toNat (by omega)
      have HNEW : Hid (logText (L.take (k + 1)) = S ++ dec x.count.toNat ++ [32] ++ dec x.site.toNat ++ [32] ++ dec x.node.id.toNat ++ [32] ++ dec x.node.parent.toNat ++ [32] ++ x.node.name ++ [59]) := by
        apply hide; rw [unhide HSN, ← unhide HS]; unfold loText; simp only [List.append_assoc]
      clear HSN hxk
      generalize ha : dec x.count.toNat = a at *
      generalize hb : dec x.site.toNat = b at *
      generalize hc : dec x.node.id.toNat = c at *
      generalize hd : dec x.node.parent.toNat = d at *
      have a0 := add_bs S a (by omega) (by omega)
      have a1 := add_32 (S ++ a) (by simp; omega)
      have a2 := add_bs (S ++ a ++ [32]) b (by simp; omega) (by omega)
      have a3 := add_32 (S ++ a ++ [32] ++ b) (by simp; omega)
      have a4 := add_bs (S ++ a ++ [32] ++ b ++ [32]) c (by simp; omega) (by omega)
      have a5 := add_32 (S ++ a ++ [32] ++ b ++ [32] ++ c) (by simp; omega)
      have a6 := add_bs (S ++ a ++ [32] ++ b ++ [32] ++ c ++ [32]) d (by simp; omega) (by omega)
      have a7 := add_32 (S ++ a ++ [32] ++ b ++ [32] ++ c ++ [32] ++ d) (by simp; omega)
      have a8 := add_bs (S ++ a ++ [32] ++ b ++ [32] ++ c ++ [32] ++ d ++ [32]) x.node.name (by simp; omega) (by omega)
      have a9 := add_59 (S ++ a ++ [32] ++ b ++ [32] ++ c ++ [32] ++ d ++ [32] ++ x.node.name) (by simp; omega)
      generalize S ++ a ++ [32] ++ b ++ [32] ++ c ++ [32] ++ d ++ [32] ++ x.node.name ++ [59] = r9 at *
      generalize S ++ a ++ [32] ++ b ++ [32] ++ c ++ [32] ++ d ++ [32] ++ x.node.name = r8 at *
      generalize S ++ a ++ [32] ++ b ++ [32] ++ c ++ [32] ++ d ++ [32] = r7 at *
      generalize S ++ a ++ [32] ++ b ++ [32] ++ c ++ [32] ++ d = r6 at *
      generalize S ++ a ++ [32] ++ b ++ [32] ++ c ++ [32] = r5 at *
      generalize S ++ a ++ [32] ++ b ++ [32] ++ c = r4 at *
      generalize S ++ a ++ [32] ++ b ++ [32] = r3 at *
      generalize S ++ a ++ [32] ++ b = r2 at *
      generalize S ++ a ++ [32] = r1 at *
      generalize S ++ a = r0 at *
      have hB0 := (Below.refl wr.heap.size wr).alloc (Nat.le_refl _) (.cells #[.int .i64 x.node.id, .int .i64 x.node.parent, .string (bs x.node.name)] 64)
      have hgr : g < wr.heap.size := by omega
      have HS0 := hide (show (wr.alloc (.cells #[.int .i64 x.node.id, .int .i64 x.node.parent, .string (bs x.node.name)] 64)).drew.cell? ⟨g, k * 5, none⟩ = some (.int .i64 x.count) ∧ (wr.alloc (.cells #[.int .i64 x.node.id, .int .i64 x.node.parent, .string (bs x.node.name)] 64)).drew.cell? ⟨g, k * 5 + 1, none⟩ = some (.int .i64 x.site) ∧ (wr.alloc (.cells #[.int .i64 x.node.id, .int .i64 x.node.parent, .string (bs x.node.name)] 64)).drew.cell? ⟨wr.heap.size, 0, none⟩ = some (.int .i64 x.node.id) ∧ (wr.alloc (.cells #[.int .i64 x.node.id, .int .i64 x.node.parent, .string (bs x.node.name)] 64)).drew.cell? ⟨wr.heap.size, 1, none⟩ = some (.int .i64 x.node.parent) ∧ (wr.alloc (.cells #[.int .i64 x.node.id, .int .i64 x.node.parent, .string (bs x.node.name)] 64)).drew.cell? ⟨wr.heap.size, 2, none⟩ = some (.string (bs x.node.name)) ∧ Below (wr.alloc (.cells #[.int .i64 x.node.id, .int .i64 x.node.parent, .string (bs x.node.name)] 64)).heap.size (wr.alloc (.cells #[.int .i64 x.node.id, .int .i64 x.node.parent, .string (bs x.node.name)] 64)) (wr.alloc (.cells #[.int .i64 x.node.id, .int .i64 x.node.parent, .string (bs x.node.name)] 64)).drew from ⟨(hB0.cell (p := ⟨g, _, none⟩) hgr).trans c0, (hB0.cell (p := ⟨g, _, none⟩) hgr).trans c1, news_three _ _ _ _ 0 _ rfl, news_three _ _ _ _ 1 _ rfl, news_three _ _ _ _ 2 _ rfl, (Below.refl _ _).drew⟩)
      have HB1 := hide (hbel.trans (hB0.mono hsz))
      have hz1 : wr.heap.size < (wr.alloc (.cells #[.int .i64 x.node.id, .int .i64 x.node.parent, .string (bs x.node.name)] 64)).heap.size := by simp
      clear hB0
      have HC := hide (And.intro c2 (And.intro c3 c4))
      go_upto_region 6 with fail
      clear c0 c1 c2 c3 c4 HC
      generalize wr.alloc (.cells #[.int .i64 x.node.id, .int .i64 x.node.parent, .string (bs x.node.name)] 64) = W0 at *
      have hgW : g < W0.heap.size := by omega
      go_region_held3 (fun W => W.cell? ⟨g, k * 5, none⟩ = some (.int .i64 x.count) ∧ W.cell? ⟨g, k * 5 + 1, none⟩ = some (.int .i64 x.site) ∧ W.cell? ⟨wr.heap.size, 0, none⟩ = some (.int .i64 x.node.id) ∧ W.cell? ⟨wr.heap.size, 1, none⟩ = some (.int .i64 x.node.parent) ∧ W.cell? ⟨wr.heap.size, 2, none⟩ = some (.string (bs x.node.name)) ∧ Below W0.heap.size W0 W) (first | exact unhide HS0 | assumption) ((go_at_call 30; refine (digits_any _ _ (by omega) (by omega)).mono ?_; rintro e w1 ⟨rfl, hb1⟩; have hs1 := wr_kept hgW hz1 hb1 (by first | assumption | exact unhide HS0); have hbx := hs1.2.2.2.2.2))
      all_goals
        have HBX := hide ((unhide HB1).trans (hbx.mono (by omega)))
        go_wp2
        go_roundw
        case rel => exact ⟨k + 1, _, by omega, by go_num, rfl, unhide HBX, hide (unhide HNEW).symm⟩
        case measure => simp [intOf]; omega
    · have HE : Hid (logText L = S) := by apply hide; rw [unhide HS, List.take_of_length_le (by omega)]
      go_wp2
      go_ret
      exact ⟨ret_str (by rw [unhide HE]), hbel⟩
end Go.Proofs.YtdcjimlhaklhfaaGreatDoor

namespace Go.Proofs.YtdcjimlhaklhfaaGreatDoor
open Go.RowKit
theorem placeR_len (ns : List Nd) (x : Lo) : (placeR ns x).length ≤ ns.length + 1 := by
  unfold placeR; split
  · unfold layR; rw [List.length_append]; have := List.length_filter_le (otherB x.node) ns; simp; omega
  · omega
theorem placesR_len : ∀ (L : List Lo), (placesR L).length ≤ L.length := by
  refine list_snoc_ind (by simp [placesR]) ?_
  intro L x ih
  have := placeR_len (placesR L) x
  rw [show placesR (L ++ [x]) = placeR (placesR L) x by simp [placesR], List.length_append]; simp; omega
theorem placeR_yes {ns : List Nd} {x : Lo} (h1 : (x.node.parent != x.node.id) = true) (h2 : belowR ns x.node.parent x.node.id = false) : placeR ns x = layR ns x.node true := by unfold placeR; rw [h1, h2]; rfl
theorem placeR_no {ns : List Nd} {x : Lo} (h : (x.node.parent != x.node.id) = false ∨ belowR ns x.node.parent x.node.id = true) : placeR ns x = ns := by
  unfold placeR; rw [if_neg]; rcases h with h | h <;> rw [h] <;> simp
set_option maxHeartbeats 2000000 in
theorem rplaces_any (L : List Lo) (ao : Option Addr) (cap : Nat) (w : World) (hrow : Row w ao L.length 5 (loCells L)) (hl : L.length ≤ 1000) :
    Calls Tryz.prog 33 #[.slice ao L.length cap] w fun e w' => ∃ fo cf, e = .returned (.slice fo (placesR L).length cf) ∧ Row w' fo (placesR L).length 3 (ndCells (placesR L)) ∧ Below w.heap.size w w' := by
  have HROW := hide hrow; clear hrow
  go_enter Tryz.func33, Tryz.ntmps33
  go_wp2
  go_loopw [3, 4] (fun v i wr => ∃ k : Nat, ∃ fo : Option Addr, ∃ cf : Nat, k ≤ L.length ∧ i = .int .i64 k ∧ v = .slice fo (placesR (L.take k)).length cf ∧ Below w.heap.size w wr ∧ Hid (Row wr fo (placesR (L.take k)).length 3 (ndCells (placesR (L.take k))))) (fun _ i _ => L.length - (intOf i).toNat)
  case atStart => exact ⟨0, none, 0, Nat.zero_le _, rfl, by simp [placesR], Below.refl _ _, hide ⟨by simp [placesR, ndCells], fun h => by simp [placesR] at h⟩⟩
  case round =>
    obtain ⟨k, fo, cf, hk, rfl, rfl, hbel, HR⟩ := hrel
    have hpl := placesR_len (L.take k)
    rw [List.length_take] at hpl
    by_cases hlt : k < L.length
    · obtain ⟨g, hao, hg, c0, c1, c2, c3, c4⟩ := lo_cells (unhide HROW) hbel (Nat.le_refl _) hlt
      rw [hao]
      clear hao
      have hk0 : (0 : Int) ≤ k := by omega
      have hk1 : (k : Int) < L.length := by omega
      have HST := hide (placesR_snoc L k hlt)
      have hsz := hbel.size
      generalize L[k] = x at *
      have hB0 := (Below.refl wr.heap.size wr).alloc (Nat.le_refl _) (.cells #[.int .i64 x.node.id, .int .i64 x.node.parent, .string (bs x.node.name)] 64)
      have HBE := hide (below_any (placesR (L.take k)) x.node.parent x.node.id fo cf _ ((unhide HR).below hB0) (by omega))
      have HR1 := hide ((unhide HR).below hB0)
      have HB1 := hide (hbel.trans (hB0.mono hsz))
      have HLA := hide (fun W (h : Row W fo (placesR (L.take k)).length 3 (ndCells (placesR (L.take k)))) => lay_any (placesR (L.take k)) x.node true fo cf W h (by omega))
      have HYE := hide (@placeR_yes (placesR (L.take k)) x)
      have HNO := hide (@placeR_no (placesR (L.take k)) x)
      clear hB0
      have P0 : (wr.alloc (.cells #[.int .i64 x.node.id, .int .i64 x.node.parent, .string (bs x.node.name)] 64)).cell? ⟨wr.heap.size, 0, none⟩ = some (.int .i64 x.node.id) := news_three _ _ _ _ 0 _ rfl
      generalize belowR (placesR (L.take k)) x.node.parent x.node.id = q at *
      cases h1 : (x.node.parent != x.node.id)
      · have HE := hide ((unhide HST).trans (unhide HNO (.inl h1)))
        go_wp2_with fail
        refine (unhide HBE).mono ?_
        rintro e w1 ⟨rfl, rfl⟩
        go_wp2
        go_roundw
        case rel => exact ⟨k + 1, fo, cf, by omega, by go_num, by rw [unhide HE], unhide HB1, by rw [unhide HE]; exact HR1⟩
        case measure => simp [intOf]; omega
      · cases q with
        | true =>
          have HE := hide ((unhide HST).trans (unhide HNO (.inr rfl)))
          go_wp2_with fail
          refine (unhide HBE).mono ?_
          rintro e w1 ⟨rfl, rfl⟩
          go_wp2
          go_roundw
          case rel => exact ⟨k + 1, fo, cf, by omega, by go_num, by rw [unhide HE], unhide HB1, by rw [unhide HE]; exact HR1⟩
          case measure => simp [intOf]; omega
        | false =>
          have HE := hide ((unhide HST).trans (unhide HYE h1 rfl))
          go_wp2_with fail
          refine (unhide HBE).mono ?_
          rintro e w1 ⟨rfl, rfl⟩
          go_wp2_with fail
          refine (unhide HLA _ (by exact unhide HR1)).mono ?_
          rintro e w2 ⟨⟨fo2, cf2, rfl, hr2⟩, hb2⟩
          have HB2 := hide ((unhide HB1).trans (hb2.mono (unhide HB1).size))
          have HR2 := hide hr2
          clear hb2 hr2 c0 c1 c2 c3 c4 P0
          go_wp2
          go_roundw
          case rel => exact ⟨k + 1, fo2, cf2, by omega, by go_num, by rw [unhide HE], unhide HB2, by rw [unhide HE]; exact HR2⟩
          case measure => simp [intOf]; omega
    · have HE : Hid (placesR L = placesR (L.take k)) := by apply hide; rw [List.take_of_length_le (by omega)]
      go_wp2
      go_ret
      exact ⟨fo, cf, by rw [unhide HE]; rfl, by rw [unhide HE]; exact unhide HR, hbel⟩
def SeenInv (ns : List Nd) (k : Nat) (out : List Nd) : Prop := out = (ns.take k).filter (fun n => belowR ns n.id 0)
theorem seen_step {ns : List Nd} {k : Nat} {out : List Nd} (h : SeenInv ns k out) (hk : k < ns.length) : SeenInv ns (k + 1) (if belowR ns (ns[k]).id 0 then out ++ [ns[k]] else out) := by
  unfold SeenInv at *
  rw [List.take_succ_eq_append_getElem hk, List.filter_append, ← h]
  cases hq : belowR ns (ns[k]).id 0 <;> simp [hq]
theorem seen_len {ns : List Nd} {k : Nat} {out : List Nd} (h : SeenInv ns k out) : out.length ≤ k := by
  unfold SeenInv at h; rw [h]
  have := List.length_filter_le (fun n => belowR ns n.id 0) (ns.take k)
  rw [List.length_take] at this; omega
set_option maxHeartbeats 2000000 in
theorem rseen_any (ns : List Nd) (ao : Option Addr) (cap : Nat) (w : World) (hrow : Row w ao ns.length 3 (ndCells ns)) (hl : ns.length ≤ 1000) :
    Calls Tryz.prog 34 #[.slice ao ns.length cap] w fun e w' => ∃ fo cf, e = .returned (.slice fo (seenR ns).length cf) ∧ Row w' fo (seenR ns).length 3 (ndCells (seenR ns)) ∧ Below w.heap.size w w' := by
  obtain ⟨i0, hi, hz0, hz1, hz2⟩ := info_parts Tryz.infoRNode
  have HROW := hide hrow; clear hrow
  go_enter Tryz.func34, Tryz.ntmps34
  go_wp2
  go_loopw [3, 4] (fun v i wr => ∃ k : Nat, ∃ out : List Nd, k ≤ ns.length ∧ i = .int .i64 k ∧ wr.ownsRow w.heap.size 64 3 v out.length (ndCells out) ∧ Below w.heap.size w wr ∧ Hid (SeenInv ns k out)) (fun _ i _ => ns.length - (intOf i).toNat)
  case atStart => exact ⟨0, [], Nat.zero_le _, rfl, World.ownsRow_nil _ _ _ _, Below.refl _ _, hide rfl⟩
  case round =>
    obtain ⟨k, out, hk, rfl, hown, hbel, HI⟩ := hrel
    have hol := seen_len (unhide HI)
    by_cases hlt : k < ns.length
    · have HBE := hide (fun id => below_any ns id 0 ao cap wr ((unhide HROW).below hbel) (by omega))
      obtain ⟨g, hao, hg, c0, c1, c2⟩ := nd_cells (unhide HROW) hbel hlt
      have HST := hide (seen_step (unhide HI) hlt)
      have hk0 : (0 : Int) ≤ k := by omega
      have hk1 : (k : Int) < ns.length := by omega
      have hsz := hbel.size
      rw [hao] at HBE ⊢
      clear hao
      generalize ns[k] = nd at *
      cases hq : belowR ns nd.id 0 with
      | false =>
        have HS2 : Hid (SeenInv ns (k + 1) out) := by apply hide; have := unhide HST; rw [hq] at this; exact this
        have HB2 := hide (unhide HBE nd.id)
        rw [hq] at HB2
        clear hq
        go_wp2_with fail
        refine (unhide HB2).mono ?_
        rintro e w1 ⟨rfl, rfl⟩
        go_wp2
        go_roundw
        case rel => exact ⟨k + 1, out, by omega, by go_num, hown, hbel, HS2⟩
        case measure => simp [intOf]; omega
      | true =>
        have HS2 : Hid (SeenInv ns (k + 1) (out ++ [nd])) := by apply hide; have := unhide HST; rw [hq] at this; exact this
        have HB2 := hide (unhide HBE nd.id)
        rw [hq] at HB2
        clear hq
        go_wp2_with fail
        refine (unhide HB2).mono ?_
        rintro e w1 ⟨rfl, rfl⟩
        go_wp2_with (first
          | (at_builtin; (refine wpList_append_own _ rfl _ _ 41 rfl w.heap.size 64 i0 (.agg #[.int .i64 0, .int .i64 0, .string ByteArray.empty]) 3 32 Tryz.underlying41 hi hz0 hz1 hz2 rfl (by decide) _ _ _ rfl (own_below hown ((Below.refl _ _).alloc (Nat.le_refl _) _)) ⟨w1.heap.size, 0, none⟩ 1 1 [.int .i64 nd.id, .int .i64 nd.parent, .string (bs nd.name)] rfl rfl (news_three _ _ _ _) (by simp [Value.oneCell']) (by unfold maxLen; omega) (by omega) (by simp; omega) ?_))
          | go_in)
        intro v' w4 hown' hgrow _
        have hb4 : Below w.heap.size w w4 := (hbel.alloc hsz _).grown hgrow (by simp; omega) (own_ge hown)
        have hown2 : w4.ownsRow w.heap.size 64 3 v' (out ++ [nd]).length (ndCells (out ++ [nd])) := by rw [ndCells_snoc, List.length_append]; exact hown'
        clear hgrow hown hbel hown'
        go_wp2
        go_roundw
        case rel => exact ⟨k + 1, _, by omega, by go_num, hown2, hb4, HS2⟩
        case measure => simp [intOf]; omega
    · have HE : Hid (seenR ns = out) := by apply hide; rw [unhide HI]; unfold seenR; rw [List.take_of_length_le (by omega)]
      obtain ⟨fo, cf, rfl, hr⟩ := row_of_owns hown
      go_wp2
      go_ret
      exact ⟨fo, cf, by rw [unhide HE]; rfl, by rw [unhide HE]; exact hr, hbel⟩
end Go.Proofs.YtdcjimlhaklhfaaGreatDoor

namespace Go.Proofs.YtdcjimlhaklhfaaGreatDoor
open Go.RowKit
attribute [local go_sem ↓] Go.wp_at_zero Go.wp_at_succ
theorem add_t126 (a : Str) (ha : a.length ≤ 1000000) (W : World) : (Op.stringOp .add (bs a) ⟨#[126]⟩).run Tryz.prog W = .ok (.string (bs (a ++ [126]))) W := add_bs a [126] ha (by simp) W
theorem clash_none {l : List Nd} {x : Nd} {k : Nat} (h : ∀ j (hj : j < l.length), j < k → clashB x l[j] = false) (hk : ¬ k < l.length) : shownR l x = x.name := by
  unfold shownR; rw [if_neg]
  rw [List.any_eq_true]
  rintro ⟨y, hy, hc⟩
  obtain ⟨j, hj, rfl⟩ := List.mem_iff_getElem.1 hy
  rw [h j hj (by omega)] at hc; cases hc
theorem clash_yes {l : List Nd} {x : Nd} {k : Nat} (hk : k < l.length) (h : clashB x l[k] = true) : shownR l x = x.name ++ 126 :: digs x.id := by
  unfold shownR; rw [if_pos]
  rw [List.any_eq_true]; exact ⟨l[k], List.getElem_mem hk, h⟩
set_option maxHeartbeats 4000000 in
set_option maxRecDepth 100000 in
theorem rshown_any (l : List Nd) (x : Nd) (ao : Option Addr) (cap : Nat) (w : World) (hrow : Row w ao l.length 3 (ndCells l)) (hl : l.length ≤ 1000) (hx0 : 0 ≤ x.id) (hx1 : x.id ≤ 99) (hxn : x.name.length ≤ 4000) :
    Calls Tryz.prog 35 #[.slice ao l.length cap, .agg #[.int .i64 x.id, .int .i64 x.parent, .string (bs x.name)]] w fun e w' => e = .returned (.string (bs (shownR l x))) ∧ Below w.heap.size w w' := by
  obtain ⟨w0, hw0⟩ : ∃ w0, w.alloc (Obj.cells #[.int .i64 x.id, .int .i64 x.parent, .string (bs x.name)] 64) = w0 := ⟨_, rfl⟩
  have hbw : Below w.heap.size w w0 := by rw [← hw0]; exact (Below.refl _ _).alloc (Nat.le_refl _) _
  have HBW := hide hbw
  have HROW := hide (hrow.below hbw)
  have hlt0 : w.heap.size < w0.heap.size := by rw [← hw0]; simp
  have HX : Hid (w0.cell? ⟨w.heap.size, 0, none⟩ = some (.int .i64 x.id) ∧ w0.cell? ⟨w.heap.size, 1, none⟩ = some (.int .i64 x.parent) ∧ w0.cell? ⟨w.heap.size, 2, none⟩ = some (.string (bs x.name))) := by
    apply hide; rw [← hw0]
    exact ⟨news_three _ _ _ _ 0 _ rfl, news_three _ _ _ _ 1 _ rfl, news_three _ _ _ _ 2 _ rfl⟩
  clear hrow hbw
  have hdl := digs_len x.id
  have HDI := hide (fun W => digits_digs x.id W hx0 hx1)
  go_enter Tryz.func35, Tryz.ntmps35
  go_wp2
  try rw [hw0]
  clear hw0
  go_loopw [5] (fun i wr => ∃ k : Nat, k ≤ l.length ∧ i = .int .i64 k ∧ Below w0.heap.size w0 wr ∧ Hid (∀ j (hj : j < l.length), j < k → clashB x l[j] = false)) (fun i _ => l.length - (intOf i).toNat)
  case atStart => exact ⟨0, Nat.zero_le _, rfl, Below.refl _ _, hide (fun j hj h => by omega)⟩
  case round =>
    obtain ⟨k, hk, rfl, hbel, HN⟩ := hrel
    obtain ⟨hc, _⟩ := bcell hbel
    have x0 := (hc _ 0 hlt0).trans (unhide HX).1
    have x1 := (hc _ 1 hlt0).trans (unhide HX).2.1
    have x2 := (hc _ 2 hlt0).trans (unhide HX).2.2
    clear hc
    by_cases hlt : k < l.length
    · obtain ⟨g, hao, hg, c0, c1, c2⟩ := nd_cells (unhide HROW) hbel hlt
      rw [hao]
      clear hao
      have hk0 : (0 : Int) ≤ k := by omega
      have hk1 : (k : Int) < l.length := by omega
      have hsz := hbel.size
      have HCB : Hid (clashB x l[k] = ((l[k]).parent == x.parent && ((l[k]).name == x.name && decide ((l[k]).id < x.id)))) := hide rfl
      have HNX : Hid (clashB x l[k] = false → ∀ j (hj : j < l.length), j < k + 1 → clashB x l[j] = false) := by
        apply hide; intro hh j hj hjk
        by_cases e : j = k
        · subst e; exact hh
        · exact unhide HN j hj (by omega)
      have HYS := hide (@clash_yes l x k hlt)
      generalize l[k] = y at *
      have hne := names_eq y.name x.name
      cases h0 : (y.parent == x.parent)
      · have HF := hide (unhide HNX (by rw [unhide HCB, h0]; rfl))
        clear hne
        go_wp2
        go_quiet (fail)
        go_wp2
        go_roundw
        case rel => exact ⟨k + 1, by omega, by go_num, below_drewN hbel _, HF⟩
        case measure => simp [intOf]; omega
      · cases h1 : (y.name == x.name)
        · have HF := hide (unhide HNX (by rw [unhide HCB, h0, h1]; rfl))
          rw [h1] at hne
          clear h1
          go_wp2
          go_quiet (fail)
          go_wp2
          go_roundw
          case rel => exact ⟨k + 1, by omega, by go_num, below_drewN hbel _, HF⟩
          case measure => simp [intOf]; omega
        · rw [h1] at hne
          cases h2 : decide (y.id < x.id)
          · have HF := hide (unhide HNX (by rw [unhide HCB, h0, h1, h2]; rfl))
            clear h1
            go_wp2
            go_quiet (fail)
            go_wp2
            go_roundw
            case rel => exact ⟨k + 1, by omega, by go_num, below_drewN hbel _, HF⟩
            case measure => simp [intOf]; omega
          · have HF := hide (unhide HYS (by rw [unhide HCB, h0, h1, h2]; rfl))
            clear h1
            generalize digs x.id = d at *
            have a1 := add_t126 x.name (by omega)
            have a2 := add_bs (x.name ++ [126]) d (by simp; omega) (by omega)
            have HE : Hid (x.name ++ [126] ++ d = x.name ++ 126 :: d) := hide (by simp)
            generalize x.name ++ [126] ++ d = r2 at *
            generalize x.name ++ [126] = r1 at *
            go_wp2
            go_quiet (fail)
            go_wp2
            go_region_with (go_at_call 30; refine (unhide HDI _).mono ?_; rintro e w2 ⟨rfl, hb2⟩; have hb3 := (below_drewN hbel _).trans (hb2.mono (show w0.heap.size ≤ wr.heap.size from hsz)); obtain ⟨hc3, _⟩ := bcell hb3; have z2 := (hc3 _ 2 hlt0).trans (unhide HX).2.2; have HB3 := hide hb3; clear hb2 hb3 hc3)
            all_goals
              go_wp2
              go_ret
              exact ⟨ret_str (by rw [unhide HF, ← unhide HE]), (unhide HBW).trans ((unhide HB3).mono (by omega))⟩
    · have HF := hide (clash_none (unhide HN) hlt)
      go_wp2
      go_ret
      exact ⟨ret_str (by rw [unhide HF]), (unhide HBW).trans (hbel.mono (by omega))⟩
theorem row_of' {w : World} {base : Nat} {e : TypeId} {size : Nat} {fo : Option Addr} {n cap : Nat} {xs : List Value} (h : w.ownsRow base e size (.slice fo n cap) n xs) : Row w fo n size xs := by
  obtain ⟨ao, c, e', hr⟩ := row_of_owns h
  cases e'; exact hr
theorem viewL_take (l : List Nd) (k : Nat) (h : k < l.length) : (l.take (k + 1)).map (fun n => (⟨n.id, n.parent, shownR l n⟩ : Nd)) = (l.take k).map (fun n => (⟨n.id, n.parent, shownR l n⟩ : Nd)) ++ [⟨(l[k]).id, (l[k]).parent, shownR l l[k]⟩] := by
  rw [List.take_succ_eq_append_getElem h, List.map_append]; rfl
theorem seenR_sub (ns : List Nd) : ∀ n ∈ seenR ns, n ∈ ns := fun _ hn => (List.mem_filter.1 hn).1
theorem seenR_len (ns : List Nd) : (seenR ns).length ≤ ns.length := List.length_filter_le _ _
set_option maxHeartbeats 4000000 in
set_option maxRecDepth 100000 in
theorem rview_any (L : List Lo) (ao : Option Addr) (cap : Nat) (w : World) (hrow : Row w ao L.length 5 (loCells L)) (hx : ∀ x ∈ L, LoOk x) (hl : L.length ≤ 1000) :
    Calls Tryz.prog 17 #[.slice ao L.length cap] w fun e w' => ∃ fo cf, e = .returned (.slice fo (viewR L).length cf) ∧ Row w' fo (viewR L).length 3 (ndCells (viewR L)) ∧ Below w.heap.size w w' := by
  obtain ⟨i0, hi, hz0, hz1, hz2⟩ := info_parts Tryz.infoRNode
  have HPL := hide (rplaces_any L ao cap w hrow hl)
  have HOK : Hid (∀ n ∈ placesR L, NdW n) := hide (repW_places hx).ok
  have hpl := placesR_len L
  have HV : Hid (viewR L = viewL (seenR (placesR L))) := hide rfl
  clear hrow hx
  have HSE := hide (fun fo cf W (h : Row W fo (placesR L).length 3 (ndCells (placesR L))) => rseen_any (placesR L) fo cf W h (by omega))
  have hsl := seenR_len (placesR L)
  have HOS : Hid (∀ n ∈ seenR (placesR L), NdW n) := hide (fun n hn => unhide HOK n (seenR_sub _ n hn))
  have hsm : (seenR (placesR L)).length ≤ 1000 := by omega
  clear HOK hsl hpl
  generalize seenR (placesR L) = sn at *
  generalize placesR L = pl at *
  generalize viewR L = vr at *
  go_enter Tryz.func17, Tryz.ntmps17
  go_wp2_with fail
  refine (unhide HPL).mono ?_
  rintro e w1 ⟨fo1, cf1, rfl, hr1, hb1⟩
  have HR1 := hide hr1
  have HB1 := hide hb1
  clear hr1 hb1
  go_wp2_with fail
  refine (unhide HSE _ _ _ (by exact unhide HR1)).mono ?_
  rintro e w2 ⟨fo2, cf2, rfl, hr2, hb2⟩
  have HR2 := hide hr2
  have HB2 := hide ((unhide HB1).trans (hb2.mono (unhide HB1).size))
  clear hr2 hb2
  go_wp2
  go_loopw [5, 6] (fun v i wr => ∃ k : Nat, k ≤ sn.length ∧ i = .int .i64 k ∧ wr.ownsRow w2.heap.size 64 3 v k (ndCells ((sn.take k).map (fun n => (⟨n.id, n.parent, shownR sn n⟩ : Nd)))) ∧ Below w2.heap.size w2 wr) (fun _ i _ => sn.length - (intOf i).toNat)
  case atStart => exact ⟨0, Nat.zero_le _, rfl, by simpa [ndCells] using World.ownsRow_nil w2 w2.heap.size 64 3, Below.refl _ _⟩
  case round =>
    obtain ⟨k, hk, rfl, hown, hbel⟩ := hrel
    obtain ⟨vo, vc, rfl, _⟩ := row_of_owns hown
    by_cases hlt : k < sn.length
    · have HROWr := hide ((unhide HR2).below hbel)
      obtain ⟨g, hao, hg, c0, c1, c2⟩ := nd_cells (unhide HR2) hbel hlt
      have HST := hide (viewL_take sn k hlt)
      have hw := unhide HOS _ (List.getElem_mem hlt)
      have hnl := ndW_name hw
      have hw1 := hw.1
      have hw2 := hw.2.1
      have HSH := hide (fun W (h : Row W fo2 sn.length 3 (ndCells sn)) => rshown_any sn sn[k] fo2 cf2 W h hsm (by omega) hw2 (by omega))
      have hk0 : (0 : Int) ≤ k := by omega
      have hk1 : (k : Int) < sn.length := by omega
      have hsz := hbel.size
      rw [hao] at HSH HROWr ⊢
      clear hao hw
      generalize sn[k] = nd at *
      generalize shownR sn nd = sh at *
      go_wp2_with fail
      refine (unhide HSH _ (by exact unhide HROWr)).mono ?_
      rintro e w3 ⟨rfl, hb3⟩
      have hgr : g < wr.heap.size := by omega
      have d0 := (hb3.cell (p := ⟨g, _, none⟩) hgr).trans c0
      have d1 := (hb3.cell (p := ⟨g, _, none⟩) hgr).trans c1
      have hg3 : g < w3.heap.size := Nat.lt_of_lt_of_le hgr hb3.size
      have hg4 : ¬ g = w3.heap.size := Nat.ne_of_lt hg3
      have HB3 := hide (hbel.trans (hb3.mono hsz))
      have HOWN3 : Hid ((World.drew (w3.alloc (.cells #[.int .i64 nd.id, .int .i64 nd.parent, .string (bs sh)] 64))).ownsRow w2.heap.size 64 3 (.slice vo k vc) k (ndCells ((sn.take k).map (fun n => (⟨n.id, n.parent, shownR sn n⟩ : Nd))))) := hide (own_below hown (hb3.trans (((Below.refl w3.heap.size w3).alloc (Nat.le_refl _) _).drew.mono hb3.size)))
      have HOG := hide (own_ge hown)
      have HNEW : Hid (∀ j y, [Value.int .i64 nd.id, .int .i64 nd.parent, .string (bs sh)][j]? = some y → (World.drew (w3.alloc (.cells #[.int .i64 nd.id, .int .i64 nd.parent, .string (bs sh)] 64))).cell? ((⟨w3.heap.size, 0, none⟩ : Addr).add j) = some y) := hide (news_three (w := w3) _ _ _ _)
      have hs3 : w2.heap.size ≤ w3.heap.size := (unhide HB3).size
      clear hb3 hbel hown c0 c1 c2
      go_wp2
      go_region_law (refine step_append_lies _ rfl (.tmp 24) (.tmp 37) 41 rfl w2.heap.size 64 i0 (.agg #[.int .i64 0, .int .i64 0, .string ByteArray.empty]) 3 32 Tryz.underlying41 hi hz0 hz1 hz2 rfl (by decide) (.slice vo k vc) k (ndCells ((sn.take k).map (fun n => (⟨n.id, n.parent, shownR sn n⟩ : Nd)))) (by simp [Act.eval]) (unhide HOWN3) ⟨w3.heap.size, 0, none⟩ 1 1 [.int .i64 nd.id, .int .i64 nd.parent, .string (bs sh)] (by simp [Act.eval]) rfl (unhide HNEW) (by simp [Value.oneCell']) (by decide) (by unfold maxLen; omega) (by omega) (by simp [heap_drew]; omega) (w3.heap.size + 1) (by simp [heap_drew]) ?_; intro g4 cap4 w4 hown4 hgrow _ _; have HOWN4 := hide hown4; have HG4 := hide hgrow; clear hown4 hgrow)
      all_goals
        have hb4 : Below w2.heap.size w2 w4 := ((unhide HB3).alloc hs3 _).drew.grown (unhide HG4) (by simp [heap_drew]; omega) (fun j hj => unhide HOG j hj)
        have hown5 : w4.ownsRow w2.heap.size 64 3 (.slice (some ⟨g4, 0, none⟩) (k + 1) cap4) (k + 1) (ndCells ((sn.take (k + 1)).map (fun n => (⟨n.id, n.parent, shownR sn n⟩ : Nd)))) := by rw [unhide HST, ndCells_snoc]; exact unhide HOWN4
        go_wp2
        go_roundw
        case rel => exact ⟨k + 1, by omega, by go_num, hown5, hb4⟩
        case measure => simp [intOf]; omega
    · have HE : Hid (vr = (sn.take k).map (fun n => (⟨n.id, n.parent, shownR sn n⟩ : Nd))) := by apply hide; rw [unhide HV, List.take_of_length_le (by omega)]; rfl
      have hkl : k = vr.length := by rw [unhide HE]; simp; omega
      have hr := row_of' hown
      have HKL := hide hkl
      clear hkl
      go_wp2
      go_ret
      refine ⟨vo, vc, by rw [← unhide HKL]; rfl, ?_, (unhide HB2).trans (hbel.mono (unhide HB2).size)⟩
      rw [unhide HE] at HKL ⊢
      rw [← unhide HKL]; exact hr
end Go.Proofs.YtdcjimlhaklhfaaGreatDoor

namespace Go.Proofs.YtdcjimlhaklhfaaGreatDoor
open Go.RowKit
/-- What Entries answers. -/
def EntRes (r : Option (List Lo)) (e : Ending) (w' : World) : Prop := match r with
  | none => e = .returned (.tuple #[.slice none 0 0, .bool false])
  | some l => ∃ ao cap, e = .returned (.tuple #[.slice ao l.length cap, .bool true]) ∧ Row w' ao l.length 5 (loCells l)
set_option maxHeartbeats 2000000 in
theorem entries_any (s : ByteArray) (w : World) (hs : s.size ≤ 4000) :
    Calls Tryz.prog 52 #[.string s] w fun e w' => EntRes (readOps (cut (sl s))) e w' ∧ Below w.heap.size w w' := by
  obtain ⟨i0, hi, hz0, hz1, hz2⟩ := info_parts Tryz.infoEntry
  have HC := hide (fun W => rcut_any s W hs)
  have hn : (cut (sl s)).length ≤ 4000 := by have := cut_length_le (sl s); rw [sl_length] at this; omega
  have HL : Hid (∀ r ∈ cut (sl s), r.length ≤ 4000) := hide (fun r hr => by have := cut_mem_len (sl s) r hr; rw [sl_length] at this; omega)
  generalize cut (sl s) = rs at *
  go_enter Tryz.func52, Tryz.ntmps52
  go_wp2_with fail
  refine (unhide HC _).mono ?_
  rintro e w0 ⟨ao, cap, rfl, hrow, hbel0⟩
  have HROW := hide hrow; clear hrow
  have hs0 := hbel0.size
  have HB0 := hide hbel0; clear hbel0
  go_wp2
  go_loopw [4, 6] (fun v i wr => ∃ k : Nat, ∃ acc : List Lo, k ≤ rs.length ∧ i = .int .i64 k ∧ wr.ownsRow w0.heap.size 66 5 v k (loCells acc) ∧ Below w0.heap.size w0 wr ∧ Hid (LoInv rs k acc)) (fun _ i _ => rs.length - (intOf i).toNat)
  case atStart => exact ⟨0, [], Nat.zero_le _, rfl, World.ownsRow_nil _ _ _ _, Below.refl _ _, hide (loInv_0 rs)⟩
  case round =>
    obtain ⟨k, acc, hk, rfl, hown, hbel, HI⟩ := hrel
    by_cases hlt : k < rs.length
    · obtain ⟨g, hao, hg, hcell⟩ := str_cell (unhide HROW) hbel hlt
      rw [hao]
      have hrl : (rs[k]).length ≤ 4000 := unhide HL _ (List.getElem_mem hlt)
      have HRD := hide (fun W => entry_any (bs rs[k]) W (by rw [bs_size]; exact hrl))
      rw [sl_bs] at HRD
      have hk0 : (0 : Int) ≤ k := by omega
      have hk1 : (k : Int) < rs.length := by omega
      have hsz := hbel.size
      clear hao
      generalize hr : rs[k] = r at *
      have HR := hide hr; clear hr
      generalize hR : readOp r = R at *
      have HRR := hide hR; clear hR
      cases R with
      | none =>
        go_wp2_with fail
        refine (unhide HRD _).mono ?_
        rintro e w2 ⟨⟨a, b, c, d, z, rfl, _⟩, hb2⟩
        have HN := hide (loInv_no (unhide HI) hlt (by rw [unhide HR, unhide HRR]))
        have HB3 := hide (hbel.trans (hb2.mono hbel.size))
        have hz3 := hb2.size
        go_wp2
        go_ret2
        refine ⟨by rw [unhide HN]; rfl, ?_⟩
        exact (unhide HB0).trans (((unhide HB3).alloc (by omega) _).mono hs0)
      | some nd =>
        go_wp2_with fail
        refine (unhide HRD _).mono ?_
        rintro e w2 ⟨⟨a, b, c, d, z, rfl, hx⟩, hb2⟩
        obtain ⟨rfl, rfl, rfl, rfl, rfl⟩ := hx nd rfl
        have HB3 := hide (hbel.trans (hb2.mono hbel.size))
        have HOWN := hide (own_below hown hb2)
        have hz3 := hb2.size
        go_wp2_with (first
          | (at_builtin; (refine wpList_append_own _ rfl _ _ 38 rfl w0.heap.size 66 i0 (.agg #[.int .i64 0, .int .i64 0, .int .i64 0, .int .i64 0, .string ByteArray.empty]) 5 48 Tryz.underlying38 hi hz0 hz1 hz2 rfl (by decide) _ _ _ rfl (own_below (unhide HOWN) (((Below.refl _ _).alloc (Nat.le_refl _) _).alloc (by simp) _)) ⟨w2.heap.size + 1, 0, none⟩ 1 1 (loC nd) rfl rfl (news_five' _ _ _ _ _ _ _) (by simp [Value.oneCell', loC]) (by unfold maxLen; omega) (by omega) (by have := hbel.size; simp; omega) ?_))
          | go_in)
        intro v' w3 hown' hgrow _
        have HN := hide (loInv_yes (unhide HI) hlt (x := nd) (by rw [unhide HR, unhide HRR]))
        have hb4 : Below w0.heap.size w0 w3 := ((((unhide HB3).alloc (by have := hbel.size; omega) _).alloc (by have := hbel.size; simp; omega) _)).grown hgrow (by have := hbel.size; simp; omega) (own_ge hown)
        have hown2 : w3.ownsRow w0.heap.size 66 5 v' (k + 1) (loCells (acc ++ [nd])) := by rw [loCells_snoc]; exact hown'
        clear hgrow hown hbel hown' hb2
        go_wp2
        go_roundw
        case rel => exact ⟨k + 1, _, by omega, by go_num, hown2, hb4, HN⟩
        case measure => simp [intOf]; omega
    · have HN := hide (loInv_end (unhide HI) hlt)
      have HI1 := hide (unhide HI).1
      obtain ⟨ao', cap', rfl, hr⟩ := row_of_owns hown
      go_wp2
      go_ret2
      refine ⟨?_, (unhide HB0).trans (hbel.mono hs0)⟩
      rw [unhide HN]
      rw [← unhide HI1] at hr
      exact ⟨ao', cap', by rw [unhide HI1]; rfl, hr⟩
theorem next_take (L list : List Lo) (k : Nat) (h : k < list.length) : (list.take (k + 1)).foldl nextS L = nextS ((list.take k).foldl nextS L) list[k] := by
  rw [List.take_succ_eq_append_getElem h, List.foldl_append]; rfl
theorem next_len (L : List Lo) : ∀ (list : List Lo), (list.foldl nextS L).length ≤ L.length + list.length := by
  refine list_snoc_ind (by simp) ?_
  intro l x ih
  rw [List.foldl_append, List.foldl_cons, List.foldl_nil, List.length_append]
  generalize l.foldl nextS L = N at *
  unfold nextS
  split
  · simp; omega
  · rw [ins_len]; simp; omega
/-- The document's log behind a Deliver: as it was, or new. -/
def LogMoved (w : World) (u u' : Value) : Prop := u' = u ∨ ∀ k, u'.ownBlock = some k → w.heap.size ≤ k
set_option maxHeartbeats 2000000 in
set_option maxRecDepth 100000 in
theorem delivered_ref (L : List Lo) (s : ByteArray) (u : Value) (w : World) (hown : w.ownsRow 0 66 5 u L.length (loCells L)) (hL : L.length ≤ 150) :
    Calls Tryz.prog 29 #[u, .string s] w fun e w' => ∃ u', e = .returned (.tuple #[u', .int .i64 (deliverT L (sl s)).2.1, .int .i64 (deliverT L (sl s)).2.2]) ∧ w'.ownsRow 0 66 5 u' (deliverT L (sl s)).1.length (loCells (deliverT L (sl s)).1) ∧ LogMoved w u u' ∧ Below w.heap.size w w' := by
  obtain ⟨ao, ca, rfl, _⟩ := row_of_owns hown
  by_cases hlong : 4000 < s.size
  · rw [deliverT_long (show 4000 < (sl s).length by rw [sl_length]; exact hlong)]
    have hd : decide ((4000 : Int) < (s.size : Int)) = true := by rw [decide_eq_true_eq]; omega
    have HO := hide hown; clear hown
    go_enter Tryz.func29, Tryz.ntmps29
    go_wp2
    go_ret3
    exact ⟨_, rfl, unhide HO, .inl rfl, Below.refl _ _⟩
  · have hnl : ¬ 4000 < (sl s).length := by rw [sl_length]; exact hlong
    have hd : decide ((4000 : Int) < (s.size : Int)) = false := by rw [decide_eq_false_iff_not]; omega
    have HRD := hide (fun W => entries_any s W (by omega))
    cases hq : readOps (cut (sl s)) with
    | none =>
      rw [deliverT_none hnl hq]
      rw [hq] at HRD
      have HO := hide hown; clear hq hnl hown
      go_enter Tryz.func29, Tryz.ntmps29
      go_wp2_with fail
      refine (unhide HRD _).mono ?_
      rintro e w1 ⟨rfl, hb1⟩
      have HO1 := hide (own_below (unhide HO) hb1)
      go_wp2
      go_ret3
      exact ⟨_, rfl, unhide HO1, .inl rfl, hb1⟩
    | some list =>
      have hll := readOps_len _ _ hq
      have hcl := cut_length_le (sl s)
      rw [sl_length] at hcl
      have hlen : list.length ≤ 4000 := by omega
      clear hll hcl
      rw [hq] at HRD
      have HDT : Hid (if 150 < L.length + (fresh L list).length then deliverT L (sl s) = (L, 0, 13) else deliverT L (sl s) = (joinAll L (fresh L list), (fresh L list).length, 0)) := by
        apply hide; split
        · rename_i h; exact deliverT_full hnl hq h
        · rename_i h; exact deliverT_ok hnl hq h
      have HNF := hide (next_fresh L list)
      have HJL := hide (joinAll_len L (fresh L list))
      generalize deliverT L (sl s) = dt at *
      clear hq hnl
      have HO := hide hown; clear hown
      go_enter Tryz.func29, Tryz.ntmps29
      go_wp2_with fail
      refine (unhide HRD _).mono ?_
      rintro e w1 ⟨⟨bo, cb, rfl, hrow⟩, hb1⟩
      have HROW := hide hrow; clear hrow
      have HO1 := hide (own_below (unhide HO) hb1)
      have HB1 := hide hb1; clear hb1
      go_wp2
      go_loopw [9, 10] (fun v i wr => ∃ k : Nat, ∃ vo : Option Addr, ∃ vc : Nat, k ≤ list.length ∧ i = .int .i64 k ∧ v = .slice vo ((list.take k).foldl nextS L).length vc ∧ Hid (wr.ownsRow 0 66 5 (.slice vo ((list.take k).foldl nextS L).length vc) ((list.take k).foldl nextS L).length (loCells ((list.take k).foldl nextS L))) ∧ Hid (LogMoved w (.slice ao L.length ca) (.slice vo ((list.take k).foldl nextS L).length vc)) ∧ Below w1.heap.size w1 wr) (fun _ i _ => list.length - (intOf i).toNat)
      case atStart => exact ⟨0, ao, ca, Nat.zero_le _, rfl, rfl, HO1, hide (.inl rfl), Below.refl _ _⟩
      case round =>
        obtain ⟨k, vo, vc, hk, rfl, rfl, HOr, HMr, hbel⟩ := hrel
        have hnl2 := next_len L (list.take k)
        rw [List.length_take] at hnl2
        by_cases hlt : k < list.length
        · obtain ⟨g, hao, hg, c0, c1, c2, c3, c4⟩ := lo_cells (unhide HROW) hbel (Nat.le_refl _) hlt
          rw [hao]
          clear hao
          have hk0 : (0 : Int) ≤ k := by omega
          have hk1 : (k : Int) < list.length := by omega
          have HST := hide (next_take L list k hlt)
          have hsz := hbel.size
          have hgr : g < wr.heap.size := by omega
          generalize list[k] = x at *
          have HKN := hide (known_any ((list.take k).foldl nextS L) x vo vc wr (row_of' (unhide HOr)) (by omega))
          have HJN := hide (fun W (h : Row W vo ((list.take k).foldl nextS L).length 5 (loCells ((list.take k).foldl nextS L))) => joined_any ((list.take k).foldl nextS L) x vo vc W h (by omega))
          have HNS : Hid (nextS ((list.take k).foldl nextS L) x = if hasStamp ((list.take k).foldl nextS L) x then (list.take k).foldl nextS L else ins x ((list.take k).foldl nextS L)) := hide rfl
          generalize hasStamp ((list.take k).foldl nextS L) x = q at *
          cases q with
          | true =>
            have HE : Hid ((list.take (k + 1)).foldl nextS L = (list.take k).foldl nextS L) := hide ((unhide HST).trans (unhide HNS))
            go_wp2_with fail
            refine (unhide HKN).mono ?_
            rintro e w2 ⟨rfl, hb2⟩
            have HO2 := hide (own_below (unhide HOr) hb2)
            have HB2 := hide (hbel.trans (hb2.mono hsz))
            clear hb2 c0 c1 c2 c3 c4
            go_wp2
            go_roundw
            case rel => exact ⟨k + 1, vo, vc, by omega, by go_num, by rw [unhide HE], by rw [unhide HE]; exact HO2, by rw [unhide HE]; exact HMr, unhide HB2⟩
            case measure => simp [intOf]; omega
          | false =>
            have HE : Hid ((list.take (k + 1)).foldl nextS L = ins x ((list.take k).foldl nextS L)) := hide ((unhide HST).trans (unhide HNS))
            go_wp2_with fail
            refine (unhide HKN).mono ?_
            rintro e w2 ⟨rfl, hb2⟩
            have HO2 := hide (own_below (unhide HOr) hb2)
            have HB2 := hide (hbel.trans (hb2.mono hsz))
            have d0 := (hb2.cell (p := ⟨g, _, none⟩) hgr).trans c0
            have d1 := (hb2.cell (p := ⟨g, _, none⟩) hgr).trans c1
            have d2 := (hb2.cell (p := ⟨g, _, none⟩) hgr).trans c2
            have d3 := (hb2.cell (p := ⟨g, _, none⟩) hgr).trans c3
            have d4 := (hb2.cell (p := ⟨g, _, none⟩) hgr).trans c4
            clear hb2 c0 c1 c2 c3 c4
            go_wp2_with fail
            refine (unhide HJN _ (by exact row_of' (unhide HO2))).mono ?_
            rintro e w3 ⟨fo, cf, rfl, hown3, hb3⟩
            have hs2 := (unhide HB2).size
            have hs1 := (unhide HB1).size
            have HM3 : Hid (LogMoved w (.slice ao L.length ca) (.slice fo ((list.take (k + 1)).foldl nextS L).length cf)) := by
              apply hide; right; rw [unhide HE]; intro j hj
              have := (hown3.lt j hj).1; omega
            have HO3 : Hid (w3.ownsRow 0 66 5 (.slice fo ((list.take (k + 1)).foldl nextS L).length cf) ((list.take (k + 1)).foldl nextS L).length (loCells ((list.take (k + 1)).foldl nextS L))) := by
              apply hide; rw [unhide HE]; exact own_base hown3 (Nat.zero_le _)
            have HB3 := hide ((unhide HB2).trans (hb3.mono (unhide HB2).size))
            clear hown3 hb3 d0 d1 d2 d3 d4
            go_wp2
            go_roundw
            case rel => exact ⟨k + 1, fo, cf, by omega, by go_num, by rw [unhide HE], HO3, HM3, unhide HB3⟩
            case measure => simp [intOf]; omega
        · have HE : Hid ((list.take k).foldl nextS L = joinAll L (fresh L list)) := by apply hide; rw [List.take_of_length_le (by omega)]; exact unhide HNF
          have HBW : Hid (Below w.heap.size w wr) := hide ((unhide HB1).trans (hbel.mono (unhide HB1).size))
          have HOW := hide (own_below (unhide HO1) hbel)
          rw [unhide HE] at HOr HMr ⊢
          generalize joinAll L (fresh L list) = J at *
          generalize fresh L list = fr at *
          have hjl := unhide HJL
          by_cases hbig : 150 < L.length + fr.length
          · have hD := unhide HDT
            rw [if_pos hbig] at hD
            have hdd : decide ((150 : Int) < (J.length : Int)) = true := by rw [decide_eq_true_eq]; omega
            have HDD := hide hD
            clear hjl hD
            go_wp2
            go_ret3
            exact ⟨_, by rw [unhide HDD]; rfl, by rw [unhide HDD]; exact unhide HOW, .inl rfl, unhide HBW⟩
          · have hD := unhide HDT
            rw [if_neg hbig] at hD
            have hdd : decide ((150 : Int) < (J.length : Int)) = false := by rw [decide_eq_false_iff_not]; omega
            have HDD := hide hD
            have HFL : Hid ((J.length : Int) - (L.length : Int) = (fr.length : Int)) := by apply hide; omega
            have hj4 : J.length ≤ 5000 := by omega
            clear hjl hD
            go_wp2
            go_ret3
            exact ⟨_, by rw [unhide HDD]; simp only [← unhide HFL]; rfl, by rw [unhide HDD]; exact unhide HOr, unhide HMr, unhide HBW⟩
end Go.Proofs.YtdcjimlhaklhfaaGreatDoor

namespace Go.Proofs.YtdcjimlhaklhfaaGreatDoor
open Go.RowKit
theorem trW_far {t : Tr} (ht : TrW t) {m : Nat} (h : 99 < m) : t m = none := by
  cases hm : t m with
  | none => rfl
  | some n => have := (ht.2 m n hm).2.2.1; omega
set_option maxHeartbeats 400000 in
theorem has_w {x : Ext} (t : Tr) (b m : Nat) (w : World) (ht : TrW t) (hm : m ≤ 1000) (hT : TreeAt x w b t) :
    Calls Tryz.prog 118 #[.pointer (some ⟨b, 0, none⟩), .int .i64 m] w fun e w' => e = .returned (.bool (t m).isSome) ∧ w' = w := by
  have HT0 := hide ht.1
  by_cases h1 : 1 ≤ m
  · by_cases h2 : m ≤ 99
    · have hcell := hT.here m (by omega)
      clear hT ht
      go_enter Tryz.func118, Tryz.ntmps118
      go_wp2
      go_ret
      exact ⟨rfl, rfl⟩
    · have HF := hide (trW_far ht (show 99 < m by omega))
      clear hT ht
      go_enter Tryz.func118, Tryz.ntmps118
      go_wp2
      go_ret
      exact ⟨by rw [unhide HF]; rfl, rfl⟩
  · have hm0 : m = 0 := by omega
    subst hm0
    clear hT ht
    go_enter Tryz.func118, Tryz.ntmps118
    go_wp2
    go_ret
    exact ⟨by rw [unhide HT0]; rfl, rfl⟩
set_option maxHeartbeats 1000000 in
theorem meets_w {x : Ext} (t : Tr) (b : Nat) (id goal : Int) (w : World) (ht : TrW t) (h0 : 0 ≤ id) (h1 : id ≤ 100) (hT : TreeAt x w b t) :
    Calls Tryz.prog 93 #[.pointer (some ⟨b, 0, none⟩), .int .i64 id, .int .i64 goal] w fun e w' => e = .returned (.bool (meetsT t id goal)) ∧ w' = w := by
  have HO := hide ht
  have HT := hide hT
  clear ht hT
  have HM : Hid (meetsT t id goal = meetsF t 100 id goal) := hide rfl
  generalize meetsT t id goal = M at *
  go_enter Tryz.func93, Tryz.ntmps93
  go_wp2
  go_loop [7, 8] (fun d i => ∃ k : Nat, ∃ m : Int, k ≤ 100 ∧ i = .int .i64 k ∧ d = .int .i64 m ∧ 0 ≤ m ∧ m ≤ 100 ∧ Hid (M = meetsF t (100 - k) m goal)) (fun _ i => 101 - (intOf i).toNat)
  case atStart => exact ⟨0, id, by omega, rfl, rfl, h0, h1, HM⟩
  case round =>
    obtain ⟨k, m, hk, rfl, rfl, hm0, hm1, HI⟩ := hrel
    by_cases hlt : k ≤ 99
    · have hf : 100 - k = (99 - k) + 1 := by omega
      have HI2 : Hid (M = meetsF t ((99 - k) + 1) m goal) := by apply hide; rw [← hf]; exact unhide HI
      clear hf HI HM
      by_cases hg : m = goal
      · subst hg
        have hM := unhide HI2
        rw [meetsF_hit] at hM
        have HMt := hide hM; clear hM
        go_wp2
        go_ret
        exact ⟨ret_bool (unhide HMt).symm, rfl⟩
      · have hg' : (m == goal) = false := by simpa using hg
        obtain ⟨mn, rfl⟩ := Int.eq_ofNat_of_zero_le hm0
        have HH := hide (has_w t b mn w (unhide HO) (by omega) (unhide HT))
        cases hn : t mn with
        | none =>
          have HMf := hide ((unhide HI2).trans (meetsF_none hg (by simpa using hn)))
          rw [hn] at HH
          clear hn
          go_wp2_with (go_at_call 118; refine (unhide HH).mono ?_; rintro e w' ⟨rfl, rfl⟩)
          go_ret
          exact ⟨ret_bool (unhide HMf).symm, rfl⟩
        | some n =>
          have HMf := hide ((unhide HI2).trans (meetsF_some hg (by simpa using hn)))
          have hb := (unhide HO).2 mn n hn
          have hmn := hb.2.2.1
          have hcell := (unhide HT).cell (100 + mn * 3 + 1)
          rw [(treeCells_node t mn (by omega)).2.1, hn] at hcell
          rw [hn] at HH
          have hp0 : 0 ≤ n.parent := hb.2.2.2.2.2.1
          have hp1 : n.parent ≤ 100 := hb.2.2.2.2.2.2.1
          have hmi : (mn : Int) < 100 := by omega
          clear hn hb
          go_wp2_with (go_at_call 118; refine (unhide HH).mono ?_; rintro e w' ⟨rfl, rfl⟩)
          go_round
          case rel => exact ⟨k + 1, n.parent, by omega, by go_num, rfl, hp0, hp1, by apply hide; rw [show 100 - (k + 1) = 99 - k by omega]; exact unhide HMf⟩
          case measure => simp [intOf]; omega
    · have HMf : Hid (M = false) := by apply hide; rw [unhide HI, show 100 - k = 0 by omega]; rfl
      go_wp2
      go_ret
      exact ⟨ret_bool (unhide HMf).symm, rfl⟩
theorem placeS_no {t : Tr} {x : Lo} (h : meetsT t x.node.parent x.node.id = true) : placeS t x = t := by unfold placeS; rw [if_pos h]
theorem placeS_yes {t : Tr} {x : Lo} (h : meetsT t x.node.parent x.node.id = false) : placeS t x = trPut t x.node := by unfold placeS; rw [if_neg (by rw [h]; simp)]
set_option maxHeartbeats 2000000 in
theorem places_any (L : List Lo) (b o : Nat) (ao : Option Addr) (cap : Nat) (w : World) (hlog : w.cell? ⟨b, o, none⟩ = some (.slice ao L.length cap)) (hb : b < w.heap.size) (hrow : Row w ao L.length 5 (loCells L)) (hx : ∀ x ∈ L, LoOk x) (hl : L.length ≤ 4000) :
    Calls Tryz.prog 92 #[.pointer (some ⟨b, o, none⟩)] w fun e w' => e = .returned (.agg (treeCells (places L)).toArray) ∧ Below w.heap.size w w' := by
  have HROW := hide hrow; clear hrow
  have HX := hide hx; clear hx
  have HZ := hide zeroTree
  go_enter Tryz.func92, Tryz.ntmps92
  go_wp2
  go_loopw [11] (fun i wr => ∃ k : Nat, k ≤ L.length ∧ i = .int .i64 k ∧ Below w.heap.size w wr ∧ Hid (TreeAt ext0 wr (w.heap.size + 1) (places (L.take k))) ∧ Hid (TreeAt ext0 wr w.heap.size tr0)) (fun i _ => L.length - (intOf i).toNat)
  case atStart =>
    refine ⟨0, Nat.zero_le _, rfl, ((Below.refl _ _).alloc (Nat.le_refl _) _).alloc (by simp) _, ?_, ?_⟩
    · apply hide; rw [show places (List.take 0 L) = tr0 by simp [places]]; unfold TreeAt ext0; rw [unhide HZ]; simpa using heap_alloc_new (w.alloc (.cells (treeCells tr0).toArray 88)) (.cells (treeCells tr0).toArray 88)
    · apply hide; unfold TreeAt ext0; rw [unhide HZ, Below.heap_alloc _ _ _ (by simp)]; simpa using heap_alloc_new w (.cells (treeCells tr0).toArray 88)
  case round =>
    obtain ⟨k, hk, rfl, hbel, HT1, HT0⟩ := hrel
    have HOK : Hid (TrW (places (L.take k))) := hide (places_ok (fun x h => unhide HX x (List.mem_of_mem_take h)))
    by_cases hlt : k < L.length
    · obtain ⟨g, hao, hg, c0, c1, c2, c3, c4⟩ := lo_cells (unhide HROW) hbel (Nat.le_refl _) hlt
      rw [hao]
      have hxk := unhide HX _ (List.getElem_mem hlt)
      have HS := hide (places_snoc L k hlt)
      have hsz := hbel.size
      clear hao
      generalize L[k] = x at *
      have hwx := hxk.2.2.2.2
      have hw1 := hwx.1
      have hw2 := hwx.2.1
      have hw3 := hwx.2.2.1
      have hw4 := hwx.2.2.2.1
      clear hwx hxk
      have hB1 : Below wr.heap.size wr (wr.alloc (.cells #[.int .i64 x.count, .int .i64 x.site, .int .i64 x.node.id, .int .i64 x.node.parent, .string (bs x.node.name)] 142)) := (Below.refl _ _).alloc (Nat.le_refl _) _
      have HT1b := hide ((unhide HT1).below hB1)
      have HT0b := hide ((unhide HT0).below hB1)
      have HB1 := hide (hbel.trans (hB1.mono hsz))
      clear hB1
      have HME := hide (meets_w _ _ x.node.parent x.node.id _ (unhide HOK) hw3 hw4 (unhide HT1b))
      generalize hmq : meetsT (places (L.take k)) x.node.parent x.node.id = q at *
      have HMQ := hide hmq; clear hmq
      cases q with
      | true =>
        have HS2 := hide ((unhide HS).trans (placeS_no (unhide HMQ)))
        go_wp2_with (go_at_call 93; refine (unhide HME).mono ?_; rintro e w' ⟨rfl, rfl⟩)
        go_roundw
        case rel => exact ⟨k + 1, by omega, by go_num, unhide HB1, by rw [unhide HS2]; exact HT1b, HT0b⟩
        case measure => simp [intOf]; omega
      | false =>
        have HS2 := hide ((unhide HS).trans (placeS_yes (unhide HMQ)))
        go_wp2_with (first | (go_at_call 93; refine (unhide HME).mono ?_; rintro e w' ⟨rfl, rfl⟩) | fail)
        refine (put_any _ _ x.node _ hw1 hw2 (unhide HT1b)).mono ?_
        rintro e w2 ⟨rfl, hT2, hg2⟩
        have HT2 : Hid (TreeAt ext0 w2 (w.heap.size + 1) (places (L.take (k + 1)))) := by apply hide; rw [unhide HS2]; exact hT2
        have HT02 : Hid (TreeAt ext0 w2 w.heap.size tr0) := hide (treeAt_grown (unhide HT0b) hg2 (by omega))
        have hb2 : Below w.heap.size w w2 := (unhide HB1).grown hg2 (by simp; omega) (fun k hk => by cases hk; omega)
        clear hT2 hg2 c0 c1 c2 c3 c4 hbel
        go_wp2
        go_roundw
        case rel => exact ⟨k + 1, by omega, by go_num, hb2, HT2, HT02⟩
        case measure => simp [intOf]; omega
    · have HE : Hid (places L = places (L.take k)) := by apply hide; rw [List.take_of_length_le (by omega)]
      generalize places (L.take k) = T at *
      have hRange : wr.rangeAt (w.heap.size + 1) 0 (treeCells T) := treeAt_range (unhide HT1)
      have hThere : wr.there w.heap.size 0 (treeCells T).toArray.size := treeAt_there (unhide HT0) T
      have HR := hide hRange; clear hRange
      have HTH := hide hThere; clear hThere
      go_wp2_with (first
        | (refine wpList_load_mid (by rfl) 88 (.tmp 3) (by rfl) (w.heap.size + 1) 0 (by rfl) (treeCells T) _ (unhide HR) Tryz.underlying88 (by rfl) (treeSize T) ?_)
        | (refine wpList_store_mid (by rfl) 88 (.tmp 2) (.tmp 27) (by rfl) w.heap.size 0 (treeCells T).toArray (by rfl) (by rfl) (unhide HTH) (treeSize' T) (treeOne T) ?_))
      have hr := World.rangeAt_setCells_same wr w.heap.size 0 (treeCells T) (by have := unhide HTH; rwa [List.size_toArray] at this)
      refine bodyPost_ret (v := .agg (treeCells T).toArray) (by simp [results, Tryz.results92, Act.put, asAddr, run_loadVar_mid _ _ _ _ _ _ hr Tryz.underlying88 rfl (treeSize T)]) rfl ⟨by rw [unhide HE], ?_⟩
      exact below_setCells hbel (Nat.le_refl _) hbel.size _ _
end Go.Proofs.YtdcjimlhaklhfaaGreatDoor
