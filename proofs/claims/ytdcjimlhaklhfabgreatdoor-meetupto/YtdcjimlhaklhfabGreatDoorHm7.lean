import Derived.Test.YtdcjimlhaklhfabGreatDoorHm1
import Derived.Test.YtdcjimlhaklhfabGreatDoorHm6
import Derived.Test.YtdcjimlhaklhfabGreatDoorHm4
import Derived.Test.YtdcjimlhaklhfabGreatDoorHm3
import Derived.BigQuiet
import Derived.Test.YtdcjimlhaklhfabGreatDoorHm5
import Derived.Laws.StructEq
namespace Go.Proofs.YtdcjimlhaklhfabGreatDoor
open Go.RowKit
def pickK (c : Int) (n : Nat) : Nat := ((if c < 0 then -(c + 1) else c) % n).toNat
theorem pickK_lt (c : Int) {n : Nat} (h : 0 < n) : pickK c n < n := by
  unfold pickK
  have h1 := Int.emod_nonneg (if c < 0 then -(c + 1) else c) (show (n : Int) ≠ 0 by omega)
  have h2 := Int.emod_lt_of_pos (if c < 0 then -(c + 1) else c) (show (0 : Int) < n by omega)
  omega
theorem pickK_int (c : Int) {n : Nat} (h : 0 < n) : ((pickK c n : Nat) : Int) = (if c < 0 then -(c + 1) else c) % n := by
  unfold pickK
  exact Int.toNat_of_nonneg (Int.emod_nonneg _ (show (n : Int) ≠ 0 by omega))
/-- An int of Go's. -/
abbrev I64 (c : Int) : Prop := -9223372036854775808 ≤ c ∧ c ≤ 9223372036854775807
set_option maxHeartbeats 1000000 in
theorem kpick_any (c : Int) (n : Nat) (w : World) (hn : 0 < n) (hn2 : n ≤ 10000000000000) (h0 : I64 c) :
    Calls Tryz.prog 22 #[.int .i64 c, .int .i64 n] w fun e w' => e = .returned (.int .i64 (pickK c n)) ∧ w' = w := by
  obtain ⟨h0, h1⟩ := h0
  have HP := hide (pickK_int c hn)
  generalize pickK c n = p at *
  by_cases hc : c < 0
  · have hd : decide (c < 0) = true := by simpa using hc
    have HP2 : Hid ((p : Int) = -((c + 1).tmod n)) := by apply hide; rw [unhide HP, if_pos hc, ← Int.neg_tmod]; exact (Int.tmod_eq_emod_of_nonneg (by omega)).symm
    go_enter Tryz.func22, Tryz.ntmps22
    go_wp2
    go_ret
    exact ⟨ret_int (by rw [unhide HP2]), rfl⟩
  · have hd : decide (c < 0) = false := by simpa using hc
    have HP2 : Hid ((p : Int) = c % n) := by apply hide; rw [unhide HP, if_neg hc]
    have hc0 : 0 ≤ c := by omega
    go_enter Tryz.func22, Tryz.ntmps22
    go_wp2
    go_ret
    exact ⟨ret_int (by rw [unhide HP2]), rfl⟩
set_option maxHeartbeats 1000000 in
theorem replica_any (site : Int) (w : World) (h : I64 site) :
    Calls Tryz.prog 18 #[.int .i64 site] w fun e w' => e = .returned (.pointer (some ⟨w.heap.size, 0, none⟩)) ∧ (∃ st, Repl w' w.heap.size st (.slice none 0 0) []) ∧ Below w.heap.size w w' := by
  have HP := hide (fun W => kpick_any site 9 W (by omega) (by omega) h)
  have hp := pickK_lt site (show 0 < 9 by omega)
  generalize pickK site 9 = p at *
  have HN := hide (new_ok (1 + (p : Int)) w (by omega) (by omega))
  clear h
  go_enter Tryz.func18, Tryz.ntmps18
  go_wp2_with fail
  refine (unhide HP _).mono ?_
  rintro e w1 ⟨rfl, rfl⟩
  go_wp2_with fail
  refine (unhide HN).mono ?_
  rintro e w2 ⟨rfl, hR, hb⟩
  have HR := hide hR
  have HB := hide hb
  clear hR hb
  go_wp2
  go_ret
  exact ⟨rfl, ⟨_, unhide HR⟩, unhide HB⟩
set_option maxHeartbeats 1000000 in
theorem kright_any (t : Tr) (w : World) (hv : Valid t) :
    Calls Tryz.prog 14 #[.string (bs (textT t))] w fun e w' => e = .returned (.bool true) ∧ Below w.heap.size w w' := by
  have HC := hide (fun W => check_any (bs (textT t)) W)
  rw [sl_bs, (check_text hv).1] at HC
  go_enter Tryz.func14, Tryz.ntmps14
  go_wp2_with fail
  refine (unhide HC _).mono ?_
  rintro e w1 ⟨rfl, hb1⟩
  go_wp2
  go_ret
  exact ⟨rfl, hb1⟩
set_option maxHeartbeats 2000000 in
theorem like_any (L : List Lo) (bx b' : Nat) (sx sy : Int) (vx vy : Value) (w : World) (hX : Repl w bx sx vx L) (hY : Repl w b' sy vy L) (htab : Tab w) :
    Calls Tryz.prog 20 #[.pointer (some ⟨bx, 0, none⟩), .pointer (some ⟨b', 0, none⟩)] w fun e w' => e = .returned (.bool true) ∧ Below w.heap.size w w' := by
  have HL1 := hide (fun W (h : Repl W bx sx vx L) (t : Tab W) => log_any L bx sx vx W h t)
  have HL2 := hide (fun W (h : Repl W b' sy vy L) (t : Tab W) => log_any L b' sy vy W h t)
  have HE1 := hide (fun W (h : Repl W bx sx vx L) => export_any L bx sx vx W h)
  have HE2 := hide (fun W (h : Repl W b' sy vy L) => export_any L b' sy vy W h)
  have HRT := hide (fun W => kright_any (viewT (places L)) W (view_valid (places_ok hX.ok.2.1)))
  have HX := hide hX
  have HY := hide hY
  have HT := hide htab
  clear hX hY htab
  have hb1 : ((bs (logText L)).toList == (bs (logText L)).toList) = true := by simp
  have hb2 : ((bs (textT (viewT (places L)))).toList == (bs (textT (viewT (places L)))).toList) = true := by simp
  generalize bs (logText L) = tl at *
  generalize bs (textT (viewT (places L))) = tv at *
  go_enter Tryz.func20, Tryz.ntmps20
  go_wp2_with fail
  refine (unhide HL1 _ (by exact unhide HX) (by exact unhide HT)).mono ?_
  rintro e w1 ⟨rfl, c1⟩
  have HX1 := hide ((unhide HX).below c1)
  have HY1 := hide ((unhide HY).below c1)
  have HT1 := hide (tab_below (unhide HT) c1)
  have HB1 := hide c1
  clear c1
  go_wp2_with fail
  refine (unhide HL2 _ (by exact unhide HY1) (by exact unhide HT1)).mono ?_
  rintro e w2 ⟨rfl, c2⟩
  have HX2 := hide ((unhide HX1).below c2)
  have HY2 := hide ((unhide HY1).below c2)
  have HB2 := hide ((unhide HB1).trans (c2.mono (unhide HB1).size))
  clear c2
  go_wp2_with fail
  refine (unhide HE1 _ (by exact unhide HX2)).mono ?_
  rintro e w3 ⟨rfl, c3⟩
  have HY3 := hide ((unhide HY2).below c3)
  have HB3 := hide ((unhide HB2).trans (c3.mono (unhide HB2).size))
  clear c3
  go_wp2_with fail
  refine (unhide HE2 _ (by exact unhide HY3)).mono ?_
  rintro e w4 ⟨rfl, c4⟩
  have HB4 := hide ((unhide HB3).trans (c4.mono (unhide HB3).size))
  clear c4
  go_wp2_with fail
  refine (unhide HRT _).mono ?_
  rintro e w5 ⟨rfl, c5⟩
  have HB5 := hide ((unhide HB4).trans (c5.mono (unhide HB4).size))
  clear c5
  go_wp2
  go_ret
  exact ⟨by simp, unhide HB5⟩
end Go.Proofs.YtdcjimlhaklhfabGreatDoor

namespace Go.Proofs.YtdcjimlhaklhfabGreatDoor
open Go.RowKit
/-! Compile: what the program does. -/
def getT (t : Tr) (id : Int) : Nd := (t id.toNat).getD nd0
/-- The step that brings a node home, if it is not there. -/
def homeS (a g : Tr) (id : Int) : Option St := match a id.toNat, g id.toNat with
  | none, none => none
  | some _, none => some ⟨45, ⟨id, 0, []⟩⟩
  | none, some n => some ⟨43, n⟩
  | some m, some n => if ndEq m n then none else some ⟨61, n⟩
structure Pl where
  now : Tr
  done : List St
def goOne (g : Tr) (p : Pl × Bool) (i : Nat) : Pl × Bool := match homeS p.1.now g i with
  | none => p
  | some s => if stepE p.1.now s = 0 then (⟨stepT p.1.now s, p.1.done ++ [s]⟩, true) else p
def goHomeT (g : Tr) (p : Pl) : Pl × Bool := (List.range' 1 99).foldl (goOne g) (p, false)
def fromAwayF (a g : Tr) : Nat → Int → Int
  | 0, _ => 0
  | f + 1, id => if (homeS a g id).isSome then id else fromAwayF a g f (getT a id).parent
def inWay (a g : Tr) (n : Nd) : Int := if !isParentT a n.parent then n.parent else if meetsT a n.parent n.id then fromAwayF a g 99 n.parent else atT a n.parent n.name
def blocker (a g : Tr) (id : Int) : Int := match homeS a g id with
  | none => 0
  | some s => if s.kind = 45 then kidT a id else inWay a g s.node
def awayIs (a g : Tr) (i : Nat) : Bool := (homeS a g i).isSome
def firstAway (a g : Tr) : Int := if scan (awayIs a g) 1 100 < 100 then (scan (awayIs a g) 1 100 : Int) else 0
def iter (f : Int → Int) : Nat → Int → Int
  | 0, x => x
  | n + 1, x => iter f n (f x)
def isMove (a g : Tr) (id : Int) : Bool := match homeS a g id with
  | none => false
  | some s => s.kind == 61
def seekF (a g : Tr) : Nat → Int → Int
  | 0, _ => 0
  | f + 1, id => if isMove a g id then id else seekF a g f (blocker a g id)
def knotT (a g : Tr) : Int := seekF a g 99 (iter (blocker a g) 99 (firstAway a g))
def parkN (id : Int) : Nd := ⟨id, 0, 116 :: 126 :: digs id⟩
def parkS (id : Int) : St := ⟨61, parkN id⟩
def parkT (g : Tr) (p : Pl) : Pl × Bool :=
  if knotT p.now g = 0 then (p, false) else
  if stepE p.now (parkS (knotT p.now g)) = 0 then (⟨stepT p.now (parkS (knotT p.now g)), p.done ++ [parkS (knotT p.now g)]⟩, true) else (p, false)
def makeF (g : Tr) : Nat → Pl → List St
  | 0, p => p.done
  | f + 1, p => if (goHomeT g p).2 then makeF g f (goHomeT g p).1 else if (parkT g (goHomeT g p).1).2 then makeF g f (parkT g (goHomeT g p).1).1 else (parkT g (goHomeT g p).1).1.done
def makeT (a g : Tr) : List St := makeF g 199 ⟨a, []⟩
/-! The document's way from tree to tree. -/
inductive Seg (g : Tr) : Tr → List St → Tr → Prop
  | nil (a : Tr) : Seg g a [] a
  | home {a b : Tr} {i : Int} {s : St} {ss : List St} (h1 : 1 ≤ i) (h2 : i ≤ 99) (hs : homeS a g i = some s) (he : stepE a s = 0) (k : Seg g (stepT a s) ss b) : Seg g a (s :: ss) b
  | park {a b : Tr} {i : Int} {n : Nd} {ss : List St} (h1 : 1 ≤ i) (h2 : i ≤ 99) (hno : ∀ (j : Int) (s : St), 1 ≤ j → j ≤ 99 → homeS a g j = some s → stepE a s ≠ 0) (hs : homeS a g i = some ⟨61, n⟩) (hp : a i.toNat ≠ some (parkN i)) (he : stepE a (parkS i) = 0) (k : Seg g (stepT a (parkS i)) ss b) : Seg g a (parkS i :: ss) b
theorem seg_trans {g a b c : Tr} {ss ts : List St} (h : Seg g a ss b) (k : Seg g b ts c) : Seg g a (ss ++ ts) c := by
  induction h with
  | nil a => exact k
  | home h1 h2 hs he _ ih => exact Seg.home h1 h2 hs he (ih k)
  | park h1 h2 hno hs hp he _ ih => exact Seg.park h1 h2 hno hs hp he (ih k)
/-! Steps home. -/
theorem home_cases {a g : Tr} {id : Int} {s : St} (h : homeS a g id = some s) :
    (s = ⟨45, ⟨id, 0, []⟩⟩ ∧ g id.toNat = none ∧ ∃ m, a id.toNat = some m) ∨ (∃ n, s = ⟨43, n⟩ ∧ g id.toNat = some n ∧ a id.toNat = none) ∨ ∃ n m, s = ⟨61, n⟩ ∧ g id.toNat = some n ∧ a id.toNat = some m ∧ m ≠ n := by
  unfold homeS at h
  cases ha : a id.toNat with
  | none =>
    cases hg : g id.toNat with
    | none => rw [ha, hg] at h; cases h
    | some n => rw [ha, hg] at h; cases h; exact .inr (.inl ⟨n, rfl, rfl, rfl⟩)
  | some m =>
    cases hg : g id.toNat with
    | none => rw [ha, hg] at h; cases h; exact .inl ⟨rfl, rfl, m, rfl⟩
    | some n =>
      rw [ha, hg] at h
      have h' : (if ndEq m n then none else some (⟨61, n⟩ : St)) = some s := h
      split at h'
      · cases h'
      · rename_i hne
        cases h'
        exact .inr (.inr ⟨n, m, rfl, rfl, rfl, fun e => hne (ndEq_iff.2 e)⟩)
theorem home_none {a g : Tr} {id : Int} : homeS a g id = none ↔ a id.toNat = g id.toNat := by
  unfold homeS
  cases ha : a id.toNat with
  | none => cases hg : g id.toNat <;> simp
  | some m =>
    cases hg : g id.toNat with
    | none => simp
    | some n =>
      simp only [Option.some.injEq]
      constructor
      · intro h
        split at h
        · exact ndEq_iff.1 (by assumption)
        · cases h
      · intro h; rw [if_pos (ndEq_iff.2 h)]
theorem home_del {a g : Tr} {id : Int} {m : Nd} (ha : a id.toNat = some m) (hg : g id.toNat = none) : homeS a g id = some ⟨45, ⟨id, 0, []⟩⟩ := by unfold homeS; rw [ha, hg]
theorem home_new {a g : Tr} {id : Int} {n : Nd} (ha : a id.toNat = none) (hg : g id.toNat = some n) : homeS a g id = some ⟨43, n⟩ := by unfold homeS; rw [ha, hg]
theorem home_move {a g : Tr} {id : Int} {m n : Nd} (ha : a id.toNat = some m) (hg : g id.toNat = some n) (h : m ≠ n) : homeS a g id = some ⟨61, n⟩ := by
  unfold homeS; rw [ha, hg]
  show (if ndEq m n then none else some (⟨61, n⟩ : St)) = _
  rw [if_neg (fun e => h (ndEq_iff.1 e))]
theorem home_congr {a a' g : Tr} {id : Int} (h : a id.toNat = a' id.toNat) : homeS a g id = homeS a' g id := by unfold homeS; rw [h]
theorem digs_inj : ∀ x : Nat, x < 100 → ∀ y : Nat, y < 100 → digs (x : Int) = digs (y : Int) → x = y := by decide +kernel
theorem plain_park (l : Str) : plainLen (116 :: 126 :: l) = 1 := by
  unfold plainLen
  rw [List.takeWhile_cons, if_pos (by decide), List.takeWhile_cons, if_neg (by decide)]; rfl
theorem park_name (id : Int) : isName (116 :: 126 :: digs id) id = true := by
  unfold isName; rw [plain_park]; simp
theorem park_own {x y : Int} (hx0 : 0 ≤ x) (hx : x ≤ 99) (hy0 : 0 ≤ y) (hy : y ≤ 99) (h : isName (116 :: 126 :: digs x) y = true) : x = y := by
  unfold isName at h; rw [plain_park] at h
  simp only [List.length_cons, List.drop_succ_cons, List.drop_zero, Bool.and_eq_true, Bool.or_eq_true, beq_iff_eq] at h
  rcases h.2 with h | h
  · omega
  · obtain ⟨a, rfl⟩ := Int.eq_ofNat_of_zero_le hx0
    obtain ⟨b, rfl⟩ := Int.eq_ofNat_of_zero_le hy0
    have := digs_inj a (by omega) b (by omega) (by simpa using h)
    rw [this]
theorem park_ok {id : Int} (h1 : 1 ≤ id) (h2 : id ≤ 99) : StOk (parkS id) := .inl ⟨.inr rfl, h1, h2, Int.le_refl 0, by show (0 : Int) ≤ 99; omega, park_name id⟩
theorem trOk_id {t : Tr} (h : TrOk t) {id : Int} (h1 : 0 ≤ id) {n : Nd} (hn : t id.toNat = some n) : n.id = id ∧ 1 ≤ id ∧ id ≤ 99 ∧ NdOk n := by
  have := h.2 _ n hn
  refine ⟨by omega, by omega, by omega, by omega, by omega, this.2.2.2.1, this.2.2.2.2.1, this.2.2.2.2.2⟩
theorem home_ok {a g : Tr} (hg : TrOk g) {id : Int} (h1 : 1 ≤ id) (h2 : id ≤ 99) {s : St} (h : homeS a g id = some s) : StOk s ∧ s.node.id = id := by
  rcases home_cases h with ⟨rfl, _⟩ | ⟨n, rfl, hn, _⟩ | ⟨n, _, rfl, hn, _⟩
  · exact ⟨.inr ⟨rfl, h1, h2⟩, rfl⟩
  · have := trOk_id hg (by omega) hn; exact ⟨.inl ⟨.inl rfl, this.2.2.2⟩, this.1⟩
  · have := trOk_id hg (by omega) hn; exact ⟨.inl ⟨.inr rfl, this.2.2.2⟩, this.1⟩
/-- A step home that is done: the node is home, all else is as it was. -/
theorem home_done {a g : Tr} (hg : TrOk g) {id : Int} (h1 : 1 ≤ id) {s : St} (h : homeS a g id = some s) (he : stepE a s = 0) (j : Nat) : stepT a s j = if (j : Int) = id then g j else a j := by
  unfold stepT
  rw [if_pos he]
  rcases home_cases h with ⟨rfl, hn, _⟩ | ⟨n, rfl, hn, _⟩ | ⟨n, _, rfl, hn, _⟩
  · rw [if_pos rfl]
    unfold trRemove
    by_cases e : (j : Int) = id
    · rw [if_pos e, if_pos e, ← hn]; congr 1; omega
    · rw [if_neg e, if_neg e]
  · rw [if_neg (show ¬ ((43 : UInt8) = 45) by decide), put_at]
    have := (trOk_id hg (by omega) hn).1
    simp only
    rw [this]
    by_cases e : (j : Int) = id
    · rw [if_pos e, if_pos e, ← hn]; congr 1; omega
    · rw [if_neg e, if_neg e]
  · rw [if_neg (show ¬ ((61 : UInt8) = 45) by decide), put_at]
    have := (trOk_id hg (by omega) hn).1
    simp only
    rw [this]
    by_cases e : (j : Int) = id
    · rw [if_pos e, if_pos e, ← hn]; congr 1; omega
    · rw [if_neg e, if_neg e]
theorem park_done {a : Tr} {id : Int} (he : stepE a (parkS id) = 0) (j : Nat) : stepT a (parkS id) j = if (j : Int) = id then some (parkN id) else a j := by
  unfold stepT
  rw [if_pos he, if_neg (show ¬ ((parkS id).kind = 45) by show ¬ ((61 : UInt8) = 45); decide), put_at]; rfl
theorem seg_valid {g a b : Tr} {ss : List St} (h : Seg g a ss b) (hg : TrOk g) : Valid a → Valid b ∧ ∀ s ∈ ss, StOk s := by
  induction h with
  | nil a => intro h; exact ⟨h, by simp⟩
  | home h1 h2 hs he _ ih =>
    intro h
    have hk := (home_ok hg h1 h2 hs).1
    obtain ⟨k1, k2⟩ := ih (valid_step h hk)
    refine ⟨k1, fun s hm => ?_⟩
    rcases List.mem_cons.1 hm with rfl | hm
    · exact hk
    · exact k2 s hm
  | park h1 h2 hno hs hp he _ ih =>
    intro h
    have hk := park_ok h1 h2
    obtain ⟨k1, k2⟩ := ih (valid_step h hk)
    refine ⟨k1, fun s hm => ?_⟩
    rcases List.mem_cons.1 hm with rfl | hm
    · exact hk
    · exact k2 s hm
theorem seg_does {g a b : Tr} {ss : List St} (h : Seg g a ss b) : ∀ i, doAllE ss a i = (0, 0) ∧ doAllT ss a = b := by
  induction h with
  | nil a => intro i; exact ⟨rfl, rfl⟩
  | home h1 h2 hs he _ ih => intro i; rw [doAllE, doAllT, if_pos he, if_pos he]; exact ih _
  | park h1 h2 hno hs hp he _ ih => intro i; rw [doAllE, doAllT, if_pos he, if_pos he]; exact ih _
/-! How much is to come. -/
def parkedB (a : Tr) (i : Nat) : Bool := match a i with
  | none => false
  | some m => ndEq m (parkN i)
theorem parkedB_iff {a : Tr} {i : Nat} : parkedB a i = true ↔ a i = some (parkN i) := by
  unfold parkedB
  cases a i with
  | none => simp
  | some m => simp [ndEq_iff]
def weight (a g : Tr) (i : Nat) : Nat := match homeS a g i with
  | none => 0
  | some s => if s.kind == 61 && !parkedB a i then 2 else 1
def toCome (a g : Tr) : Nat := ((List.range' 1 99).map (weight a g)).sum
theorem weight_le (a g : Tr) (i : Nat) : weight a g i ≤ 2 := by
  unfold weight; split
  · omega
  · split <;> omega
theorem sum_le {f h : Nat → Nat} : ∀ (l : List Nat), (∀ i ∈ l, f i ≤ h i) → (l.map f).sum ≤ (l.map h).sum := by
  intro l
  induction l with
  | nil => simp
  | cons x l ih =>
    intro hh
    have h1 := hh x (by simp)
    have h2 := ih (fun i hi => hh i (by simp [hi]))
    simp only [List.map_cons, List.sum_cons]; omega
theorem sum_lt {f h : Nat → Nat} : ∀ (l : List Nat) (k : Nat), k ∈ l → (∀ i ∈ l, f i ≤ h i) → f k < h k → (l.map f).sum < (l.map h).sum := by
  intro l
  induction l with
  | nil => intro k hk; simp at hk
  | cons x l ih =>
    intro k hk hh hlt
    have h1 := hh x (by simp)
    have h2 := sum_le l (fun i hi => hh i (by simp [hi]))
    simp only [List.map_cons, List.sum_cons]
    rcases List.mem_cons.1 hk with rfl | hk
    · omega
    · have := ih k hk (fun i hi => hh i (by simp [hi])) hlt; omega
theorem sum_bd {f : Nat → Nat} {c : Nat} : ∀ (l : List Nat), (∀ i ∈ l, f i ≤ c) → (l.map f).sum ≤ c * l.length := by
  intro l
  induction l with
  | nil => simp
  | cons x l ih =>
    intro hh
    have h1 := hh x (by simp)
    have h2 := ih (fun i hi => hh i (by simp [hi]))
    simp only [List.map_cons, List.sum_cons, List.length_cons, Nat.mul_add]; omega
theorem toCome_le (a g : Tr) : toCome a g ≤ 198 := by
  have := sum_bd (f := weight a g) (c := 2) (List.range' 1 99) (fun i _ => weight_le a g i)
  simpa [toCome] using this
theorem weight_congr {a b g : Tr} {i : Nat} (h : a i = b i) : weight a g i = weight b g i := by
  unfold weight parkedB
  rw [home_congr (a := a) (a' := b) (by simpa using h), h]
theorem weight_home {a g : Tr} {i : Nat} (h : a i = g i) : weight a g i = 0 := by
  unfold weight
  rw [home_none.2 (by simpa using h)]
theorem weight_pos {a g : Tr} {i : Nat} {s : St} (h : homeS a g i = some s) : 1 ≤ weight a g i := by
  unfold weight; rw [h]; simp only; split <;> omega
theorem come_home {a g : Tr} (hg : TrOk g) {id : Int} (h1 : 1 ≤ id) (h2 : id ≤ 99) {s : St} (h : homeS a g id = some s) (he : stepE a s = 0) : toCome (stepT a s) g < toCome a g := by
  obtain ⟨m, rfl⟩ := Int.eq_ofNat_of_zero_le (show 0 ≤ id by omega)
  have hd := home_done hg h1 h he
  have hz : weight (stepT a s) g m = 0 := weight_home (by rw [hd, if_pos rfl])
  refine sum_lt _ m (by rw [List.mem_range'_1]; omega) (fun i _ => ?_) (by rw [hz]; exact weight_pos h)
  by_cases e : (i : Int) = m
  · have : i = m := by omega
    subst this; rw [hz]; omega
  · rw [weight_congr (show stepT a s i = a i by rw [hd, if_neg e])]; omega
theorem come_park {a g : Tr} {id : Int} (h1 : 1 ≤ id) (h2 : id ≤ 99) {n : Nd} (h : homeS a g id = some ⟨61, n⟩) (hp : a id.toNat ≠ some (parkN id)) (he : stepE a (parkS id) = 0) : toCome (stepT a (parkS id)) g < toCome a g := by
  obtain ⟨m, rfl⟩ := Int.eq_ofNat_of_zero_le (show 0 ≤ id by omega)
  have hd := park_done he
  have hz : weight (stepT a (parkS m)) g m ≤ 1 := by
    unfold weight
    split
    · omega
    · rw [parkedB_iff.2 (by rw [hd, if_pos rfl])]; simp
  have hw : weight a g m = 2 := by
    unfold weight; rw [h]
    have : parkedB a m = false := by
      cases hq : parkedB a m
      · rfl
      · exact absurd (parkedB_iff.1 hq) (by simpa using hp)
    rw [this]; rfl
  refine sum_lt _ m (by rw [List.mem_range'_1]; omega) (fun i _ => ?_) (by omega)
  by_cases e : (i : Int) = m
  · have : i = m := by omega
    subst this; omega
  · rw [weight_congr (show stepT a (parkS m) i = a i by rw [hd, if_neg e])]; omega
theorem seg_come {g a b : Tr} {ss : List St} (h : Seg g a ss b) (hg : TrOk g) : toCome b g + ss.length ≤ toCome a g := by
  induction h with
  | nil a => simp
  | home h1 h2 hs he _ ih => have := come_home hg h1 h2 hs he; simp only [List.length_cons]; omega
  | park h1 h2 hno hs hp he _ ih => have := come_park h1 h2 hs hp he; simp only [List.length_cons]; omega
theorem come_none {a g : Tr} (ha : TrOk a) (hg : TrOk g) (h : toCome a g = 0) : a = g := by
  funext i
  by_cases hi : 1 ≤ i ∧ i ≤ 99
  · apply Classical.byContradiction
    intro hne
    cases hs : homeS a g i with
    | none => exact hne (by have := home_none.1 hs; simpa using this)
    | some s =>
      have h1 := weight_pos hs
      have h2 : (List.map (fun _ => 0) (List.range' 1 99)).sum < toCome a g := sum_lt (f := fun _ => 0) (h := weight a g) _ i (by rw [List.mem_range'_1]; omega) (fun _ _ => Nat.zero_le _) h1
      omega
  · have e1 : a i = none := by
      cases h : a i with
      | none => rfl
      | some n => have := ha.2 i n h; omega
    have e2 : g i = none := by
      cases h : g i with
      | none => rfl
      | some n => have := hg.2 i n h; omega
    rw [e1, e2]
/-! Rounds. -/
theorem goHome_fold (g : Tr) : ∀ (l : List Nat) (p : Pl) (m : Bool), (∀ i ∈ l, 1 ≤ i ∧ i ≤ 99) →
    ∃ ss, (l.foldl (goOne g) (p, m)).1.done = p.done ++ ss ∧ Seg g p.now ss (l.foldl (goOne g) (p, m)).1.now ∧ ((l.foldl (goOne g) (p, m)).2 = (m || !ss.isEmpty)) ∧ (ss = [] → (l.foldl (goOne g) (p, m)).1 = p ∧ ∀ i ∈ l, ∀ s, homeS p.now g i = some s → stepE p.now s ≠ 0) := by
  intro l
  induction l with
  | nil => intro p m _; exact ⟨[], by simp, Seg.nil _, by simp, fun _ => ⟨rfl, by simp⟩⟩
  | cons i l ih =>
    intro p m hl
    have hi := hl i (by simp)
    rw [List.foldl_cons]
    cases hs : homeS p.now g i with
    | none =>
      have e : goOne g (p, m) i = (p, m) := by unfold goOne; rw [hs]
      rw [e]
      obtain ⟨ss, k1, k2, k3, k4⟩ := ih p m (fun j hj => hl j (by simp [hj]))
      refine ⟨ss, k1, k2, k3, fun h => ⟨(k4 h).1, fun j hj s hs' => ?_⟩⟩
      rcases List.mem_cons.1 hj with rfl | hj
      · rw [hs] at hs'; cases hs'
      · exact (k4 h).2 j hj s hs'
    | some s =>
      by_cases he : stepE p.now s = 0
      · have e : goOne g (p, m) i = (⟨stepT p.now s, p.done ++ [s]⟩, true) := by
          unfold goOne; rw [hs]; simp only; rw [if_pos he]
        rw [e]
        obtain ⟨ss, k1, k2, k3, k4⟩ := ih ⟨stepT p.now s, p.done ++ [s]⟩ true (fun j hj => hl j (by simp [hj]))
        refine ⟨s :: ss, ?_, Seg.home (by omega) (by omega) hs he k2, ?_, fun h => by cases h⟩
        · rw [k1]; simp
        · rw [k3]; simp
      · have e : goOne g (p, m) i = (p, m) := by
          unfold goOne; rw [hs]; simp only; rw [if_neg he]
        rw [e]
        obtain ⟨ss, k1, k2, k3, k4⟩ := ih p m (fun j hj => hl j (by simp [hj]))
        refine ⟨ss, k1, k2, k3, fun h => ⟨(k4 h).1, fun j hj t hs' => ?_⟩⟩
        rcases List.mem_cons.1 hj with rfl | hj
        · rw [hs] at hs'; cases hs'; exact he
        · exact (k4 h).2 j hj t hs'
end Go.Proofs.YtdcjimlhaklhfabGreatDoor

namespace Go.Proofs.YtdcjimlhaklhfabGreatDoor
open Go.RowKit
/-! How deep a node lies. -/
def deep (t : Tr) (x : Int) : Nat := scan (fun f => meetsF t f x 0) 0 200
theorem meets_zero (t : Tr) (x goal : Int) : meetsF t 0 x goal = false := rfl
theorem meets_succ {t : Tr} {f : Nat} {x goal : Int} {n : Nd} (hne : x ≠ goal) (hn : t x.toNat = some n) : meetsF t (f + 1) x goal = meetsF t f n.parent goal := by
  rw [meetsF, if_neg hne, hn]
theorem deep_le {t : Tr} (ht : TrOk t) {x : Int} (h : Goes t x 0) : deep t x ≤ 100 := by
  have h1 := (goes_meets ht).2 h
  unfold deep
  rcases scan_cases (fun f => meetsF t f x 0) 0 200 with ⟨_, _, _, h2⟩ | ⟨_, h2⟩
  · apply Classical.byContradiction
    intro hn
    have := h2 100 (by omega) (by omega)
    unfold meetsT at h1; rw [h1] at this; cases this
  · have := h2 100 (by omega) (by omega)
    unfold meetsT at h1; rw [h1] at this; cases this
theorem deep_hit {t : Tr} {x : Int} (h : deep t x < 200) : meetsF t (deep t x) x 0 = true ∧ ∀ j, j < deep t x → meetsF t j x 0 = false := by
  unfold deep at h ⊢
  rcases scan_cases (fun f => meetsF t f x 0) 0 200 with ⟨_, _, h1, h2⟩ | ⟨h1, _⟩
  · exact ⟨h1, fun j hj => h2 j (by omega) hj⟩
  · omega
theorem parent_goes {t : Tr} (hv : Valid t) {p : Int} (hp0 : 0 ≤ p) (h : isParentT t p = true) : Goes t p 0 := by
  rcases isParent_iff.1 h with rfl | ⟨_, n, hn⟩
  · exact goes_here t 0
  · have := hv.goes _ n hn
    rwa [(trOk_id hv.ok hp0 hn).1] at this
theorem deep_succ {t : Tr} (hv : Valid t) {x : Int} (hx : 1 ≤ x) {n : Nd} (hn : t x.toNat = some n) : deep t x = deep t n.parent + 1 := by
  have hp0 : 0 ≤ n.parent := (trOk_id hv.ok (by omega) hn).2.2.2.2.2.1
  have hg := parent_goes hv hp0 (hv.parent _ n hn)
  have hd := deep_le hv.ok hg
  obtain ⟨h1, h2⟩ := deep_hit (t := t) (x := n.parent) (by omega)
  show scan (fun f => meetsF t f x 0) 0 200 = _
  refine scan_hit (by omega) (by omega) ?_ ?_
  · rw [meets_succ (by omega) hn]; exact h1
  · intro j _ hj
    cases j with
    | zero => rfl
    | succ j => rw [meets_succ (by omega) hn]; exact h2 j (by omega)
theorem deep_up {t : Tr} (hv : Valid t) {goal : Int} : ∀ (f : Nat) (x : Int), 0 ≤ x → meetsF t f x goal = true → deep t goal ≤ deep t x := by
  intro f
  induction f with
  | zero => intro x _ h; cases h
  | succ f ih =>
    intro x hx h
    by_cases e : x = goal
    · rw [e]; omega
    · cases hn : t x.toNat with
      | none => rw [meetsF, if_neg e, hn] at h; cases h
      | some n =>
        rw [meets_succ e hn] at h
        have hb := trOk_id hv.ok hx hn
        have := ih n.parent hb.2.2.2.2.2.1 h
        have := deep_succ hv hb.2.1 hn
        omega
theorem no_loop {t : Tr} (hv : Valid t) {id : Int} (h1 : 1 ≤ id) {n : Nd} (hn : t id.toNat = some n) : ¬ Goes t n.parent id := by
  rintro ⟨f, hf⟩
  have h2 := deep_up hv f n.parent (trOk_id hv.ok (by omega) hn).2.2.2.2.2.1 hf
  have h3 := deep_succ hv h1 hn
  omega
/-! What is in the way. -/
def Stuck (a g : Tr) : Prop := ∀ (j : Int) (s : St), 1 ≤ j → j ≤ 99 → homeS a g j = some s → stepE a s ≠ 0
theorem fromAway_good {a g : Tr} (hv : Valid a) (_hg : Valid g) {id : Int} (h1 : 1 ≤ id) : ∀ (f : Nat) (p : Int), 0 ≤ p → meetsF a (f + 1) p id = true → ¬ Goes g p id →
    1 ≤ fromAwayF a g f p ∧ fromAwayF a g f p ≤ 99 ∧ (homeS a g (fromAwayF a g f p)).isSome = true ∧ ∃ m, a (fromAwayF a g f p).toNat = some m ∧ m.parent ≠ 0 := by
  intro f
  induction f with
  | zero =>
    intro p _ hm hno
    rw [meetsF] at hm
    by_cases e : p = id
    · rw [e] at hno; exact absurd (goes_here g id) hno
    · rw [if_neg e] at hm
      cases hp : a p.toNat with
      | none => rw [hp] at hm; cases hm
      | some n => rw [hp] at hm; cases hm
  | succ f ih =>
    intro p hp0 hm hno
    by_cases e : p = id
    · rw [e] at hno; exact absurd (goes_here g id) hno
    · cases hp : a p.toNat with
      | none => rw [meetsF, if_neg e, hp] at hm; cases hm
      | some n =>
        rw [meets_succ e hp] at hm
        have hb := trOk_id hv.ok hp0 hp
        unfold fromAwayF
        cases hq : (homeS a g p).isSome
        · rw [if_neg (by simp)]
          have e2 : a p.toNat = g p.toNat := home_none.1 (by simpa using hq)
          have e3 : (getT a p).parent = n.parent := by unfold getT; rw [hp]; rfl
          rw [e3]
          exact ih n.parent hb.2.2.2.2.2.1 hm (fun hh => hno (goes_up (by rw [← e2]; exact hp) hh))
        · rw [if_pos rfl]
          refine ⟨hb.2.1, hb.2.2.1, hq, n, hp, fun h0 => ?_⟩
          rw [h0, meetsF, if_neg (by omega)] at hm
          have := hv.ok.1
          simp only [Int.toNat_zero] at hm
          rw [this] at hm; cases hm
theorem atT_hit {t : Tr} {p : Int} {s : Str} (h : atT t p s ≠ 0) : 1 ≤ atT t p s ∧ atT t p s ≤ 99 ∧ ∃ m, t (atT t p s).toNat = some m ∧ m.parent = p ∧ m.name = s := by
  rcases scan_cases (spotIs t p s) 1 100 with ⟨e1, e2, e3, _⟩ | ⟨e, _⟩
  · unfold atT; rw [if_pos e1]
    generalize scan (spotIs t p s) 1 100 = k at *
    unfold spotIs at e3
    cases hk : t k with
    | none => rw [hk] at e3; simp at e3
    | some m =>
      rw [hk] at e3; simp at e3
      exact ⟨by omega, by omega, m, by simpa using hk, e3.1, e3.2⟩
  · unfold atT at h; rw [if_neg (by omega)] at h; exact absurd rfl h
theorem kidT_hit {t : Tr} {id : Int} (h : kidT t id ≠ 0) : 1 ≤ kidT t id ∧ kidT t id ≤ 99 ∧ ∃ m, t (kidT t id).toNat = some m ∧ m.parent = id := by
  rcases scan_cases (kidIs t id) 1 100 with ⟨e1, e2, e3, _⟩ | ⟨e, _⟩
  · unfold kidT; rw [if_pos e1]
    generalize scan (kidIs t id) 1 100 = k at *
    unfold kidIs at e3
    cases hk : t k with
    | none => rw [hk] at e3; simp at e3
    | some m =>
      rw [hk] at e3; simp at e3
      exact ⟨by omega, by omega, m, by simpa using hk, e3⟩
  · unfold kidT at h; rw [if_neg (by omega)] at h; exact absurd rfl h
/-- What stands in another's place is not home, and not parked. -/
theorem taker_away {a g : Tr} (_hv : Valid a) (hg : Valid g) {id : Int} (h1 : 1 ≤ id) {n : Nd} (hn : g id.toNat = some n) (h0 : atT a n.parent n.name ≠ 0) (hne : atT a n.parent n.name ≠ id) :
    ∃ t, homeS a g (atT a n.parent n.name) = some t ∧ t.kind ≠ 43 ∧ (t.kind = 61 → a (atT a n.parent n.name).toNat ≠ some (parkN (atT a n.parent n.name))) := by
  obtain ⟨y1, y2, m, hm, hp, hs⟩ := atT_hit h0
  generalize atT a n.parent n.name = y at *
  have hid := trOk_id hg.ok (by omega) hn
  cases hgy : g y.toNat with
  | none => exact ⟨_, home_del hm hgy, by show ((45 : UInt8) ≠ 43); decide, fun h => absurd h (by show ¬ ((45 : UInt8) = 61); decide)⟩
  | some k =>
    refine ⟨_, home_move hm hgy (fun e => ?_), by show ((61 : UInt8) ≠ 43); decide, fun _ e => ?_⟩
    · subst e
      have := hg.apart _ _ _ _ hgy hn hp hs
      omega
    · rw [hm] at e
      cases e
      have h3 : isName n.name n.id = true := hid.2.2.2.2.2.2.2
      rw [← hs, hid.1] at h3
      have := park_own (x := y) (y := id) (by omega) y2 (by omega) hid.2.2.1 h3
      exact hne this
theorem parent_away {a g : Tr} (hg : Valid g) {id : Int} (h1 : 1 ≤ id) {n : Nd} (hn : g id.toNat = some n) (hp : isParentT a n.parent = false) :
    1 ≤ n.parent ∧ n.parent ≤ 99 ∧ ∃ k, g n.parent.toNat = some k ∧ homeS a g n.parent = some ⟨43, k⟩ := by
  have hid := trOk_id hg.ok (by omega) hn
  have hb := hid.2.2.2
  have h2 := hg.parent _ n hn
  rcases isParent_iff.1 h2 with h0 | ⟨he, k, hk⟩
  · rw [h0] at hp; simp [isParentT] at hp
  · have hk' := trOk_id hg.ok hb.2.2.1 hk
    refine ⟨hk'.2.1, hk'.2.2.1, k, hk, home_new ?_ hk⟩
    cases ha : a n.parent.toNat with
    | none => rfl
    | some m =>
      have : isParentT a n.parent = true := isParent_iff.2 (.inr ⟨he, m, ha⟩)
      rw [this] at hp; cases hp
/-- Where a step home is not a move and the next is none either, that one is of a lesser rank. -/
def rank (a g : Tr) (x : Int) : Nat := if (g x.toNat).isSome then 1000 + deep g x else 500 - deep a x
theorem blocker_good {a g : Tr} (hv : Valid a) (hg : Valid g) (hst : Stuck a g) {id : Int} (h1 : 1 ≤ id) (h2 : id ≤ 99) {s : St} (hs : homeS a g id = some s) :
    1 ≤ blocker a g id ∧ blocker a g id ≤ 99 ∧ ∃ t, homeS a g (blocker a g id) = some t ∧ (t.kind = 61 → a (blocker a g id).toNat ≠ some (parkN (blocker a g id))) ∧ (s.kind ≠ 61 → t.kind ≠ 61 → rank a g (blocker a g id) < rank a g id) := by
  have hE := hst id s h1 h2 hs
  rcases home_cases hs with ⟨rfl, hgn, m, hm⟩ | ⟨n, rfl, hgn, ha⟩ | ⟨n, m, rfl, hgn, hm, hmn⟩
  · -- a deletion waits for a kid
    have eb : blocker a g id = kidT a id := by unfold blocker; rw [hs]; rfl
    have hk : kidT a id ≠ 0 := by
      intro h0
      apply hE
      show stepE a ⟨45, ⟨id, 0, []⟩⟩ = 0
      unfold stepE deleteE
      rw [if_neg (show ¬ ((45 : UInt8) = 43) by decide), if_neg (show ¬ ((45 : UInt8) = 61) by decide), if_pos rfl, kids_kid, h0]
      rw [hasT_iff.2 ⟨m, hm⟩]; rfl
    rw [eb]
    obtain ⟨k1, k2, mk, hmk, hpk⟩ := kidT_hit hk
    generalize kidT a id = k at *
    refine ⟨k1, k2, ?_⟩
    cases hgk : g k.toNat with
    | none =>
      refine ⟨_, home_del hmk hgk, fun h => absurd h (by show ¬ ((45 : UInt8) = 61); decide), fun _ _ => ?_⟩
      unfold rank; rw [hgk, hgn, if_neg (by simp), if_neg (by simp)]
      have e1 := deep_succ hv k1 hmk
      rw [hpk] at e1
      have e2 := deep_le hv.ok (hv.goes _ mk hmk)
      rw [(trOk_id hv.ok (by omega) hmk).1] at e2
      omega
    | some nk =>
      refine ⟨_, home_move hmk hgk (fun e => ?_), fun _ e => ?_, fun _ h => absurd rfl h⟩
      · subst e
        have := hg.parent _ mk hgk
        rw [hpk] at this
        rcases isParent_iff.1 this with h0 | ⟨_, x, hx⟩
        · omega
        · rw [hgn] at hx; cases hx
      · rw [hmk] at e; cases e; simp [parkN] at hpk; omega
  · -- a creation
    have hid := trOk_id hg.ok (by omega) hgn
    have eb : blocker a g id = inWay a g n := by
      unfold blocker; rw [hs]; show (if (43 : UInt8) = 45 then _ else _) = _; rw [if_neg (by decide)]
    rw [eb]
    have hno : hasT a id = false := by unfold hasT; rw [ha]; rfl
    cases hp : isParentT a n.parent
    · have ei : inWay a g n = n.parent := by unfold inWay; rw [hp]; rfl
      rw [ei]
      obtain ⟨p1, p2, k, hk, hh⟩ := parent_away hg h1 hgn hp
      refine ⟨p1, p2, _, hh, fun h => absurd h (by show ¬ ((43 : UInt8) = 61); decide), fun _ _ => ?_⟩
      unfold rank; rw [hk, hgn, if_pos (by simp), if_pos (by simp)]
      have := deep_succ hg h1 hgn
      omega
    · have hme : meetsT a n.parent n.id = false := by
        rw [hid.1]
        cases hq : meetsT a n.parent id
        · rfl
        · exfalso
          have key : ∀ f p, isParentT a p = true → meetsF a f p id = true → False := by
            intro f
            induction f with
            | zero => intro p _ h; cases h
            | succ f ih =>
              intro p hpp h
              by_cases e : p = id
              · rcases isParent_iff.1 hpp with h0 | ⟨_, x, hx⟩
                · omega
                · rw [e, ha] at hx; cases hx
              · cases hx : a p.toNat with
                | none => rw [meetsF, if_neg e, hx] at h; cases h
                | some x => rw [meets_succ e hx] at h; exact ih _ (hv.parent _ x hx) h
          exact key 100 _ hp hq
      have ei : inWay a g n = atT a n.parent n.name := by unfold inWay; rw [hp, hme]; rfl
      have h0 : atT a n.parent n.name ≠ 0 := by
        intro h0
        apply hE
        show stepE a ⟨43, n⟩ = 0
        unfold stepE createE
        rw [if_pos rfl, hid.1, hno, hp, h0]; rfl
      rw [ei]
      obtain ⟨y1, y2, my, hmy, _⟩ := atT_hit h0
      obtain ⟨t, ht, hk, hpk⟩ := taker_away hv hg h1 hgn h0 (fun e => by rw [e, ha] at hmy; cases hmy)
      refine ⟨y1, y2, t, ht, hpk, fun _ hk2 => ?_⟩
      -- it is deleted
      rcases home_cases ht with ⟨rfl, hgy, _⟩ | ⟨k, rfl, _⟩ | ⟨k, _, rfl, _⟩
      · unfold rank; rw [hgy, hgn, if_neg (by simp), if_pos (by simp)]; omega
      · exact absurd rfl hk
      · exact absurd rfl hk2
  · -- a move
    have hid := trOk_id hg.ok (by omega) hgn
    have eb : blocker a g id = inWay a g n := by
      unfold blocker; rw [hs]; show (if (61 : UInt8) = 45 then _ else _) = _; rw [if_neg (by decide)]
    rw [eb]
    cases hp : isParentT a n.parent
    · have ei : inWay a g n = n.parent := by unfold inWay; rw [hp]; rfl
      rw [ei]
      obtain ⟨p1, p2, k, hk, hh⟩ := parent_away hg h1 hgn hp
      exact ⟨p1, p2, _, hh, fun h => absurd h (by show ¬ ((43 : UInt8) = 61); decide), fun h => absurd rfl h⟩
    · cases hme : meetsT a n.parent n.id
      · have ei : inWay a g n = atT a n.parent n.name := by unfold inWay; rw [hp, hme]; rfl
        have hE2 : atT a n.parent n.name ≠ 0 ∧ atT a n.parent n.name ≠ id := by
          apply Classical.byContradiction
          intro hcon
          apply hE
          show stepE a ⟨61, n⟩ = 0
          unfold stepE moveE
          rw [if_neg (show ¬ ((61 : UInt8) = 43) by decide), if_pos rfl, hp, hme, hid.1, hasT_iff.2 ⟨m, hm⟩]
          have : (atT a n.parent n.name != 0 && atT a n.parent n.name != id) = false := by
            cases hq : (atT a n.parent n.name != 0 && atT a n.parent n.name != id)
            · rfl
            · rw [Bool.and_eq_true, bne_iff_ne, bne_iff_ne] at hq; exact absurd hq hcon
          rw [this]; rfl
        rw [ei]
        obtain ⟨y1, y2, _⟩ := atT_hit hE2.1
        obtain ⟨t, ht, _, hpk⟩ := taker_away hv hg h1 hgn hE2.1 hE2.2
        exact ⟨y1, y2, t, ht, hpk, fun h => absurd rfl h⟩
      · have ei : inWay a g n = fromAwayF a g 99 n.parent := by unfold inWay; rw [hp, hme]; rfl
        rw [ei]
        rw [hid.1] at hme
        obtain ⟨y1, y2, y3, my, hmy, hpy⟩ := fromAway_good hv hg h1 99 n.parent hid.2.2.2.2.2.1 hme (no_loop hg h1 hgn)
        obtain ⟨t, ht⟩ := Option.isSome_iff_exists.1 y3
        refine ⟨y1, y2, t, ht, fun _ e => ?_, fun h => absurd rfl h⟩
        rw [hmy] at e; cases e; exact hpy rfl
/-! The knot. -/
theorem iter_succ (f : Int → Int) : ∀ (k : Nat) (x : Int), iter f (k + 1) x = f (iter f k x) := by
  intro k
  induction k with
  | zero => intro x; rfl
  | succ k ih => intro x; rw [iter, ih]; rfl
def AwayAt (a g : Tr) (x : Int) : Prop := 1 ≤ x ∧ x ≤ 99 ∧ (homeS a g x).isSome = true
theorem iter_away {a g : Tr} (hv : Valid a) (hg : Valid g) (hst : Stuck a g) {x : Int} (h : AwayAt a g x) : ∀ k, AwayAt a g (iter (blocker a g) k x) := by
  intro k
  induction k with
  | zero => exact h
  | succ k ih =>
    rw [iter_succ]
    obtain ⟨s, hs⟩ := Option.isSome_iff_exists.1 ih.2.2
    obtain ⟨b1, b2, t, ht, _⟩ := blocker_good hv hg hst ih.1 ih.2.1 hs
    exact ⟨b1, b2, by rw [ht]; rfl⟩
theorem seek_hit {a g : Tr} : ∀ (f : Nat) (x : Int), (∃ k, k < f ∧ isMove a g (iter (blocker a g) k x) = true) → ∃ k, k < f ∧ seekF a g f x = iter (blocker a g) k x ∧ isMove a g (iter (blocker a g) k x) = true := by
  intro f
  induction f with
  | zero => rintro x ⟨k, hk, _⟩; omega
  | succ f ih =>
    rintro x ⟨k, hk, hm⟩
    rw [seekF]
    cases hx : isMove a g x
    · rw [if_neg (by simp)]
      cases k with
      | zero => rw [iter, hx] at hm; cases hm
      | succ k =>
        obtain ⟨j, hj, e1, e2⟩ := ih (blocker a g x) ⟨k, by omega, hm⟩
        exact ⟨j + 1, by omega, e1, e2⟩
    · rw [if_pos rfl]; exact ⟨0, by omega, rfl, hx⟩
theorem isMove_iff {a g : Tr} {x : Int} : isMove a g x = true ↔ ∃ n, homeS a g x = some ⟨61, n⟩ := by
  unfold isMove
  cases h : homeS a g x with
  | none => simp
  | some s =>
    obtain ⟨k, n⟩ := s
    simp only [beq_iff_eq, Option.some.injEq, St.mk.injEq]
    constructor
    · rintro rfl; exact ⟨n, rfl, rfl⟩
    · rintro ⟨_, e, _⟩; exact e
theorem move_found {a g : Tr} (hv : Valid a) (hg : Valid g) (hst : Stuck a g) {x : Int} (h : AwayAt a g x) : ∃ k, k < 99 ∧ isMove a g (iter (blocker a g) k x) = true := by
  apply Classical.byContradiction
  intro hcon
  have hno : ∀ k, k < 99 → isMove a g (iter (blocker a g) k x) = false := by
    intro k hk
    cases hq : isMove a g (iter (blocker a g) k x)
    · rfl
    · exact absurd ⟨k, hk, hq⟩ hcon
  have haw := iter_away hv hg hst h
  have hdown : ∀ k, isMove a g (iter (blocker a g) k x) = false → isMove a g (iter (blocker a g) (k + 1) x) = false → rank a g (iter (blocker a g) (k + 1) x) < rank a g (iter (blocker a g) k x) := by
    intro k h1 h2
    rw [iter_succ] at h2 ⊢
    have ha := haw k
    obtain ⟨s, hs⟩ := Option.isSome_iff_exists.1 ha.2.2
    obtain ⟨_, _, t, ht, _, hr⟩ := blocker_good hv hg hst ha.1 ha.2.1 hs
    refine hr (fun e => ?_) (fun e => ?_)
    · rw [isMove_iff.2 ⟨s.node, by rw [hs, ← e]⟩] at h1; cases h1
    · rw [isMove_iff.2 ⟨t.node, by rw [ht, ← e]⟩] at h2; cases h2
  have hmono : ∀ d i, i + d < 99 → rank a g (iter (blocker a g) (i + d) x) + d ≤ rank a g (iter (blocker a g) i x) := by
    intro d
    induction d with
    | zero => intro i _; simp
    | succ d ih =>
      intro i hi
      have h1 := ih i (by omega)
      have h2 := hdown (i + d) (hno _ (by omega)) (hno _ (by omega))
      rw [show i + (d + 1) = i + d + 1 by omega]
      omega
  have hnd : ((List.range 99).map (fun k => iter (blocker a g) k x)).Nodup := by
    rw [List.nodup_iff_pairwise_ne, List.pairwise_map]
    refine List.pairwise_lt_range.imp_of_mem (fun {i j} hi hj hij e => ?_)
    rw [List.mem_range] at hi hj
    have := hmono (j - i) i (by omega)
    rw [show i + (j - i) = j by omega, ← e] at this
    omega
  have hsub : ∀ y, AwayAt a g y → y ∈ (List.range' 1 99).map (fun i : Nat => (i : Int)) := by
    intro y hy
    refine List.mem_map.2 ⟨y.toNat, ?_, ?_⟩
    · rw [List.mem_range'_1]; have := hy.1; have := hy.2.1; omega
    · have := hy.1; show ((y.toNat : Nat) : Int) = y; omega
  have hin : iter (blocker a g) 99 x ∈ (List.range 99).map (fun k => iter (blocker a g) k x) := by
    apply Classical.byContradiction
    intro hni
    have := pigeon (iter (blocker a g) 99 x :: (List.range 99).map (fun k => iter (blocker a g) k x)) ((List.range' 1 99).map (fun i : Nat => (i : Int))) (List.nodup_cons.2 ⟨hni, hnd⟩) (fun y hy => by
      rcases List.mem_cons.1 hy with rfl | hy
      · exact hsub _ (haw 99)
      · obtain ⟨k, _, rfl⟩ := List.mem_map.1 hy
        exact hsub _ (haw k))
    simp at this
  obtain ⟨j, hj, e⟩ := List.mem_map.1 hin
  rw [List.mem_range] at hj
  have h1 := hdown 98 (hno 98 (by omega)) (by rw [show 98 + 1 = 99 from rfl, ← e]; exact hno j hj)
  have h2 := hmono (98 - j) j (by omega)
  rw [show j + (98 - j) = 98 by omega] at h2
  rw [show 98 + 1 = 99 from rfl, ← e] at h1
  omega
theorem firstAway_hit {a g : Tr} {x : Int} (h : AwayAt a g x) : AwayAt a g (firstAway a g) := by
  rcases scan_cases (awayIs a g) 1 100 with ⟨e1, e2, e3, _⟩ | ⟨_, e⟩
  · unfold firstAway; rw [if_pos e1]
    exact ⟨by omega, by omega, e3⟩
  · have h1 := h.1
    have h2 := h.2.1
    have := e x.toNat (by omega) (by omega)
    unfold awayIs at this
    rw [Int.toNat_of_nonneg (by omega)] at this
    rw [h.2.2] at this; cases this
theorem knot_good {a g : Tr} (hv : Valid a) (hg : Valid g) (hst : Stuck a g) {x : Int} (h : AwayAt a g x) :
    1 ≤ knotT a g ∧ knotT a g ≤ 99 ∧ (∃ n, homeS a g (knotT a g) = some ⟨61, n⟩) ∧ a (knotT a g).toNat ≠ some (parkN (knotT a g)) ∧ stepE a (parkS (knotT a g)) = 0 := by
  have h0 := firstAway_hit h
  have h99 := iter_away hv hg hst h0 99
  obtain ⟨k, _, e1, e2⟩ := seek_hit 99 _ (move_found hv hg hst h99)
  have hk := iter_away hv hg hst h99 k
  have ek : knotT a g = iter (blocker a g) k (iter (blocker a g) 99 (firstAway a g)) := e1
  rw [← ek] at hk e2
  have hun : a (knotT a g).toNat ≠ some (parkN (knotT a g)) := by
    -- it was come to by at least one step
    have key : ∀ j y, AwayAt a g y → isMove a g (iter (blocker a g) (j + 1) y) = true → a (iter (blocker a g) (j + 1) y).toNat ≠ some (parkN (iter (blocker a g) (j + 1) y)) := by
      intro j y hy hm
      rw [iter_succ] at hm ⊢
      have ha := iter_away hv hg hst hy j
      obtain ⟨s, hs⟩ := Option.isSome_iff_exists.1 ha.2.2
      obtain ⟨_, _, t, ht, hp, _⟩ := blocker_good hv hg hst ha.1 ha.2.1 hs
      obtain ⟨n, hn⟩ := isMove_iff.1 hm
      refine hp ?_
      rw [ht] at hn; cases hn; rfl
    have hadd : ∀ j m y, iter (blocker a g) j (iter (blocker a g) m y) = iter (blocker a g) (m + j) y := by
      intro j m
      induction m with
      | zero => intro y; rw [Nat.zero_add]; rfl
      | succ m ih => intro y; rw [show m + 1 + j = (m + j) + 1 by omega]; exact ih _
    have e3 : knotT a g = iter (blocker a g) (98 + k + 1) (firstAway a g) := by rw [ek, hadd]; congr 1; omega
    rw [e3] at e2 ⊢
    exact key _ _ h0 e2
  obtain ⟨n, hn⟩ := isMove_iff.1 e2
  refine ⟨hk.1, hk.2.1, ⟨n, hn⟩, hun, ?_⟩
  obtain ⟨m, hm⟩ : ∃ m, a (knotT a g).toNat = some m := by
    rcases home_cases hn with ⟨e, _⟩ | ⟨_, e, _⟩ | ⟨_, m, _, _, hm, _⟩
    · cases e
    · cases e
    · exact ⟨m, hm⟩
  have h1 := hk.1
  have h2 := hk.2.1
  generalize knotT a g = id at *
  show stepE a ⟨61, parkN id⟩ = 0
  unfold stepE moveE
  rw [if_neg (show ¬ ((61 : UInt8) = 43) by decide), if_pos rfl]
  have e1 : hasT a (parkN id).id = true := hasT_iff.2 ⟨m, hm⟩
  have e2 : isParentT a (parkN id).parent = true := rfl
  have e3 : meetsT a (parkN id).parent (parkN id).id = false := by
    show meetsF a 100 0 id = false
    rw [meetsF, if_neg (by omega)]
    simp only [Int.toNat_zero]
    rw [hv.ok.1]
  have e4 : (atT a (parkN id).parent (parkN id).name != 0 && atT a (parkN id).parent (parkN id).name != (parkN id).id) = false := by
    cases hq : (atT a (parkN id).parent (parkN id).name != 0 && atT a (parkN id).parent (parkN id).name != (parkN id).id)
    · rfl
    · rw [Bool.and_eq_true, bne_iff_ne, bne_iff_ne] at hq
      obtain ⟨y1, y2, my, hmy, hpy, hny⟩ := atT_hit hq.1
      have hb := trOk_id hv.ok (by omega) hmy
      have h3 := hb.2.2.2.2.2.2.2
      rw [hny, hb.1] at h3
      exact absurd (park_own (x := id) (y := atT a (parkN id).parent (parkN id).name) (by omega) h2 (by omega) y2 h3).symm hq.2
  rw [e1, e2, e3, e4]; rfl
theorem make_seg {g : Tr} (hg : Valid g) : ∀ (f : Nat) (p : Pl), Valid p.now → toCome p.now g < f → ∃ ss, makeF g f p = p.done ++ ss ∧ Seg g p.now ss g := by
  intro f
  induction f with
  | zero => intro p _ h; omega
  | succ f ih =>
    intro p hv hc
    obtain ⟨ss, k1, k2, k3, k4⟩ := goHome_fold g (List.range' 1 99) p false (fun i hi => by rw [List.mem_range'_1] at hi; omega)
    have hE : goHomeT g p = (List.range' 1 99).foldl (goOne g) (p, false) := by unfold goHomeT; rfl
    rw [← hE] at k1 k2 k3 k4
    have hv2 := (seg_valid k2 hg.ok hv).1
    have hc2 := seg_come k2 hg.ok
    rw [makeF]
    cases ss with
    | cons s ss =>
      rw [if_pos (by rw [k3]; rfl)]
      obtain ⟨ts, e1, e2⟩ := ih (goHomeT g p).1 hv2 (by simp only [List.length_cons] at hc2; omega)
      exact ⟨(s :: ss) ++ ts, by rw [e1, k1]; simp, seg_trans k2 e2⟩
    | nil =>
      obtain ⟨ep, hst⟩ := k4 rfl
      rw [if_neg (by rw [k3]; simp), ep]
      have hStuck : Stuck p.now g := by
        intro j s h1 h2 hs
        refine hst j.toNat (by rw [List.mem_range'_1]; omega) s ?_
        rw [Int.toNat_of_nonneg (by omega)]; exact hs
      by_cases haway : ∃ x, AwayAt p.now g x
      · obtain ⟨x, hx⟩ := haway
        obtain ⟨q1, q2, ⟨n, hn⟩, q3, q4⟩ := knot_good hv hg hStuck hx
        have e : parkT g p = (⟨stepT p.now (parkS (knotT p.now g)), p.done ++ [parkS (knotT p.now g)]⟩, true) := by
          unfold parkT; rw [if_neg (by omega), if_pos q4]
        rw [e, if_pos rfl]
        have hc3 := come_park q1 q2 hn q3 q4
        obtain ⟨ts, e1, e2⟩ := ih ⟨stepT p.now (parkS (knotT p.now g)), p.done ++ [parkS (knotT p.now g)]⟩ (valid_step hv (park_ok q1 q2)) (by show toCome (stepT p.now _) g < f; omega)
        exact ⟨parkS (knotT p.now g) :: ts, by rw [e1]; simp, Seg.park q1 q2 hStuck hn q3 q4 e2⟩
      · have hall : p.now = g := by
          funext i
          by_cases hi : 1 ≤ i ∧ i ≤ 99
          · cases hq : homeS p.now g i with
            | none => have := home_none.1 hq; simpa using this
            | some s => exact absurd ⟨(i : Int), by omega, by omega, by rw [hq]; rfl⟩ haway
          · have e1 : p.now i = none := by
              cases h : p.now i with
              | none => rfl
              | some n => have := hv.ok.2 i n h; omega
            have e2 : g i = none := by
              cases h : g i with
              | none => rfl
              | some n => have := hg.ok.2 i n h; omega
            rw [e1, e2]
        have e0 : knotT p.now g = 0 := by
          have hb : ∀ x, blocker p.now g x = 0 := by
            intro x; unfold blocker; rw [home_none.2 (by rw [hall])]
          have hm : ∀ x, isMove p.now g x = false := by
            intro x; unfold isMove; rw [home_none.2 (by rw [hall])]
          have : ∀ f x, seekF p.now g f x = 0 := by
            intro f
            induction f with
            | zero => intro x; rfl
            | succ f ih2 => intro x; rw [seekF, hm, if_neg (by simp)]; exact ih2 _
          exact this _ _
        have e : parkT g p = (p, false) := by unfold parkT; rw [if_pos e0]
        rw [e, if_neg (by simp)]
        exact ⟨[], by simp, by rw [hall]; exact Seg.nil g⟩
theorem makeT_seg {a g : Tr} (ha : Valid a) (hg : Valid g) : Seg g a (makeT a g) g := by
  obtain ⟨ss, e, h⟩ := make_seg hg 199 ⟨a, []⟩ ha (by have := toCome_le a g; show toCome a g < 199; omega)
  have : makeT a g = ss := by unfold makeT; rw [e]; rfl
  rw [this]; exact h
end Go.Proofs.YtdcjimlhaklhfabGreatDoor

namespace Go.Proofs.YtdcjimlhaklhfabGreatDoor
open Go.RowKit
/-! A script's text. -/
def stText (s : St) : Str := if s.kind = 45 then 45 :: digs s.node.id ++ [59] else s.kind :: nodeText s.node
def scriptText (ss : List St) : Str := ss.flatMap stText
def StCan (s : St) : Prop := StOk s ∧ (s.kind = 45 → s.node = ⟨s.node.id, 0, []⟩)
theorem home_can {a g : Tr} (hg : TrOk g) {id : Int} (h1 : 1 ≤ id) (h2 : id ≤ 99) {s : St} (h : homeS a g id = some s) : StCan s := by
  refine ⟨(home_ok hg h1 h2 h).1, fun hk => ?_⟩
  rcases home_cases h with ⟨rfl, _⟩ | ⟨n, rfl, _⟩ | ⟨n, _, rfl, _⟩
  · rfl
  · exact absurd hk (by show ¬ ((43 : UInt8) = 45); decide)
  · exact absurd hk (by show ¬ ((61 : UInt8) = 45); decide)
theorem seg_can {g a b : Tr} {ss : List St} (h : Seg g a ss b) (hg : TrOk g) : ∀ s ∈ ss, StCan s := by
  induction h with
  | nil a => simp
  | home h1 h2 hs he _ ih =>
    intro s hm
    rcases List.mem_cons.1 hm with rfl | hm
    · exact home_can hg h1 h2 hs
    · exact ih s hm
  | park h1 h2 hno hs hp he _ ih =>
    intro s hm
    rcases List.mem_cons.1 hm with rfl | hm
    · exact ⟨park_ok h1 h2, fun hk => absurd hk (by show ¬ ((61 : UInt8) = 45); decide)⟩
    · exact ih s hm
def stBody (s : St) : Str := if s.kind = 45 then 45 :: digs s.node.id else s.kind :: ndBody s.node
theorem stText_body (s : St) : stText s = stBody s ++ [59] := by
  unfold stText stBody
  split
  · rfl
  · rw [nodeText_body]; rfl
theorem stBody_no {s : St} (h : StOk s) : ∀ x ∈ stBody s, x ≠ 59 := by
  intro x hx
  unfold stBody at hx
  rcases h with ⟨hk, hn⟩ | ⟨hk, h1, h2⟩
  · have h45 : ¬ s.kind = 45 := by rcases hk with h | h <;> rw [h] <;> decide
    rw [if_neg h45] at hx
    rcases List.mem_cons.1 hx with rfl | hx
    · rcases hk with h | h <;> rw [h] <;> decide
    · exact body_no hn x hx
  · rw [if_pos hk] at hx
    rcases List.mem_cons.1 hx with rfl | hx
    · decide
    · exact (digs_noI (by omega) h2 x hx).1
theorem readStep_text {s : St} (h : StCan s) : readStep (stText s) = some s := by
  have hb : bodyB (stText s) = true := by rw [stText_body]; unfold bodyB; simp
  have hS : bodyS (stText s) = stBody s := by unfold bodyS; rw [if_pos hb, stText_body]; simp
  unfold readStep
  rw [if_pos hb, hS]
  obtain ⟨k, n⟩ := s
  rcases h with ⟨⟨hk, hn⟩ | ⟨hk, h1, h2⟩, hc⟩
  · simp only at hk hn
    have h45 : ¬ k = 45 := by rcases hk with h | h <;> rw [h] <;> decide
    unfold stBody
    rw [if_neg h45]
    show (if k = 43 ∨ k = 61 then (readNode (ndBody n)).map (fun n => (⟨k, n⟩ : St)) else _) = _
    rw [if_pos hk, readNode_body hn]; rfl
  · simp only at hk h1 h2 hc
    subst hk
    unfold stBody
    rw [if_pos rfl]
    show (if (45 : UInt8) = 43 ∨ (45 : UInt8) = 61 then (readNode (digs n.id)).map (fun n => (⟨45, n⟩ : St)) else if (45 : UInt8) = 45 then (if (number (digs n.id) 1 99).2 then some (⟨45, ⟨(number (digs n.id) 1 99).1, 0, []⟩⟩ : St) else none) else none) = _
    rw [if_neg (by decide), if_pos rfl]
    have e : number (digs n.id) 1 99 = (n.id, true) := by
      obtain ⟨m, hm⟩ := Int.eq_ofNat_of_zero_le (show 0 ≤ n.id by omega)
      rw [hm]; exact digs_num1 m (by omega) (by omega)
    rw [e, if_pos rfl, ← hc rfl]
theorem cut_script : ∀ (ss : List St), (∀ s ∈ ss, StOk s) → cut (scriptText ss) = ss.map stText := by
  intro ss
  induction ss with
  | nil => intro _; rfl
  | cons s ss ih =>
    intro h
    unfold scriptText at ih ⊢
    rw [List.flatMap_cons, stText_body, cut_cons (stBody_no (h s (by simp))), ih (fun x hx => h x (by simp [hx])), List.map_cons, stText_body]
theorem readSteps_map : ∀ (ss : List St), (∀ s ∈ ss, StCan s) → readSteps (ss.map stText) = ss := by
  intro ss
  induction ss with
  | nil => intro _; rfl
  | cons s ss ih =>
    intro h
    rw [List.map_cons, readSteps, readStep_text (h s (by simp)), ih (fun x hx => h x (by simp [hx]))]
theorem readSteps_script {ss : List St} (h : ∀ s ∈ ss, StCan s) : readSteps (cut (scriptText ss)) = ss ∧ (cut (scriptText ss)).length = ss.length := by
  rw [cut_script ss (fun s hs => (h s hs).1)]
  exact ⟨readSteps_map ss h, by simp⟩
theorem stText_len {s : St} (h : StOk s) : (stText s).length ≤ 19 := by
  unfold stText
  rcases h with ⟨hk, hn⟩ | ⟨hk, _⟩
  · have h45 : ¬ s.kind = 45 := by rcases hk with h | h <;> rw [h] <;> decide
    rw [if_neg h45]
    have := nodeText_len hn.2.2.2.2
    simp; omega
  · rw [if_pos hk]
    have := digs_len s.node.id
    simp; omega
theorem script_len : ∀ (ss : List St), (∀ s ∈ ss, StOk s) → (scriptText ss).length ≤ 19 * ss.length := by
  intro ss
  induction ss with
  | nil => intro _; simp [scriptText]
  | cons s ss ih =>
    intro h
    have h1 := stText_len (h s (by simp))
    have h2 := ih (fun x hx => h x (by simp [hx]))
    unfold scriptText at h2 ⊢
    rw [List.flatMap_cons, List.length_append, List.length_cons]; omega
theorem make_len {a g : Tr} (ha : Valid a) (hg : Valid g) : (makeT a g).length ≤ 198 := by
  have h1 := seg_come (makeT_seg ha hg) hg.ok
  have h2 := toCome_le a g
  omega
theorem make_text_len {a g : Tr} (ha : Valid a) (hg : Valid g) : (scriptText (makeT a g)).length ≤ 4000 := by
  have h1 := make_len ha hg
  have h2 := script_len (makeT a g) (fun s hs => (seg_can (makeT_seg ha hg) hg.ok s hs).1)
  omega
/-- What Compile answers: the script and the error. -/
def compileE (f t : Str) : Int := if 4000 < f.length ∨ 4000 < t.length then 1 else if (checkT f).1 ≠ 0 then (checkT f).1 else (checkT t).1
def compileT (f t : Str) : Str := if compileE f t = 0 then scriptText (makeT (gather (readNodes (cut f))) (gather (readNodes (cut t)))) else []
theorem compileE_parts {f t : Str} (h : compileE f t = 0) : (checkT f).1 = 0 ∧ (checkT t).1 = 0 ∧ f.length ≤ 4000 ∧ t.length ≤ 4000 := by
  unfold compileE at h
  split at h
  · cases h
  · rename_i hl
    split at h
    · rename_i h2; exact absurd h h2
    · rename_i h2
      exact ⟨Classical.byContradiction h2, h, by omega, by omega⟩
/-- Apply does Compile's script. -/
theorem apply_compile {f t : Str} (h : compileE f t = 0) : applyT f (compileT f t) = (t, 0, 0) := by
  obtain ⟨h1, h2, h3, h4⟩ := compileE_parts h
  have ha := valid_of_check h1
  have hg := valid_of_check h2
  have hseg := makeT_seg ha hg
  have ec : compileT f t = scriptText (makeT (gather (readNodes (cut f))) (gather (readNodes (cut t)))) := by unfold compileT; rw [if_pos h]
  rw [ec]
  obtain ⟨e1, e2⟩ := readSteps_script (seg_can hseg hg.ok)
  have hl := make_text_len ha hg
  obtain ⟨d1, d2⟩ := seg_does hseg 0
  unfold applyT
  rw [if_neg (by omega), if_neg (by simpa using h1), e1, e2, if_neg (by omega), d1, if_neg (by simp), d2, text_check h2]
end Go.Proofs.YtdcjimlhaklhfabGreatDoor

namespace Go.Proofs.YtdcjimlhaklhfabGreatDoor
open Go.RowKit
/-! Ingest: what the program does. -/
def speakIs (id : Int) (x : Lo) : Bool := x.node.id == id || x.node.parent == id
def speaks (L : List Lo) (id : Int) : Bool := L.any (speakIs id)
def usedIs (L : List Lo) (v g : Tr) (i : Nat) : Bool := hasT g i && (!hasT v i && speaks L i)
def usedT (L : List Lo) (v g : Tr) : Bool := decide (scan (usedIs L v g) 1 100 < 100)
def renOne (t v : Tr) (i : Nat) : Option Nd := if hasT v i && !ndEq (getT v i) (getT t i) then some (getT v i) else none
def renamesTo (t v : Tr) (k : Nat) : List Nd := (List.range' 1 k).filterMap (renOne t v)
def renamesT (t v : Tr) : List Nd := renamesTo t v 99
def behind (s : St) : Nd := if s.kind = 45 then ⟨s.node.id, 100, [45]⟩ else s.node
def wayT (t g : Tr) : List Nd := renamesT t (viewT t) ++ (makeT (viewT t) g).map behind
def lastC (L : List Lo) : Int := match L.getLast? with
  | none => 0
  | some x => x.count
def stampAt (last site : Int) (i : Nat) (n : Nd) : Lo := ⟨last + 1 + (i : Int), site, n⟩
def stamped (way : List Nd) (last site : Int) : List Lo := way.mapIdx (stampAt last site)
def reachT (L : List Lo) (site : Int) (g : Tr) : List Lo × Int :=
  if usedT L (viewT (places L)) g then ([], 14) else
  if 150 < L.length + (wayT (places L) g).length then ([], 13) else
  if 9999 < lastC L + ((wayT (places L) g).length : Int) then ([], 15) else
  (stamped (wayT (places L) g) (lastC L) site, 0)
def ingestT (L : List Lo) (site : Int) (s : Str) : List Lo × Int :=
  if (checkT s).1 ≠ 0 then ([], (checkT s).1) else reachT L site (gather (readNodes (cut s)))
theorem renamesTo_succ (t v : Tr) (k : Nat) : renamesTo t v (k + 1) = renamesTo t v k ++ (match renOne t v (k + 1) with | none => [] | some n => [n]) := by
  unfold renamesTo
  rw [List.range'_concat, List.filterMap_append]
  congr 1
  rw [show 1 + 1 * k = k + 1 by omega]
  cases h : renOne t v (k + 1) <;> simp [h]
theorem renamesTo_len (t v : Tr) (k : Nat) : (renamesTo t v k).length ≤ k := by
  have := List.length_filterMap_le (renOne t v) (List.range' 1 k)
  simpa [renamesTo] using this
theorem ndW_of_valid {t : Tr} (hv : Valid t) {i : Nat} {n : Nd} (h : t i = some n) : NdW n := by
  have hb := hv.ok.2 i n h
  refine ⟨by omega, by omega, hb.2.2.2.1, by omega, ?_⟩
  unfold placeB
  rw [if_neg (by omega)]
  have hp := hv.parent i n h
  rw [Bool.and_eq_true, beq_iff_eq]
  refine ⟨?_, hb.2.2.2.2.2⟩
  rcases isParent_iff.1 hp with h0 | ⟨h0, _⟩
  · omega
  · exact h0
theorem renames_mem {t v : Tr} {n : Nd} {k : Nat} (h : n ∈ renamesTo t v k) : ∃ i : Nat, 1 ≤ i ∧ i ≤ k ∧ v i = some n ∧ ndEq n (getT t i) = false := by
  obtain ⟨i, hi, hr⟩ := List.mem_filterMap.1 h
  rw [List.mem_range'_1] at hi
  unfold renOne at hr
  split at hr
  · rename_i hc
    rw [Bool.and_eq_true] at hc
    obtain ⟨m, hm⟩ := hasT_iff.1 hc.1
    rw [Int.toNat_natCast] at hm
    have e : getT v i = m := by unfold getT; rw [Int.toNat_natCast, hm]; rfl
    rw [e] at hr hc
    cases hr
    exact ⟨i, by omega, by omega, hm, by simpa using hc.2⟩
  · cases hr
theorem park_ndW {id : Int} (h1 : 1 ≤ id) (h2 : id ≤ 99) : NdW (parkN id) := by
  refine ⟨h1, h2, Int.le_refl 0, by show (0 : Int) ≤ 100; omega, ?_⟩
  unfold placeB
  rw [if_neg (by show ¬ (0 : Int) = 100; omega), Bool.and_eq_true]
  exact ⟨rfl, park_name id⟩
theorem trash_ndW {id : Int} (h1 : 1 ≤ id) (h2 : id ≤ 99) : NdW ⟨id, 100, [45]⟩ :=
  ⟨h1, h2, by show (0 : Int) ≤ 100; omega, by show (100 : Int) ≤ 100; omega, rfl⟩
theorem behind_del {n : Nd} : behind ⟨45, n⟩ = ⟨n.id, 100, [45]⟩ := rfl
theorem behind_new {n : Nd} : behind ⟨43, n⟩ = n := rfl
theorem behind_move {n : Nd} : behind ⟨61, n⟩ = n := rfl
theorem home_behind {a g : Tr} (hg : Valid g) {id : Int} (h1 : 1 ≤ id) (h2 : id ≤ 99) {s : St} (h : homeS a g id = some s) : NdW (behind s) := by
  rcases home_cases h with ⟨rfl, _⟩ | ⟨n, rfl, hn, _⟩ | ⟨n, _, rfl, hn, _⟩
  · exact trash_ndW h1 h2
  · exact ndW_of_valid hg hn
  · exact ndW_of_valid hg hn
theorem seg_behind {g a b : Tr} {ss : List St} (h : Seg g a ss b) (hg : Valid g) : ∀ s ∈ ss, NdW (behind s) := by
  induction h with
  | nil a => simp
  | home h1 h2 hs he _ ih =>
    intro s hm
    rcases List.mem_cons.1 hm with rfl | hm
    · exact home_behind hg h1 h2 hs
    · exact ih s hm
  | park h1 h2 hno hs hp he _ ih =>
    intro s hm
    rcases List.mem_cons.1 hm with rfl | hm
    · exact park_ndW h1 h2
    · exact ih s hm
theorem way_ok {t g : Tr} (ht : TrW t) (hg : Valid g) : ∀ n ∈ wayT t g, NdW n := by
  intro n hn
  have hv := view_valid ht
  rcases List.mem_append.1 hn with hn | hn
  · obtain ⟨i, _, _, h, _⟩ := renames_mem hn
    exact ndW_of_valid hv h
  · obtain ⟨s, hs, rfl⟩ := List.mem_map.1 hn
    exact seg_behind (makeT_seg hv hg) hg s hs
theorem way_len {t g : Tr} (ht : TrW t) (hg : Valid g) : (wayT t g).length ≤ 297 := by
  unfold wayT
  rw [List.length_append, List.length_map]
  have := renamesTo_len t (viewT t) 99
  have := make_len (view_valid ht) hg
  unfold renamesT; omega
/-! The ops that are made stand behind all others. -/
theorem stamped_len (way : List Nd) (last site : Int) : (stamped way last site).length = way.length := by simp [stamped]
theorem stamped_get {way : List Nd} {last site : Int} {i : Nat} (h : i < way.length) : (stamped way last site)[i]'(by rw [stamped_len]; exact h) = stampAt last site i way[i] := by
  simp [stamped]
theorem stamped_nil (last site : Int) : stamped [] last site = [] := rfl
theorem stamped_snoc (way : List Nd) (n : Nd) (last site : Int) : stamped (way ++ [n]) last site = stamped way last site ++ [stampAt last site way.length n] := by
  unfold stamped; rw [List.mapIdx_append]; simp
theorem stamped_take (way : List Nd) (last site : Int) (k : Nat) (hk : k < way.length) : stamped (way.take (k + 1)) last site = stamped (way.take k) last site ++ [stampAt last site k way[k]] := by
  rw [List.take_succ_eq_append_getElem hk, stamped_snoc, List.length_take, Nat.min_eq_left (by omega)]
theorem stamped_mem {way : List Nd} {last site : Int} {x : Lo} (h : x ∈ stamped way last site) : ∃ i, ∃ hi : i < way.length, x = stampAt last site i way[i] := by
  obtain ⟨i, hi, rfl⟩ := List.mem_iff_getElem.1 h
  rw [stamped_len] at hi
  exact ⟨i, hi, stamped_get hi⟩
theorem stamped_ok {way : List Nd} {last site : Int} (hw : ∀ n ∈ way, NdW n) (h0 : 0 ≤ last) (h9 : last + (way.length : Int) ≤ 9999) (s1 : 1 ≤ site) (s2 : site ≤ 9) : ∀ x ∈ stamped way last site, LoOk x := by
  intro x hx
  obtain ⟨i, hi, rfl⟩ := stamped_mem hx
  refine ⟨?_, ?_, s1, s2, hw _ (List.getElem_mem hi)⟩ <;> (unfold stampAt; simp only []; omega)
theorem lastC_nil : lastC [] = 0 := rfl
theorem lastC_at {L : List Lo} (h : 0 < L.length) : lastC L = (L[L.length - 1]'(by omega)).count := by
  unfold lastC
  rw [List.getLast?_eq_getElem?, List.getElem?_eq_getElem (by omega)]
theorem lastC_snoc (L : List Lo) (x : Lo) : lastC (L ++ [x]) = x.count := by simp [lastC]
theorem lastC_max {L : List Lo} (hs : Sorted L) : ∀ y ∈ L, y.count ≤ lastC L := by
  intro y hy
  obtain ⟨i, hi, rfl⟩ := List.mem_iff_getElem.1 hy
  rw [lastC_at (by omega)]
  by_cases h : i = L.length - 1
  · subst h; exact Int.le_refl _
  · have := (List.pairwise_iff_getElem.1 hs) i (L.length - 1) hi (by omega) (by omega)
    rw [ahead_iff] at this; omega
theorem lastC_bd {L : List Lo} (h : LogOk L) : 0 ≤ lastC L ∧ lastC L ≤ 9999 := by
  by_cases h0 : L.length = 0
  · rw [List.length_eq_zero_iff.1 h0, lastC_nil]; omega
  · rw [lastC_at (by omega)]
    have := h.2.1 _ (List.getElem_mem (show L.length - 1 < L.length by omega))
    have h1 := this.1
    have h2 := this.2.1
    omega
theorem ins_end {x : Lo} {L : List Lo} (h : ∀ y ∈ L, y.count < x.count) : ins x L = L ++ [x] := by
  have := ins_split (x := x) (a := L) (b := []) (fun y hy => by
    have := h y hy
    cases hq : ahead x y with
    | false => rfl
    | true => rw [ahead_iff] at hq; omega) (fun y hy => by cases hy)
  rwa [List.append_nil] at this
theorem stamped_max {L : List Lo} (hs : Sorted L) (way : List Nd) (site : Int) {k : Nat} (hk : k ≤ way.length) : ∀ y ∈ L ++ stamped (way.take k) (lastC L) site, y.count < lastC L + 1 + (k : Int) := by
  intro y hy
  rcases List.mem_append.1 hy with hy | hy
  · have := lastC_max hs y hy; omega
  · obtain ⟨i, hi, rfl⟩ := stamped_mem hy
    rw [List.length_take, Nat.min_eq_left hk] at hi
    unfold stampAt; simp only []; omega
theorem ins_stamped {L : List Lo} (hs : Sorted L) (way : List Nd) (site : Int) {k : Nat} (hk : k < way.length) : ins (stampAt (lastC L) site k way[k]) (L ++ stamped (way.take k) (lastC L) site) = L ++ stamped (way.take (k + 1)) (lastC L) site := by
  rw [ins_end (stamped_max hs way site (by omega)), stamped_take way _ _ k hk, List.append_assoc]
theorem stamped_new {L : List Lo} (hs : Sorted L) (way : List Nd) (site : Int) {k : Nat} (hk : k < way.length) : hasStamp (L ++ stamped (way.take k) (lastC L) site) (stampAt (lastC L) site k way[k]) = false := by
  unfold hasStamp
  rw [List.any_eq_false]
  intro y hy
  have := stamped_max hs way site (Nat.le_of_lt hk) y hy
  unfold sameStamp stampAt
  simp only [Bool.and_eq_true, beq_iff_eq]; omega
theorem stamped_sorted {L : List Lo} (hs : Sorted L) (way : List Nd) (site : Int) : ∀ k, k ≤ way.length → Sorted (L ++ stamped (way.take k) (lastC L) site) := by
  intro k
  induction k with
  | zero => intro _; simpa [stamped] using hs
  | succ k ih =>
    intro hk
    rw [← ins_stamped hs way site (by omega)]
    exact ins_sorted (ih (by omega)) (stamped_new hs way site (by omega))
theorem joinAll_stamped {L : List Lo} (hs : Sorted L) (way : List Nd) (site : Int) : ∀ k, k ≤ way.length → joinAll L (stamped (way.take k) (lastC L) site) = L ++ stamped (way.take k) (lastC L) site := by
  intro k
  induction k with
  | zero => intro _; simp [stamped, joinAll]
  | succ k ih =>
    intro hk
    rw [stamped_take way _ _ k (by omega), joinAll_snoc, ih (by omega), ins_stamped hs way site (by omega), stamped_take way _ _ k (by omega)]
theorem reach_made {L : List Lo} {site : Int} {g : Tr} (h : (reachT L site g).2 = 0) : usedT L (viewT (places L)) g = false ∧ L.length + (wayT (places L) g).length ≤ 150 ∧ lastC L + ((wayT (places L) g).length : Int) ≤ 9999 ∧ (reachT L site g).1 = stamped (wayT (places L) g) (lastC L) site := by
  unfold reachT at h ⊢
  cases hu : usedT L (viewT (places L)) g with
  | true => rw [hu] at h; simp at h
  | false =>
    rw [hu] at h
    simp only [Bool.false_eq_true, if_false] at h ⊢
    split at h
    · cases h
    · split at h
      · cases h
      · refine ⟨trivial, by omega, by omega, ?_⟩
        rw [if_neg (by omega), if_neg (by omega)]
theorem reach_none {L : List Lo} {site : Int} {g : Tr} (h : (reachT L site g).2 ≠ 0) : (reachT L site g).1 = [] := by
  unfold reachT at h ⊢
  split
  · rfl
  · split
    · rfl
    · split
      · rfl
      · rename_i h1 h2 h3; rw [if_neg h1, if_neg h2, if_neg h3] at h; exact absurd rfl h
theorem reach_ok {L : List Lo} (hl : LogOk L) {site : Int} (s1 : 1 ≤ site) (s2 : site ≤ 9) {g : Tr} (hg : Valid g) : LogOk (L ++ (reachT L site g).1) ∧ ∀ x ∈ (reachT L site g).1, LoOk x := by
  by_cases h : (reachT L site g).2 = 0
  · obtain ⟨_, h2, h3, h4⟩ := reach_made h
    have hok : ∀ x ∈ (reachT L site g).1, LoOk x := by
      rw [h4]
      exact stamped_ok (way_ok (places_ok hl.2.1) hg) (lastC_bd hl).1 h3 s1 s2
    refine ⟨⟨?_, ?_, ?_⟩, hok⟩
    · rw [h4]
      have := stamped_sorted hl.1 (wayT (places L) g) site _ (Nat.le_refl _)
      rwa [List.take_length] at this
    · intro x hx
      rcases List.mem_append.1 hx with hx | hx
      · exact hl.2.1 x hx
      · exact hok x hx
    · rw [h4, List.length_append, stamped_len]; omega
  · rw [reach_none h, List.append_nil]; exact ⟨hl, by simp⟩
theorem ingest_ok {L : List Lo} (hl : LogOk L) {site : Int} (s1 : 1 ≤ site) (s2 : site ≤ 9) (s : Str) : LogOk (L ++ (ingestT L site s).1) ∧ ∀ x ∈ (ingestT L site s).1, LoOk x := by
  unfold ingestT
  split
  · simp only [List.append_nil]; exact ⟨hl, by simp⟩
  · rename_i h
    exact reach_ok hl s1 s2 (valid_of_check (by simpa using h))
theorem ingest_none {L : List Lo} {site : Int} {s : Str} (h : (ingestT L site s).2 ≠ 0) : (ingestT L site s).1 = [] := by
  unfold ingestT at h ⊢
  split
  · rfl
  · rename_i h1; rw [if_neg h1] at h; exact reach_none h
end Go.Proofs.YtdcjimlhaklhfabGreatDoor

namespace Go.Proofs.YtdcjimlhaklhfabGreatDoor
open Go.RowKit
theorem speaks_none {L : List Lo} {id : Int} {k : Nat} (h : ∀ j (hj : j < L.length), j < k → speakIs id L[j] = false) (hk : ¬ k < L.length) : speaks L id = false := by
  unfold speaks; rw [List.any_eq_false]
  intro y hy
  obtain ⟨j, hj, rfl⟩ := List.mem_iff_getElem.1 hy
  rw [h j hj (by omega)]; simp
set_option maxHeartbeats 2000000 in
theorem speaks_any (L : List Lo) (id : Int) (b o : Nat) (ao : Option Addr) (cap : Nat) (w : World) (hlog : w.cell? ⟨b, o, none⟩ = some (.slice ao L.length cap)) (hrow : Row w ao L.length 5 (loCells L)) (hl : L.length ≤ 4000) :
    Calls Tryz.prog 107 #[.pointer (some ⟨b, o, none⟩), .int .i64 id] w fun e w' => e = .returned (.bool (speaks L id)) ∧ Below w.heap.size w w' := by
  have HROW := hide hrow; clear hrow
  go_enter Tryz.func107, Tryz.ntmps107
  go_wp2
  go_loopw [12] (fun i wr => ∃ k : Nat, k ≤ L.length ∧ i = .int .i64 k ∧ Below w.heap.size w wr ∧ Hid (∀ j (hj : j < L.length), j < k → speakIs id L[j] = false)) (fun i _ => L.length - (intOf i).toNat)
  case atStart => exact ⟨0, Nat.zero_le _, rfl, Below.refl _ _, hide (fun j hj h => by omega)⟩
  case round =>
    obtain ⟨k, hk, rfl, hbel, HN⟩ := hrel
    clear hlog
    by_cases hlt : k < L.length
    · obtain ⟨g, hao, hg, c0, c1, c2, c3, c4⟩ := lo_cells (unhide HROW) hbel (Nat.le_refl _) hlt
      rw [hao]
      clear hao
      have hsz := hbel.size
      have HS : Hid (speakIs id L[k] = ((L[k]).node.id == id || (L[k]).node.parent == id)) := hide rfl
      have HB := hide (hbel.alloc hsz (.cells #[.int .i64 (L[k]).count, .int .i64 (L[k]).site, .int .i64 (L[k]).node.id, .int .i64 (L[k]).node.parent, .string (bs (L[k]).node.name)] 113))
      have HNX : Hid (speakIs id L[k] = false → ∀ j (hj : j < L.length), j < k + 1 → speakIs id L[j] = false) := by
        apply hide; intro hh j hj hjk
        by_cases e : j = k
        · subst e; exact hh
        · exact unhide HN j hj (by omega)
      have HYS : Hid (speakIs id L[k] = true → speaks L id = true) := by
        apply hide; intro hh; unfold speaks; rw [List.any_eq_true]; exact ⟨L[k], List.getElem_mem hlt, hh⟩
      generalize L[k] = y at *
      cases h0 : (y.node.id == id)
      · cases h1 : (y.node.parent == id)
        · have HF := hide (unhide HNX (by rw [unhide HS, h0, h1]; rfl))
          go_wp2
          go_roundw
          case rel => exact ⟨k + 1, by omega, by go_num, unhide HB, HF⟩
          case measure => simp [intOf]; omega
        · have HF := hide (unhide HYS (by rw [unhide HS, h0, h1]; rfl))
          go_wp2
          go_ret
          exact ⟨ret_bool (unhide HF).symm, unhide HB⟩
      · have HF := hide (unhide HYS (by rw [unhide HS, h0]; rfl))
        go_wp2
        go_ret
        exact ⟨ret_bool (unhide HF).symm, unhide HB⟩
    · have HF := hide (speaks_none (unhide HN) hlt)
      go_wp2
      go_ret
      exact ⟨ret_bool (unhide HF).symm, hbel⟩
/-- Has, of a right tree. -/
theorem hasT_nat (t : Tr) (m : Nat) : hasT t (m : Int) = (t m).isSome := by unfold hasT; rw [Int.toNat_natCast]
set_option maxHeartbeats 2000000 in
theorem isUsed_any (L : List Lo) (v g : Tr) (b o vb gb : Nat) (ao : Option Addr) (cap : Nat) (w : World) (hlog : w.cell? ⟨b, o, none⟩ = some (.slice ao L.length cap)) (hb : b < w.heap.size) (hrow : Row w ao L.length 5 (loCells L)) (hl : L.length ≤ 4000) (hv : TrW v) (hg : TrW g) (hV : TreeAt ext0 w vb v) (hG : TreeAt ext0 w gb g) :
    Calls Tryz.prog 71 #[.pointer (some ⟨b, o, none⟩), .pointer (some ⟨vb, 0, none⟩), .pointer (some ⟨gb, 0, none⟩)] w fun e w' => e = .returned (.bool (usedT L v g)) ∧ Below w.heap.size w w' := by
  have HLOG := hide hlog
  have HROW := hide hrow
  have HV := hide hV
  have HG := hide hG
  have HTV := hide hv
  have HTG := hide hg
  clear hlog hrow hV hG hv hg
  go_enter Tryz.func71, Tryz.ntmps71
  go_wp2
  go_loopw [7] (fun i wr => ∃ k : Nat, k ≤ 99 ∧ i = .int .i64 ((k : Int) + 1) ∧ Hid (Below w.heap.size w wr) ∧ Hid (∀ j, 1 ≤ j → j < k + 1 → usedIs L v g j = false)) (fun i _ => 101 - (intOf i).toNat)
  case atStart => exact ⟨0, by omega, rfl, hide (Below.refl _ _), hide (fun j h1 h2 => by omega)⟩
  case round =>
    obtain ⟨k, hk, rfl, HB, HN⟩ := hrel
    by_cases hlt : k < 99
    · have hk1 : (k : Int) + 1 ≤ 99 := by omega
      have HG1 := hide (has_w g gb (k + 1) wr (unhide HTG) (by omega) ((unhide HG).below (unhide HB)))
      have HV1 := hide (has_w v vb (k + 1) wr (unhide HTV) (by omega) ((unhide HV).below (unhide HB)))
      have HSP := hide (speaks_any L ((k : Int) + 1) b o ao cap wr (by rw [(unhide HB).cell (p := ⟨b, o, none⟩) hb]; exact unhide HLOG) ((unhide HROW).below (unhide HB)) hl)
      have HU : Hid (usedIs L v g (k + 1) = ((g (k + 1)).isSome && (!(v (k + 1)).isSome && speaks L ((k : Int) + 1)))) := by
        apply hide; unfold usedIs; rw [hasT_nat, hasT_nat]; rfl
      have HNX : Hid (usedIs L v g (k + 1) = false → ∀ j, 1 ≤ j → j < k + 1 + 1 → usedIs L v g j = false) := by
        apply hide; intro hh j h1 h2
        by_cases e : j = k + 1
        · subst e; exact hh
        · exact unhide HN j h1 (by omega)
      have HYS : Hid (usedIs L v g (k + 1) = true → usedT L v g = true) := by
        apply hide; intro hh
        unfold usedT; rw [decide_eq_true_eq, scan_hit (k := k + 1) (by omega) (by omega) hh (fun j h1 h2 => unhide HN j h1 h2)]; omega
      rw [show ((k + 1 : Nat) : Int) = (k : Int) + 1 by omega] at HG1 HV1
      generalize (g (k + 1)).isSome = qg at *
      generalize (v (k + 1)).isSome = qv at *
      generalize speaks L ((k : Int) + 1) = qs at *
      generalize usedIs L v g (k + 1) = qu at *
      go_wp2_with fail
      refine (unhide HG1).mono ?_
      rintro e w1 ⟨rfl, rfl⟩
      go_wp2_with fail
      refine (unhide HV1).mono ?_
      rintro e w1 ⟨rfl, rfl⟩
      rcases (show qg = false ∨ (qg = true ∧ qv = true) ∨ (qg = true ∧ qv = false) from by cases qg <;> cases qv <;> simp) with h | ⟨h, h'⟩ | ⟨h, h'⟩
      · have HF := hide (unhide HNX (by rw [unhide HU, h]; rfl))
        subst h
        go_wp2
        go_roundw
        case rel => exact ⟨k + 1, by omega, by go_num, HB, HF⟩
        case measure => simp [intOf]; omega
      · have HF := hide (unhide HNX (by rw [unhide HU, h, h']; rfl))
        subst h h'
        go_wp2
        go_roundw
        case rel => exact ⟨k + 1, by omega, by go_num, HB, HF⟩
        case measure => simp [intOf]; omega
      · have HU2 : Hid (qu = qs) := by apply hide; rw [unhide HU, h, h']; rfl
        subst h h'
        go_wp2_with fail
        refine (unhide HSP).mono ?_
        rintro e w2 ⟨rfl, hb2⟩
        have HB2 := hide ((unhide HB).trans (hb2.mono (unhide HB).size))
        clear hb2
        cases qs with
        | false =>
          have HF := hide (unhide HNX (unhide HU2))
          go_wp2
          go_roundw
          case rel => exact ⟨k + 1, by omega, by go_num, HB2, HF⟩
          case measure => simp [intOf]; omega
        | true =>
          have HF := hide (unhide HYS (unhide HU2))
          go_wp2
          go_ret
          exact ⟨ret_bool (unhide HF).symm, unhide HB2⟩
    · have HF : Hid (usedT L v g = false) := by
        apply hide; unfold usedT; rw [decide_eq_false_iff_not, scan_none (fun j h1 h2 => unhide HN j h1 (by omega))]; omega
      go_wp2
      go_ret
      exact ⟨ret_bool (unhide HF).symm, unhide HB⟩
set_option maxHeartbeats 2000000 in
theorem lastCount_any (L : List Lo) (b o : Nat) (ao : Option Addr) (cap : Nat) (w : World) (hlog : w.cell? ⟨b, o, none⟩ = some (.slice ao L.length cap)) (hrow : Row w ao L.length 5 (loCells L)) (hl : L.length ≤ 4000) :
    Calls Tryz.prog 73 #[.pointer (some ⟨b, o, none⟩)] w fun e w' => e = .returned (.int .i64 (lastC L)) ∧ Below w.heap.size w w' := by
  by_cases h0 : L.length = 0
  · have hn : L = [] := List.length_eq_zero_iff.1 h0
    subst hn
    rw [lastC_nil]
    simp only [List.length_nil] at hlog
    clear hrow h0
    go_enter Tryz.func73, Tryz.ntmps73
    go_wp2
    go_ret
    exact ⟨rfl, Below.refl _ _⟩
  · obtain ⟨g, hao, hg, c0, c1, c2, c3, c4⟩ := lo_cells hrow (Below.refl w.heap.size w) (Nat.le_refl _) (show L.length - 1 < L.length by omega)
    have HE := hide (lastC_at (L := L) (by omega))
    have hd : ((L.length : Int) == 0) = false := by rw [beq_eq_false_iff_ne]; omega
    generalize L[L.length - 1] = x at *
    generalize lastC L = c at *
    obtain ⟨m, hm⟩ : ∃ m, L.length = m + 1 := ⟨L.length - 1, by omega⟩
    rw [hm] at hlog hd c0
    rw [hao] at hlog
    rw [show m + 1 - 1 = m by omega] at c0
    have hm2 : m ≤ 4000 := by omega
    clear hrow hao h0 hm c1 c2 c3 c4 hl
    have e1 : ((m + 1 : Nat) : Int) - 1 = (m : Int) := by omega
    go_enter Tryz.func73, Tryz.ntmps73
    go_wp2
    go_quiet (fail)
    go_wp2
    go_ret
    exact ⟨ret_int (by rw [unhide HE]), below_drewN (Below.refl _ _) _⟩
end Go.Proofs.YtdcjimlhaklhfabGreatDoor

namespace Go.Proofs.YtdcjimlhaklhfabGreatDoor
open Go.RowKit
/-! A tree that lies somewhere in a block. -/
def CellsAt (w : World) (b o : Nat) (t : Tr) : Prop := ∀ j, j < 400 → w.cell? ⟨b, o + j, none⟩ = (treeCells t)[j]?
theorem CellsAt.below {w w' : World} {b o : Nat} {t : Tr} (h : CellsAt w b o t) (hb : Below w.heap.size w w') (hlt : b < w.heap.size) : CellsAt w' b o t := by
  intro j hj
  rw [hb.cell (p := ⟨b, o + j, none⟩) hlt]; exact h j hj
theorem CellsAt.node {w : World} {b o : Nat} {t : Tr} (h : CellsAt w b o t) (m : Nat) (hm : m < 100) :
    w.cell? ⟨b, o + 100 + m * 3, none⟩ = some (.int .i64 ((t m).getD nd0).id) ∧ w.cell? ⟨b, o + 100 + m * 3 + 1, none⟩ = some (.int .i64 ((t m).getD nd0).parent) ∧ w.cell? ⟨b, o + 100 + m * 3 + 2, none⟩ = some (.string (bs ((t m).getD nd0).name)) := by
  obtain ⟨t1, t2, t3⟩ := treeCells_node t m hm
  refine ⟨?_, ?_, ?_⟩
  · rw [show o + 100 + m * 3 = o + (100 + m * 3) by omega, h _ (by omega), t1]
  · rw [show o + 100 + m * 3 + 1 = o + (100 + m * 3 + 1) by omega, h _ (by omega), t2]
  · rw [show o + 100 + m * 3 + 2 = o + (100 + m * 3 + 2) by omega, h _ (by omega), t3]
set_option maxHeartbeats 400000 in
theorem hasAt_nat (t : Tr) (b o m : Nat) (w : World) (ht : TrOk t) (hm : m ≤ 99) (hT : CellsAt w b o t) :
    Calls Tryz.prog 97 #[.pointer (some ⟨b, o, none⟩), .int .i64 m] w fun e w' => e = .returned (.bool (t m).isSome) ∧ w' = w := by
  have hcell := (hT m (by omega)).trans (treeCells_here t m (by omega))
  have HT0 := hide ht.1
  clear hT ht
  by_cases h1 : 1 ≤ m
  · go_enter Tryz.func97, Tryz.ntmps97
    go_wp2
    go_ret
    exact ⟨rfl, rfl⟩
  · have hm0 : m = 0 := by omega
    subst hm0
    go_enter Tryz.func97, Tryz.ntmps97
    go_wp2
    go_ret
    exact ⟨by rw [unhide HT0]; rfl, rfl⟩
def ndV (n : Nd) : Value := .agg #[.int .i64 n.id, .int .i64 n.parent, .string (bs n.name)]
set_option maxHeartbeats 400000 in
theorem get_nat (t : Tr) (b o m : Nat) (w : World) (ht : TrOk t) (hm : m ≤ 99) (hT : CellsAt w b o t) (hlt : b < w.heap.size) :
    Calls Tryz.prog 98 #[.pointer (some ⟨b, o, none⟩), .int .i64 m] w fun e w' => e = .returned (.agg #[.int .i64 ((t m).getD nd0).id, .int .i64 ((t m).getD nd0).parent, .string (bs ((t m).getD nd0).name)]) ∧ Below w.heap.size w w' := by
  have hb1 := (Below.refl w.heap.size w).alloc (Nat.le_refl _) (.cells #[.int .i64 0, .int .i64 0, .string ByteArray.empty] 75)
  have HH := hide (hasAt_nat t b o m _ ht hm (hT.below hb1 hlt))
  obtain ⟨c1, c2, c3⟩ := hT.node m (by omega)
  have hne : ¬ b = w.heap.size := by omega
  have hm0 : (0 : Int) ≤ m := by omega
  have HB := hide hb1
  clear hT ht hb1
  cases hq : t m with
  | none =>
    rw [hq] at HH c1 c2 c3
    clear hq
    go_enter Tryz.func98, Tryz.ntmps98
    go_wp2_with fail
    refine (unhide HH).mono ?_
    rintro e w1 ⟨rfl, rfl⟩
    go_wp2
    refine bodyPost_ret (v := .agg #[.int .i64 0, .int .i64 0, .string ByteArray.empty]) (by simp [results, Tryz.results98, go_sem]; rfl) rfl ⟨rfl, ?_⟩
    exact unhide HB
  | some n =>
    rw [hq] at HH c1 c2 c3
    clear hq
    go_enter Tryz.func98, Tryz.ntmps98
    go_wp2_with fail
    refine (unhide HH).mono ?_
    rintro e w1 ⟨rfl, rfl⟩
    go_wp2
    refine bodyPost_ret (v := .agg #[.int .i64 n.id, .int .i64 n.parent, .string (bs n.name)]) (by simp [results, Tryz.results98, go_sem]) rfl ⟨rfl, ?_⟩
    exact (Below.refl w.heap.size w).alloc (Nat.le_refl _) _
end Go.Proofs.YtdcjimlhaklhfabGreatDoor

namespace Go.Proofs.YtdcjimlhaklhfabGreatDoor
open Go.RowKit
/-! The plan in memory: the tree as it is by now, the goal, the steps done. -/
def planX (g : Tr) (v : Value) : Ext := ⟨treeCells g ++ [v], 198⟩
theorem plan_now {x : Ext} {w : World} {b : Nat} {a : Tr} (h : TreeAt x w b a) : CellsAt w b 0 a := by
  intro j hj; rw [Nat.zero_add]; exact h.cell j hj
theorem plan_goal {w : World} {b : Nat} {a g : Tr} {v : Value} (h : TreeAt (planX g v) w b a) : CellsAt w b 400 g := by
  intro j hj
  rw [cell_of_row w b (400 + j) _ _ (0, 0) h]
  simp only [List.getElem?_toArray, planX]
  rw [List.getElem?_append_right (by rw [treeCells_length]; omega), treeCells_length, List.getElem?_append_left (by rw [treeCells_length]; omega), Nat.add_sub_cancel_left]
theorem plan_done {w : World} {b : Nat} {a g : Tr} {v : Value} (h : TreeAt (planX g v) w b a) : w.cell? ⟨b, 800, none⟩ = some v := by
  rw [cell_of_row w b 800 _ _ (0, 0) h]
  simp only [List.getElem?_toArray, planX]
  rw [List.getElem?_append_right (by rw [treeCells_length]; omega), treeCells_length, List.getElem?_append_right (by rw [treeCells_length]; omega), treeCells_length]; rfl
theorem nd_neq' (m n : Nd) : ((m.id == n.id) && ((m.parent == n.parent) && ((bs m.name).toList == (bs n.name).toList))) = ndEq m n := by
  unfold ndEq; rw [names_eq]
theorem Tryz.tnodeGuard : Tryz.prog.eqGuardType Tryz.prog.depth 75 = false := by kernel_rfl
theorem Tryz.tnodeHeld : Tryz.prog.stoodInHeld 75 = false := by kernel_rfl
theorem tnode_eq_run (m n : Nd) (W : World) : (Op.equalIn 10000 75 (.agg #[.int .i64 m.id, .int .i64 m.parent, .string (bs m.name)]) (.agg #[.int .i64 n.id, .int .i64 n.parent, .string (bs n.name)])).run Tryz.prog W = .ok (ndEq m n) W := by
  rw [run_equalIn_agg W 9999 75 _ _ (by simp [Program.fieldsOf, Tryz.underlying75]) Tryz.tnodeHeld]
  simp [Program.fieldsOf, Tryz.underlying75, Op.eqFields, go_sem]
  rw [← nd_neq']
  by_cases h1 : m.id = n.id <;> by_cases h2 : m.parent = n.parent <;> by_cases h3 : (bs m.name).toList = (bs n.name).toList <;> simp [h1, h2, h3]
def stV (s : St) : Value := .agg #[.int .u8 s.kind.toNat, .int .i64 s.node.id, .int .i64 s.node.parent, .string (bs s.node.name)]
def stZ : St := ⟨0, nd0⟩
def homeV (a g : Tr) (id : Int) : St := (homeS a g id).getD stZ
theorem home_split {a g : Tr} (ha : TrOk a) (hg : TrOk g) (m : Nat) :
    (ndEq ((a m).getD nd0) ((g m).getD nd0) = true ∧ homeS a g m = none) ∨
    (ndEq ((a m).getD nd0) ((g m).getD nd0) = false ∧ (g m).isSome = false ∧ homeS a g m = some ⟨45, ⟨m, 0, []⟩⟩) ∨
    (ndEq ((a m).getD nd0) ((g m).getD nd0) = false ∧ (g m).isSome = true ∧ (a m).isSome = false ∧ homeS a g m = some ⟨43, (g m).getD nd0⟩) ∨
    (ndEq ((a m).getD nd0) ((g m).getD nd0) = false ∧ (g m).isSome = true ∧ (a m).isSome = true ∧ homeS a g m = some ⟨61, (g m).getD nd0⟩) := by
  have hz : ∀ t : Tr, TrOk t → ∀ n, t m = some n → n ≠ nd0 := by
    intro t ht n hn e
    have := ht.2 m n hn
    rw [e] at this
    have h0 : nd0.id = 0 := rfl
    omega
  cases h1 : a m with
  | none =>
    cases h2 : g m with
    | none => exact .inl ⟨ndEq_iff.2 rfl, home_none.2 (by simp [h1, h2])⟩
    | some n =>
      refine .inr (.inr (.inl ⟨?_, rfl, rfl, home_new (by simpa using h1) (by simpa using h2)⟩))
      cases hq : ndEq ((none : Option Nd).getD nd0) ((some n).getD nd0)
      · rfl
      · exact absurd (ndEq_iff.1 hq).symm (hz g hg n h2)
  | some k =>
    cases h2 : g m with
    | none =>
      refine .inr (.inl ⟨?_, rfl, home_del (by simpa using h1) (by simpa using h2)⟩)
      cases hq : ndEq ((some k).getD nd0) ((none : Option Nd).getD nd0)
      · rfl
      · exact absurd (ndEq_iff.1 hq) (hz a ha k h1)
    | some n =>
      cases hq : ndEq k n
      · exact .inr (.inr (.inr ⟨hq, rfl, rfl, home_move (by simpa using h1) (by simpa using h2) (fun e => by have := ndEq_iff.2 e; rw [show ndEq k ((some n).getD nd0) = ndEq k n from rfl, hq] at this; cases this)⟩))
      · exact .inl ⟨hq, home_none.2 (by simp [h1, h2, ndEq_iff.1 hq])⟩
set_option maxHeartbeats 4000000 in
set_option maxRecDepth 100000 in
theorem home_nat (a g : Tr) (b m : Nat) (v : Value) (w : World) (ha : TrOk a) (hg : TrOk g) (hm : m ≤ 99) (hT : TreeAt (planX g v) w b a) :
    Calls Tryz.prog 147 #[.pointer (some ⟨b, 0, none⟩), .int .i64 m] w fun e w' => e = .returned (.tuple #[stV (homeV a g m), .bool (homeS a g m).isSome]) ∧ Below w.heap.size w w' := by
  have hlt := hT.lt
  have HC1 := hide (plan_now hT)
  have HC2 := hide (plan_goal hT)
  have HG1 := hide (fun W (h : Below w.heap.size w W) => get_nat a b 0 m W ha hm ((unhide HC1).below h hlt) (by have := h.size; omega))
  have HG2 := hide (fun W (h : Below w.heap.size w W) => get_nat g b 400 m W hg hm ((unhide HC2).below h hlt) (by have := h.size; omega))
  have HH1 := hide (fun W (h : Below w.heap.size w W) => hasAt_nat a b 0 m W ha hm ((unhide HC1).below h hlt))
  have HH2 := hide (fun W (h : Below w.heap.size w W) => hasAt_nat g b 400 m W hg hm ((unhide HC2).below h hlt))
  have hs := home_split ha hg m
  have HV : Hid (homeV a g m = (homeS a g m).getD stZ) := hide rfl
  clear hT ha hg HC1 HC2
  generalize homeV a g m = hv at *
  generalize homeS a g m = hS at *
  have hne := tnode_eq_run ((a m).getD nd0) ((g m).getD nd0)
  have hgd := Tryz.tnodeGuard
  rcases hs with ⟨q1, q2⟩ | ⟨q1, q3, q2⟩ | ⟨q1, q3, q4, q2⟩ | ⟨q1, q3, q4, q2⟩
  · rw [q1] at hne
    subst q2
    generalize (a m).getD nd0 = A0 at *
    generalize (g m).getD nd0 = G0 at *
    go_enter Tryz.func147, Tryz.ntmps147
    go_wp2_with fail
    have hb1 := (Below.refl w.heap.size w).alloc (Nat.le_refl _) (.cells #[.int .u8 0, .int .i64 0, .int .i64 0, .string ByteArray.empty] 169)
    refine (unhide HG1 _ hb1).mono ?_
    rintro e w1 ⟨rfl, hb2⟩
    have hz2 := hb2.size
    simp at hz2
    have hb3 : Below w.heap.size w w1 := hb1.trans (hb2.mono (by simp))
    have hb5 := hb3.alloc (by omega) (.cells #[.int .i64 A0.id, .int .i64 A0.parent, .string (bs A0.name)] 75)
    go_wp2_with fail
    refine (unhide HG2 _ hb5).mono ?_
    rintro e w2 ⟨rfl, hb4⟩
    have hz4 := hb4.size
    simp at hz4
    have hc1 : ∀ o, w2.cell? ⟨w1.heap.size, o, none⟩ = _ := fun o => hb4.cell (p := ⟨w1.heap.size, o, none⟩) (by simp)
    have hb6 := hb2.trans ((((Below.refl _ w1).alloc (Nat.le_refl _) _).trans (hb4.mono (by simp))).mono hb2.size)
    have hc2 : ∀ o, w2.cell? ⟨w.heap.size, o, none⟩ = _ := fun o => hb6.cell (p := ⟨w.heap.size, o, none⟩) (by simp)
    have hf2 : ∀ o, w2.frozen? ⟨w.heap.size, o, none⟩ = _ := fun o => hb6.frozen (p := ⟨w.heap.size, o, none⟩) (by simp)
    have hb7 : Below w.heap.size w w2 := hb5.trans (hb4.mono (by simp; omega))
    have hn1 : ¬ w.heap.size = w2.heap.size := by omega
    have hn2 : ¬ w1.heap.size = w2.heap.size := by omega
    have hn3 : w.heap.size < w2.heap.size := by omega
    have hn4 : w1.heap.size < w2.heap.size := by omega
    have HB7 := hide hb7
    clear hb1 hb2 hb3 hb4 hb5 hb6 hb7
    go_wp2
    refine bodyPost_ret (v := .tuple #[.agg #[.int .u8 0, .int .i64 0, .int .i64 0, .string ByteArray.empty], .bool false]) (by simp [results, Tryz.results147, go_sem, hc2, hn3]; rfl) rfl ⟨by rw [unhide HV]; rfl, ?_⟩
    exact (((((unhide HB7).setCell (Nat.le_refl _) _).setCell (Nat.le_refl _) _).setCell (Nat.le_refl _) _).setCell (Nat.le_refl _) _).alloc (by simp; omega) _
  · rw [q1] at hne
    rw [q3] at HH2
    subst q2
    generalize (a m).getD nd0 = A0 at *
    generalize (g m).getD nd0 = G0 at *
    go_enter Tryz.func147, Tryz.ntmps147
    go_wp2_with fail
    have hb1 := (Below.refl w.heap.size w).alloc (Nat.le_refl _) (.cells #[.int .u8 0, .int .i64 0, .int .i64 0, .string ByteArray.empty] 169)
    refine (unhide HG1 _ hb1).mono ?_
    rintro e w1 ⟨rfl, hb2⟩
    have hz2 := hb2.size
    simp at hz2
    have hb3 : Below w.heap.size w w1 := hb1.trans (hb2.mono (by simp))
    have hb5 := hb3.alloc (by omega) (.cells #[.int .i64 A0.id, .int .i64 A0.parent, .string (bs A0.name)] 75)
    go_wp2_with fail
    refine (unhide HG2 _ hb5).mono ?_
    rintro e w2 ⟨rfl, hb4⟩
    have hz4 := hb4.size
    simp at hz4
    have hc1 : ∀ o, w2.cell? ⟨w1.heap.size, o, none⟩ = _ := fun o => hb4.cell (p := ⟨w1.heap.size, o, none⟩) (by simp)
    have hb6 := hb2.trans ((((Below.refl _ w1).alloc (Nat.le_refl _) _).trans (hb4.mono (by simp))).mono hb2.size)
    have hc2 : ∀ o, w2.cell? ⟨w.heap.size, o, none⟩ = _ := fun o => hb6.cell (p := ⟨w.heap.size, o, none⟩) (by simp)
    have hf2 : ∀ o, w2.frozen? ⟨w.heap.size, o, none⟩ = _ := fun o => hb6.frozen (p := ⟨w.heap.size, o, none⟩) (by simp)
    have hb7 : Below w.heap.size w w2 := hb5.trans (hb4.mono (by simp; omega))
    have hn1 : ¬ w.heap.size = w2.heap.size := by omega
    have hn2 : ¬ w1.heap.size = w2.heap.size := by omega
    have hn3 : w.heap.size < w2.heap.size := by omega
    have hn4 : w1.heap.size < w2.heap.size := by omega
    have HB7 := hide hb7
    clear hb1 hb2 hb3 hb4 hb5 hb6 hb7
    go_wp2_with fail
    refine (unhide HH2 _ ((unhide HB7).alloc (by omega) _)).mono ?_
    rintro e w3 ⟨rfl, rfl⟩
    go_wp2
    refine bodyPost_ret (v := .tuple #[.agg #[.int .u8 45, .int .i64 m, .int .i64 0, .string ByteArray.empty], .bool true]) (by simp [results, Tryz.results147, go_sem, hc2, hn3]; rfl) rfl ⟨by rw [unhide HV]; rfl, ?_⟩
    exact (((((unhide HB7).setCell (Nat.le_refl _) _).setCell (Nat.le_refl _) _).setCell (Nat.le_refl _) _).setCell (Nat.le_refl _) _).alloc (by simp; omega) _
  · rw [q1] at hne
    rw [q3] at HH2
    rw [q4] at HH1
    subst q2
    generalize (a m).getD nd0 = A0 at *
    generalize (g m).getD nd0 = G0 at *
    go_enter Tryz.func147, Tryz.ntmps147
    go_wp2_with fail
    have hb1 := (Below.refl w.heap.size w).alloc (Nat.le_refl _) (.cells #[.int .u8 0, .int .i64 0, .int .i64 0, .string ByteArray.empty] 169)
    refine (unhide HG1 _ hb1).mono ?_
    rintro e w1 ⟨rfl, hb2⟩
    have hz2 := hb2.size
    simp at hz2
    have hb3 : Below w.heap.size w w1 := hb1.trans (hb2.mono (by simp))
    have hb5 := hb3.alloc (by omega) (.cells #[.int .i64 A0.id, .int .i64 A0.parent, .string (bs A0.name)] 75)
    go_wp2_with fail
    refine (unhide HG2 _ hb5).mono ?_
    rintro e w2 ⟨rfl, hb4⟩
    have hz4 := hb4.size
    simp at hz4
    have hc1 : ∀ o, w2.cell? ⟨w1.heap.size, o, none⟩ = _ := fun o => hb4.cell (p := ⟨w1.heap.size, o, none⟩) (by simp)
    have hb6 := hb2.trans ((((Below.refl _ w1).alloc (Nat.le_refl _) _).trans (hb4.mono (by simp))).mono hb2.size)
    have hc2 : ∀ o, w2.cell? ⟨w.heap.size, o, none⟩ = _ := fun o => hb6.cell (p := ⟨w.heap.size, o, none⟩) (by simp)
    have hf2 : ∀ o, w2.frozen? ⟨w.heap.size, o, none⟩ = _ := fun o => hb6.frozen (p := ⟨w.heap.size, o, none⟩) (by simp)
    have hb7 : Below w.heap.size w w2 := hb5.trans (hb4.mono (by simp; omega))
    have hn1 : ¬ w.heap.size = w2.heap.size := by omega
    have hn2 : ¬ w1.heap.size = w2.heap.size := by omega
    have hn3 : w.heap.size < w2.heap.size := by omega
    have hn4 : w1.heap.size < w2.heap.size := by omega
    have HB7 := hide hb7
    clear hb1 hb2 hb3 hb4 hb5 hb6 hb7
    go_wp2_with fail
    refine (unhide HH2 _ ((unhide HB7).alloc (by omega) _)).mono ?_
    rintro e w3 ⟨rfl, rfl⟩
    go_wp2_with fail
    refine (unhide HH1 _ ((unhide HB7).alloc (by omega) _)).mono ?_
    rintro e w3 ⟨rfl, rfl⟩
    go_wp2
    refine bodyPost_ret (v := .tuple #[.agg #[.int .u8 43, .int .i64 G0.id, .int .i64 G0.parent, .string (bs G0.name)], .bool true]) (by simp [results, Tryz.results147, go_sem, hc2, hn3]) rfl ⟨by rw [unhide HV]; rfl, ?_⟩
    exact (((((unhide HB7).setCell (Nat.le_refl _) _).setCell (Nat.le_refl _) _).setCell (Nat.le_refl _) _).setCell (Nat.le_refl _) _).alloc (by simp; omega) _
  · rw [q1] at hne
    rw [q3] at HH2
    rw [q4] at HH1
    subst q2
    generalize (a m).getD nd0 = A0 at *
    generalize (g m).getD nd0 = G0 at *
    go_enter Tryz.func147, Tryz.ntmps147
    go_wp2_with fail
    have hb1 := (Below.refl w.heap.size w).alloc (Nat.le_refl _) (.cells #[.int .u8 0, .int .i64 0, .int .i64 0, .string ByteArray.empty] 169)
    refine (unhide HG1 _ hb1).mono ?_
    rintro e w1 ⟨rfl, hb2⟩
    have hz2 := hb2.size
    simp at hz2
    have hb3 : Below w.heap.size w w1 := hb1.trans (hb2.mono (by simp))
    have hb5 := hb3.alloc (by omega) (.cells #[.int .i64 A0.id, .int .i64 A0.parent, .string (bs A0.name)] 75)
    go_wp2_with fail
    refine (unhide HG2 _ hb5).mono ?_
    rintro e w2 ⟨rfl, hb4⟩
    have hz4 := hb4.size
    simp at hz4
    have hc1 : ∀ o, w2.cell? ⟨w1.heap.size, o, none⟩ = _ := fun o => hb4.cell (p := ⟨w1.heap.size, o, none⟩) (by simp)
    have hb6 := hb2.trans ((((Below.refl _ w1).alloc (Nat.le_refl _) _).trans (hb4.mono (by simp))).mono hb2.size)
    have hc2 : ∀ o, w2.cell? ⟨w.heap.size, o, none⟩ = _ := fun o => hb6.cell (p := ⟨w.heap.size, o, none⟩) (by simp)
    have hf2 : ∀ o, w2.frozen? ⟨w.heap.size, o, none⟩ = _ := fun o => hb6.frozen (p := ⟨w.heap.size, o, none⟩) (by simp)
    have hb7 : Below w.heap.size w w2 := hb5.trans (hb4.mono (by simp; omega))
    have hn1 : ¬ w.heap.size = w2.heap.size := by omega
    have hn2 : ¬ w1.heap.size = w2.heap.size := by omega
    have hn3 : w.heap.size < w2.heap.size := by omega
    have hn4 : w1.heap.size < w2.heap.size := by omega
    have HB7 := hide hb7
    clear hb1 hb2 hb3 hb4 hb5 hb6 hb7
    go_wp2_with fail
    refine (unhide HH2 _ ((unhide HB7).alloc (by omega) _)).mono ?_
    rintro e w3 ⟨rfl, rfl⟩
    go_wp2_with fail
    refine (unhide HH1 _ ((unhide HB7).alloc (by omega) _)).mono ?_
    rintro e w3 ⟨rfl, rfl⟩
    go_wp2
    refine bodyPost_ret (v := .tuple #[.agg #[.int .u8 61, .int .i64 G0.id, .int .i64 G0.parent, .string (bs G0.name)], .bool true]) (by simp [results, Tryz.results147, go_sem, hc2, hn3]) rfl ⟨by rw [unhide HV]; rfl, ?_⟩
    exact (((((unhide HB7).setCell (Nat.le_refl _) _).setCell (Nat.le_refl _) _).setCell (Nat.le_refl _) _).setCell (Nat.le_refl _) _).alloc (by simp; omega) _
end Go.Proofs.YtdcjimlhaklhfabGreatDoor
