import Derived.Test.YtkahmbpggdneoaaDoorV2
import Derived.BigQuiet
namespace Go.Proofs.YtkahmbpggdneoaaDoor
open Go.RowKit
/-- What is laid into a slot, by another name. -/
theorem put_as {K : Act → World → Prop} {a : Act} {d : Option Nat} {v v' : Value} {w : World} (h : v = v') (k : K (a.put d v') w) : K (a.put d v) w := h ▸ k
theorem home_any (a g : Tr) (b : Nat) (id : Int) (v : Value) (w : World) (ha : TrOk a) (hg : TrOk g) (h0 : 0 ≤ id) (h1 : id ≤ 99) (hT : TreeAt (planX g v) w b a) :
    Calls Tryd.prog 70 #[.pointer (some ⟨b, 0, none⟩), .int .i64 id] w fun e w' => e = .returned (.tuple #[.agg #[.int .u8 (homeV a g id).kind.toNat, .int .i64 (homeV a g id).node.id, .int .i64 (homeV a g id).node.parent, .string (bs (homeV a g id).node.name)], .bool (homeS a g id).isSome]) ∧ Below w.heap.size w w' := by
  obtain ⟨m, rfl⟩ := Int.eq_ofNat_of_zero_le h0
  exact home_nat a g b m v w ha hg (by omega) hT
theorem get_any (t : Tr) (b o : Nat) (id : Int) (w : World) (ht : TrOk t) (h0 : 0 ≤ id) (h1 : id ≤ 99) (hT : CellsAt w b o t) (hlt : b < w.heap.size) :
    Calls Tryd.prog 87 #[.pointer (some ⟨b, o, none⟩), .int .i64 id] w fun e w' => e = .returned (.agg #[.int .i64 (getT t id).id, .int .i64 (getT t id).parent, .string (bs (getT t id).name)]) ∧ Below w.heap.size w w' := by
  obtain ⟨m, rfl⟩ := Int.eq_ofNat_of_zero_le h0
  exact get_nat t b o m w ht (by omega) hT hlt
theorem getT_parent {t : Tr} (ht : TrOk t) (id : Int) : 0 ≤ (getT t id).parent ∧ (getT t id).parent ≤ 99 := by
  unfold getT
  cases h : t id.toNat with
  | none => simp [nd0]
  | some n => have := ht.2 _ n h; exact ⟨this.2.2.2.1, this.2.2.2.2.1⟩
theorem fromAway_hit {a g : Tr} {f : Nat} {m : Int} (h : (homeS a g m).isSome = true) : fromAwayF a g (f + 1) m = m := by rw [fromAwayF, if_pos h]
theorem fromAway_go {a g : Tr} {f : Nat} {m : Int} (h : (homeS a g m).isSome = false) : fromAwayF a g (f + 1) m = fromAwayF a g f (getT a m).parent := by rw [fromAwayF, if_neg (by rw [h]; simp)]
set_option maxHeartbeats 2000000 in
set_option maxRecDepth 100000 in
theorem fromAway_any (a g : Tr) (b : Nat) (id : Int) (v : Value) (w : World) (ha : TrOk a) (hg : TrOk g) (h0 : 0 ≤ id) (h1 : id ≤ 99) (hT : TreeAt (planX g v) w b a) :
    Calls Tryd.prog 100 #[.pointer (some ⟨b, 0, none⟩), .int .i64 id] w fun e w' => e = .returned (.int .i64 (fromAwayF a g 99 id)) ∧ Below w.heap.size w w' := by
  have HT := hide hT
  have hlt := hT.lt
  generalize hF : fromAwayF a g 99 id = F
  have HF : Hid (F = fromAwayF a g 99 id) := hide hF.symm
  have HH := hide (fun W (m : Int) (q0 : 0 ≤ m) (q1 : m ≤ 99) (h : Below w.heap.size w W) => home_any a g b m v W ha hg q0 q1 (hT.below h))
  have HG := hide (fun W (m : Int) (q0 : 0 ≤ m) (q1 : m ≤ 99) (h : Below w.heap.size w W) => get_any a b 0 m W ha q0 q1 (plan_now (hT.below h)) (by have := h.size; omega))
  have HP := hide (fun m => getT_parent ha m)
  clear hT ha hg hF
  go_enter Tryd.func100, Tryd.ntmps100
  go_wp2
  go_loopw [1, 5] (fun d i wr => ∃ k : Nat, ∃ m : Int, k ≤ 99 ∧ i = .int .i64 k ∧ d = .int .i64 m ∧ 0 ≤ m ∧ m ≤ 99 ∧ Below w.heap.size w wr ∧ Hid (F = fromAwayF a g (99 - k) m)) (fun _ i _ => 100 - (intOf i).toNat)
  case atStart => exact ⟨0, id, by omega, rfl, rfl, h0, h1, Below.refl _ _, HF⟩
  case round =>
    obtain ⟨k, m, hk, rfl, rfl, hm0, hm1, hbel, HI⟩ := hrel
    have hsz := hbel.size
    by_cases hkk : k < 99
    · have hf : 99 - k = (98 - k) + 1 := by omega
      have HI2 : Hid (F = fromAwayF a g ((98 - k) + 1) m) := by apply hide; rw [← hf]; exact unhide HI
      clear hf HI
      have HH1 := hide (unhide HH wr m hm0 hm1 hbel)
      cases hq : (homeS a g m).isSome
      · have HN := hide ((unhide HI2).trans (fromAway_go hq))
        rw [hq] at HH1
        have hp := unhide HP m
        clear hq
        generalize homeV a g m = hv at *
        go_wp2_with fail
        refine (unhide HH1).mono ?_
        rintro e w1 ⟨rfl, hb1⟩
        have hz1 := hb1.size
        have hb2 := (hbel.trans (hb1.mono hsz)).alloc (by omega) (.cells #[.int .u8 hv.kind.toNat, .int .i64 hv.node.id, .int .i64 hv.node.parent, .string (bs hv.node.name)] 83)
        go_wp2_with fail
        refine (unhide HG _ m hm0 hm1 hb2).mono ?_
        rintro e w2 ⟨rfl, hb3⟩
        have hb4 := hb2.trans (hb3.mono hb2.size)
        generalize (getT a m).parent = p at *
        clear hbel hb1 hb2 hb3
        go_wp2
        refine put_as (v' := .int .i64 p) rfl ?_
        go_wp2
        go_roundw
        case rel => exact ⟨k + 1, p, by omega, by go_num, rfl, hp.1, hp.2, hb4, by apply hide; rw [show 99 - (k + 1) = 98 - k by omega]; exact unhide HN⟩
        case measure => simp [intOf]; omega
      · have HN := hide ((unhide HI2).trans (fromAway_hit hq))
        rw [hq] at HH1
        clear hq
        generalize homeV a g m = hv at *
        go_wp2_with fail
        refine (unhide HH1).mono ?_
        rintro e w1 ⟨rfl, hb1⟩
        have hz1 := hb1.size
        have HB := hide ((hbel.trans (hb1.mono hsz)).alloc (by omega) (.cells #[.int .u8 hv.kind.toNat, .int .i64 hv.node.id, .int .i64 hv.node.parent, .string (bs hv.node.name)] 83))
        clear hbel hb1
        go_wp2
        go_ret
        exact ⟨ret_int (unhide HN).symm, unhide HB⟩
    · have HN : Hid (F = 0) := by apply hide; rw [unhide HI, show 99 - k = 0 by omega]; rfl
      go_wp2
      go_ret
      exact ⟨ret_int (unhide HN).symm, hbel⟩
end Go.Proofs.YtkahmbpggdneoaaDoor
