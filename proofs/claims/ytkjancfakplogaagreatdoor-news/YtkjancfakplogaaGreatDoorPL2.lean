import Derived.Test.YtkjancfakplogaaGreatDoorPL1
import Derived.Test.YtkjancfakplogaaGreatDoorW11
namespace Go.Proofs.YtkjancfakplogaaGreatDoor
open Go.RowKit
theorem dash_eq (s : Str) : ((bs s).toList == (({ data := #[45] } : ByteArray)).toList) = (s == [45]) := by
  rw [tl_sl, tl_sl, sl_bs]; rfl
set_option maxHeartbeats 1000000 in
theorem isPlace_any (n : Nd) (w : World) (h0 : 0 ≤ n.id) (h1 : n.id ≤ 99) (h2 : 0 ≤ n.parent) (h3 : n.parent ≤ 100) (hs : n.name.length ≤ 4000) :
    Calls Tryz.prog 109 #[.agg #[.int .i64 n.id, .int .i64 n.parent, .string (bs n.name)]] w fun e w' => e = .returned (.bool (placeB n)) ∧ Below w.heap.size w w' := by
  have HP : Hid (placeB n = if n.parent = 100 then n.name == [45] else (n.parent % 2 == 0 && isName n.name n.id)) := hide rfl
  have HD := hide (dash_eq n.name)
  have HNM := hide (fun W => isName_any (bs n.name) n.id W (by rw [bs_size]; exact hs) h0 h1)
  rw [sl_bs] at HNM
  have HFO := hide (fun W => isFolder_any n.parent W h2 (by omega))
  generalize isName n.name n.id = r at *
  by_cases hp : n.parent = 100
  · have hpe : (n.parent == 100) = true := by simpa using hp
    have HPP := hide hp; clear hp
    have hd := unhide HD
    go_enter Tryz.func109, Tryz.ntmps109
    go_wp2
    go_ret
    exact ⟨ret_bool (by rw [unhide HP, if_pos (unhide HPP)]; try rw [tl_sl, sl_bs]), (Below.refl _ _).alloc (Nat.le_refl _) _⟩
  · have hpe : (n.parent == 100) = false := by simpa using hp
    have HPP := hide hp; clear hp
    cases he : (n.parent % 2 == 0)
    · have HPF : Hid (placeB n = false) := by apply hide; rw [unhide HP, if_neg (unhide HPP), he]; rfl
      rw [he] at HFO
      clear he
      go_enter Tryz.func109, Tryz.ntmps109
      go_wp2_with (go_at_call 124; refine (unhide HFO _).mono ?_; rintro e w' ⟨rfl, rfl⟩)
      go_ret
      exact ⟨ret_bool (unhide HPF).symm, (Below.refl _ _).alloc (Nat.le_refl _) _⟩
    · have HPF : Hid (placeB n = r) := by apply hide; rw [unhide HP, if_neg (unhide HPP), he]; rfl
      rw [he] at HFO
      clear he
      go_enter Tryz.func109, Tryz.ntmps109
      go_wp2_with (first | (go_at_call 124; refine (unhide HFO _).mono ?_; rintro e w' ⟨rfl, rfl⟩) | (go_at_call 115; refine (unhide HNM _).mono ?_; rintro e w' ⟨rfl, nd, rfl⟩))
      go_ret
      exact ⟨ret_bool (unhide HPF).symm, below_drewN ((Below.refl _ _).alloc (Nat.le_refl _) _) _⟩
/-- What readOp answers: where it is none the op does not matter. -/
def OpRes (r : Option Lo) (e : Ending) : Prop := ∃ (a b c d : Int) (z : ByteArray), e = .returned (.tuple #[.agg #[.int .i64 a, .int .i64 b, .int .i64 c, .int .i64 d, .string z], .bool r.isSome]) ∧ ∀ x, r = some x → a = x.count ∧ b = x.site ∧ c = x.node.id ∧ d = x.node.parent ∧ z = bs x.node.name
theorem opRes_none : OpRes none (.returned (.tuple #[.agg #[.int .i64 0, .int .i64 0, .int .i64 0, .int .i64 0, .string ByteArray.empty], .bool false])) := ⟨0, 0, 0, 0, ByteArray.empty, rfl, fun x h => by cases h⟩
theorem readOp_open {r : Str} (h : bodyB r = false) : readOp r = none := by unfold readOp; rw [h]; rfl
theorem readOp_short {r : Str} (h : (parts (bodyS r)).length ≠ 5) : readOp r = none := by unfold readOp; rw [opOf_other h]; split <;> rfl
theorem readOp_five {r a b c d e : Str} (h : bodyB r = true) (h5 : parts (bodyS r) = [a, b, c, d, e]) : readOp r = opOf5 a b c d e := by unfold readOp; rw [h, h5]; rfl
set_option maxHeartbeats 2000000 in
theorem readOp_no (s : ByteArray) (w : World) (hs : s.size ≤ 4000) (hn : bodyB (sl s) = false ∨ (bodyB (sl s) = true ∧ (parts (bodyS (sl s))).length ≠ 5)) :
    Calls Tryz.prog 79 #[.string s] w fun e w' => OpRes (readOp (sl s)) e ∧ Below w.heap.size w w' := by
  have HR : Hid (readOp (sl s) = none) := by
    apply hide; rcases hn with h | ⟨_, h⟩
    · exact readOp_open h
    · exact readOp_short h
  rw [unhide HR]
  clear HR
  have hlb : (bs (bodyS (sl s))).size ≤ 4000 := by rw [bs_size]; have := bodyS_len (sl s); rw [sl_length] at this; omega
  have HBO := hide (fun W => body_any s W hs)
  have HP := hide (fun W => parts_any (bs (bodyS (sl s))) W hlb)
  rw [sl_bs] at HP
  have hne : bodyB (sl s) = false ∨ (bodyB (sl s) = true ∧ (((parts (bodyS (sl s))).length : Int) != 5) = true) := by
    rcases hn with h | ⟨h, g⟩
    · exact .inl h
    · exact .inr ⟨h, by rw [bne_iff_ne]; omega⟩
  clear hn
  generalize bodyB (sl s) = bb at *
  generalize (parts (bodyS (sl s))).length = n at *
  generalize bodyS (sl s) = body at *
  rcases hne with rfl | ⟨rfl, hne⟩
  all_goals
    go_enter Tryz.func79, Tryz.ntmps79
    go_wp2_with fail
    refine (unhide HBO _).mono ?_
    rintro e w1 ⟨rfl, rfl⟩
    go_wp2_with fail
    refine (unhide HP _).mono ?_
    rintro e w1 ⟨ao, cap, rfl, hrow, hbel⟩
    clear hrow
    obtain ⟨hc, hf⟩ := bcell hbel
    have hz : w.heap.size + 1 ≤ w1.heap.size := by have := hbel.size; simp at this; omega
    have HB0 : Hid (Below w.heap.size w w1) := hide (((Below.refl _ _).alloc (Nat.le_refl _) _).trans (hbel.mono (by simp)))
    go_wp2
    refine bodyPost_ret (v := .tuple #[.agg #[.int .i64 0, .int .i64 0, .int .i64 0, .int .i64 0, .string ByteArray.empty], .bool false]) (by simp [results, Tryz.results79, go_sem, hc]; rfl) rfl ⟨opRes_none, ?_⟩
    exact (((((unhide HB0).setCell (by simp) _).setCell (by simp) _).setCell (by simp) _).setCell (by simp) _).setCell (by simp) _
end Go.Proofs.YtkjancfakplogaaGreatDoor
