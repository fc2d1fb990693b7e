import Derived.WalkKit
import Derived.Test.YtdcjimlhaklhfabGreatDoorRows
import Derived.WalkSpells
import Derived.WalkLawsBesides
import Derived.Deep.AppendLies
import Derived.Deep.QuietTactic
import Derived.BigQuiet
import Derived.WalkSmall
namespace Go.Proofs.YtdcjimlhaklhfabGreatDoor
open Go.RowKit
theorem hide {p : Prop} (h : p) : Hid p := h
theorem unhide {p : Prop} (h : Hid p) : p := h
abbrev Str := List UInt8
def bs (l : Str) : ByteArray := ⟨l.toArray⟩
def sl (s : ByteArray) : Str := s.data.toList
theorem sl_bs (l : Str) : sl (bs l) = l := by simp [sl, bs]
theorem bs_sl (s : ByteArray) : bs (sl s) = s := by simp [sl, bs]
theorem bs_size (l : Str) : (bs l).size = l.length := by simp [bs, ByteArray.size]
theorem sl_length (s : ByteArray) : (sl s).length = s.size := Array.length_toList
theorem sl_get (s : ByteArray) (k : Nat) (h : k < s.size) : (sl s)[k]'(by rw [sl_length]; exact h) = s[k] := rfl
theorem bs_inj {a b : Str} (h : bs a = bs b) : a = b := by have := congrArg sl h; rwa [sl_bs, sl_bs] at this
theorem bs_extract (s : ByteArray) (a b : Nat) : s.extract a b = bs (((sl s).take b).drop a) := by
  apply ByteArray.ext; apply Array.ext'; simp [bs, sl, ByteArray.data_extract, List.drop_take, List.extract_eq_take_drop]
theorem take_snoc (s : ByteArray) (k : Nat) (h : k < s.size) : (sl s).take (k + 1) = (sl s).take k ++ [s[k]] := by
  rw [List.take_succ_eq_append_getElem (by rw [sl_length]; exact h)]; rfl
theorem drop_cons (s : ByteArray) (k : Nat) (h : k < s.size) : (sl s).drop k = s[k] :: (sl s).drop (k + 1) := by
  rw [List.drop_eq_getElem_cons (by rw [sl_length]; exact h)]; rfl
theorem ret_bool {a b : Bool} (h : a = b) : Ending.returned (.bool a) = .returned (.bool b) := by rw [h]
theorem ret_int {k : IntKind} {a b : Int} (h : a = b) : Ending.returned (.int k a) = .returned (.int k b) := by rw [h]
theorem ret_str {a b : ByteArray} (h : a = b) : Ending.returned (.string a) = .returned (.string b) := by rw [h]

/-- A byte that a name's plain part may have. -/
def plainB (c : UInt8) : Bool := (decide (97 ≤ c.toNat) && decide (c.toNat ≤ 122)) || (decide (48 ≤ c.toNat) && decide (c.toNat ≤ 57)) || c.toNat == 46
def plainLen (l : Str) : Nat := (l.takeWhile plainB).length
theorem plainLen_le (l : Str) : plainLen l ≤ l.length := (List.takeWhile_sublist _).length_le
theorem plainLen_go (l : Str) : ∀ k, k ≤ l.length → (l.take k).all plainB = true → plainLen l = k + plainLen (l.drop k) := by
  induction l with
  | nil => intro k hk _; simp at hk; subst hk; simp
  | cons c r ih =>
    intro k hk ha
    cases k with
    | zero => simp
    | succ k =>
      simp at hk ha
      have := ih k hk (by simpa using ha.2)
      simp [plainLen, ha.1] at *
      omega
theorem plainLen_stop (l : Str) (k : Nat) (hk : k ≤ l.length) (ha : (l.take k).all plainB = true) (hs : ∀ c r, l.drop k = c :: r → plainB c = false) : plainLen l = k := by
  rw [plainLen_go l k hk ha]
  cases h : l.drop k with
  | nil => simp [plainLen]
  | cons c r => simp [plainLen, hs c r h]

/-- What stands ahead of a record's semicolon. -/
def bodyB (l : Str) : Bool := l.getLast? == some 59
def bodyS (l : Str) : Str := if bodyB l then l.dropLast else []
theorem getLast_at (s : ByteArray) (h : 0 < s.size) : (sl s).getLast? = some s[s.size - 1] := by
  rw [List.getLast?_eq_getElem?, sl_length, List.getElem?_eq_getElem (by rw [sl_length]; omega)]; rfl
theorem bodyB_at (s : ByteArray) (h : 0 < s.size) : bodyB (sl s) = (s[s.size - 1] == 59) := by
  unfold bodyB; rw [getLast_at s h]; rfl
theorem bodyB_nil (s : ByteArray) (h : s.size = 0) : bodyB (sl s) = false := by
  have : sl s = [] := List.length_eq_zero_iff.1 (by rw [sl_length]; exact h)
  simp [bodyB, this]
theorem dropLast_ext (s : ByteArray) : s.extract 0 (s.size - 1) = bs (sl s).dropLast := by
  rw [bs_extract, List.dropLast_eq_take, sl_length]; rfl
theorem ret_sb {a b : ByteArray} {x y : Bool} (h : a = b) (g : x = y) : Ending.returned (.tuple #[.string a, .bool x]) = .returned (.tuple #[.string b, .bool y]) := by rw [h, g]
theorem ret_ib {a b : Int} {x y : Bool} (h : a = b) (g : x = y) : Ending.returned (.tuple #[.int .i64 a, .bool x]) = .returned (.tuple #[.int .i64 b, .bool y]) := by rw [h, g]

/-- A number, digit by digit. -/
def numGo (most : Int) : Int → Str → Option Int
  | n, [] => some n
  | n, c :: r => if 48 ≤ c.toNat ∧ c.toNat ≤ 57 then (if n * 10 + (c.toNat - 48) > most then none else numGo most (n * 10 + (c.toNat - 48)) r) else none
def numBad (l : Str) : Bool := l.isEmpty || (l.headD 0 == 48 && decide (1 < l.length))
def number (l : Str) (least most : Int) : Int × Bool :=
  if numBad l then (0, false) else match numGo most 0 l with
    | none => (0, false)
    | some n => (n, decide (least ≤ n))

theorem numGo_cons {most n : Int} {c : UInt8} {r : Str} (h1 : 48 ≤ c.toNat) (h2 : c.toNat ≤ 57) (h3 : ¬ n * 10 + (c.toNat - 48) > most) : numGo most n (c :: r) = numGo most (n * 10 + (c.toNat - 48)) r := by
  rw [numGo, if_pos ⟨h1, h2⟩, if_neg h3]
theorem numGo_big {most n : Int} {c : UInt8} {r : Str} (h3 : n * 10 + (c.toNat - 48) > most) : numGo most n (c :: r) = none := by
  rw [numGo, if_pos h3]; split <;> rfl
theorem numGo_no {most n : Int} {c : UInt8} {r : Str} (h : ¬ (48 ≤ c.toNat ∧ c.toNat ≤ 57)) : numGo most n (c :: r) = none := by
  rw [numGo, if_neg h]
theorem number_none {l : Str} {a b : Int} (h : numGo b 0 l = none) : number l a b = (0, false) := by unfold number; rw [h]; split <;> rfl
theorem number_some {l : Str} {a b n : Int} (g : numBad l = false) (h : numGo b 0 l = some n) : number l a b = (n, decide (a ≤ n)) := by unfold number; rw [h, g]; rfl
theorem number_bad {l : Str} {a b : Int} (g : numBad l = true) : number l a b = (0, false) := by unfold number; rw [g]; rfl

theorem tl_sl (s : ByteArray) : s.toList = sl s := ByteArray.toList_eq s
theorem numBad_empty (s : ByteArray) (h : s.size = 0) : numBad (sl s) = true := by
  have : sl s = [] := List.length_eq_zero_iff.1 (by rw [sl_length]; exact h)
  simp [numBad, this]
theorem headD_at (s : ByteArray) (h : 0 < s.size) : (sl s).headD 0 = s[0] := by
  have := drop_cons s 0 h; simp at this; rw [this]; rfl
theorem numBad_zero (s : ByteArray) (h : 1 < s.size) (h48 : s[0].toNat = 48) : numBad (sl s) = true := by
  unfold numBad; rw [headD_at s (by omega), sl_length, UInt8.toNat_inj.1 (by simpa using h48 : s[0].toNat = (48 : UInt8).toNat)]; simp [h]
theorem numBad_not (s : ByteArray) (h : 0 < s.size) (h48 : ¬ (s[0].toNat = 48 ∧ 1 < s.size)) : numBad (sl s) = false := by
  unfold numBad; rw [headD_at s (by omega), sl_length]
  have h1 : (sl s).isEmpty = false := by
    rw [List.isEmpty_eq_false_iff]; intro e; have := congrArg List.length e; rw [sl_length] at this; simp only [List.length_nil] at this; omega
  rw [h1, Bool.false_or, Bool.and_eq_false_iff]
  by_cases e : s[0] = 48
  · right; rw [e] at h48; simp at h48 ⊢; omega
  · left; simpa using e
theorem ne_nil_at (s : ByteArray) (h : 0 < s.size) : ¬ s.toList = [] := by
  rw [tl_sl]; intro e; have := congrArg List.length e; rw [sl_length] at this; simp only [List.length_nil] at this; omega
theorem nil_at (s : ByteArray) (h : s.size = 0) : s.toList = [] := by
  rw [tl_sl]; exact List.length_eq_zero_iff.1 (by rw [sl_length]; exact h)

/-- A small number in digits. -/
def digs (n : Int) : Str := if n < 10 then [UInt8.ofNat (48 + n.toNat)] else [UInt8.ofNat (48 + n.toNat / 10), UInt8.ofNat (48 + n.toNat % 10)]

theorem digs_len (n : Int) : 1 ≤ (digs n).length ∧ (digs n).length ≤ 2 := by unfold digs; split <;> simp
def isName (l : Str) (id : Int) : Bool :=
  decide (1 ≤ plainLen l) && decide (plainLen l ≤ 8) && (plainLen l == l.length || l.drop (plainLen l) == 126 :: digs id)

/-- Cut: the records. -/
def cutStep (p : List Str × Str) (c : UInt8) : List Str × Str := if c = 59 then (p.1 ++ [p.2 ++ [c]], []) else (p.1, p.2 ++ [c])
def cutTo (l : Str) : List Str × Str := l.foldl cutStep ([], [])
def cut (l : Str) : List Str := if (cutTo l).2 = [] then (cutTo l).1 else (cutTo l).1 ++ [(cutTo l).2]
/-- Parts: at every blank. -/
def partStep (p : List Str × Str) (c : UInt8) : List Str × Str := if c = 32 then (p.1 ++ [p.2], []) else (p.1, p.2 ++ [c])
def partTo (l : Str) : List Str × Str := l.foldl partStep ([], [])
def parts (l : Str) : List Str := (partTo l).1 ++ [(partTo l).2]
theorem cutTo_snoc (l : Str) (c : UInt8) : cutTo (l ++ [c]) = cutStep (cutTo l) c := by simp [cutTo, List.foldl_append]
theorem partTo_snoc (l : Str) (c : UInt8) : partTo (l ++ [c]) = partStep (partTo l) c := by simp [partTo, List.foldl_append]
theorem snoc_ind {P : Str → Prop} (h0 : P []) (hs : ∀ l c, P l → P (l ++ [c])) : ∀ l, P l := by
  intro l
  have : ∀ n (l : Str), l.length = n → P l := by
    intro n
    induction n with
    | zero => intro l hl; rw [List.length_eq_zero_iff.1 hl]; exact h0
    | succ n ih =>
      intro l hl
      have hne : l ≠ [] := by intro h; simp [h] at hl
      rw [← List.dropLast_concat_getLast hne]
      exact hs _ _ (ih _ (by simp; omega))
  exact this _ l rfl
theorem cutTo_suf (l : Str) : ∃ a, l = a ++ (cutTo l).2 := by
  refine snoc_ind (P := fun l => ∃ a, l = a ++ (cutTo l).2) ⟨[], rfl⟩ ?_ l
  rintro l c ⟨a, ha⟩
  rw [cutTo_snoc]; unfold cutStep
  split
  · exact ⟨l ++ [c], by simp⟩
  · refine ⟨a, ?_⟩
    conv => lhs; rw [ha]
    simp
theorem partTo_suf (l : Str) : ∃ a, l = a ++ (partTo l).2 := by
  refine snoc_ind (P := fun l => ∃ a, l = a ++ (partTo l).2) ⟨[], rfl⟩ ?_ l
  rintro l c ⟨a, ha⟩
  rw [partTo_snoc]; unfold partStep
  split
  · exact ⟨l ++ [c], by simp⟩
  · refine ⟨a, ?_⟩
    conv => lhs; rw [ha]
    simp
theorem suf_drop {l a b : Str} (h : l = a ++ b) : b = l.drop (l.length - b.length) ∧ b.length ≤ l.length := by
  subst h; simp
theorem cutTo_len (l : Str) : (cutTo l).1.length + (cutTo l).2.length ≤ l.length := by
  refine snoc_ind (P := fun l => (cutTo l).1.length + (cutTo l).2.length ≤ l.length) (by simp [cutTo]) ?_ l
  intro l c h
  rw [cutTo_snoc]; unfold cutStep; split <;> simp <;> omega
theorem partTo_len (l : Str) : (partTo l).1.length + (partTo l).2.length ≤ l.length := by
  refine snoc_ind (P := fun l => (partTo l).1.length + (partTo l).2.length ≤ l.length) (by simp [partTo]) ?_ l
  intro l c h
  rw [partTo_snoc]; unfold partStep; split <;> simp <;> omega
end Go.Proofs.YtdcjimlhaklhfabGreatDoor

namespace Go.Proofs.YtdcjimlhaklhfabGreatDoor
open Go.RowKit
set_option maxHeartbeats 400000 in
theorem isPlain_any (c : UInt8) (w : World) :
    Calls Tryz.prog 156 #[.int .u8 c.toNat] w fun e w' => e = .returned (.bool (plainB c)) ∧ w' = w := by
  go_enter Tryz.func156, Tryz.ntmps156
  go_wp2
  all_goals
    go_ret
    refine ⟨ret_bool ?_, rfl⟩
    rw [Bool.eq_iff_iff]; simp [plainB]; omega
set_option maxHeartbeats 400000 in
theorem isFolder_any (n : Int) (w : World) (h0 : 0 ≤ n) (h1 : n ≤ 1000) :
    Calls Tryz.prog 126 #[.int .i64 n] w fun e w' => e = .returned (.bool (n % 2 == 0)) ∧ w' = w := by
  go_enter Tryz.func126, Tryz.ntmps126
  go_wp2
  all_goals
    go_ret
    exact ⟨rfl, rfl⟩
set_option maxHeartbeats 400000 in
theorem plainBytes_any (s : ByteArray) (w : World) (hs : s.size ≤ 4000) :
    Calls Tryz.prog 143 #[.string s] w fun e w' => e = .returned (.int .i64 (plainLen (sl s))) ∧ w' = w := by
  go_enter Tryz.func143, Tryz.ntmps143
  go_wp2
  go_loop [3] (fun i => ∃ k : Nat, k ≤ s.size ∧ i = .int .i64 k ∧ ((sl s).take k).all plainB = true) (fun i => s.size - (intOf i).toNat)
  case atStart => exact ⟨0, Nat.zero_le _, rfl, by simp⟩
  case round =>
    obtain ⟨k, hk, rfl, ha⟩ := hrel
    by_cases hlt : k < s.size
    · cases hp : plainB s[k]
      · have HP := hide hp; clear hp
        have HA := hide ha; clear ha
        go_wp2_with (go_at_call 156; refine (isPlain_any _ _).mono ?_; rintro e w' ⟨rfl, rfl⟩; rw [unhide HP])
        go_ret
        refine ⟨ret_int ?_, rfl⟩
        rw [plainLen_stop (sl s) k (by rw [sl_length]; omega) (unhide HA) (fun c r h => by rw [drop_cons s k hlt] at h; cases h; exact unhide HP)]
      · have HP := hide hp; clear hp
        have HA := hide ha; clear ha
        go_wp2_with (go_at_call 156; refine (isPlain_any _ _).mono ?_; rintro e w' ⟨rfl, rfl⟩; rw [unhide HP])
        go_round
        case rel => exact ⟨k + 1, by omega, by go_num, by rw [take_snoc s k hlt]; simp [unhide HP]; simpa using unhide HA⟩
        case measure => simp [intOf]; omega
    · have HA := hide ha; clear ha
      go_wp2
      go_ret
      refine ⟨ret_int ?_, rfl⟩
      rw [plainLen_stop (sl s) k (by rw [sl_length]; omega) (unhide HA) (fun c r h => by rw [List.drop_eq_nil_of_le (by rw [sl_length]; omega)] at h; cases h)]
set_option maxHeartbeats 400000 in
theorem body_any (s : ByteArray) (w : World) (hs : s.size ≤ 4000) :
    Calls Tryz.prog 91 #[.string s] w fun e w' => e = .returned (.tuple #[.string (bs (bodyS (sl s))), .bool (bodyB (sl s))]) ∧ w' = w := by
  by_cases h0 : 0 < s.size
  · have HB := hide (bodyB_at s h0)
    by_cases hc : s[s.size - 1] = 59
    · go_enter Tryz.func91, Tryz.ntmps91
      go_wp2
      go_ret2
      have h := unhide HB; rw [hc] at h
      exact ⟨ret_sb (by rw [bodyS, h]; exact dropLast_ext s) (by rw [h]; rfl), rfl⟩
    · have hc' : (((s[s.size - 1]).toNat : Int) != 59) = true := by
        rw [bne_iff_ne]; intro h; exact hc (UInt8.toNat_inj.1 (by simpa using (by omega : (s[s.size - 1]).toNat = 59)))
      have HC := hide hc; clear hc
      go_enter Tryz.func91, Tryz.ntmps91
      go_wp2
      go_ret2
      have h := unhide HB
      have h' : bodyB (sl s) = false := by rw [h]; exact beq_eq_false_iff_ne.2 (unhide HC)
      exact ⟨ret_sb (by rw [bodyS, h']; rfl) (by rw [h']), rfl⟩
  · have hz : s.size = 0 := by omega
    have HB := hide (bodyB_nil s hz)
    go_enter Tryz.func91, Tryz.ntmps91
    go_wp2
    go_ret2
    exact ⟨ret_sb (by rw [bodyS, unhide HB]; rfl) (by rw [unhide HB]), rfl⟩
theorem ret_num {l : Str} {a b x : Int} {y : Bool} (h : number l a b = (x, y)) : Ending.returned (.tuple #[.int .i64 x, .bool y]) = .returned (.tuple #[.int .i64 (number l a b).1, .bool (number l a b).2]) := by rw [h]
set_option maxHeartbeats 1000000 in
theorem number_loop (s : ByteArray) (a b : Int) (w : World) (hs : s.size ≤ 4000) (hb : 0 ≤ b) (hb' : b ≤ 100000) (h0 : 0 < s.size) (h48 : ¬ (s[0].toNat = 48 ∧ 1 < s.size)) :
    Calls Tryz.prog 93 #[.string s, .int .i64 a, .int .i64 b] w fun e w' => e = .returned (.tuple #[.int .i64 (number (sl s) a b).1, .bool (number (sl s) a b).2]) ∧ w' = w := by
  have HB := hide (numBad_not s h0 h48)
  have hne := ne_nil_at s h0
  have hne2 : s.toList.isEmpty = false := by rw [List.isEmpty_eq_false_iff]; exact hne
  have hz : (0 : Int) < s.size := by omega
  have key : (((s[0].toNat : Int) == 48) = true ∧ (s.size : Int) ≤ 1) ∨ ((s[0].toNat : Int) == 48) = false := by
    by_cases e : s[0].toNat = 48
    · left; exact ⟨by rw [beq_iff_eq]; omega, by omega⟩
    · right; rw [beq_eq_false_iff_ne]; omega
  clear h48
  rcases key with ⟨e48, e1⟩ | e48
  all_goals
    go_enter Tryz.func93, Tryz.ntmps93
    go_wp2
    go_loop [8, 9] (fun n i => ∃ k : Nat, ∃ m : Int, k ≤ s.size ∧ i = .int .i64 k ∧ n = .int .i64 m ∧ 0 ≤ m ∧ m ≤ b ∧ Hid (numGo b 0 (sl s) = numGo b m ((sl s).drop k))) (fun _ i => s.size - (intOf i).toNat)
    case atStart => exact ⟨0, 0, Nat.zero_le _, rfl, rfl, by omega, hb, hide (by simp)⟩
    case round =>
      obtain ⟨k, m, hk, rfl, rfl, hm0, hmb, HG⟩ := hrel
      by_cases hlt : k < s.size
      · have HD := hide (drop_cons s k hlt)
        clear e48 hne hne2
        by_cases hd : 48 ≤ s[k].toNat ∧ s[k].toNat ≤ 57
        · obtain ⟨hd1, hd2⟩ := hd
          by_cases hbig : m * 10 + ((s[k].toNat : Int) - 48) > b
          · have HF : Hid (number (sl s) a b = (0, false)) := by
              apply hide; apply number_none; rw [unhide HG, unhide HD]; exact numGo_big hbig
            go_wp2
            go_ret2
            exact ⟨ret_num (unhide HF), rfl⟩
          · have HF : Hid (numGo b 0 (sl s) = numGo b (m * 10 + ((s[k].toNat : Int) - 48)) ((sl s).drop (k + 1))) := by
              apply hide; rw [unhide HG, unhide HD]; exact numGo_cons hd1 hd2 hbig
            go_wp2
            go_round
            case rel => exact ⟨k + 1, m * 10 + ((s[k].toNat : Int) - 48), by omega, by go_num, by go_num, by omega, by omega, HF⟩
            case measure => simp [intOf]; omega
        · have HF : Hid (number (sl s) a b = (0, false)) := by
            apply hide; apply number_none; rw [unhide HG, unhide HD]; exact numGo_no hd
          have hd' : s[k].toNat < 48 ∨ 57 < s[k].toNat := by omega
          clear hd
          rcases hd' with hd | hd
          all_goals
            go_wp2
            go_ret2
            exact ⟨ret_num (unhide HF), rfl⟩
      · have HF : Hid (number (sl s) a b = (m, decide (a ≤ m))) := by
          apply hide; apply number_some (unhide HB); rw [unhide HG, List.drop_eq_nil_of_le (by rw [sl_length]; omega)]; rfl
        go_wp2
        go_ret2
        exact ⟨ret_num (unhide HF), rfl⟩
set_option maxHeartbeats 1000000 in
theorem number_any (s : ByteArray) (a b : Int) (w : World) (hs : s.size ≤ 4000) (hb : 0 ≤ b) (hb' : b ≤ 100000) :
    Calls Tryz.prog 93 #[.string s, .int .i64 a, .int .i64 b] w fun e w' => e = .returned (.tuple #[.int .i64 (number (sl s) a b).1, .bool (number (sl s) a b).2]) ∧ w' = w := by
  by_cases h0 : 0 < s.size
  · by_cases h48 : s[0].toNat = 48 ∧ 1 < s.size
    · have HB := hide (numBad_zero s h48.2 h48.1)
      have hne := ne_nil_at s h0
      have hne2 : s.toList.isEmpty = false := by rw [List.isEmpty_eq_false_iff]; exact hne
      have e48 : ((s[0].toNat : Int) == 48) = true := by rw [beq_iff_eq]; omega
      have h1 : (1 : Int) < s.size := by omega
      clear h48
      go_enter Tryz.func93, Tryz.ntmps93
      go_wp2
      go_ret2
      exact ⟨ret_num (number_bad (unhide HB)), rfl⟩
    · exact number_loop s a b w hs hb hb' h0 h48
  · have HB := hide (numBad_empty s (by omega))
    have hne := nil_at s (by omega)
    go_enter Tryz.func93, Tryz.ntmps93
    go_wp2
    go_ret2
    exact ⟨ret_num (number_bad (unhide HB)), rfl⟩
end Go.Proofs.YtdcjimlhaklhfabGreatDoor

namespace Go.Proofs.YtdcjimlhaklhfabGreatDoor
open Go.RowKit
theorem small_one (m : Nat) (h : m < 10) : (ByteArray.mk #[48, 49, 50, 51, 52, 53, 54, 55, 56, 57, 97, 98, 99, 100, 101, 102, 103, 104, 105, 106, 107, 108, 109, 110, 111, 112, 113, 114, 115, 116, 117, 118, 119, 120, 121, 122]).extract m (m + 1) = bs (digs m) := by
  have : ∀ m, m < 10 → (ByteArray.mk #[48, 49, 50, 51, 52, 53, 54, 55, 56, 57, 97, 98, 99, 100, 101, 102, 103, 104, 105, 106, 107, 108, 109, 110, 111, 112, 113, 114, 115, 116, 117, 118, 119, 120, 121, 122]).extract m (m + 1) = bs (digs m) := by decide +kernel
  exact this m h
theorem small_two (m : Nat) (h0 : 10 ≤ m) (h : m ≤ 99) : (ByteArray.mk #[48, 48, 48, 49, 48, 50, 48, 51, 48, 52, 48, 53, 48, 54, 48, 55, 48, 56, 48, 57, 49, 48, 49, 49, 49, 50, 49, 51, 49, 52, 49, 53, 49, 54, 49, 55, 49, 56, 49, 57, 50, 48, 50, 49, 50, 50, 50, 51, 50, 52, 50, 53, 50, 54, 50, 55, 50, 56, 50, 57, 51, 48, 51, 49, 51, 50, 51, 51, 51, 52, 51, 53, 51, 54, 51, 55, 51, 56, 51, 57, 52, 48, 52, 49, 52, 50, 52, 51, 52, 52, 52, 53, 52, 54, 52, 55, 52, 56, 52, 57, 53, 48, 53, 49, 53, 50, 53, 51, 53, 52, 53, 53, 53, 54, 53, 55, 53, 56, 53, 57, 54, 48, 54, 49, 54, 50, 54, 51, 54, 52, 54, 53, 54, 54, 54, 55, 54, 56, 54, 57, 55, 48, 55, 49, 55, 50, 55, 51, 55, 52, 55, 53, 55, 54, 55, 55, 55, 56, 55, 57, 56, 48, 56, 49, 56, 50, 56, 51, 56, 52, 56, 53, 56, 54, 56, 55, 56, 56, 56, 57, 57, 48, 57, 49, 57, 50, 57, 51, 57, 52, 57, 53, 57, 54, 57, 55, 57, 56, 57, 57]).extract (m * 2) (m * 2 + 2) = bs (digs m) := by
  have : ∀ m, m < 100 → 10 ≤ m → (ByteArray.mk #[48, 48, 48, 49, 48, 50, 48, 51, 48, 52, 48, 53, 48, 54, 48, 55, 48, 56, 48, 57, 49, 48, 49, 49, 49, 50, 49, 51, 49, 52, 49, 53, 49, 54, 49, 55, 49, 56, 49, 57, 50, 48, 50, 49, 50, 50, 50, 51, 50, 52, 50, 53, 50, 54, 50, 55, 50, 56, 50, 57, 51, 48, 51, 49, 51, 50, 51, 51, 51, 52, 51, 53, 51, 54, 51, 55, 51, 56, 51, 57, 52, 48, 52, 49, 52, 50, 52, 51, 52, 52, 52, 53, 52, 54, 52, 55, 52, 56, 52, 57, 53, 48, 53, 49, 53, 50, 53, 51, 53, 52, 53, 53, 53, 54, 53, 55, 53, 56, 53, 57, 54, 48, 54, 49, 54, 50, 54, 51, 54, 52, 54, 53, 54, 54, 54, 55, 54, 56, 54, 57, 55, 48, 55, 49, 55, 50, 55, 51, 55, 52, 55, 53, 55, 54, 55, 55, 55, 56, 55, 57, 56, 48, 56, 49, 56, 50, 56, 51, 56, 52, 56, 53, 56, 54, 56, 55, 56, 56, 56, 57, 57, 48, 57, 49, 57, 50, 57, 51, 57, 52, 57, 53, 57, 54, 57, 55, 57, 56, 57, 57]).extract (m * 2) (m * 2 + 2) = bs (digs m) := by decide +kernel
  exact this m (by omega) h0
set_option maxRecDepth 100000 in
set_option maxHeartbeats 400000 in
theorem small_any (m : Nat) (w : World) (h1 : m ≤ 99) :
    Calls Tryz.prog 157 #[.int .i64 m] w fun e w' => e = .returned (.string (bs (digs m))) ∧ w' = w := by
  by_cases h : m < 10
  · go_enter Tryz.func157, Tryz.ntmps157
    go_wp2
    go_ret
    exact ⟨ret_str (small_one m h), rfl⟩
  · go_enter Tryz.func157, Tryz.ntmps157
    go_wp2
    go_ret
    exact ⟨ret_str (small_two m (by omega) h1), rfl⟩
set_option maxHeartbeats 400000 in
theorem itoa_nat (m : Nat) (w : World) (h1 : m ≤ 99) :
    Calls Tryz.prog 100 #[.int .i64 m] w fun e w' => e = .returned (.string (bs (digs m))) ∧ w' = w := by
  go_enter Tryz.func100, Tryz.ntmps100
  go_wp2_with (first | (go_at_call 157; refine (small_any _ _ h1).mono ?_; rintro e w' ⟨rfl, rfl⟩) | go_in)
  go_ret
  exact ⟨rfl, rfl⟩
theorem itoa_any (n : Int) (w : World) (h0 : 0 ≤ n) (h1 : n ≤ 99) :
    Calls Tryz.prog 100 #[.int .i64 n] w fun e w' => e = .returned (.string (bs (digs n))) ∧ w' = w := by
  obtain ⟨m, rfl⟩ := Int.eq_ofNat_of_zero_le h0
  exact itoa_nat m w (by omega)

/-! Rows of cells. -/
def Row (w : World) (ao : Option Addr) (n size : Nat) (xs : List Value) : Prop :=
  xs.length = n * size ∧ (0 < n → ∃ g, ao = some ⟨g, 0, none⟩ ∧ g < w.heap.size ∧ ∀ j u, xs[j]? = some u → w.cell? ⟨g, j, none⟩ = some u)
theorem row_of_owns {w : World} {base : Nat} {e : TypeId} {size : Nat} {v : Value} {n : Nat} {xs : List Value} (h : w.ownsRow base e size v n xs) : ∃ ao cap, v = .slice ao n cap ∧ Row w ao n size xs := by
  obtain ⟨h1, h2⟩ := h
  rcases h2 with ⟨rfl, rfl⟩ | ⟨g, cap, cur, rfl, hb, hg, hn, _, hs, ht⟩
  · exact ⟨none, 0, rfl, h1, fun h => by omega⟩
  · refine ⟨_, cap, rfl, h1, fun _ => ⟨g, rfl, lt_of_block hg, fun j u hu => ?_⟩⟩
    rw [cell_of_row w g j cur e (0, 0) hg]
    rw [← ht, List.getElem?_take] at hu
    split at hu
    · simpa using hu
    · cases hu
theorem own_ge {w : World} {base : Nat} {e : TypeId} {size : Nat} {v : Value} {n : Nat} {xs : List Value} (h : w.ownsRow base e size v n xs) : ∀ k, v.ownBlock = some k → base ≤ k := by
  intro k hk
  rcases h.2 with ⟨rfl, rfl⟩ | ⟨g, cap, cur, rfl, hb, _⟩
  · simp [Value.ownBlock] at hk
  · simp [Value.ownBlock] at hk; omega
theorem Row.below {w w' : World} {ao : Option Addr} {n size : Nat} {xs : List Value} (h : Row w ao n size xs) (hb : Below w.heap.size w w') : Row w' ao n size xs := by
  refine ⟨h.1, fun hn => ?_⟩
  obtain ⟨g, hg, hlt, hc⟩ := h.2 hn
  exact ⟨g, hg, by have := hb.size; omega, fun j u hu => by rw [hb.cell (p := ⟨g, j, none⟩) hlt]; exact hc j u hu⟩
theorem below_app {B : Nat} {w wr w1 : World} {e : TypeId} {size : Nat} {v : Value} {n : Nat} {xs : List Value} {o : Obj} (hb : Below B w wr) (hB : B ≤ wr.heap.size) (hown : wr.ownsRow B e size v n xs) (hg : (wr.alloc o).grownBy w1 v.ownBlock) : Below B w w1 :=
  (hb.alloc hB o).grown hg (by simp; omega) (own_ge hown)
theorem news_one {w : World} (u : Value) (t : TypeId) : ∀ j x, [u][j]? = some x → (w.alloc (.cells #[u] t)).cell? ((⟨w.heap.size, 0, none⟩ : Addr).add j) = some x := by
  intro j x hx
  exact World.news_of_block (cs := #[u]) (heap_alloc_new w _) j x hx

def strV (l : Str) : Value := .string (bs l)
theorem Tryz.infoStr : (Tryz.prog.info? 9).map (fun i => (i.zero, i.size, i.bytes)) = some (some (.string ByteArray.empty), 1, 16) := by kernel_rfl

/-! Cut. -/
def CutInv (s : ByteArray) (k st n : Nat) (xs : List Value) : Prop :=
  n = (cutTo ((sl s).take k)).1.length ∧ xs = (cutTo ((sl s).take k)).1.map strV ∧ st + (cutTo ((sl s).take k)).2.length = k
theorem cutInv_le {s : ByteArray} {k st n : Nat} {xs : List Value} (h : CutInv s k st n xs) : n ≤ k ∧ st ≤ k := by
  have h1 := cutTo_len ((sl s).take k)
  have h2 : ((sl s).take k).length ≤ k := List.length_take_le _ _
  obtain ⟨h3, _, h4⟩ := h
  omega
theorem cut_cur (s : ByteArray) (k st : Nat) (hk : k ≤ s.size) (h : st + (cutTo ((sl s).take k)).2.length = k) : (cutTo ((sl s).take k)).2 = ((sl s).take k).drop st := by
  obtain ⟨a, ha⟩ := cutTo_suf ((sl s).take k)
  have hl : ((sl s).take k).length = k := by rw [List.length_take, sl_length]; omega
  have := (suf_drop ha).1
  rw [hl] at this
  rw [show st = k - (cutTo ((sl s).take k)).2.length by omega]
  exact this
theorem cutInv_hit {s : ByteArray} {k st n : Nat} {xs : List Value} (h : CutInv s k st n xs) (hk : k < s.size) (hc : s[k] = 59) : CutInv s (k + 1) (k + 1) (n + 1) (xs ++ [.string (s.extract st (k + 1))]) := by
  obtain ⟨h1, h2, h3⟩ := h
  have hcur := cut_cur s k st (by omega) h3
  unfold CutInv
  rw [take_snoc s k hk, cutTo_snoc, cutStep, if_pos hc]
  refine ⟨by simp [h1], ?_, by simp⟩
  rw [List.map_append, ← h2]
  have hst : st ≤ k := by omega
  have : s.extract st (k + 1) = bs ((cutTo ((sl s).take k)).2 ++ [s[k]]) := by
    rw [bs_extract, take_snoc s k hk, hcur, List.drop_append_of_le_length (by rw [List.length_take, sl_length]; omega)]
  rw [this]; rfl
theorem cutInv_miss {s : ByteArray} {k st n : Nat} {xs : List Value} (h : CutInv s k st n xs) (hk : k < s.size) (hc : ¬ s[k] = 59) : CutInv s (k + 1) st n xs := by
  obtain ⟨h1, h2, h3⟩ := h
  unfold CutInv
  rw [take_snoc s k hk, cutTo_snoc, cutStep, if_neg hc]
  exact ⟨h1, h2, by simp; omega⟩
theorem cutInv_end {s : ByteArray} {st n : Nat} {xs : List Value} (h : CutInv s s.size st n xs) (hk : ¬ st < s.size) : n = (cut (sl s)).length ∧ xs = (cut (sl s)).map strV := by
  obtain ⟨h1, h2, h3⟩ := h
  rw [List.take_of_length_le (by rw [sl_length]; omega)] at h1 h2 h3
  have : (cutTo (sl s)).2 = [] := List.length_eq_zero_iff.1 (by omega)
  unfold cut; rw [if_pos this]; exact ⟨h1, h2⟩
theorem cutInv_last {s : ByteArray} {st n : Nat} {xs : List Value} (h : CutInv s s.size st n xs) (hk : st < s.size) : n + 1 = (cut (sl s)).length ∧ xs ++ [.string (s.extract st s.size)] = (cut (sl s)).map strV := by
  have h' := h
  obtain ⟨h1, h2, h3⟩ := h
  have hcur := cut_cur s s.size st (by omega) h3
  have e1 : s.extract st s.size = bs (cutTo ((sl s).take s.size)).2 := by rw [bs_extract, hcur]
  rw [List.take_of_length_le (by rw [sl_length]; omega)] at h1 h2 h3 e1
  have : ¬ (cutTo (sl s)).2 = [] := by intro e; rw [e] at h3; simp at h3; omega
  unfold cut; rw [if_neg this, e1, h1, h2]; exact ⟨by simp, by simp [strV]⟩
set_option maxHeartbeats 1000000 in
theorem cut_any (s : ByteArray) (w : World) (hs : s.size ≤ 4000) :
    Calls Tryz.prog 56 #[.string s] w fun e w' => ∃ ao cap, e = .returned (.slice ao (cut (sl s)).length cap) ∧ Row w' ao (cut (sl s)).length 1 ((cut (sl s)).map strV) ∧ Below w.heap.size w w' := by
  obtain ⟨i0, hi, hz0, hz1, hz2⟩ := info_parts Tryz.infoStr
  have hsz : (0 : Int) ≤ s.size := by omega
  go_enter Tryz.func56, Tryz.ntmps56
  go_wp2
  go_loopw [3, 4, 5] (fun v st i wr => ∃ k t n : Nat, ∃ xs : List Value, k ≤ s.size ∧ t ≤ k ∧ n ≤ k ∧ i = .int .i64 k ∧ st = .int .i64 t ∧ wr.ownsRow w.heap.size 9 1 v n xs ∧ Below w.heap.size w wr ∧ Hid (CutInv s k t n xs)) (fun _ _ i _ => s.size - (intOf i).toNat)
  case atStart => exact ⟨0, 0, 0, [], Nat.zero_le _, Nat.le_refl _, Nat.le_refl _, rfl, rfl, World.ownsRow_nil _ _ _ _, Below.refl _ _, hide ⟨by simp [cutTo], by simp [cutTo], by simp [cutTo]⟩⟩
  case round =>
    obtain ⟨k, t, n, xs, hk, ht, hn, rfl, rfl, hown, hbel, HI⟩ := hrel
    by_cases hlt : k < s.size
    · by_cases hc : s[k] = 59
      · have HN := hide (cutInv_hit (unhide HI) hlt hc)
        go_wp2_with (first
          | (at_builtin; refine wpList_append_own _ rfl _ _ 42 rfl w.heap.size 9 i0 (.string ByteArray.empty) 1 16 Tryz.underlying42 hi hz0 hz1 hz2 rfl (by decide) _ _ _ rfl (hown.alloc _) ⟨wr.heap.size, 0, none⟩ 1 1 [.string (s.extract t (k + 1))] rfl rfl (news_one _ _) (by simp [Value.oneCell']) (by unfold maxLen; omega) (by omega) (by have := hbel.size; simp; omega) ?_)
          | go_in)
        intro v' w1 hown' hgrow _
        have hb1 := below_app hbel (by have := hbel.size; omega) hown hgrow
        clear hgrow hown hbel
        go_wp2
        go_roundw
        case rel => exact ⟨k + 1, k + 1, n + 1, _, by omega, by omega, by omega, by go_num, by go_num, hown', hb1, HN⟩
        case measure => simp [intOf]; omega
      · have HN := hide (cutInv_miss (unhide HI) hlt hc)
        have hc' : (((s[k]).toNat : Int) == 59) = false := by
          rw [beq_eq_false_iff_ne]; intro h; exact hc (UInt8.toNat_inj.1 (by simpa using (by omega : (s[k]).toNat = 59)))
        have HC := hide hc; clear hc
        go_wp2
        go_roundw
        case rel => exact ⟨k + 1, t, n, _, by omega, by omega, by omega, by go_num, rfl, hown, hbel, HN⟩
        case measure => simp [intOf]; omega
    · have hks : k = s.size := by omega
      subst hks
      by_cases hts : t < s.size
      · have HN := hide (cutInv_last (unhide HI) hts)
        go_wp2_with (first
          | (at_builtin; refine wpList_append_own _ rfl _ _ 42 rfl w.heap.size 9 i0 (.string ByteArray.empty) 1 16 Tryz.underlying42 hi hz0 hz1 hz2 rfl (by decide) _ _ _ rfl (hown.alloc _) ⟨wr.heap.size, 0, none⟩ 1 1 [.string (s.extract t s.size)] rfl rfl (news_one _ _) (by simp [Value.oneCell']) (by unfold maxLen; omega) (by omega) (by have := hbel.size; simp; omega) ?_)
          | go_in)
        intro v' w1 hown' hgrow _
        have hb1 := below_app hbel (by have := hbel.size; omega) hown hgrow
        clear hgrow hown hbel
        go_wp2
        go_ret
        obtain ⟨e1, e2⟩ := unhide HN
        obtain ⟨ao, cap, rfl, hr⟩ := row_of_owns hown'
        rw [e1, e2] at hr
        exact ⟨ao, cap, by rw [← e1]; rfl, hr, hb1⟩
      · have HN := hide (cutInv_end (unhide HI) hts)
        go_wp2
        go_ret
        obtain ⟨e1, e2⟩ := unhide HN
        obtain ⟨ao, cap, rfl, hr⟩ := row_of_owns hown
        rw [e1, e2] at hr
        exact ⟨ao, cap, by rw [← e1]; rfl, hr, hbel⟩
end Go.Proofs.YtdcjimlhaklhfabGreatDoor

namespace Go.Proofs.YtdcjimlhaklhfabGreatDoor
open Go.RowKit
/-- A node and its place. -/
structure Nd where
  id : Int
  parent : Int
  name : Str
def nd0 : Nd := ⟨0, 0, []⟩
def ndEq (a b : Nd) : Bool := a.id == b.id && (a.parent == b.parent && a.name == b.name)
theorem ndEq_iff {a b : Nd} : ndEq a b = true ↔ a = b := by
  cases a; cases b; simp [ndEq]
def readNode (l : Str) : Option Nd :=
  match parts l with
  | [a, b, c] => if (number a 1 99).2 && (number b 0 99).2 && isName c (number a 1 99).1 then some ⟨(number a 1 99).1, (number b 0 99).1, c⟩ else none
  | _ => none
theorem numGo_bd (most : Int) : ∀ (l : Str) (n m : Int), 0 ≤ n → n ≤ most → numGo most n l = some m → 0 ≤ m ∧ m ≤ most := by
  intro l
  induction l with
  | nil => intro n m h0 h1 h; simp [numGo] at h; omega
  | cons c r ih =>
    intro n m h0 h1 h
    rw [numGo] at h
    split at h
    · split at h
      · cases h
      · exact ih _ m (by omega) (by omega) h
    · cases h
theorem number_bd (l : Str) (a b : Int) (hb : 0 ≤ b) : 0 ≤ (number l a b).1 ∧ (number l a b).1 ≤ b := by
  unfold number
  split
  · simp; exact hb
  · cases h : numGo b 0 l with
    | none => simp; exact hb
    | some n => exact numGo_bd b l 0 n (by omega) hb h
theorem number_lo (l : Str) (a b : Int) (h : (number l a b).2 = true) : a ≤ (number l a b).1 := by
  unfold number at h ⊢
  split at h
  · cases h
  · rename_i hb
    rw [if_neg hb]
    split at h
    · cases h
    · simp only []; simpa using h
theorem part_len (l : Str) : ∀ x ∈ parts l, x.length ≤ l.length := by
  have key : (∀ x ∈ (partTo l).1, x.length ≤ l.length) ∧ (partTo l).2.length ≤ l.length := by
    refine snoc_ind (P := fun l => (∀ x ∈ (partTo l).1, x.length ≤ l.length) ∧ (partTo l).2.length ≤ l.length) (by simp [partTo]) ?_ l
    rintro l c ⟨h1, h2⟩
    rw [partTo_snoc]; unfold partStep
    split
    · refine ⟨?_, by simp⟩
      intro x hx
      rcases List.mem_append.1 hx with hx | hx
      · have := h1 x hx; simp; omega
      · simp at hx; subst hx; simp; omega
    · refine ⟨fun x hx => by have := h1 x hx; simp; omega, by simp; omega⟩
  intro x hx
  rcases List.mem_append.1 hx with hx | hx
  · exact key.1 x hx
  · simp at hx; subst hx; exact key.2
theorem cut_mem_len (l : Str) : ∀ x ∈ cut l, x.length ≤ l.length := by
  have key : (∀ x ∈ (cutTo l).1, x.length ≤ l.length) ∧ (cutTo l).2.length ≤ l.length := by
    refine snoc_ind (P := fun l => (∀ x ∈ (cutTo l).1, x.length ≤ l.length) ∧ (cutTo l).2.length ≤ l.length) (by simp [cutTo]) ?_ l
    rintro l c ⟨h1, h2⟩
    rw [cutTo_snoc]; unfold cutStep
    split
    · refine ⟨?_, by simp⟩
      intro x hx
      rcases List.mem_append.1 hx with hx | hx
      · have := h1 x hx; simp; omega
      · simp at hx; subst hx; simp; omega
    · refine ⟨fun x hx => by have := h1 x hx; simp; omega, by simp; omega⟩
  intro x hx
  unfold cut at hx
  split at hx
  · exact key.1 x hx
  · rcases List.mem_append.1 hx with hx | hx
    · exact key.1 x hx
    · simp at hx; subst hx; exact key.2
theorem cut_length_le (l : Str) : (cut l).length ≤ l.length := by
  have := cutTo_len l
  unfold cut
  split
  · omega
  · rename_i h
    have : 0 < (cutTo l).2.length := List.length_pos_iff.2 h
    simp; omega
theorem bodyS_len (l : Str) : (bodyS l).length ≤ l.length := by unfold bodyS; split <;> simp
theorem readNode_bd {l : Str} {n : Nd} (h : readNode l = some n) : 1 ≤ n.id ∧ n.id ≤ 99 ∧ 0 ≤ n.parent ∧ n.parent ≤ 99 ∧ isName n.name n.id = true := by
  unfold readNode at h
  split at h
  · rename_i a b c _
    split at h
    · rename_i hh
      simp only [Bool.and_eq_true] at hh
      cases h
      exact ⟨number_lo a 1 99 hh.1.1, (number_bd a 1 99 (by omega)).2, (number_bd b 0 99 (by omega)).1, (number_bd b 0 99 (by omega)).2, hh.2⟩
    · cases h
  · cases h
/-- A record of a tree. -/
def recNode (r : Str) : Option Nd := if bodyB r then readNode (bodyS r) else none
/-- The nodes up to the first record that has not the form. -/
def readNodes : List Str → List Nd
  | [] => []
  | r :: l => match recNode r with
    | none => []
    | some n => n :: readNodes l
theorem readNodes_length (l : List Str) : (readNodes l).length ≤ l.length := by
  induction l with
  | nil => simp [readNodes]
  | cons r l ih => unfold readNodes; split <;> simp; omega
theorem readNodes_bd (l : List Str) : ∀ n ∈ readNodes l, 1 ≤ n.id ∧ n.id ≤ 99 ∧ 0 ≤ n.parent ∧ n.parent ≤ 99 ∧ isName n.name n.id = true := by
  induction l with
  | nil => intro n h; simp [readNodes] at h
  | cons r l ih =>
    intro n h
    unfold readNodes at h
    split at h
    · simp at h
    · rename_i m hm
      rcases List.mem_cons.1 h with rfl | h
      · unfold recNode at hm; split at hm
        · exact readNode_bd hm
        · cases hm
      · exact ih n h
end Go.Proofs.YtdcjimlhaklhfabGreatDoor

namespace Go.Proofs.YtdcjimlhaklhfabGreatDoor
open Go.RowKit
/-! Parts. -/
def PartInv (s : ByteArray) (k st n : Nat) (xs : List Value) : Prop :=
  n = (partTo ((sl s).take k)).1.length ∧ xs = (partTo ((sl s).take k)).1.map strV ∧ st + (partTo ((sl s).take k)).2.length = k
theorem part_cur (s : ByteArray) (k st : Nat) (hk : k ≤ s.size) (h : st + (partTo ((sl s).take k)).2.length = k) : (partTo ((sl s).take k)).2 = ((sl s).take k).drop st := by
  obtain ⟨a, ha⟩ := partTo_suf ((sl s).take k)
  have hl : ((sl s).take k).length = k := by rw [List.length_take, sl_length]; omega
  have := (suf_drop ha).1
  rw [hl] at this
  rw [show st = k - (partTo ((sl s).take k)).2.length by omega]
  exact this
theorem partInv_hit {s : ByteArray} {k st n : Nat} {xs : List Value} (h : PartInv s k st n xs) (hk : k < s.size) (hc : s[k] = 32) : PartInv s (k + 1) (k + 1) (n + 1) (xs ++ [.string (s.extract st k)]) := by
  obtain ⟨h1, h2, h3⟩ := h
  have hcur := part_cur s k st (by omega) h3
  unfold PartInv
  rw [take_snoc s k hk, partTo_snoc, partStep, if_pos hc]
  refine ⟨by simp [h1], ?_, by simp⟩
  rw [List.map_append, ← h2]
  have : s.extract st k = bs (partTo ((sl s).take k)).2 := by rw [bs_extract, hcur]
  rw [this]; rfl
theorem partInv_miss {s : ByteArray} {k st n : Nat} {xs : List Value} (h : PartInv s k st n xs) (hk : k < s.size) (hc : ¬ s[k] = 32) : PartInv s (k + 1) st n xs := by
  obtain ⟨h1, h2, h3⟩ := h
  unfold PartInv
  rw [take_snoc s k hk, partTo_snoc, partStep, if_neg hc]
  exact ⟨h1, h2, by simp; omega⟩
theorem partInv_last {s : ByteArray} {st n : Nat} {xs : List Value} (h : PartInv s s.size st n xs) : n + 1 = (parts (sl s)).length ∧ xs ++ [.string (s.extract st s.size)] = (parts (sl s)).map strV := by
  obtain ⟨h1, h2, h3⟩ := h
  have hcur := part_cur s s.size st (by omega) h3
  have e1 : s.extract st s.size = bs (partTo ((sl s).take s.size)).2 := by rw [bs_extract, hcur]
  rw [List.take_of_length_le (by rw [sl_length]; omega)] at h1 h2 e1
  unfold parts; rw [e1, h1, h2]; exact ⟨by simp, by simp [strV]⟩
set_option maxHeartbeats 1000000 in
theorem parts_any (s : ByteArray) (w : World) (hs : s.size ≤ 4000) :
    Calls Tryz.prog 92 #[.string s] w fun e w' => ∃ ao cap, e = .returned (.slice ao (parts (sl s)).length cap) ∧ Row w' ao (parts (sl s)).length 1 ((parts (sl s)).map strV) ∧ Below w.heap.size w w' := by
  obtain ⟨i0, hi, hz0, hz1, hz2⟩ := info_parts Tryz.infoStr
  have hsz : (0 : Int) ≤ s.size := by omega
  go_enter Tryz.func92, Tryz.ntmps92
  go_wp2
  go_loopw [3, 4, 5] (fun v st i wr => ∃ k t n : Nat, ∃ xs : List Value, k ≤ s.size ∧ t ≤ k ∧ n ≤ k ∧ i = .int .i64 k ∧ st = .int .i64 t ∧ wr.ownsRow w.heap.size 9 1 v n xs ∧ Below w.heap.size w wr ∧ Hid (PartInv s k t n xs)) (fun _ _ i _ => s.size - (intOf i).toNat)
  case atStart => exact ⟨0, 0, 0, [], Nat.zero_le _, Nat.le_refl _, Nat.le_refl _, rfl, rfl, World.ownsRow_nil _ _ _ _, Below.refl _ _, hide ⟨by simp [partTo], by simp [partTo], by simp [partTo]⟩⟩
  case round =>
    obtain ⟨k, t, n, xs, hk, ht, hn, rfl, rfl, hown, hbel, HI⟩ := hrel
    by_cases hlt : k < s.size
    · by_cases hc : s[k] = 32
      · have HN := hide (partInv_hit (unhide HI) hlt hc)
        go_wp2_with (first
          | (at_builtin; refine wpList_append_own _ rfl _ _ 42 rfl w.heap.size 9 i0 (.string ByteArray.empty) 1 16 Tryz.underlying42 hi hz0 hz1 hz2 rfl (by decide) _ _ _ rfl (hown.alloc _) ⟨wr.heap.size, 0, none⟩ 1 1 [.string (s.extract t k)] rfl rfl (news_one _ _) (by simp [Value.oneCell']) (by unfold maxLen; omega) (by omega) (by have := hbel.size; simp; omega) ?_)
          | go_in)
        intro v' w1 hown' hgrow _
        have hb1 := below_app hbel (by have := hbel.size; omega) hown hgrow
        clear hgrow hown hbel
        go_wp2
        go_roundw
        case rel => exact ⟨k + 1, k + 1, n + 1, _, by omega, by omega, by omega, by go_num, by go_num, hown', hb1, HN⟩
        case measure => simp [intOf]; omega
      · have HN := hide (partInv_miss (unhide HI) hlt hc)
        have hc' : (((s[k]).toNat : Int) == 32) = false := by
          rw [beq_eq_false_iff_ne]; intro h; exact hc (UInt8.toNat_inj.1 (by simpa using (by omega : (s[k]).toNat = 32)))
        have HC := hide hc; clear hc
        go_wp2
        go_roundw
        case rel => exact ⟨k + 1, t, n, _, by omega, by omega, by omega, by go_num, rfl, hown, hbel, HN⟩
        case measure => simp [intOf]; omega
    · have hks : k = s.size := by omega
      subst hks
      have HN := hide (partInv_last (unhide HI))
      go_wp2_with (first
        | (at_builtin; refine wpList_append_own _ rfl _ _ 42 rfl w.heap.size 9 i0 (.string ByteArray.empty) 1 16 Tryz.underlying42 hi hz0 hz1 hz2 rfl (by decide) _ _ _ rfl (hown.alloc _) ⟨wr.heap.size, 0, none⟩ 1 1 [.string (s.extract t s.size)] rfl rfl (news_one _ _) (by simp [Value.oneCell']) (by unfold maxLen; omega) (by omega) (by have := hbel.size; simp; omega) ?_)
        | go_in)
      intro v' w1 hown' hgrow _
      have hb1 := below_app hbel (by have := hbel.size; omega) hown hgrow
      clear hgrow hown hbel
      go_wp2
      go_ret
      obtain ⟨e1, e2⟩ := unhide HN
      obtain ⟨ao, cap, rfl, hr⟩ := row_of_owns hown'
      rw [e1, e2] at hr
      exact ⟨ao, cap, by rw [← e1]; rfl, hr, hb1⟩
theorem sl_append (a b : ByteArray) : sl (a ++ b) = sl a ++ sl b := by simp [sl, ByteArray.data_append]
theorem tail_eq (s : ByteArray) (p : Nat) (d : Str) : ((s.extract p s.size).toList == (({ data := #[126] } : ByteArray) ++ bs d).toList) = ((sl s).drop p == 126 :: d) := by
  rw [tl_sl, tl_sl, sl_append, bs_extract, sl_bs, sl_bs, List.take_of_length_le (by rw [sl_length]; omega)]; rfl
theorem plain_lt (s : ByteArray) : plainLen (sl s) ≤ s.size := by rw [← sl_length]; exact plainLen_le _
set_option maxHeartbeats 400000 in
theorem isName_any (s : ByteArray) (id : Int) (w : World) (hs : s.size ≤ 4000) (h0 : 0 ≤ id) (h1 : id ≤ 99) :
    Calls Tryz.prog 127 #[.string s, .int .i64 id] w fun e w' => e = .returned (.bool (isName (sl s) id)) ∧ ∃ n, w' = w.drewN n := by
  have hle := plain_lt s
  have HI : Hid (isName (sl s) id = (decide (1 ≤ plainLen (sl s)) && decide (plainLen (sl s) ≤ 8) && (plainLen (sl s) == s.size || (sl s).drop (plainLen (sl s)) == 126 :: digs id))) := by
    apply hide; rw [← sl_length]; rfl
  have HP := hide (plainBytes_any s w hs)
  generalize plainLen (sl s) = p at *
  by_cases hp1 : 1 ≤ p
  · by_cases hp8 : p ≤ 8
    · by_cases hps : p = s.size
      · have hpe : ((p : Int) == (s.size : Int)) = true := by rw [beq_iff_eq]; omega
        have HF : Hid (isName (sl s) id = true) := by apply hide; rw [unhide HI]; simp [hp1, hp8, hps.symm]
        clear hps
        go_enter Tryz.func127, Tryz.ntmps127
        go_wp2_with (go_at_call 143; refine (unhide HP).mono ?_; rintro e w' ⟨rfl, rfl⟩)
        go_quiet (fail)
        go_wp2
        go_ret
        exact ⟨ret_bool (unhide HF).symm, _, rfl⟩
      · have hpe : ((p : Int) == (s.size : Int)) = false := by rw [beq_eq_false_iff_ne]; omega
        have HF : Hid (isName (sl s) id = ((sl s).drop p == 126 :: digs id)) := by apply hide; rw [unhide HI]; simp [hp1, hp8, hps]
        have hplt : p < s.size := by omega
        clear hps
        have hadd : ∀ W : World, (Op.stringOp .add ⟨#[126]⟩ (bs (digs id))).run Tryz.prog W = .ok (.string (⟨#[126]⟩ ++ bs (digs id))) W := fun W => run_string_add_sum (P := Tryz.prog) W _ _ (by rw [bs_size]; have := digs_len id; show 1 + _ ≤ _; omega)
        go_enter Tryz.func127, Tryz.ntmps127
        go_wp2_with (go_at_call 143; refine (unhide HP).mono ?_; rintro e w' ⟨rfl, rfl⟩)
        go_quiet ((go_at_call 100; exact Calls.quiet_of_same (itoa_any _ _ h0 h1)))
        go_wp2
        go_ret
        exact ⟨ret_bool (by rw [tail_eq, unhide HF]), _, rfl⟩
    · have HF : Hid (isName (sl s) id = false) := by apply hide; rw [unhide HI]; simp [hp8]
      go_enter Tryz.func127, Tryz.ntmps127
      go_wp2_with (go_at_call 143; refine (unhide HP).mono ?_; rintro e w' ⟨rfl, rfl⟩)
      go_ret
      exact ⟨ret_bool (unhide HF).symm, 0, rfl⟩
  · have HF : Hid (isName (sl s) id = false) := by apply hide; rw [unhide HI]; simp [hp1]
    go_enter Tryz.func127, Tryz.ntmps127
    go_wp2_with (go_at_call 143; refine (unhide HP).mono ?_; rintro e w' ⟨rfl, rfl⟩)
    go_ret
    exact ⟨ret_bool (unhide HF).symm, 0, rfl⟩
theorem bcell {W w1 : World} (hb : Below W.heap.size W w1) : (∀ b o, b < W.heap.size → w1.cell? ⟨b, o, none⟩ = W.cell? ⟨b, o, none⟩) ∧ (∀ b o, b < W.heap.size → w1.frozen? ⟨b, o, none⟩ = W.frozen? ⟨b, o, none⟩) :=
  ⟨fun b o h => hb.cell (p := ⟨b, o, none⟩) h, fun b o h => hb.frozen (p := ⟨b, o, none⟩) h⟩
theorem isName_below (s : ByteArray) (id : Int) (w : World) (hs : s.size ≤ 4000) (h0 : 0 ≤ id) (h1 : id ≤ 99) :
    Calls Tryz.prog 127 #[.string s, .int .i64 id] w fun e w' => e = .returned (.bool (isName (sl s) id)) ∧ ∃ n, w' = w.drewN n := isName_any s id w hs h0 h1
theorem readNode_three {l a b c : Str} (h : parts l = [a, b, c]) : readNode l = if (number a 1 99).2 && (number b 0 99).2 && isName c (number a 1 99).1 then some ⟨(number a 1 99).1, (number b 0 99).1, c⟩ else none := by
  unfold readNode; rw [h]
theorem readNode_other {l : Str} (h : (parts l).length ≠ 3) : readNode l = none := by
  unfold readNode
  split
  · rename_i a b c e; rw [e] at h; simp at h
  · rfl
theorem len3 {l : List Str} (h : l.length = 3) : ∃ a b c, l = [a, b, c] := by
  match l, h with
  | [a, b, c], _ => exact ⟨a, b, c, rfl⟩
set_option maxHeartbeats 1000000 in
theorem readNode_no (s : ByteArray) (w : World) (hs : s.size ≤ 4000) (h3 : (parts (sl s)).length ≠ 3) :
    Calls Tryz.prog 103 #[.string s] w fun e w' => e = .returned (.tuple #[.agg #[.int .i64 0, .int .i64 0, .string ByteArray.empty], .bool false]) ∧ Below w.heap.size w w' := by
  have hne : (((parts (sl s)).length : Int) != 3) = true := by rw [bne_iff_ne]; omega
  have HP : Hid (∀ W, Calls Tryz.prog 92 #[.string s] W fun e w' => ∃ ao cap, e = .returned (.slice ao (parts (sl s)).length cap) ∧ Row w' ao (parts (sl s)).length 1 ((parts (sl s)).map strV) ∧ Below W.heap.size W w') := hide (fun W => parts_any s W hs)
  generalize (parts (sl s)).length = n at *
  go_enter Tryz.func103, Tryz.ntmps103
  go_wp2_with fail
  refine (unhide HP _).mono ?_
  rintro e w1 ⟨ao, cap, rfl, hrow, hbel⟩
  clear hrow
  obtain ⟨hc, hf⟩ := bcell hbel
  have hz : w.heap.size + 1 ≤ w1.heap.size := by have := hbel.size; simp at this; omega
  have HB0 : Hid (Below w.heap.size w w1) := hide (((Below.refl _ _).alloc (Nat.le_refl _) _).trans (hbel.mono (by simp)))
  go_wp2
  refine bodyPost_ret (v := .tuple #[.agg #[.int .i64 0, .int .i64 0, .string ByteArray.empty], .bool false]) (by simp [results, Tryz.results103, go_sem, hc]; rfl) rfl ⟨rfl, ?_⟩
  exact (((unhide HB0).setCell (by simp) _).setCell (by simp) _).setCell (by simp) _
theorem rd_no {a b c : Str} (h : (number a 1 99).2 = false ∨ (number b 0 99).2 = false ∨ isName c (number a 1 99).1 = false) : ((number a 1 99).2 && (number b 0 99).2 && isName c (number a 1 99).1) = false := by
  rcases h with h | h | h <;> rw [h] <;> simp
set_option maxHeartbeats 2000000 in
theorem readNode_yes (s : ByteArray) (w : World) (hs : s.size ≤ 4000) (a b c : Str) (h3 : parts (sl s) = [a, b, c]) :
    Calls Tryz.prog 103 #[.string s] w fun e w' => e = .returned (.tuple #[.agg #[.int .i64 ((readNode (sl s)).getD nd0).id, .int .i64 ((readNode (sl s)).getD nd0).parent, .string (bs ((readNode (sl s)).getD nd0).name)], .bool (readNode (sl s)).isSome]) ∧ Below w.heap.size w w' := by
  have HP : Hid (∀ W, Calls Tryz.prog 92 #[.string s] W fun e w' => ∃ ao cap, e = .returned (.slice ao 3 cap) ∧ Row w' ao 3 1 [.string (bs a), .string (bs b), .string (bs c)] ∧ Below W.heap.size W w') := by
    apply hide; intro W; have := parts_any s W hs; rw [h3] at this; exact this
  have HR := hide (readNode_three h3)
  have hl : ∀ x ∈ [a, b, c], x.length ≤ 4000 := fun x hx => by have := part_len (sl s) x (by rw [h3]; exact hx); rw [sl_length] at this; omega
  have hla : (bs a).size ≤ 4000 := by rw [bs_size]; exact hl a (by simp)
  have hlb : (bs b).size ≤ 4000 := by rw [bs_size]; exact hl b (by simp)
  have hlc : (bs c).size ≤ 4000 := by rw [bs_size]; exact hl c (by simp)
  clear hl
  have HA := hide (fun W => number_any (bs a) 1 99 W hla (by omega) (by omega))
  have HB := hide (fun W => number_any (bs b) 0 99 W hlb (by omega) (by omega))
  rw [sl_bs] at HA HB
  have na := number_bd a 1 99 (by omega)
  have HC := hide (fun W => isName_any (bs c) (number a 1 99).1 W hlc na.1 na.2)
  rw [sl_bs] at HC
  have nb := number_bd b 0 99 (by omega)
  have HRD := hide (@rd_no a b c)
  generalize (number a 1 99).1 = x at *
  generalize (number a 1 99).2 = p at *
  generalize (number b 0 99).1 = y at *
  generalize (number b 0 99).2 = q at *
  generalize isName c x = r at *
  generalize readNode (sl s) = R at *
  clear h3
  cases p
  · have HF : Hid (R = none) := by apply hide; rw [unhide HR]; simp
    have hR := unhide HF
    subst hR
    go_enter Tryz.func103, Tryz.ntmps103
    go_wp2_with fail
    refine (unhide HP _).mono ?_
    rintro e w1 ⟨ao, cap, rfl, hrow, hbel⟩
    obtain ⟨g, hao, hg, hcel⟩ := hrow.2 (by omega)
    rw [hao]
    have c0 := hcel 0 _ rfl
    have c1 := hcel 1 _ rfl
    clear hcel hao hrow
    obtain ⟨hc, hf⟩ := bcell hbel
    have hz : w.heap.size + 1 ≤ w1.heap.size := by have := hbel.size; simp at this; omega
    have HB0 : Hid (Below w.heap.size w w1) := hide (((Below.refl _ _).alloc (Nat.le_refl _) _).trans (hbel.mono (by simp)))
    clear hbel
    go_wp2_with fail
    refine (unhide HA _).mono ?_
    rintro e w2 ⟨rfl, rfl⟩
    go_wp2_with fail
    refine (unhide HB _).mono ?_
    rintro e w3 ⟨rfl, rfl⟩
    go_wp2
    refine bodyPost_ret (v := .tuple #[.agg #[.int .i64 0, .int .i64 0, .string ByteArray.empty], .bool false]) (by simp [results, Tryz.results103, go_sem, hc]; rfl) rfl ⟨rfl, ?_⟩
    exact (((unhide HB0).setCell (by simp) _).setCell (by simp) _).setCell (by simp) _
  · cases q
    · have HF : Hid (R = none) := by apply hide; rw [unhide HR]; simp
      have hR := unhide HF
      subst hR
      go_enter Tryz.func103, Tryz.ntmps103
      go_wp2_with fail
      refine (unhide HP _).mono ?_
      rintro e w1 ⟨ao, cap, rfl, hrow, hbel⟩
      obtain ⟨g, hao, hg, hcel⟩ := hrow.2 (by omega)
      rw [hao]
      have c0 := hcel 0 _ rfl
      have c1 := hcel 1 _ rfl
      have c2 := hcel 2 _ rfl
      clear hcel hao hrow
      obtain ⟨hc, hf⟩ := bcell hbel
      have hz : w.heap.size + 1 ≤ w1.heap.size := by have := hbel.size; simp at this; omega
      have HB0 : Hid (Below w.heap.size w w1) := hide (((Below.refl _ _).alloc (Nat.le_refl _) _).trans (hbel.mono (by simp)))
      clear hbel
      go_wp2_with fail
      refine (unhide HA _).mono ?_
      rintro e w2 ⟨rfl, rfl⟩
      go_wp2_with fail
      refine (unhide HB _).mono ?_
      rintro e w3 ⟨rfl, rfl⟩
      go_wp2
      refine bodyPost_ret (v := .tuple #[.agg #[.int .i64 0, .int .i64 0, .string ByteArray.empty], .bool false]) (by simp [results, Tryz.results103, go_sem, hc]; rfl) rfl ⟨rfl, ?_⟩
      exact (((unhide HB0).setCell (by simp) _).setCell (by simp) _).setCell (by simp) _
    · cases r
      · have HF : Hid (R = none) := by apply hide; rw [unhide HR]; simp
        have hR := unhide HF
        subst hR
        go_enter Tryz.func103, Tryz.ntmps103
        go_wp2_with fail
        refine (unhide HP _).mono ?_
        rintro e w1 ⟨ao, cap, rfl, hrow, hbel⟩
        obtain ⟨g, hao, hg, hcel⟩ := hrow.2 (by omega)
        rw [hao]
        have c0 := hcel 0 _ rfl
        have c1 := hcel 1 _ rfl
        have c2 := hcel 2 _ rfl
        clear hcel hao hrow
        obtain ⟨hc, hf⟩ := bcell hbel
        have hz : w.heap.size + 1 ≤ w1.heap.size := by have := hbel.size; simp at this; omega
        have HB0 : Hid (Below w.heap.size w w1) := hide (((Below.refl _ _).alloc (Nat.le_refl _) _).trans (hbel.mono (by simp)))
        clear hbel
        go_wp2_with fail
        refine (unhide HA _).mono ?_
        rintro e w2 ⟨rfl, rfl⟩
        go_wp2_with fail
        refine (unhide HB _).mono ?_
        rintro e w3 ⟨rfl, rfl⟩
        go_wp2_with fail
        refine (unhide HC _).mono ?_
        rintro e w4 ⟨rfl, nd, rfl⟩
        go_wp2
        refine bodyPost_ret (v := .tuple #[.agg #[.int .i64 0, .int .i64 0, .string ByteArray.empty], .bool false]) (by simp [results, Tryz.results103, go_sem, hc]; rfl) rfl ⟨rfl, ?_⟩
        exact (((below_drewN (unhide HB0) _).setCell (by simp) _).setCell (by simp) _).setCell (by simp) _
      · have HF : Hid (R = some ⟨x, y, c⟩) := by apply hide; rw [unhide HR]; simp
        have hR := unhide HF
        subst hR
        go_enter Tryz.func103, Tryz.ntmps103
        go_wp2_with fail
        refine (unhide HP _).mono ?_
        rintro e w1 ⟨ao, cap, rfl, hrow, hbel⟩
        obtain ⟨g, hao, hg, hcel⟩ := hrow.2 (by omega)
        rw [hao]
        have c0 := hcel 0 _ rfl
        have c1 := hcel 1 _ rfl
        have c2 := hcel 2 _ rfl
        clear hcel hao hrow
        obtain ⟨hc, hf⟩ := bcell hbel
        have hz : w.heap.size + 1 ≤ w1.heap.size := by have := hbel.size; simp at this; omega
        have HB0 : Hid (Below w.heap.size w w1) := hide (((Below.refl _ _).alloc (Nat.le_refl _) _).trans (hbel.mono (by simp)))
        clear hbel
        go_wp2_with fail
        refine (unhide HA _).mono ?_
        rintro e w2 ⟨rfl, rfl⟩
        go_wp2_with fail
        refine (unhide HB _).mono ?_
        rintro e w3 ⟨rfl, rfl⟩
        go_wp2_with fail
        refine (unhide HC _).mono ?_
        rintro e w4 ⟨rfl, nd, rfl⟩
        go_wp2
        refine bodyPost_ret (v := .tuple #[.agg #[.int .i64 x, .int .i64 y, .string (bs c)], .bool true]) (by simp [results, Tryz.results103, go_sem, hc]) rfl ⟨rfl, ?_⟩
        exact (((below_drewN (unhide HB0) _).setCell (by simp) _).setCell (by simp) _).setCell (by simp) _
theorem readNode_any (s : ByteArray) (w : World) (hs : s.size ≤ 4000) :
    Calls Tryz.prog 103 #[.string s] w fun e w' => e = .returned (.tuple #[.agg #[.int .i64 ((readNode (sl s)).getD nd0).id, .int .i64 ((readNode (sl s)).getD nd0).parent, .string (bs ((readNode (sl s)).getD nd0).name)], .bool (readNode (sl s)).isSome]) ∧ Below w.heap.size w w' := by
  by_cases h3 : (parts (sl s)).length = 3
  · obtain ⟨a, b, c, e⟩ := len3 h3
    exact readNode_yes s w hs a b c e
  · rw [readNode_other h3]
    exact readNode_no s w hs h3
end Go.Proofs.YtdcjimlhaklhfabGreatDoor

namespace Go.Proofs.YtdcjimlhaklhfabGreatDoor
open Go.RowKit
def ndC (n : Nd) : List Value := [.int .i64 n.id, .int .i64 n.parent, .string (bs n.name)]
def ndCells (l : List Nd) : List Value := l.flatMap ndC
theorem ndCells_length (l : List Nd) : (ndCells l).length = l.length * 3 := by
  induction l with
  | nil => rfl
  | cons n l ih => simp only [ndCells, List.flatMap_cons, List.length_append] at ih ⊢; simp [ndC] at ih ⊢; omega
theorem ndCells_snoc (l : List Nd) (n : Nd) : ndCells (l ++ [n]) = ndCells l ++ ndC n := by simp [ndCells]
theorem ndCells_get (l : List Nd) (k : Nat) (h : k < l.length) :
    (ndCells l)[k * 3]? = some (.int .i64 (l[k]).id) ∧ (ndCells l)[k * 3 + 1]? = some (.int .i64 (l[k]).parent) ∧ (ndCells l)[k * 3 + 2]? = some (.string (bs (l[k]).name)) := by
  induction l generalizing k with
  | nil => simp at h
  | cons n l ih =>
    cases k with
    | zero => simp [ndCells, ndC]
    | succ k =>
      have := ih k (by simpa using h)
      have e : ndCells (n :: l) = ndC n ++ ndCells l := rfl
      rw [e, show (k + 1) * 3 = 3 + k * 3 by omega]
      have hl : (ndC n).length = 3 := rfl
      refine ⟨?_, ?_, ?_⟩
      · rw [List.getElem?_append_right (by rw [hl]; omega), hl]; simpa using this.1
      · rw [List.getElem?_append_right (by rw [hl]; omega), hl, show 3 + k * 3 + 1 - 3 = k * 3 + 1 by omega]; simpa using this.2.1
      · rw [List.getElem?_append_right (by rw [hl]; omega), hl, show 3 + k * 3 + 2 - 3 = k * 3 + 2 by omega]; simpa using this.2.2
theorem Tryz.infoNode : (Tryz.prog.info? 75).map (fun i => (i.zero, i.size, i.bytes)) = some (some (.agg #[.int .i64 0, .int .i64 0, .string ByteArray.empty]), 3, 32) := by kernel_rfl
theorem news_three {w : World} (a b c : Value) (t : TypeId) : ∀ j x, [a, b, c][j]? = some x → (w.alloc (.cells #[a, b, c] t)).cell? ((⟨w.heap.size, 0, none⟩ : Addr).add j) = some x := by
  intro j x hx
  exact World.news_of_block (cs := #[a, b, c]) (heap_alloc_new w _) j x hx
theorem news_three' {w : World} (o : Obj) (a b c : Value) (t : TypeId) : ∀ j x, [a, b, c][j]? = some x → ((w.alloc o).alloc (.cells #[a, b, c] t)).cell? ((⟨w.heap.size + 1, 0, none⟩ : Addr).add j) = some x := by
  have := @news_three (w.alloc o) a b c t
  simpa using this
/-- Where readNodes stands behind k records. -/
def RdInv (rs : List Str) (k : Nat) (ns : List Nd) : Prop := ns.length = k ∧ readNodes rs = ns ++ readNodes (rs.drop k)
theorem rdInv_yes {rs : List Str} {k : Nat} {ns : List Nd} (h : RdInv rs k ns) (hk : k < rs.length) {n : Nd} (hn : recNode rs[k] = some n) : RdInv rs (k + 1) (ns ++ [n]) := by
  refine ⟨by simp [h.1], ?_⟩
  rw [h.2, List.drop_eq_getElem_cons hk, readNodes, hn]; simp
theorem rdInv_no {rs : List Str} {k : Nat} {ns : List Nd} (h : RdInv rs k ns) (hk : k < rs.length) (hn : recNode rs[k] = none) : readNodes rs = ns := by
  rw [h.2, List.drop_eq_getElem_cons hk, readNodes, hn]; simp
theorem rdInv_end {rs : List Str} {k : Nat} {ns : List Nd} (h : RdInv rs k ns) (hk : ¬ k < rs.length) : readNodes rs = ns := by
  rw [h.2, List.drop_eq_nil_of_le (by omega)]; simp [readNodes]
theorem str_cell {w wr : World} {ao : Option Addr} {rs : List Str} (hrow : Row w ao rs.length 1 (rs.map strV)) (hb : Below w.heap.size w wr) {k : Nat} (hk : k < rs.length) :
    ∃ g, ao = some ⟨g, 0, none⟩ ∧ g < w.heap.size ∧ wr.cell? ⟨g, k, none⟩ = some (.string (bs rs[k])) := by
  obtain ⟨g, h1, h2, h3⟩ := hrow.2 (by omega)
  refine ⟨g, h1, h2, ?_⟩
  rw [hb.cell (p := ⟨g, k, none⟩) h2]
  exact h3 k _ (by simp [hk, strV])
theorem own_below {wr w2 : World} {base : Nat} {e : TypeId} {size : Nat} {v : Value} {n : Nat} {xs : List Value} (h : wr.ownsRow base e size v n xs) (hb : Below wr.heap.size wr w2) : w2.ownsRow base e size v n xs := by
  obtain ⟨h1, h2⟩ := h
  refine ⟨h1, ?_⟩
  rcases h2 with h2 | ⟨g, cap, cur, hv, hg, hh, r⟩
  · exact Or.inl h2
  · exact Or.inr ⟨g, cap, cur, hv, hg, by rw [hb.block g (lt_of_block hh)]; exact hh, r⟩
set_option maxHeartbeats 2000000 in
theorem readNodes_any (rs : List Str) (ao : Option Addr) (cap : Nat) (w : World) (hrow : Row w ao rs.length 1 (rs.map strV)) (hl : ∀ r ∈ rs, r.length ≤ 4000) (hn : rs.length ≤ 4000) :
    Calls Tryz.prog 67 #[.slice ao rs.length cap] w fun e w' => ∃ ao' cap', e = .returned (.slice ao' (readNodes rs).length cap') ∧ Row w' ao' (readNodes rs).length 3 (ndCells (readNodes rs)) ∧ Below w.heap.size w w' := by
  obtain ⟨i0, hi, hz0, hz1, hz2⟩ := info_parts Tryz.infoNode
  have HROW := hide hrow; clear hrow
  have HL := hide hl; clear hl
  go_enter Tryz.func67, Tryz.ntmps67
  go_wp2
  go_loopw [3, 12] (fun v i wr => ∃ k : Nat, ∃ ns : List Nd, k ≤ rs.length ∧ i = .int .i64 k ∧ wr.ownsRow w.heap.size 75 3 v k (ndCells ns) ∧ Below w.heap.size w wr ∧ Hid (RdInv rs k ns)) (fun _ i _ => rs.length - (intOf i).toNat)
  case atStart => exact ⟨0, [], Nat.zero_le _, rfl, World.ownsRow_nil _ _ _ _, Below.refl _ _, hide ⟨rfl, rfl⟩⟩
  case round =>
    obtain ⟨k, ns, hk, rfl, hown, hbel, HI⟩ := hrel
    by_cases hlt : k < rs.length
    · obtain ⟨g, hao, hg, hcell⟩ := str_cell (unhide HROW) hbel hlt
      rw [hao]
      have hrl : (rs[k]).length ≤ 4000 := unhide HL _ (List.getElem_mem hlt)
      have HBO := hide (fun W => body_any (bs rs[k]) W (by rw [bs_size]; exact hrl))
      rw [sl_bs] at HBO
      have HRD := hide (fun W => readNode_any (bs (bodyS rs[k])) W (by rw [bs_size]; have := bodyS_len rs[k]; omega))
      rw [sl_bs] at HRD
      have HREC : Hid (recNode rs[k] = if bodyB rs[k] then readNode (bodyS rs[k]) else none) := hide rfl
      have hsz := hbel.size
      clear hao
      generalize hr : rs[k] = r at *
      have HR := hide hr; clear hr
      generalize bodyB r = bb at *
      generalize bodyS r = bsr at *
      generalize readNode bsr = R at *
      rcases (show bb = false ∨ (bb = true ∧ R = none) ∨ ∃ n, bb = true ∧ R = some n from by cases bb <;> cases R <;> simp) with hq | ⟨hq, hq'⟩ | ⟨nd, hq, hq'⟩
      · subst hq
        go_wp2_with fail
        refine (unhide HBO _).mono ?_
        rintro e w1 ⟨rfl, rfl⟩
        go_wp2_with fail
        refine (unhide HRD _).mono ?_
        rintro e w2 ⟨rfl, hb2⟩
        have HB3 := hide (hbel.trans (hb2.mono hbel.size))
        have HOWN := hide (own_below hown hb2)
        have hz3 := hb2.size
        have HN := hide (rdInv_no (unhide HI) hlt (by rw [unhide HR, unhide HREC]; rfl))
        have HI1 := hide (unhide HI).1
        go_wp2
        go_ret
        have hE := (Below.refl w2.heap.size w2).alloc (Nat.le_refl _) (.cells #[.int .i64 (R.getD nd0).id, .int .i64 (R.getD nd0).parent, .string (bs (R.getD nd0).name)] 75)
        obtain ⟨ao', cap', rfl, hr⟩ := row_of_owns (own_below (unhide HOWN) hE)
        rw [unhide HN]
        rw [← unhide HI1] at hr
        exact ⟨ao', cap', by rw [unhide HI1]; rfl, hr, (unhide HB3).trans (hE.mono (by have := hbel.size; omega))⟩
      · subst hq hq'
        go_wp2_with fail
        refine (unhide HBO _).mono ?_
        rintro e w1 ⟨rfl, rfl⟩
        go_wp2_with fail
        refine (unhide HRD _).mono ?_
        rintro e w2 ⟨rfl, hb2⟩
        have HB3 := hide (hbel.trans (hb2.mono hbel.size))
        have HOWN := hide (own_below hown hb2)
        have hz3 := hb2.size
        have HN := hide (rdInv_no (unhide HI) hlt (by rw [unhide HR, unhide HREC]; rfl))
        have HI1 := hide (unhide HI).1
        go_wp2
        go_ret
        have hE := (Below.refl w2.heap.size w2).alloc (Nat.le_refl _) (.cells #[.int .i64 nd0.id, .int .i64 nd0.parent, .string (bs nd0.name)] 75)
        obtain ⟨ao', cap', rfl, hr⟩ := row_of_owns (own_below (unhide HOWN) hE)
        rw [unhide HN]
        rw [← unhide HI1] at hr
        exact ⟨ao', cap', by rw [unhide HI1]; rfl, hr, (unhide HB3).trans (hE.mono (by have := hbel.size; omega))⟩
      · subst hq hq'
        go_wp2_with fail
        refine (unhide HBO _).mono ?_
        rintro e w1 ⟨rfl, rfl⟩
        go_wp2_with fail
        refine (unhide HRD _).mono ?_
        rintro e w2 ⟨rfl, hb2⟩
        have HB3 := hide (hbel.trans (hb2.mono hbel.size))
        have HOWN := hide (own_below hown hb2)
        have hz3 := hb2.size
        go_wp2_with (first
          | (at_builtin; (refine wpList_append_own _ rfl _ _ 126 rfl w.heap.size 75 i0 (.agg #[.int .i64 0, .int .i64 0, .string ByteArray.empty]) 3 32 Tryz.underlying126 hi hz0 hz1 hz2 rfl (by decide) _ _ _ rfl (own_below (unhide HOWN) (((Below.refl _ _).alloc (Nat.le_refl _) _).alloc (by simp) _)) ⟨w2.heap.size + 1, 0, none⟩ 1 1 [.int .i64 nd.id, .int .i64 nd.parent, .string (bs nd.name)] rfl rfl (news_three' _ _ _ _ _) (by simp [Value.oneCell']) (by unfold maxLen; omega) (by omega) (by have := hbel.size; simp; omega) ?_))
          | go_in)
        intro v' w3 hown' hgrow _
        have HN := hide (rdInv_yes (unhide HI) hlt (n := nd) (by rw [unhide HR, unhide HREC]; rfl))
        have hb4 : Below w.heap.size w w3 := ((((unhide HB3).alloc (by have := hbel.size; omega) _).alloc (by have := hbel.size; simp; omega) _)).grown hgrow (by have := hbel.size; simp; omega) (own_ge hown)
        have hown2 : w3.ownsRow w.heap.size 75 3 v' (k + 1) (ndCells (ns ++ [nd])) := by rw [ndCells_snoc]; exact hown'
        clear hgrow hown hbel hown' hb2
        go_wp2
        go_roundw
        case rel => exact ⟨k + 1, _, by omega, by go_num, hown2, hb4, HN⟩
        case measure => simp [intOf]; omega
    · have HN := hide (rdInv_end (unhide HI) hlt)
      have HI1 := hide (unhide HI).1
      go_wp2
      go_ret
      obtain ⟨ao', cap', rfl, hr⟩ := row_of_owns hown
      rw [unhide HN]
      rw [← unhide HI1] at hr
      exact ⟨ao', cap', by rw [unhide HI1]; rfl, hr, hbel⟩
end Go.Proofs.YtdcjimlhaklhfabGreatDoor

namespace Go.Proofs.YtdcjimlhaklhfabGreatDoor
open Go.RowKit
set_option maxHeartbeats 1000000 in
theorem kcut_any (s : ByteArray) (w : World) (hs : s.size ≤ 4000) :
    Calls Tryz.prog 19 #[.string s] w fun e w' => ∃ ao cap, e = .returned (.slice ao (cut (sl s)).length cap) ∧ Row w' ao (cut (sl s)).length 1 ((cut (sl s)).map strV) ∧ Below w.heap.size w w' := by
  obtain ⟨i0, hi, hz0, hz1, hz2⟩ := info_parts Tryz.infoStr
  have hsz : (0 : Int) ≤ s.size := by omega
  go_enter Tryz.func19, Tryz.ntmps19
  go_wp2
  go_loopw [3, 4, 5] (fun v st i wr => ∃ k t n : Nat, ∃ xs : List Value, k ≤ s.size ∧ t ≤ k ∧ n ≤ k ∧ i = .int .i64 k ∧ st = .int .i64 t ∧ wr.ownsRow w.heap.size 9 1 v n xs ∧ Below w.heap.size w wr ∧ Hid (CutInv s k t n xs)) (fun _ _ i _ => s.size - (intOf i).toNat)
  case atStart => exact ⟨0, 0, 0, [], Nat.zero_le _, Nat.le_refl _, Nat.le_refl _, rfl, rfl, World.ownsRow_nil _ _ _ _, Below.refl _ _, hide ⟨by simp [cutTo], by simp [cutTo], by simp [cutTo]⟩⟩
  case round =>
    obtain ⟨k, t, n, xs, hk, ht, hn, rfl, rfl, hown, hbel, HI⟩ := hrel
    by_cases hlt : k < s.size
    · by_cases hc : s[k] = 59
      · have HN := hide (cutInv_hit (unhide HI) hlt hc)
        go_wp2_with (first
          | (at_builtin; refine wpList_append_own _ rfl _ _ 42 rfl w.heap.size 9 i0 (.string ByteArray.empty) 1 16 Tryz.underlying42 hi hz0 hz1 hz2 rfl (by decide) _ _ _ rfl (hown.alloc _) ⟨wr.heap.size, 0, none⟩ 1 1 [.string (s.extract t (k + 1))] rfl rfl (news_one _ _) (by simp [Value.oneCell']) (by unfold maxLen; omega) (by omega) (by have := hbel.size; simp; omega) ?_)
          | go_in)
        intro v' w1 hown' hgrow _
        have hb1 := below_app hbel (by have := hbel.size; omega) hown hgrow
        clear hgrow hown hbel
        go_wp2
        go_roundw
        case rel => exact ⟨k + 1, k + 1, n + 1, _, by omega, by omega, by omega, by go_num, by go_num, hown', hb1, HN⟩
        case measure => simp [intOf]; omega
      · have HN := hide (cutInv_miss (unhide HI) hlt hc)
        have hc' : (((s[k]).toNat : Int) == 59) = false := by
          rw [beq_eq_false_iff_ne]; intro h; exact hc (UInt8.toNat_inj.1 (by simpa using (by omega : (s[k]).toNat = 59)))
        have HC := hide hc; clear hc
        go_wp2
        go_roundw
        case rel => exact ⟨k + 1, t, n, _, by omega, by omega, by omega, by go_num, rfl, hown, hbel, HN⟩
        case measure => simp [intOf]; omega
    · have hks : k = s.size := by omega
      subst hks
      by_cases hts : t < s.size
      · have HN := hide (cutInv_last (unhide HI) hts)
        go_wp2_with (first
          | (at_builtin; refine wpList_append_own _ rfl _ _ 42 rfl w.heap.size 9 i0 (.string ByteArray.empty) 1 16 Tryz.underlying42 hi hz0 hz1 hz2 rfl (by decide) _ _ _ rfl (hown.alloc _) ⟨wr.heap.size, 0, none⟩ 1 1 [.string (s.extract t s.size)] rfl rfl (news_one _ _) (by simp [Value.oneCell']) (by unfold maxLen; omega) (by omega) (by have := hbel.size; simp; omega) ?_)
          | go_in)
        intro v' w1 hown' hgrow _
        have hb1 := below_app hbel (by have := hbel.size; omega) hown hgrow
        clear hgrow hown hbel
        go_wp2
        go_ret
        obtain ⟨e1, e2⟩ := unhide HN
        obtain ⟨ao, cap, rfl, hr⟩ := row_of_owns hown'
        rw [e1, e2] at hr
        exact ⟨ao, cap, by rw [← e1]; rfl, hr, hb1⟩
      · have HN := hide (cutInv_end (unhide HI) hts)
        go_wp2
        go_ret
        obtain ⟨e1, e2⟩ := unhide HN
        obtain ⟨ao, cap, rfl, hr⟩ := row_of_owns hown
        rw [e1, e2] at hr
        exact ⟨ao, cap, by rw [← e1]; rfl, hr, hbel⟩
end Go.Proofs.YtdcjimlhaklhfabGreatDoor

namespace Go.Proofs.YtdcjimlhaklhfabGreatDoor
open Go.RowKit
/-- The first number from lo on, below n, that has p; else n. -/
def scan (p : Nat → Bool) (lo n : Nat) : Nat := ((List.range' lo (n - lo)).find? p).getD n
theorem scan_hit {p : Nat → Bool} {lo n k : Nat} (h1 : lo ≤ k) (h2 : k < n) (hp : p k = true) (hno : ∀ j, lo ≤ j → j < k → p j = false) : scan p lo n = k := by
  unfold scan
  have : (List.range' lo (n - lo)).find? p = some k := by
    rw [List.find?_range'_eq_some]
    exact ⟨hp, by rw [List.mem_range'_1]; omega, fun j hj hk => by simp [hno j hj hk]⟩
  rw [this]; rfl
theorem scan_none {p : Nat → Bool} {lo n : Nat} (hno : ∀ j, lo ≤ j → j < n → p j = false) : scan p lo n = n := by
  unfold scan
  have : (List.range' lo (n - lo)).find? p = none := by
    rw [List.find?_eq_none]
    intro x hx
    rw [List.mem_range'_1] at hx
    simp [hno x hx.1 (by omega)]
  rw [this]; rfl
theorem scan_le (p : Nat → Bool) (lo n : Nat) : scan p lo n ≤ n := by
  unfold scan
  cases h : (List.range' lo (n - lo)).find? p with
  | none => simp
  | some k => have := List.mem_of_find?_eq_some h; rw [List.mem_range'_1] at this; simp; omega
def ndAt (ns : List Nd) (i : Nat) : Nd := ns.getD i nd0
theorem ndAt_get (ns : List Nd) (i : Nat) (h : i < ns.length) : ndAt ns i = ns[i] := by simp [ndAt, h]
def unordered (ns : List Nd) (i : Nat) : Bool := decide ((ndAt ns i).id ≤ (ndAt ns (i - 1)).id)
abbrev Tr := Nat → Option Nd
def TrOk (t : Tr) : Prop := t 0 = none ∧ ∀ i n, t i = some n → n.id = i ∧ 1 ≤ i ∧ i ≤ 99 ∧ 0 ≤ n.parent ∧ n.parent ≤ 99 ∧ isName n.name n.id = true
def trPut (t : Tr) (n : Nd) : Tr := fun i => if (i : Int) = n.id then some n else t i
def tr0 : Tr := fun _ => none
def gather (ns : List Nd) : Tr := ns.foldl trPut tr0
theorem trOk_0 : TrOk tr0 := ⟨rfl, fun i n h => by cases h⟩
theorem trOk_put {t : Tr} (h : TrOk t) {n : Nd} (hn : 1 ≤ n.id ∧ n.id ≤ 99 ∧ 0 ≤ n.parent ∧ n.parent ≤ 99 ∧ isName n.name n.id = true) : TrOk (trPut t n) := by
  refine ⟨?_, fun i m hm => ?_⟩
  · unfold trPut; rw [if_neg (by omega)]; exact h.1
  · unfold trPut at hm
    split at hm
    · cases hm; rename_i e; exact ⟨e.symm, by omega, by omega, hn.2.2.1, hn.2.2.2.1, hn.2.2.2.2⟩
    · exact h.2 i m hm
def hasT (t : Tr) (id : Int) : Bool := (t id.toNat).isSome
def isParentT (t : Tr) (id : Int) : Bool := id == 0 || (id % 2 == 0 && hasT t id)
def meetsF (t : Tr) : Nat → Int → Int → Bool
  | 0, _, _ => false
  | f + 1, id, goal => if id = goal then true else match t id.toNat with
    | none => false
    | some n => meetsF t f n.parent goal
def meetsT (t : Tr) (id goal : Int) : Bool := meetsF t 100 id goal
def orphan (t : Tr) (ns : List Nd) (i : Nat) : Bool := !isParentT t (ndAt ns i).parent
def looped (t : Tr) (ns : List Nd) (i : Nat) : Bool := !meetsT t (ndAt ns i).id 0
def samePlace (ns : List Nd) (i j : Nat) : Bool := ((ndAt ns j).parent == (ndAt ns i).parent) && ((ndAt ns j).name == (ndAt ns i).name)
def twice (ns : List Nd) (i : Nat) : Bool := decide (∃ j, j < i ∧ samePlace ns i j = true)
/-- What Read answers: the error and the place. -/
def misplaced (t : Tr) (ns : List Nd) : Int × Nat :=
  if scan (orphan t ns) 0 ns.length < ns.length then (4, scan (orphan t ns) 0 ns.length)
  else if scan (looped t ns) 0 ns.length < ns.length then (5, scan (looped t ns) 0 ns.length)
  else if scan (twice ns) 0 ns.length < ns.length then (6, scan (twice ns) 0 ns.length)
  else (0, 0)
def checkT (l : Str) : Int × Nat :=
  if 4000 < l.length then (1, 0) else
  let rs := cut l
  let ns := readNodes rs
  if ns.length < rs.length then (2, ns.length) else
  if scan (unordered ns) 1 ns.length < ns.length then (3, scan (unordered ns) 1 ns.length) else
  misplaced (gather ns) ns
theorem gather_ok_aux : ∀ (ns : List Nd) (t : Tr), TrOk t → (∀ n ∈ ns, 1 ≤ n.id ∧ n.id ≤ 99 ∧ 0 ≤ n.parent ∧ n.parent ≤ 99 ∧ isName n.name n.id = true) → TrOk (ns.foldl trPut t) := by
  intro ns
  induction ns with
  | nil => intro t h _; exact h
  | cons n ns ih => intro t h hn; exact ih _ (trOk_put h (hn n (by simp))) (fun m hm => hn m (by simp [hm]))
theorem gather_ok (l : List Str) : TrOk (gather (readNodes l)) := gather_ok_aux _ _ trOk_0 (readNodes_bd l)
end Go.Proofs.YtdcjimlhaklhfabGreatDoor
