import Derived.WalkKit
namespace Go.Proofs.YtkjancfakplogaaGreatDoor
open Go.RowKit
theorem hide {p : Prop} (h : p) : Hid p := h
theorem unhide {p : Prop} (h : Hid p) : p := h
abbrev Str := List UInt8
def bs (l : Str) : ByteArray := ⟨l.toArray⟩
def sl (s : ByteArray) : Str := s.data.toList
theorem sl_bs (l : Str) : sl (bs l) = l := by simp [sl, bs]
theorem bs_sl (s : ByteArray) : bs (sl s) = s := by simp [sl, bs]
theorem bs_size (l : Str) : (bs l).size = l.length := by simp [bs, ByteArray.size]
theorem sl_length (s : ByteArray) : (sl s).length = s.size := Array.length_toList
theorem sl_get (s : ByteArray) (k : Nat) (h : k < s.size) : (sl s)[k]'(by rw [sl_length]; exact h) = s[k] := rfl
theorem bs_inj {a b : Str} (h : bs a = bs b) : a = b := by have := congrArg sl h; rwa [sl_bs, sl_bs] at this
theorem bs_extract (s : ByteArray) (a b : Nat) : s.extract a b = bs (((sl s).take b).drop a) := by
  apply ByteArray.ext; apply Array.ext'; simp [bs, sl, ByteArray.data_extract, List.drop_take, List.extract_eq_take_drop]
theorem take_snoc (s : ByteArray) (k : Nat) (h : k < s.size) : (sl s).take (k + 1) = (sl s).take k ++ [s[k]] := by
  rw [List.take_succ_eq_append_getElem (by rw [sl_length]; exact h)]; rfl
theorem drop_cons (s : ByteArray) (k : Nat) (h : k < s.size) : (sl s).drop k = s[k] :: (sl s).drop (k + 1) := by
  rw [List.drop_eq_getElem_cons (by rw [sl_length]; exact h)]; rfl
theorem ret_bool {a b : Bool} (h : a = b) : Ending.returned (.bool a) = .returned (.bool b) := by rw [h]
theorem ret_int {k : IntKind} {a b : Int} (h : a = b) : Ending.returned (.int k a) = .returned (.int k b) := by rw [h]
theorem ret_str {a b : ByteArray} (h : a = b) : Ending.returned (.string a) = .returned (.string b) := by rw [h]

/-- A byte that a name's plain part may have. -/
def plainB (c : UInt8) : Bool := (decide (97 ≤ c.toNat) && decide (c.toNat ≤ 122)) || (decide (48 ≤ c.toNat) && decide (c.toNat ≤ 57)) || c.toNat == 46
def plainLen (l : Str) : Nat := (l.takeWhile plainB).length
theorem plainLen_le (l : Str) : plainLen l ≤ l.length := (List.takeWhile_sublist _).length_le
theorem plainLen_go (l : Str) : ∀ k, k ≤ l.length → (l.take k).all plainB = true → plainLen l = k + plainLen (l.drop k) := by
  induction l with
  | nil => intro k hk _; simp at hk; subst hk; simp
  | cons c r ih =>
    intro k hk ha
    cases k with
    | zero => simp
    | succ k =>
      simp at hk ha
      have := ih k hk (by simpa using ha.2)
      simp [plainLen, ha.1] at *
      omega
theorem plainLen_stop (l : Str) (k : Nat) (hk : k ≤ l.length) (ha : (l.take k).all plainB = true) (hs : ∀ c r, l.drop k = c :: r → plainB c = false) : plainLen l = k := by
  rw [plainLen_go l k hk ha]
  cases h : l.drop k with
  | nil => simp [plainLen]
  | cons c r => simp [plainLen, hs c r h]

/-- What stands ahead of a record's semicolon. -/
def bodyB (l : Str) : Bool := l.getLast? == some 59
def bodyS (l : Str) : Str := if bodyB l then l.dropLast else []
theorem getLast_at (s : ByteArray) (h : 0 < s.size) : (sl s).getLast? = some s[s.size - 1] := by
  rw [List.getLast?_eq_getElem?, sl_length, List.getElem?_eq_getElem (by rw [sl_length]; omega)]; rfl
theorem bodyB_at (s : ByteArray) (h : 0 < s.size) : bodyB (sl s) = (s[s.size - 1] == 59) := by
  unfold bodyB; rw [getLast_at s h]; rfl
theorem bodyB_nil (s : ByteArray) (h : s.size = 0) : bodyB (sl s) = false := by
  have : sl s = [] := List.length_eq_zero_iff.1 (by rw [sl_length]; exact h)
  simp [bodyB, this]
theorem dropLast_ext (s : ByteArray) : s.extract 0 (s.size - 1) = bs (sl s).dropLast := by
  rw [bs_extract, List.dropLast_eq_take, sl_length]; rfl
theorem ret_sb {a b : ByteArray} {x y : Bool} (h : a = b) (g : x = y) : Ending.returned (.tuple #[.string a, .bool x]) = .returned (.tuple #[.string b, .bool y]) := by rw [h, g]
theorem ret_ib {a b : Int} {x y : Bool} (h : a = b) (g : x = y) : Ending.returned (.tuple #[.int .i64 a, .bool x]) = .returned (.tuple #[.int .i64 b, .bool y]) := by rw [h, g]

/-- A number, digit by digit. -/
def numGo (most : Int) : Int → Str → Option Int
  | n, [] => some n
  | n, c :: r => if 48 ≤ c.toNat ∧ c.toNat ≤ 57 then (if n * 10 + (c.toNat - 48) > most then none else numGo most (n * 10 + (c.toNat - 48)) r) else none
def numBad (l : Str) : Bool := l.isEmpty || (l.headD 0 == 48 && decide (1 < l.length))
def number (l : Str) (least most : Int) : Int × Bool :=
  if numBad l then (0, false) else match numGo most 0 l with
    | none => (0, false)
    | some n => (n, decide (least ≤ n))

theorem numGo_cons {most n : Int} {c : UInt8} {r : Str} (h1 : 48 ≤ c.toNat) (h2 : c.toNat ≤ 57) (h3 : ¬ n * 10 + (c.toNat - 48) > most) : numGo most n (c :: r) = numGo most (n * 10 + (c.toNat - 48)) r := by
  rw [numGo, if_pos ⟨h1, h2⟩, if_neg h3]
theorem numGo_big {most n : Int} {c : UInt8} {r : Str} (h3 : n * 10 + (c.toNat - 48) > most) : numGo most n (c :: r) = none := by
  rw [numGo, if_pos h3]; split <;> rfl
theorem numGo_no {most n : Int} {c : UInt8} {r : Str} (h : ¬ (48 ≤ c.toNat ∧ c.toNat ≤ 57)) : numGo most n (c :: r) = none := by
  rw [numGo, if_neg h]
theorem number_none {l : Str} {a b : Int} (h : numGo b 0 l = none) : number l a b = (0, false) := by unfold number; rw [h]; split <;> rfl
theorem number_some {l : Str} {a b n : Int} (g : numBad l = false) (h : numGo b 0 l = some n) : number l a b = (n, decide (a ≤ n)) := by unfold number; rw [h, g]; rfl
theorem number_bad {l : Str} {a b : Int} (g : numBad l = true) : number l a b = (0, false) := by unfold number; rw [g]; rfl

theorem tl_sl (s : ByteArray) : s.toList = sl s := ByteArray.toList_eq s
theorem numBad_empty (s : ByteArray) (h : s.size = 0) : numBad (sl s) = true := by
  have : sl s = [] := List.length_eq_zero_iff.1 (by rw [sl_length]; exact h)
  simp [numBad, this]
theorem headD_at (s : ByteArray) (h : 0 < s.size) : (sl s).headD 0 = s[0] := by
  have := drop_cons s 0 h; simp at this; rw [this]; rfl
theorem numBad_zero (s : ByteArray) (h : 1 < s.size) (h48 : s[0].toNat = 48) : numBad (sl s) = true := by
  unfold numBad; rw [headD_at s (by omega), sl_length, UInt8.toNat_inj.1 (by simpa using h48 : s[0].toNat = (48 : UInt8).toNat)]; simp [h]
theorem numBad_not (s : ByteArray) (h : 0 < s.size) (h48 : ¬ (s[0].toNat = 48 ∧ 1 < s.size)) : numBad (sl s) = false := by
  unfold numBad; rw [headD_at s (by omega), sl_length]
  have h1 : (sl s).isEmpty = false := by
    rw [List.isEmpty_eq_false_iff]; intro e; have := congrArg List.length e; rw [sl_length] at this; simp only [List.length_nil] at this; omega
  rw [h1, Bool.false_or, Bool.and_eq_false_iff]
  by_cases e : s[0] = 48
  · right; rw [e] at h48; simp at h48 ⊢; omega
  · left; simpa using e
theorem ne_nil_at (s : ByteArray) (h : 0 < s.size) : ¬ s.toList = [] := by
  rw [tl_sl]; intro e; have := congrArg List.length e; rw [sl_length] at this; simp only [List.length_nil] at this; omega
theorem nil_at (s : ByteArray) (h : s.size = 0) : s.toList = [] := by
  rw [tl_sl]; exact List.length_eq_zero_iff.1 (by rw [sl_length]; exact h)

/-- A small number in digits. -/
def digs (n : Int) : Str := if n < 10 then [UInt8.ofNat (48 + n.toNat)] else [UInt8.ofNat (48 + n.toNat / 10), UInt8.ofNat (48 + n.toNat % 10)]

theorem digs_len (n : Int) : 1 ≤ (digs n).length ∧ (digs n).length ≤ 2 := by unfold digs; split <;> simp
def isName (l : Str) (id : Int) : Bool :=
  decide (1 ≤ plainLen l) && decide (plainLen l ≤ 8) && (plainLen l == l.length || l.drop (plainLen l) == 126 :: digs id)

/-- Cut: the records. -/
def cutStep (p : List Str × Str) (c : UInt8) : List Str × Str := if c = 59 then (p.1 ++ [p.2 ++ [c]], []) else (p.1, p.2 ++ [c])
def cutTo (l : Str) : List Str × Str := l.foldl cutStep ([], [])
def cut (l : Str) : List Str := if (cutTo l).2 = [] then (cutTo l).1 else (cutTo l).1 ++ [(cutTo l).2]
/-- Parts: at every blank. -/
def partStep (p : List Str × Str) (c : UInt8) : List Str × Str := if c = 32 then (p.1 ++ [p.2], []) else (p.1, p.2 ++ [c])
def partTo (l : Str) : List Str × Str := l.foldl partStep ([], [])
def parts (l : Str) : List Str := (partTo l).1 ++ [(partTo l).2]
theorem cutTo_snoc (l : Str) (c : UInt8) : cutTo (l ++ [c]) = cutStep (cutTo l) c := by simp [cutTo, List.foldl_append]
theorem partTo_snoc (l : Str) (c : UInt8) : partTo (l ++ [c]) = partStep (partTo l) c := by simp [partTo, List.foldl_append]
theorem snoc_ind {P : Str → Prop} (h0 : P []) (hs : ∀ l c, P l → P (l ++ [c])) : ∀ l, P l := by
  intro l
  have : ∀ n (l : Str), l.length = n → P l := by
    intro n
    induction n with
    | zero => intro l hl; rw [List.length_eq_zero_iff.1 hl]; exact h0
    | succ n ih =>
      intro l hl
      have hne : l ≠ [] := by intro h; simp [h] at hl
      rw [← List.dropLast_concat_getLast hne]
      exact hs _ _ (ih _ (by simp; omega))
  exact this _ l rfl
theorem cutTo_suf (l : Str) : ∃ a, l = a ++ (cutTo l).2 := by
  refine snoc_ind (P := fun l => ∃ a, l = a ++ (cutTo l).2) ⟨[], rfl⟩ ?_ l
  rintro l c ⟨a, ha⟩
  rw [cutTo_snoc]; unfold cutStep
  split
  · exact ⟨l ++ [c], by simp⟩
  · refine ⟨a, ?_⟩
    conv => lhs; rw [ha]
    simp
theorem partTo_suf (l : Str) : ∃ a, l = a ++ (partTo l).2 := by
  refine snoc_ind (P := fun l => ∃ a, l = a ++ (partTo l).2) ⟨[], rfl⟩ ?_ l
  rintro l c ⟨a, ha⟩
  rw [partTo_snoc]; unfold partStep
  split
  · exact ⟨l ++ [c], by simp⟩
  · refine ⟨a, ?_⟩
    conv => lhs; rw [ha]
    simp
theorem suf_drop {l a b : Str} (h : l = a ++ b) : b = l.drop (l.length - b.length) ∧ b.length ≤ l.length := by
  subst h; simp
theorem cutTo_len (l : Str) : (cutTo l).1.length + (cutTo l).2.length ≤ l.length := by
  refine snoc_ind (P := fun l => (cutTo l).1.length + (cutTo l).2.length ≤ l.length) (by simp [cutTo]) ?_ l
  intro l c h
  rw [cutTo_snoc]; unfold cutStep; split <;> simp <;> omega
theorem partTo_len (l : Str) : (partTo l).1.length + (partTo l).2.length ≤ l.length := by
  refine snoc_ind (P := fun l => (partTo l).1.length + (partTo l).2.length ≤ l.length) (by simp [partTo]) ?_ l
  intro l c h
  rw [partTo_snoc]; unfold partStep; split <;> simp <;> omega
end Go.Proofs.YtkjancfakplogaaGreatDoor
