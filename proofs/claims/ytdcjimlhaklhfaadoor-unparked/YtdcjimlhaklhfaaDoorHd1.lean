import Derived.WalkKit
namespace Go.Proofs.YtdcjimlhaklhfaaDoor
open Go.RowKit
theorem hide {p : Prop} (h : p) : Hid p := h
theorem unhide {p : Prop} (h : Hid p) : p := h
abbrev Str := List UInt8
def bs (l : Str) : ByteArray := ⟨l.toArray⟩
def sl (s : ByteArray) : Str := s.data.toList
theorem sl_bs (l : Str) : sl (bs l) = l := by simp [sl, bs]
theorem bs_sl (s : ByteArray) : bs (sl s) = s := by simp [sl, bs]
theorem bs_size (l : Str) : (bs l).size = l.length := by simp [bs, ByteArray.size]
theorem sl_length (s : ByteArray) : (sl s).length = s.size := Array.length_toList
theorem sl_get (s : ByteArray) (k : Nat) (h : k < s.size) : (sl s)[k]'(by rw [sl_length]; exact h) = s[k] := rfl
theorem bs_inj {a b : Str} (h : bs a = bs b) : a = b := by have := congrArg sl h; rwa [sl_bs, sl_bs] at this
theorem bs_extract (s : ByteArray) (a b : Nat) : s.extract a b = bs (((sl s).take b).drop a) := by
  apply ByteArray.ext; apply Array.ext'; simp [bs, sl, ByteArray.data_extract, List.drop_take, List.extract_eq_take_drop]
theorem take_snoc (s : ByteArray) (k : Nat) (h : k < s.size) : (sl s).take (k + 1) = (sl s).take k ++ [s[k]] := by
  rw [List.take_succ_eq_append_getElem (by rw [sl_length]; exact h)]; rfl
theorem drop_cons (s : ByteArray) (k : Nat) (h : k < s.size) : (sl s).drop k = s[k] :: (sl s).drop (k + 1) := by
  rw [List.drop_eq_getElem_cons (by rw [sl_length]; exact h)]; rfl
theorem ret_bool {a b : Bool} (h : a = b) : Ending.returned (.bool a) = .returned (.bool b) := by rw [h]
theorem ret_int {k : IntKind} {a b : Int} (h : a = b) : Ending.returned (.int k a) = .returned (.int k b) := by rw [h]
theorem ret_str {a b : ByteArray} (h : a = b) : Ending.returned (.string a) = .returned (.string b) := by rw [h]

/-- A byte that a name's plain part may have. -/
def plainB (c : UInt8) : Bool := (decide (97 ≤ c.toNat) && decide (c.toNat ≤ 122)) || (decide (48 ≤ c.toNat) && decide (c.toNat ≤ 57)) || c.toNat == 46
def plainLen (l : Str) : Nat := (l.takeWhile plainB).length
theorem plainLen_le (l : Str) : plainLen l ≤ l.length := (List.takeWhile_sublist _).length_le
theorem plainLen_go (l : Str) : ∀ k, k ≤ l.length → (l.take k).all plainB = true → plainLen l = k + plainLen (l.drop k) := by
  induction l with
  | nil => intro k hk _; simp at hk; subst hk; simp
  | cons c r ih =>
    intro k hk ha
    cases k with
    | zero => simp
    | succ k =>
      simp at hk ha
      have := ih k hk (by simpa using ha.2)
      simp [plainLen, ha.1] at *
      omega
theorem plainLen_stop (l : Str) (k : Nat) (hk : k ≤ l.length) (ha : (l.take k).all plainB = true) (hs : ∀ c r, l.drop k = c :: r → plainB c = false) : plainLen l = k := by
  rw [plainLen_go l k hk ha]
  cases h : l.drop k with
  | nil => simp [plainLen]
  | cons c r => simp [plainLen, hs c r h]

/-- What stands ahead of a record's semicolon. -/
def bodyB (l : Str) : Bool := l.getLast? == some 59
def bodyS (l : Str) : Str := if bodyB l then l.dropLast else []
theorem getLast_at (s : ByteArray) (h : 0 < s.size) : (sl s).getLast? = some s[s.size - 1] := by
  rw [List.getLast?_eq_getElem?, sl_length, List.getElem?_eq_getElem (by rw [sl_length]; omega)]; rfl
theorem bodyB_at (s : ByteArray) (h : 0 < s.size) : bodyB (sl s) = (s[s.size - 1] == 59) := by
  unfold bodyB; rw [getLast_at s h]; rfl
theorem bodyB_nil (s : ByteArray) (h : s.size = 0) : bodyB (sl s) = false := by
  have : sl s = [] := List.length_eq_zero_iff.1 (by rw [sl_length]; exact h)
  simp [bodyB, this]
theorem dropLast_ext (s : ByteArray) : s.extract 0 (s.size - 1) = bs (sl s).dropLast := by
  rw [bs_extract, List.dropLast_eq_take, sl_length]; rfl
theorem ret_sb {a b : ByteArray} {x y : Bool} (h : a = b) (g : x = y) : Ending.returned (.tuple #[.string a, .bool x]) = .returned (.tuple #[.string b, .bool y]) := by rw [h, g]
theorem ret_ib {a b : Int} {x y : Bool} (h : a = b) (g : x = y) : Ending.returned (.tuple #[.int .i64 a, .bool x]) = .returned (.tuple #[.int .i64 b, .bool y]) := by rw [h, g]

/-- A number, digit by digit. -/
def numGo (most : Int) : Int → Str → Option Int
  | n, [] => some n
  | n, c :: r => if 48 ≤ c.toNat ∧ c.toNat ≤ 57 then (if n * 10 + (c.toNat - 48) > most then none else numGo most (n * 10 + (c.toNat - 48)) r) else none
def numBad (l : Str) : Bool := l.isEmpty || (l.headD 0 == 48 && decide (1 < l.length))
def number (l : Str) (least most : Int) : Int × Bool :=
  if numBad l then (0, false) else match numGo most 0 l with
    | none => (0, false)
    | some n => (n, decide (least ≤ n))

theorem numGo_cons {most n : Int} {c : UInt8} {r : Str} (h1 : 48 ≤ c.toNat) (h2 : c.toNat ≤ 57) (h3 : ¬ n * 10 + (c.toNat - 48) > most) : numGo most n (c :: r) = numGo most (n * 10 + (c.toNat - 48)) r := by
  rw [numGo, if_pos ⟨h1, h2⟩, if_neg h3]
theorem numGo_big {most n : Int} {c : UInt8} {r : Str} (h3 : n * 10 + (c.toNat - 48) > most) : numGo most n (c :: r) = none := by
  rw [numGo, if_pos h3]; split <;> rfl
theorem numGo_no {most n : Int} {c : UInt8} {r : Str} (h : ¬ (48 ≤ c.toNat ∧ c.toNat ≤ 57)) : numGo most n (c :: r) = none := by
  rw [numGo, if_neg h]
theorem number_none {l : Str} {a b : Int} (h : numGo b 0 l = none) : number l a b = (0, false) := by unfold number; rw [h]; split <;> rfl
theorem number_some {l : Str} {a b n : Int} (g : numBad l = false) (h : numGo b 0 l = some n) : number l a b = (n, decide (a ≤ n)) := by unfold number; rw [h, g]; rfl
theorem number_bad {l : Str} {a b : Int} (g : numBad l = true) : number l a b = (0, false) := by unfold number; rw [g]; rfl

theorem tl_sl (s : ByteArray) : s.toList = sl s := ByteArray.toList_eq s
theorem numBad_empty (s : ByteArray) (h : s.size = 0) : numBad (sl s) = true := by
  have : sl s = [] := List.length_eq_zero_iff.1 (by rw [sl_length]; exact h)
  simp [numBad, this]
theorem headD_at (s : ByteArray) (h : 0 < s.size) : (sl s).headD 0 = s[0] := by
  have := drop_cons s 0 h; simp at this; rw [this]; rfl
theorem numBad_zero (s : ByteArray) (h : 1 < s.size) (h48 : s[0].toNat = 48) : numBad (sl s) = true := by
  unfold numBad; rw [headD_at s (by omega), sl_length, UInt8.toNat_inj.1 (by simpa using h48 : s[0].toNat = (48 : UInt8).toNat)]; simp [h]
theorem numBad_not (s : ByteArray) (h : 0 < s.size) (h48 : ¬ (s[0].toNat = 48 ∧ 1 < s.size)) : numBad (sl s) = false := by
  unfold numBad; rw [headD_at s (by omega), sl_length]
  have h1 : (sl s).isEmpty = false := by
    rw [List.isEmpty_eq_false_iff]; intro e; have := congrArg List.length e; rw [sl_length] at this; simp only [List.length_nil] at this; omega
  rw [h1, Bool.false_or, Bool.and_eq_false_iff]
  by_cases e : s[0] = 48
  · right; rw [e] at h48; simp at h48 ⊢; omega
  · left; simpa using e
theorem ne_nil_at (s : ByteArray) (h : 0 < s.size) : ¬ s.toList = [] := by
  rw [tl_sl]; intro e; have := congrArg List.length e; rw [sl_length] at this; simp only [List.length_nil] at this; omega
theorem nil_at (s : ByteArray) (h : s.size = 0) : s.toList = [] := by
  rw [tl_sl]; exact List.length_eq_zero_iff.1 (by rw [sl_length]; exact h)

/-- A small number in digits. -/
def digs (n : Int) : Str := if n < 10 then [UInt8.ofNat (48 + n.toNat)] else [UInt8.ofNat (48 + n.toNat / 10), UInt8.ofNat (48 + n.toNat % 10)]

theorem digs_len (n : Int) : 1 ≤ (digs n).length ∧ (digs n).length ≤ 2 := by unfold digs; split <;> simp
def isName (l : Str) (id : Int) : Bool :=
  decide (1 ≤ plainLen l) && decide (plainLen l ≤ 8) && (plainLen l == l.length || l.drop (plainLen l) == 126 :: digs id)

/-- Cut: the records. -/
def cutStep (p : List Str × Str) (c : UInt8) : List Str × Str := if c = 59 then (p.1 ++ [p.2 ++ [c]], []) else (p.1, p.2 ++ [c])
def cutTo (l : Str) : List Str × Str := l.foldl cutStep ([], [])
def cut (l : Str) : List Str := if (cutTo l).2 = [] then (cutTo l).1 else (cutTo l).1 ++ [(cutTo l).2]
/-- Parts: at every blank. -/
def partStep (p : List Str × Str) (c : UInt8) : List Str × Str := if c = 32 then (p.1 ++ [p.2], []) else (p.1, p.2 ++ [c])
def partTo (l : Str) : List Str × Str := l.foldl partStep ([], [])
def parts (l : Str) : List Str := (partTo l).1 ++ [(partTo l).2]
theorem cutTo_snoc (l : Str) (c : UInt8) : cutTo (l ++ [c]) = cutStep (cutTo l) c := by simp [cutTo, List.foldl_append]
theorem partTo_snoc (l : Str) (c : UInt8) : partTo (l ++ [c]) = partStep (partTo l) c := by simp [partTo, List.foldl_append]
theorem snoc_ind {P : Str → Prop} (h0 : P []) (hs : ∀ l c, P l → P (l ++ [c])) : ∀ l, P l := by
  intro l
  have : ∀ n (l : Str), l.length = n → P l := by
    intro n
    induction n with
    | zero => intro l hl; rw [List.length_eq_zero_iff.1 hl]; exact h0
    | succ n ih =>
      intro l hl
      have hne : l ≠ [] := by intro h; simp [h] at hl
      rw [← List.dropLast_concat_getLast hne]
      exact hs _ _ (ih _ (by simp; omega))
  exact this _ l rfl
theorem cutTo_suf (l : Str) : ∃ a, l = a ++ (cutTo l).2 := by
  refine snoc_ind (P := fun l => ∃ a, l = a ++ (cutTo l).2) ⟨[], rfl⟩ ?_ l
  rintro l c ⟨a, ha⟩
  rw [cutTo_snoc]; unfold cutStep
  split
  · exact ⟨l ++ [c], by simp⟩
  · refine ⟨a, ?_⟩
    conv => lhs; rw [ha]
    simp
theorem partTo_suf (l : Str) : ∃ a, l = a ++ (partTo l).2 := by
  refine snoc_ind (P := fun l => ∃ a, l = a ++ (partTo l).2) ⟨[], rfl⟩ ?_ l
  rintro l c ⟨a, ha⟩
  rw [partTo_snoc]; unfold partStep
  split
  · exact ⟨l ++ [c], by simp⟩
  · refine ⟨a, ?_⟩
    conv => lhs; rw [ha]
    simp
theorem suf_drop {l a b : Str} (h : l = a ++ b) : b = l.drop (l.length - b.length) ∧ b.length ≤ l.length := by
  subst h; simp
theorem cutTo_len (l : Str) : (cutTo l).1.length + (cutTo l).2.length ≤ l.length := by
  refine snoc_ind (P := fun l => (cutTo l).1.length + (cutTo l).2.length ≤ l.length) (by simp [cutTo]) ?_ l
  intro l c h
  rw [cutTo_snoc]; unfold cutStep; split <;> simp <;> omega
theorem partTo_len (l : Str) : (partTo l).1.length + (partTo l).2.length ≤ l.length := by
  refine snoc_ind (P := fun l => (partTo l).1.length + (partTo l).2.length ≤ l.length) (by simp [partTo]) ?_ l
  intro l c h
  rw [partTo_snoc]; unfold partStep; split <;> simp <;> omega
end Go.Proofs.YtdcjimlhaklhfaaDoor

namespace Go.Proofs.YtdcjimlhaklhfaaDoor
open Go.RowKit
/-- A node and its place. -/
structure Nd where
  id : Int
  parent : Int
  name : Str
def nd0 : Nd := ⟨0, 0, []⟩
def ndEq (a b : Nd) : Bool := a.id == b.id && (a.parent == b.parent && a.name == b.name)
theorem ndEq_iff {a b : Nd} : ndEq a b = true ↔ a = b := by
  cases a; cases b; simp [ndEq]
def readNode (l : Str) : Option Nd :=
  match parts l with
  | [a, b, c] => if (number a 1 99).2 && (number b 0 99).2 && isName c (number a 1 99).1 then some ⟨(number a 1 99).1, (number b 0 99).1, c⟩ else none
  | _ => none
theorem numGo_bd (most : Int) : ∀ (l : Str) (n m : Int), 0 ≤ n → n ≤ most → numGo most n l = some m → 0 ≤ m ∧ m ≤ most := by
  intro l
  induction l with
  | nil => intro n m h0 h1 h; simp [numGo] at h; omega
  | cons c r ih =>
    intro n m h0 h1 h
    rw [numGo] at h
    split at h
    · split at h
      · cases h
      · exact ih _ m (by omega) (by omega) h
    · cases h
theorem number_bd (l : Str) (a b : Int) (hb : 0 ≤ b) : 0 ≤ (number l a b).1 ∧ (number l a b).1 ≤ b := by
  unfold number
  split
  · simp; exact hb
  · cases h : numGo b 0 l with
    | none => simp; exact hb
    | some n => exact numGo_bd b l 0 n (by omega) hb h
theorem number_lo (l : Str) (a b : Int) (h : (number l a b).2 = true) : a ≤ (number l a b).1 := by
  unfold number at h ⊢
  split at h
  · cases h
  · rename_i hb
    rw [if_neg hb]
    split at h
    · cases h
    · simp only []; simpa using h
theorem part_len (l : Str) : ∀ x ∈ parts l, x.length ≤ l.length := by
  have key : (∀ x ∈ (partTo l).1, x.length ≤ l.length) ∧ (partTo l).2.length ≤ l.length := by
    refine snoc_ind (P := fun l => (∀ x ∈ (partTo l).1, x.length ≤ l.length) ∧ (partTo l).2.length ≤ l.length) (by simp [partTo]) ?_ l
    rintro l c ⟨h1, h2⟩
    rw [partTo_snoc]; unfold partStep
    split
    · refine ⟨?_, by simp⟩
      intro x hx
      rcases List.mem_append.1 hx with hx | hx
      · have := h1 x hx; simp; omega
      · simp at hx; subst hx; simp; omega
    · refine ⟨fun x hx => by have := h1 x hx; simp; omega, by simp; omega⟩
  intro x hx
  rcases List.mem_append.1 hx with hx | hx
  · exact key.1 x hx
  · simp at hx; subst hx; exact key.2
theorem cut_mem_len (l : Str) : ∀ x ∈ cut l, x.length ≤ l.length := by
  have key : (∀ x ∈ (cutTo l).1, x.length ≤ l.length) ∧ (cutTo l).2.length ≤ l.length := by
    refine snoc_ind (P := fun l => (∀ x ∈ (cutTo l).1, x.length ≤ l.length) ∧ (cutTo l).2.length ≤ l.length) (by simp [cutTo]) ?_ l
    rintro l c ⟨h1, h2⟩
    rw [cutTo_snoc]; unfold cutStep
    split
    · refine ⟨?_, by simp⟩
      intro x hx
      rcases List.mem_append.1 hx with hx | hx
      · have := h1 x hx; simp; omega
      · simp at hx; subst hx; simp; omega
    · refine ⟨fun x hx => by have := h1 x hx; simp; omega, by simp; omega⟩
  intro x hx
  unfold cut at hx
  split at hx
  · exact key.1 x hx
  · rcases List.mem_append.1 hx with hx | hx
    · exact key.1 x hx
    · simp at hx; subst hx; exact key.2
theorem cut_length_le (l : Str) : (cut l).length ≤ l.length := by
  have := cutTo_len l
  unfold cut
  split
  · omega
  · rename_i h
    have : 0 < (cutTo l).2.length := List.length_pos_iff.2 h
    simp; omega
theorem bodyS_len (l : Str) : (bodyS l).length ≤ l.length := by unfold bodyS; split <;> simp
theorem readNode_bd {l : Str} {n : Nd} (h : readNode l = some n) : 1 ≤ n.id ∧ n.id ≤ 99 ∧ 0 ≤ n.parent ∧ n.parent ≤ 99 ∧ isName n.name n.id = true := by
  unfold readNode at h
  split at h
  · rename_i a b c _
    split at h
    · rename_i hh
      simp only [Bool.and_eq_true] at hh
      cases h
      exact ⟨number_lo a 1 99 hh.1.1, (number_bd a 1 99 (by omega)).2, (number_bd b 0 99 (by omega)).1, (number_bd b 0 99 (by omega)).2, hh.2⟩
    · cases h
  · cases h
/-- A record of a tree. -/
def recNode (r : Str) : Option Nd := if bodyB r then readNode (bodyS r) else none
/-- The nodes up to the first record that has not the form. -/
def readNodes : List Str → List Nd
  | [] => []
  | r :: l => match recNode r with
    | none => []
    | some n => n :: readNodes l
theorem readNodes_length (l : List Str) : (readNodes l).length ≤ l.length := by
  induction l with
  | nil => simp [readNodes]
  | cons r l ih => unfold readNodes; split <;> simp; omega
theorem readNodes_bd (l : List Str) : ∀ n ∈ readNodes l, 1 ≤ n.id ∧ n.id ≤ 99 ∧ 0 ≤ n.parent ∧ n.parent ≤ 99 ∧ isName n.name n.id = true := by
  induction l with
  | nil => intro n h; simp [readNodes] at h
  | cons r l ih =>
    intro n h
    unfold readNodes at h
    split at h
    · simp at h
    · rename_i m hm
      rcases List.mem_cons.1 h with rfl | h
      · unfold recNode at hm; split at hm
        · exact readNode_bd hm
        · cases hm
      · exact ih n h
end Go.Proofs.YtdcjimlhaklhfaaDoor

namespace Go.Proofs.YtdcjimlhaklhfaaDoor
open Go.RowKit
/-- The first number from lo on, below n, that has p; else n. -/
def scan (p : Nat → Bool) (lo n : Nat) : Nat := ((List.range' lo (n - lo)).find? p).getD n
theorem scan_hit {p : Nat → Bool} {lo n k : Nat} (h1 : lo ≤ k) (h2 : k < n) (hp : p k = true) (hno : ∀ j, lo ≤ j → j < k → p j = false) : scan p lo n = k := by
  unfold scan
  have : (List.range' lo (n - lo)).find? p = some k := by
    rw [List.find?_range'_eq_some]
    exact ⟨hp, by rw [List.mem_range'_1]; omega, fun j hj hk => by simp [hno j hj hk]⟩
  rw [this]; rfl
theorem scan_none {p : Nat → Bool} {lo n : Nat} (hno : ∀ j, lo ≤ j → j < n → p j = false) : scan p lo n = n := by
  unfold scan
  have : (List.range' lo (n - lo)).find? p = none := by
    rw [List.find?_eq_none]
    intro x hx
    rw [List.mem_range'_1] at hx
    simp [hno x hx.1 (by omega)]
  rw [this]; rfl
theorem scan_le (p : Nat → Bool) (lo n : Nat) : scan p lo n ≤ n := by
  unfold scan
  cases h : (List.range' lo (n - lo)).find? p with
  | none => simp
  | some k => have := List.mem_of_find?_eq_some h; rw [List.mem_range'_1] at this; simp; omega
def ndAt (ns : List Nd) (i : Nat) : Nd := ns.getD i nd0
theorem ndAt_get (ns : List Nd) (i : Nat) (h : i < ns.length) : ndAt ns i = ns[i] := by simp [ndAt, h]
def unordered (ns : List Nd) (i : Nat) : Bool := decide ((ndAt ns i).id ≤ (ndAt ns (i - 1)).id)
abbrev Tr := Nat → Option Nd
def TrOk (t : Tr) : Prop := t 0 = none ∧ ∀ i n, t i = some n → n.id = i ∧ 1 ≤ i ∧ i ≤ 99 ∧ 0 ≤ n.parent ∧ n.parent ≤ 99 ∧ isName n.name n.id = true
def trPut (t : Tr) (n : Nd) : Tr := fun i => if (i : Int) = n.id then some n else t i
def tr0 : Tr := fun _ => none
def gather (ns : List Nd) : Tr := ns.foldl trPut tr0
theorem trOk_0 : TrOk tr0 := ⟨rfl, fun i n h => by cases h⟩
theorem trOk_put {t : Tr} (h : TrOk t) {n : Nd} (hn : 1 ≤ n.id ∧ n.id ≤ 99 ∧ 0 ≤ n.parent ∧ n.parent ≤ 99 ∧ isName n.name n.id = true) : TrOk (trPut t n) := by
  refine ⟨?_, fun i m hm => ?_⟩
  · unfold trPut; rw [if_neg (by omega)]; exact h.1
  · unfold trPut at hm
    split at hm
    · cases hm; rename_i e; exact ⟨e.symm, by omega, by omega, hn.2.2.1, hn.2.2.2.1, hn.2.2.2.2⟩
    · exact h.2 i m hm
def hasT (t : Tr) (id : Int) : Bool := (t id.toNat).isSome
def isParentT (t : Tr) (id : Int) : Bool := id == 0 || (id % 2 == 0 && hasT t id)
def meetsF (t : Tr) : Nat → Int → Int → Bool
  | 0, _, _ => false
  | f + 1, id, goal => if id = goal then true else match t id.toNat with
    | none => false
    | some n => meetsF t f n.parent goal
def meetsT (t : Tr) (id goal : Int) : Bool := meetsF t 100 id goal
def orphan (t : Tr) (ns : List Nd) (i : Nat) : Bool := !isParentT t (ndAt ns i).parent
def looped (t : Tr) (ns : List Nd) (i : Nat) : Bool := !meetsT t (ndAt ns i).id 0
def samePlace (ns : List Nd) (i j : Nat) : Bool := ((ndAt ns j).parent == (ndAt ns i).parent) && ((ndAt ns j).name == (ndAt ns i).name)
def twice (ns : List Nd) (i : Nat) : Bool := decide (∃ j, j < i ∧ samePlace ns i j = true)
/-- What Read answers: the error and the place. -/
def misplaced (t : Tr) (ns : List Nd) : Int × Nat :=
  if scan (orphan t ns) 0 ns.length < ns.length then (4, scan (orphan t ns) 0 ns.length)
  else if scan (looped t ns) 0 ns.length < ns.length then (5, scan (looped t ns) 0 ns.length)
  else if scan (twice ns) 0 ns.length < ns.length then (6, scan (twice ns) 0 ns.length)
  else (0, 0)
def checkT (l : Str) : Int × Nat :=
  if 4000 < l.length then (1, 0) else
  let rs := cut l
  let ns := readNodes rs
  if ns.length < rs.length then (2, ns.length) else
  if scan (unordered ns) 1 ns.length < ns.length then (3, scan (unordered ns) 1 ns.length) else
  misplaced (gather ns) ns
theorem gather_ok_aux : ∀ (ns : List Nd) (t : Tr), TrOk t → (∀ n ∈ ns, 1 ≤ n.id ∧ n.id ≤ 99 ∧ 0 ≤ n.parent ∧ n.parent ≤ 99 ∧ isName n.name n.id = true) → TrOk (ns.foldl trPut t) := by
  intro ns
  induction ns with
  | nil => intro t h _; exact h
  | cons n ns ih => intro t h hn; exact ih _ (trOk_put h (hn n (by simp))) (fun m hm => hn m (by simp [hm]))
theorem gather_ok (l : List Str) : TrOk (gather (readNodes l)) := gather_ok_aux _ _ trOk_0 (readNodes_bd l)
end Go.Proofs.YtdcjimlhaklhfaaDoor

namespace Go.Proofs.YtdcjimlhaklhfaaDoor
open Go.RowKit
/-- A step: its kind's byte and a node. -/
structure St where
  kind : UInt8
  node : Nd
def stEq (a b : St) : Bool := a.kind == b.kind && ndEq a.node b.node
theorem stEq_iff {a b : St} : stEq a b = true ↔ a = b := by
  cases a; cases b; simp only [stEq, Bool.and_eq_true, beq_iff_eq, ndEq_iff, St.mk.injEq]
def stOf : Str → Option St
  | [] => none
  | k :: r => if k = 43 ∨ k = 61 then (readNode r).map (fun n => ⟨k, n⟩) else if k = 45 then (if (number r 1 99).2 then some ⟨k, ⟨(number r 1 99).1, 0, []⟩⟩ else none) else none
def readStep (l : Str) : Option St := if bodyB l then stOf (bodyS l) else none
def readSteps : List Str → List St
  | [] => []
  | r :: l => match readStep r with
    | none => []
    | some s => s :: readSteps l
theorem readSteps_length (l : List Str) : (readSteps l).length ≤ l.length := by
  induction l with
  | nil => simp [readSteps]
  | cons r l ih => unfold readSteps; split <;> simp; omega
def StOk (s : St) : Prop := (s.kind = 43 ∨ s.kind = 61) ∧ 1 ≤ s.node.id ∧ s.node.id ≤ 99 ∧ 0 ≤ s.node.parent ∧ s.node.parent ≤ 99 ∧ isName s.node.name s.node.id = true ∨ s.kind = 45 ∧ 1 ≤ s.node.id ∧ s.node.id ≤ 99
theorem readStep_ok {l : Str} {s : St} (h : readStep l = some s) : StOk s := by
  unfold readStep at h
  split at h
  · cases hb : bodyS l with
    | nil => rw [hb] at h; simp [stOf] at h
    | cons k r =>
      rw [hb] at h
      have h2 : (if k = 43 ∨ k = 61 then (readNode r).map (fun n => (⟨k, n⟩ : St)) else if k = 45 then (if (number r 1 99).2 then some (⟨k, ⟨(number r 1 99).1, 0, []⟩⟩ : St) else none) else none) = some s := h
      by_cases hk : k = 43 ∨ k = 61
      · rw [if_pos hk] at h2
        cases hr : readNode r with
        | none => rw [hr] at h2; simp at h2
        | some n =>
          rw [hr] at h2; simp at h2; subst h2
          have := readNode_bd hr
          exact .inl ⟨hk, this.1, this.2.1, this.2.2.1, this.2.2.2.1, this.2.2.2.2⟩
      · rw [if_neg hk] at h2
        by_cases hk2 : k = 45
        · rw [if_pos hk2] at h2
          by_cases hn : (number r 1 99).2 = true
          · rw [if_pos hn] at h2
            cases h2
            exact .inr ⟨hk2, number_lo r 1 99 hn, (number_bd r 1 99 (by omega)).2⟩
          · rw [if_neg hn] at h2; cases h2
        · rw [if_neg hk2] at h2; cases h2
  · cases h
theorem readSteps_ok (l : List Str) : ∀ s ∈ readSteps l, StOk s := by
  induction l with
  | nil => intro s h; simp [readSteps] at h
  | cons r l ih =>
    intro s h
    unfold readSteps at h
    split at h
    · simp at h
    · rename_i m hm
      rcases List.mem_cons.1 h with rfl | h
      · exact readStep_ok hm
      · exact ih s h
/-! The steps, done. -/
def spotIs (t : Tr) (parent : Int) (name : Str) (i : Nat) : Bool := match t i with
  | none => false
  | some n => n.parent == parent && n.name == name
def atT (t : Tr) (parent : Int) (name : Str) : Int := if scan (spotIs t parent name) 1 100 < 100 then (scan (spotIs t parent name) 1 100 : Int) else 0
def kidIs (t : Tr) (id : Int) (i : Nat) : Bool := match t i with
  | none => false
  | some n => n.parent == id
def kidsT (t : Tr) (id : Int) : Bool := decide (scan (kidIs t id) 1 100 < 100)
theorem scan_ge (p : Nat → Bool) (lo n : Nat) (h : scan p lo n < n) : lo ≤ scan p lo n := by
  unfold scan at h ⊢
  cases hf : (List.range' lo (n - lo)).find? p with
  | none => rw [hf] at h; simp at h
  | some k => have := List.mem_of_find?_eq_some hf; rw [List.mem_range'_1] at this; simp; omega
theorem scan_cases' (p : Nat → Bool) : (scan p 1 100 < 100 ∧ 1 ≤ scan p 1 100) ∨ ¬ scan p 1 100 < 100 := by
  by_cases h : scan p 1 100 < 100
  · exact .inl ⟨h, scan_ge p 1 100 h⟩
  · exact .inr h
/-- The first kid, or 0. -/
def kidT (t : Tr) (id : Int) : Int := if scan (kidIs t id) 1 100 < 100 then (scan (kidIs t id) 1 100 : Int) else 0
theorem kids_kid (t : Tr) (id : Int) : kidsT t id = (kidT t id != 0) := by
  unfold kidsT kidT
  rcases scan_cases' (kidIs t id) with h | h
  · rw [decide_eq_true h.1, if_pos h.1]; symm; rw [bne_iff_ne]; omega
  · rw [decide_eq_false (by omega), if_neg (by omega)]; rfl
def trRemove (t : Tr) (id : Int) : Tr := fun i => if (i : Int) = id then none else t i
def createE (t : Tr) (n : Nd) : Int := if hasT t n.id then 8 else if !isParentT t n.parent then 4 else if atT t n.parent n.name != 0 then 6 else 0
def moveE (t : Tr) (n : Nd) : Int := if !hasT t n.id then 9 else if !isParentT t n.parent then 4 else if meetsT t n.parent n.id then 5 else if atT t n.parent n.name != 0 && atT t n.parent n.name != n.id then 6 else 0
def deleteE (t : Tr) (id : Int) : Int := if !hasT t id then 9 else if kidsT t id then 10 else 0
def stepE (t : Tr) (s : St) : Int := if s.kind = 43 then createE t s.node else if s.kind = 61 then moveE t s.node else if s.kind = 45 then deleteE t s.node.id else 7
def stepT (t : Tr) (s : St) : Tr := if stepE t s = 0 then (if s.kind = 45 then trRemove t s.node.id else trPut t s.node) else t
def doAllE : List St → Tr → Nat → Int × Nat
  | [], _, _ => (0, 0)
  | s :: l, t, i => if stepE t s = 0 then doAllE l (stepT t s) (i + 1) else (stepE t s, i)
def doAllT : List St → Tr → Tr
  | [], t => t
  | s :: l, t => if stepE t s = 0 then doAllT l (stepT t s) else t
theorem trOk_remove {t : Tr} (h : TrOk t) (id : Int) : TrOk (trRemove t id) := by
  refine ⟨?_, fun i n hn => ?_⟩
  · unfold trRemove; split
    · rfl
    · exact h.1
  · unfold trRemove at hn; split at hn
    · cases hn
    · exact h.2 i n hn
theorem stepT_ok {t : Tr} (h : TrOk t) {s : St} (hs : StOk s) : TrOk (stepT t s) := by
  unfold stepT
  split
  · split
    · exact trOk_remove h _
    · rename_i hk
      rcases hs with ⟨_, h1⟩ | ⟨h1, _⟩
      · exact trOk_put h h1
      · exact absurd h1 hk
  · exact h
/-! Texts. -/
def nodeText (n : Nd) : Str := digs n.id ++ [32] ++ digs n.parent ++ [32] ++ n.name ++ [59]
def textAt (t : Tr) (i : Nat) : Str := match t i with
  | none => []
  | some n => nodeText n
def textTo (t : Tr) (k : Nat) : Str := (List.range' 1 k).flatMap (textAt t)
def textT (t : Tr) : Str := textTo t 99
theorem textTo_succ (t : Tr) (k : Nat) : textTo t (k + 1) = textTo t k ++ textAt t (k + 1) := by
  unfold textTo; rw [List.range'_concat]; simp [Nat.add_comm]
theorem name_len {l : Str} {id : Int} (h : isName l id = true) : l.length ≤ 11 := by
  unfold isName at h
  simp only [Bool.and_eq_true, decide_eq_true_eq, Bool.or_eq_true, beq_iff_eq] at h
  obtain ⟨⟨h1, h2⟩, h3 | h3⟩ := h
  · omega
  · have e := congrArg List.length h3
    rw [List.length_drop, List.length_cons] at e
    have := digs_len id
    have := plainLen_le l
    omega
theorem nodeText_len {n : Nd} (h : isName n.name n.id = true) : (nodeText n).length ≤ 18 := by
  have h1 := name_len h
  have h2 := digs_len n.id
  have h3 := digs_len n.parent
  simp only [nodeText, List.length_append, List.length_cons, List.length_nil]
  omega
theorem textTo_len {t : Tr} (h : TrOk t) (k : Nat) : (textTo t k).length ≤ 18 * k := by
  induction k with
  | zero => simp [textTo]
  | succ k ih =>
    rw [textTo_succ, List.length_append]
    have : (textAt t (k + 1)).length ≤ 18 := by
      unfold textAt
      cases ht : t (k + 1) with
      | none => simp
      | some n => exact nodeText_len (h.2 _ n ht).2.2.2.2.2
    omega
/-- What Apply answers: the text, the place, the error. -/
def applyT (l sc : Str) : Str × Nat × Int :=
  if 4000 < l.length ∨ 4000 < sc.length then ([], 0, 1) else
  if (checkT l).1 ≠ 0 then ([], (checkT l).2, (checkT l).1) else
  if (readSteps (cut sc)).length < (cut sc).length then ([], (readSteps (cut sc)).length, 7) else
  if (doAllE (readSteps (cut sc)) (gather (readNodes (cut l))) 0).1 ≠ 0 then ([], (doAllE (readSteps (cut sc)) (gather (readNodes (cut l))) 0).2, (doAllE (readSteps (cut sc)) (gather (readNodes (cut l))) 0).1) else
  (textT (doAllT (readSteps (cut sc)) (gather (readNodes (cut l)))), 0, 0)
end Go.Proofs.YtdcjimlhaklhfaaDoor

namespace Go.Proofs.YtdcjimlhaklhfaaDoor
open Go.RowKit
/-- A number in digits, by steps. -/
def decF : Nat → Nat → Str
  | 0, n => [UInt8.ofNat (48 + n % 10)]
  | f + 1, n => if n < 10 then [UInt8.ofNat (48 + n % 10)] else decF f (n / 10) ++ [UInt8.ofNat (48 + n % 10)]
def dec (n : Nat) : Str := decF n n
theorem decF_eq : ∀ (f g n : Nat), n ≤ f → n ≤ g → decF f n = decF g n := by
  intro f
  induction f with
  | zero => intro g n h1 h2; have : n = 0 := by omega
            subst this; cases g <;> simp [decF]
  | succ f ih =>
    intro g n h1 h2
    cases g with
    | zero => have : n = 0 := by omega
              subst this; simp [decF]
    | succ g =>
      simp only [decF]
      by_cases h : n < 10
      · rw [if_pos h, if_pos h]
      · rw [if_neg h, if_neg h, ih g (n / 10) (by omega) (by omega)]
theorem dec_small {n : Nat} (h : n < 10) : dec n = [UInt8.ofNat (48 + n % 10)] := by
  unfold dec; cases n with
  | zero => rfl
  | succ n => rw [decF, if_pos h]
theorem dec_big {n : Nat} (h : ¬ n < 10) : dec n = dec (n / 10) ++ [UInt8.ofNat (48 + n % 10)] := by
  obtain ⟨m, rfl⟩ : ∃ m, n = m + 1 := ⟨n - 1, by omega⟩
  unfold dec
  rw [decF, if_neg h, decF_eq m ((m + 1) / 10) ((m + 1) / 10) (by omega) (by omega)]
theorem digs_dec : ∀ n : Nat, n < 100 → digs (n : Int) = dec n := by decide +kernel
theorem dec_len_pos (n : Nat) : 1 ≤ (dec n).length := by
  by_cases h : n < 10
  · rw [dec_small h]; simp
  · rw [dec_big h]; simp
theorem dec_len (n : Nat) (hn : n ≤ 9999) : (dec n).length ≤ 4 := by
  by_cases h : n < 10
  · rw [dec_small h]; simp
  · rw [dec_big h]
    by_cases h1 : n / 10 < 10
    · rw [dec_small h1]; simp
    · rw [dec_big h1]
      by_cases h2 : n / 10 / 10 < 10
      · rw [dec_small h2]; simp
      · rw [dec_big h2, dec_small (by omega)]; simp
end Go.Proofs.YtdcjimlhaklhfaaDoor

namespace Go.Proofs.YtdcjimlhaklhfaaDoor
open Go.RowKit
def digB (c : UInt8) : Bool := decide (48 ≤ c.toNat) && decide (c.toNat ≤ 57)
theorem digB_iff (c : UInt8) : digB c = true ↔ 48 ≤ c.toNat ∧ c.toNat ≤ 57 := by simp [digB]
def valF (n : Nat) (l : Str) : Nat := l.foldl (fun n c => n * 10 + (c.toNat - 48)) n
def val (l : Str) : Nat := valF 0 l
theorem valF_ge : ∀ (l : Str) (n : Nat), n ≤ valF n l := by
  intro l
  induction l with
  | nil => intro n; exact Nat.le_refl _
  | cons c r ih => intro n; have := ih (n * 10 + (c.toNat - 48)); simp only [valF, List.foldl_cons] at this ⊢; omega
theorem val_snoc (l : Str) (c : UInt8) : val (l ++ [c]) = val l * 10 + (c.toNat - 48) := by simp [val, valF, List.foldl_append]
theorem numGo_val (hi : Int) : ∀ (l : Str) (n : Nat), l.all digB = true → (n : Int) ≤ hi → numGo hi n l = if (valF n l : Int) ≤ hi then some (valF n l : Int) else none := by
  intro l
  induction l with
  | nil => intro n _ h; simp [numGo, valF, h]
  | cons c r ih =>
    intro n ha h
    simp only [List.all_cons, Bool.and_eq_true] at ha
    have hd := (digB_iff c).1 ha.1
    have e : (n : Int) * 10 + ((c.toNat : Int) - 48) = ((n * 10 + (c.toNat - 48) : Nat) : Int) := by omega
    rw [numGo, if_pos hd, e]
    have hv : valF n (c :: r) = valF (n * 10 + (c.toNat - 48)) r := rfl
    by_cases hb : ((n * 10 + (c.toNat - 48) : Nat) : Int) > hi
    · rw [if_pos hb, hv, if_neg]
      have := valF_ge r (n * 10 + (c.toNat - 48)); omega
    · rw [if_neg hb, ih _ ha.2 (by omega), hv]
theorem numGo_bad (hi : Int) : ∀ (l : Str) (n : Int), l.all digB = false → numGo hi n l = none := by
  intro l
  induction l with
  | nil => intro n h; simp at h
  | cons c r ih =>
    intro n h
    rw [numGo]
    by_cases hd : 48 ≤ c.toNat ∧ c.toNat ≤ 57
    · rw [if_pos hd]
      have hr : r.all digB = false := by
        rw [List.all_cons, (digB_iff c).2 hd] at h; simpa using h
      rw [ih _ hr]; split <;> rfl
    · rw [if_neg hd]
theorem ofNat_dig (d : Nat) (h : d ≤ 9) : (UInt8.ofNat (48 + d)).toNat = 48 + d := by
  rw [UInt8.toNat_ofNat']; omega
theorem dec_digs (n : Nat) : (dec n).all digB = true ∧ val (dec n) = n := by
  have : ∀ f n, n ≤ f → (dec n).all digB = true ∧ val (dec n) = n := by
    intro f
    induction f with
    | zero => intro n h; have : n = 0 := by omega
              subst this; exact ⟨by decide, by decide⟩
    | succ f ih =>
      intro n h
      by_cases h10 : n < 10
      · rw [dec_small h10]
        have := ofNat_dig (n % 10) (by omega)
        refine ⟨?_, ?_⟩
        · simp only [List.all_cons, List.all_nil, Bool.and_true]; rw [digB_iff, this]; omega
        · simp only [val, valF, List.foldl_cons, List.foldl_nil]; rw [this]; omega
      · rw [dec_big h10]
        have := ofNat_dig (n % 10) (by omega)
        obtain ⟨i1, i2⟩ := ih (n / 10) (by omega)
        refine ⟨?_, ?_⟩
        · rw [List.all_append, i1]; simp only [List.all_cons, List.all_nil, Bool.and_true, Bool.true_and]; rw [digB_iff, this]; omega
        · rw [val_snoc, i2, this]; omega
  exact this n n (Nat.le_refl _)
theorem val_pos (l : Str) (c : UInt8) (h : 49 ≤ c.toNat) : 1 ≤ val (c :: l) := by
  have := valF_ge l (0 * 10 + (c.toNat - 48))
  simp only [val, valF, List.foldl_cons] at this ⊢; omega
theorem u8_digit (c : UInt8) (h : 48 ≤ c.toNat ∧ c.toNat ≤ 57) : UInt8.ofNat (48 + (c.toNat - 48)) = c := by
  apply UInt8.toNat_inj.1; rw [ofNat_dig _ (by omega)]; omega
theorem val_dec (l : Str) : l.all digB = true → numBad l = false → dec (val l) = l := by
  refine snoc_ind (P := fun l => l.all digB = true → numBad l = false → dec (val l) = l) ?_ ?_ l
  · intro _ h; simp [numBad] at h
  · intro a c ih ha hb
    rw [List.all_append, Bool.and_eq_true] at ha
    have hc := (digB_iff c).1 (by simpa using ha.2)
    rw [val_snoc]
    cases a with
    | nil =>
      have e : val [] * 10 + (c.toNat - 48) = c.toNat - 48 := by simp [val, valF]
      rw [e, dec_small (by omega), Nat.mod_eq_of_lt (by omega), u8_digit c hc]; rfl
    | cons b r =>
      have hb48 : ¬ b = 48 := by
        intro e; subst e; simp [numBad] at hb
      have hb' : 49 ≤ b.toNat := by
        have h1 := ((digB_iff b).1 (by have := ha.1; simp only [List.all_cons, Bool.and_eq_true] at this; exact this.1)).1
        have : b.toNat ≠ 48 := fun e => hb48 (UInt8.toNat_inj.1 (by simpa using e))
        omega
      have hv := val_pos r b hb'
      have hbad : numBad (b :: r) = false := by simp [numBad, hb48]
      rw [dec_big (by omega), show (val (b :: r) * 10 + (c.toNat - 48)) / 10 = val (b :: r) by omega, show (val (b :: r) * 10 + (c.toNat - 48)) % 10 = c.toNat - 48 by omega, ih ha.1 hbad, u8_digit c hc]
theorem dec_notBad (n : Nat) : numBad (dec n) = false := by
  have : ∀ f n, n ≤ f → numBad (dec n) = false ∧ (1 ≤ n → (dec n).headD 0 ≠ 48) := by
    intro f
    induction f with
    | zero => intro n h; have : n = 0 := by omega
              subst this; exact ⟨by decide, by omega⟩
    | succ f ih =>
      intro n h
      by_cases h10 : n < 10
      · rw [dec_small h10]
        have := ofNat_dig (n % 10) (by omega)
        refine ⟨by simp [numBad], fun h1 e => ?_⟩
        have e' : UInt8.ofNat (48 + n % 10) = 48 := e
        have := congrArg UInt8.toNat e'
        rw [ofNat_dig _ (by omega)] at this
        simp at this; omega
      · rw [dec_big h10]
        obtain ⟨i1, i2⟩ := ih (n / 10) (by omega)
        have i3 := i2 (by omega)
        have hp := dec_len_pos (n / 10)
        cases hd : dec (n / 10) with
        | nil => rw [hd] at hp; simp at hp
        | cons b r =>
          rw [hd] at i3
          refine ⟨?_, fun _ => by simpa using i3⟩
          have : b ≠ 48 := by simpa using i3
          simp [numBad, this]
  exact (this n n (Nat.le_refl _)).1
theorem val_lt (l : Str) : ∀ n, l.all digB = true → valF n l < (n + 1) * 10 ^ l.length := by
  induction l with
  | nil => intro n _; simp [valF]
  | cons c r ih =>
    intro n ha
    simp only [List.all_cons, Bool.and_eq_true] at ha
    have hd := (digB_iff c).1 ha.1
    have := ih (n * 10 + (c.toNat - 48)) ha.2
    have hv : valF n (c :: r) = valF (n * 10 + (c.toNat - 48)) r := rfl
    rw [hv, List.length_cons, Nat.pow_succ]
    refine Nat.lt_of_lt_of_le this ?_
    rw [Nat.mul_comm (10 ^ r.length) 10, ← Nat.mul_assoc]
    exact Nat.mul_le_mul_right _ (by omega)
/-- What the document's reader of numbers answers. -/
def numR (l : Str) (lo hi : Int) : Int := if (number l lo hi).2 then (number l lo hi).1 else -1
theorem numR_digits {l : Str} {lo hi : Int} (ha : l.all digB = true) (hb : numBad l = false) (h0 : 0 ≤ hi) : numR l lo hi = if lo ≤ (val l : Int) ∧ (val l : Int) ≤ hi then (val l : Int) else -1 := by
  have hg := numGo_val hi l 0 ha h0
  rw [show ((0 : Nat) : Int) = 0 from rfl] at hg
  unfold numR
  by_cases h : (val l : Int) ≤ hi
  · rw [if_pos (show (valF 0 l : Int) ≤ hi from h)] at hg
    rw [number_some hb hg]
    show (if decide (lo ≤ (val l : Int)) = true then (val l : Int) else -1) = _
    by_cases h1 : lo ≤ (val l : Int)
    · rw [if_pos (by simpa using h1), if_pos ⟨h1, h⟩]
    · rw [if_neg (by simpa using h1), if_neg (fun hh => h1 hh.1)]
  · rw [if_neg (show ¬ (valF 0 l : Int) ≤ hi from h)] at hg
    rw [number_none hg]
    exact (if_neg (fun hh => h hh.2)).symm
theorem numR_nodig {l : Str} {lo hi : Int} (ha : l.all digB = false) : numR l lo hi = -1 := by
  unfold numR; rw [number_none (numGo_bad hi l 0 ha)]; rfl
theorem numR_bad {l : Str} {lo hi : Int} (hb : numBad l = true) : numR l lo hi = -1 := by
  unfold numR; rw [number_bad hb]; rfl
theorem numR_long {l : Str} {lo hi : Int} (h0 : 0 ≤ hi) (h1 : hi ≤ 9999) (hl : 4 < l.length) : numR l lo hi = -1 := by
  cases ha : l.all digB
  · exact numR_nodig ha
  · cases hb : numBad l
    · rw [numR_digits ha hb h0, if_neg]
      rintro ⟨_, h⟩
      have := dec_len (val l) (by omega)
      rw [val_dec l ha hb] at this
      omega
    · exact numR_bad hb
theorem numR_empty {l : Str} {lo hi : Int} (hl : l.length < 1) : numR l lo hi = -1 := by
  have : l = [] := List.length_eq_zero_iff.1 (by omega)
  exact numR_bad (by simp [numBad, this])
/-- all digits: where the digits of the value are the text itself, and where not. -/
theorem numR_eq {l : Str} {lo hi : Int} (ha : l.all digB = true) (h0 : 0 ≤ hi) (he : dec (val l) = l) : numR l lo hi = if lo ≤ (val l : Int) ∧ (val l : Int) ≤ hi then (val l : Int) else -1 :=
  numR_digits ha (by rw [← he]; exact dec_notBad _) h0
theorem numR_ne {l : Str} {lo hi : Int} (ha : l.all digB = true) (he : ¬ dec (val l) = l) : numR l lo hi = -1 := by
  cases hb : numBad l
  · exact absurd (val_dec l ha hb) he
  · exact numR_bad hb
theorem numR_out {l : Str} {lo hi : Int} (ha : l.all digB = true) (h0 : 0 ≤ hi) (ho : (val l : Int) < lo ∨ hi < (val l : Int)) : numR l lo hi = -1 := by
  cases hb : numBad l
  · rw [numR_digits ha hb h0, if_neg (by omega)]
  · exact numR_bad hb
end Go.Proofs.YtdcjimlhaklhfaaDoor

namespace Go.Proofs.YtdcjimlhaklhfaaDoor
open Go.RowKit
def idIs (ns : List Nd) (id : Int) (i : Nat) : Bool := (ndAt ns i).id == id
def findN (ns : List Nd) (id : Int) : Nat := scan (idIs ns id) 0 ns.length
def findR (ns : List Nd) (id : Int) : Int := if findN ns id < ns.length then (findN ns id : Int) else -1
def lookR (ns : List Nd) (id : Int) : Option Nd := if findN ns id < ns.length then some (ndAt ns (findN ns id)) else none
def folderR (ns : List Nd) (id : Int) : Bool := id == 0 || (id % 2 == 0 && (lookR ns id).isSome)
def belowF (look : Int → Option Nd) : Nat → Int → Int → Bool
  | 0, _, _ => false
  | f + 1, id, top => match look id with
    | none => false
    | some n => if n.parent = top then true else belowF look f n.parent top
def belowR (ns : List Nd) (id top : Int) : Bool := belowF (lookR ns) (ns.length + 1) id top
def placeIs (ns : List Nd) (parent : Int) (name : Str) (i : Nat) : Bool := ((ndAt ns i).parent == parent) && ((ndAt ns i).name == name)
def takenN (ns : List Nd) (parent : Int) (name : Str) : Nat := scan (placeIs ns parent name) 0 ns.length
def takenR (ns : List Nd) (parent : Int) (name : Str) : Int := if takenN ns parent name < ns.length then (ndAt ns (takenN ns parent name)).id else 0
/-- the rules behind the form -/
def rOrphan (ns : List Nd) (i : Nat) : Bool := !folderR ns (ndAt ns i).parent
def rLooped (ns : List Nd) (i : Nat) : Bool := !belowR ns (ndAt ns i).id 0
def rTwice (ns : List Nd) (i : Nat) : Bool := takenR (ns.take i) (ndAt ns i).parent (ndAt ns i).name != 0
def wrongR (ns : List Nd) : Int × Nat :=
  if scan (unordered ns) 1 ns.length < ns.length then (3, scan (unordered ns) 1 ns.length)
  else if scan (rOrphan ns) 0 ns.length < ns.length then (4, scan (rOrphan ns) 0 ns.length)
  else if scan (rLooped ns) 0 ns.length < ns.length then (5, scan (rLooped ns) 0 ns.length)
  else if scan (rTwice ns) 0 ns.length < ns.length then (6, scan (rTwice ns) 0 ns.length)
  else (0, 0)
def checkR (l : Str) : Int × Nat :=
  if 4000 < l.length then (1, 0) else
  if (readNodes (cut l)).length < (cut l).length then (2, (readNodes (cut l)).length) else
  wrongR (readNodes (cut l))
theorem lookR_none {ns : List Nd} {id : Int} (h : ¬ findN ns id < ns.length) : lookR ns id = none ∧ findR ns id = -1 := by
  unfold lookR findR; rw [if_neg h, if_neg h]; exact ⟨rfl, rfl⟩
theorem lookR_some {ns : List Nd} {id : Int} (h : findN ns id < ns.length) : lookR ns id = some ns[findN ns id] ∧ findR ns id = findN ns id := by
  unfold lookR findR; rw [if_pos h, if_pos h, ndAt_get _ _ h]; exact ⟨rfl, rfl⟩
end Go.Proofs.YtdcjimlhaklhfaaDoor

namespace Go.Proofs.YtdcjimlhaklhfaaDoor
open Go.RowKit
theorem find_congr' {p q : Nat → Bool} : ∀ (l : List Nat), (∀ x ∈ l, p x = q x) → l.find? p = l.find? q := by
  intro l
  induction l with
  | nil => intro _; rfl
  | cons a l ih =>
    intro h
    rw [List.find?_cons, List.find?_cons, h a (by simp), ih (fun x hx => h x (by simp [hx]))]
theorem scan_congr {p q : Nat → Bool} {lo n : Nat} (h : ∀ j, lo ≤ j → j < n → p j = q j) : scan p lo n = scan q lo n := by
  unfold scan
  rw [find_congr' (p := p) (q := q) _ (fun x hx => by rw [List.mem_range'_1] at hx; exact h x hx.1 (by omega))]
theorem scan_cases (p : Nat → Bool) (lo n : Nat) : (scan p lo n < n ∧ lo ≤ scan p lo n ∧ p (scan p lo n) = true ∧ ∀ j, lo ≤ j → j < scan p lo n → p j = false) ∨ (scan p lo n = n ∧ ∀ j, lo ≤ j → j < n → p j = false) := by
  by_cases h : ∃ k, lo ≤ k ∧ k < n ∧ p k = true
  · -- the least such
    have key : ∀ m, (∃ k, lo ≤ k ∧ k < n ∧ p k = true ∧ k ≤ m) → ∃ k, lo ≤ k ∧ k < n ∧ p k = true ∧ ∀ j, lo ≤ j → j < k → p j = false := by
      intro m
      induction m with
      | zero => rintro ⟨k, h1, h2, h3, h4⟩; exact ⟨k, h1, h2, h3, fun j _ hj => by omega⟩
      | succ m ih =>
        rintro ⟨k, h1, h2, h3, h4⟩
        by_cases hm : ∃ k, lo ≤ k ∧ k < n ∧ p k = true ∧ k ≤ m
        · exact ih hm
        · refine ⟨k, h1, h2, h3, fun j hj hk => ?_⟩
          cases hp : p j
          · rfl
          · exact absurd ⟨j, hj, by omega, hp, by omega⟩ hm
    obtain ⟨k, h1, h2, h3⟩ := h
    obtain ⟨k, h1, h2, h3, h4⟩ := key k ⟨k, h1, h2, h3, Nat.le_refl _⟩
    have e := scan_hit h1 h2 h3 h4
    left; rw [e]; exact ⟨h2, h1, h3, h4⟩
  · have hno : ∀ j, lo ≤ j → j < n → p j = false := by
      intro j h1 h2
      cases hp : p j
      · rfl
      · exact absurd ⟨j, h1, h2, hp⟩ h
    right; exact ⟨scan_none hno, hno⟩
/-! Ordered lists of nodes. -/
def Ordered (ns : List Nd) : Prop := ∀ i j, i < j → j < ns.length → (ndAt ns i).id < (ndAt ns j).id
theorem ordered_of {ns : List Nd} (h : ¬ scan (unordered ns) 1 ns.length < ns.length) : Ordered ns := by
  have hno : ∀ j, 1 ≤ j → j < ns.length → unordered ns j = false := by
    rcases scan_cases (unordered ns) 1 ns.length with ⟨h1, _⟩ | ⟨_, h2⟩
    · exact absurd h1 h
    · exact h2
  have step : ∀ j, 1 ≤ j → j < ns.length → (ndAt ns (j - 1)).id < (ndAt ns j).id := by
    intro j h1 h2
    have := hno j h1 h2
    unfold unordered at this
    simp at this; exact this
  intro i j hij
  induction j with
  | zero => omega
  | succ j ih =>
    intro hj
    have h1 := step (j + 1) (by omega) hj
    rw [show j + 1 - 1 = j from rfl] at h1
    by_cases e : i = j
    · subst e; exact h1
    · have := ih (by omega) (by omega); omega
theorem mem_ndAt {ns : List Nd} {n : Nd} (h : n ∈ ns) : ∃ i, i < ns.length ∧ ndAt ns i = n := by
  obtain ⟨i, hi, e⟩ := List.getElem_of_mem h
  exact ⟨i, hi, by rw [ndAt_get _ _ hi, e]⟩
theorem ndAt_mem {ns : List Nd} {i : Nat} (h : i < ns.length) : ndAt ns i ∈ ns := by rw [ndAt_get _ _ h]; exact List.getElem_mem h
def Unique (ns : List Nd) : Prop := ∀ n m, n ∈ ns → m ∈ ns → n.id = m.id → n = m
theorem ordered_unique {ns : List Nd} (h : Ordered ns) : Unique ns := by
  intro n m hn hm e
  obtain ⟨i, hi, rfl⟩ := mem_ndAt hn
  obtain ⟨j, hj, rfl⟩ := mem_ndAt hm
  rcases Nat.lt_trichotomy i j with hlt | rfl | hlt
  · have := h i j hlt hj; omega
  · rfl
  · have := h j i hlt hi; omega
theorem lookR_mem {ns : List Nd} {id : Int} {n : Nd} (h : lookR ns id = some n) : n ∈ ns ∧ n.id = id := by
  rcases scan_cases (idIs ns id) 0 ns.length with ⟨h1, _, h3, _⟩ | ⟨h1, _⟩
  · have h1' : findN ns id < ns.length := h1
    unfold lookR at h; rw [if_pos h1'] at h; cases h
    exact ⟨ndAt_mem h1', by have : idIs ns id (findN ns id) = true := h3; unfold idIs at this; simpa using this⟩
  · unfold lookR at h; rw [if_neg (by unfold findN; omega)] at h; cases h
theorem lookR_no {ns : List Nd} {id : Int} (h : lookR ns id = none) : ∀ n ∈ ns, n.id ≠ id := by
  rcases scan_cases (idIs ns id) 0 ns.length with ⟨h1, _, _, _⟩ | ⟨_, h2⟩
  · unfold lookR at h; rw [if_pos (show findN ns id < ns.length from h1)] at h; cases h
  · intro n hn e
    obtain ⟨i, hi, rfl⟩ := mem_ndAt hn
    have := h2 i (by omega) hi
    unfold idIs at this; simp at this; exact this e
theorem lookR_of {ns : List Nd} (hu : Unique ns) {n : Nd} (hn : n ∈ ns) : lookR ns n.id = some n := by
  cases h : lookR ns n.id with
  | none => exact absurd rfl (lookR_no h n hn)
  | some m => obtain ⟨h1, h2⟩ := lookR_mem h; rw [hu m n h1 hn h2]
theorem fold_some : ∀ (ns : List Nd) (t : Tr) (i : Nat) (n : Nd), (ns.foldl trPut t) i = some n → (n ∈ ns ∧ n.id = i) ∨ t i = some n := by
  intro ns
  induction ns with
  | nil => intro t i n h; exact .inr h
  | cons a ns ih =>
    intro t i n h
    rcases ih (trPut t a) i n h with ⟨h1, h2⟩ | h1
    · exact .inl ⟨by simp [h1], h2⟩
    · unfold trPut at h1
      split at h1
      · cases h1; rename_i e; exact .inl ⟨by simp, e.symm⟩
      · exact .inr h1
theorem fold_none : ∀ (ns : List Nd) (t : Tr) (i : Nat), (ns.foldl trPut t) i = none → (∀ n ∈ ns, n.id ≠ i) ∧ t i = none := by
  intro ns
  induction ns with
  | nil => intro t i h; exact ⟨by simp, h⟩
  | cons a ns ih =>
    intro t i h
    obtain ⟨h1, h2⟩ := ih (trPut t a) i h
    unfold trPut at h2
    split at h2
    · cases h2
    · rename_i e
      refine ⟨fun n hn => ?_, h2⟩
      rcases List.mem_cons.1 hn with rfl | hn
      · exact fun hh => e hh.symm
      · exact h1 n hn
theorem gather_look {ns : List Nd} (hu : Unique ns) (hb : ∀ n ∈ ns, 1 ≤ n.id) (id : Int) : gather ns id.toNat = lookR ns id := by
  cases h : lookR ns id with
  | some n =>
    obtain ⟨h1, h2⟩ := lookR_mem h
    have hid := hb n h1
    cases hg : gather ns id.toNat with
    | none => exact absurd (by omega) ((fold_none ns tr0 _ hg).1 n h1)
    | some m =>
      rcases fold_some ns tr0 _ m hg with ⟨h3, h4⟩ | h3
      · rw [hu m n h3 h1 (by omega)]
      · cases h3
  | none =>
    cases hg : gather ns id.toNat with
    | none => rfl
    | some m =>
      rcases fold_some ns tr0 _ m hg with ⟨h3, h4⟩ | h3
      · have := hb m h3
        exact absurd (by omega) (lookR_no h m h3)
      · cases h3
/-! The way up. -/
theorem below_mono {look : Int → Option Nd} {top : Int} : ∀ (f : Nat) (id : Int), belowF look f id top = true → belowF look (f + 1) id top = true := by
  intro f
  induction f with
  | zero => intro id h; simp [belowF] at h
  | succ f ih =>
    intro id h
    rw [belowF] at h ⊢
    cases hl : look id with
    | none => rw [hl] at h; simp at h
    | some n =>
      rw [hl] at h
      simp only at h ⊢
      by_cases hp : n.parent = top
      · rw [if_pos hp]
      · rw [if_neg hp] at h ⊢; exact ih _ h
theorem below_le {look : Int → Option Nd} {top : Int} {f g : Nat} (hfg : f ≤ g) (id : Int) (h : belowF look f id top = true) : belowF look g id top = true := by
  induction g with
  | zero => have : f = 0 := by omega
            subst this; exact h
  | succ g ih =>
    by_cases e : f = g + 1
    · subst e; exact h
    · exact below_mono g id (ih (by omega))
theorem way_list {look : Int → Option Nd} {top : Int} : ∀ (f : Nat) (id : Int), belowF look (f + 1) id top = true → belowF look f id top = false →
    ∃ l : List Int, l.length = f + 1 ∧ l.Nodup ∧ (∀ x ∈ l, (look x).isSome = true) ∧ ∀ x ∈ l, ∃ g, g ≤ f ∧ belowF look (g + 1) x top = true := by
  intro f
  induction f with
  | zero =>
    intro id h _
    refine ⟨[id], rfl, by simp, ?_, ?_⟩
    · intro x hx; simp at hx; subst hx
      rw [belowF] at h
      cases hl : look x with
      | none => rw [hl] at h; simp at h
      | some n => rfl
    · intro x hx; simp at hx; subst hx; exact ⟨0, Nat.le_refl _, h⟩
  | succ f ih =>
    intro id h hno
    have h' := h
    rw [belowF] at h'
    cases hl : look id with
    | none => rw [hl] at h'; simp at h'
    | some n =>
      rw [hl] at h'
      simp only at h'
      have hp : ¬ n.parent = top := by
        intro hp
        have : belowF look 1 id top = true := by rw [belowF, hl]; simp [hp]
        rw [below_le (show 1 ≤ f + 1 by omega) id this] at hno
        cases hno
      rw [if_neg hp] at h'
      have hno' : belowF look f n.parent top = false := by
        rw [belowF, hl] at hno
        simp only [if_neg hp] at hno
        exact hno
      obtain ⟨l, l1, l2, l3, l4⟩ := ih n.parent h' hno'
      refine ⟨id :: l, by simp [l1], ?_, ?_, ?_⟩
      · rw [List.nodup_cons]
        refine ⟨fun hm => ?_, l2⟩
        obtain ⟨g, hg, hb⟩ := l4 id hm
        rw [below_le (show g + 1 ≤ f + 1 by omega) id hb] at hno
        cases hno
      · intro x hx
        rcases List.mem_cons.1 hx with rfl | hx
        · rw [hl]; rfl
        · exact l3 x hx
      · intro x hx
        rcases List.mem_cons.1 hx with rfl | hx
        · exact ⟨f + 1, Nat.le_refl _, h⟩
        · obtain ⟨g, hg, hb⟩ := l4 x hx; exact ⟨g, by omega, hb⟩
theorem pigeon : ∀ (l m : List Int), l.Nodup → (∀ x ∈ l, x ∈ m) → l.length ≤ m.length := by
  intro l
  induction l with
  | nil => intro m _ _; simp
  | cons a l ih =>
    intro m hn hs
    rw [List.nodup_cons] at hn
    have ha := hs a (by simp)
    have := ih (m.erase a) hn.2 (fun x hx => by
      have hxa : x ≠ a := fun e => hn.1 (e ▸ hx)
      exact (List.mem_erase_of_ne hxa).2 (hs x (by simp [hx])))
    rw [List.length_erase_of_mem ha] at this
    have hpos : 0 < m.length := List.length_pos_of_mem ha
    simp; omega
theorem below_stop {ns : List Nd} {look : Int → Option Nd} (hlook : ∀ x n, look x = some n → n ∈ ns ∧ n.id = x) {top : Int} (f : Nat) (id : Int) (h : belowF look f id top = true) : belowF look ns.length id top = true := by
  induction f with
  | zero => simp [belowF] at h
  | succ f ih =>
    cases hf : belowF look f id top
    · obtain ⟨l, l1, l2, l3, _⟩ := way_list f id h hf
      have hle : l.length ≤ (ns.map (·.id)).length := pigeon l _ l2 (fun x hx => by
        obtain ⟨n, hn⟩ := Option.isSome_iff_exists.1 (l3 x hx)
        obtain ⟨h1, h2⟩ := hlook x n hn
        exact List.mem_map.2 ⟨n, h1, h2⟩)
      rw [List.length_map] at hle
      exact below_le (by omega) id h
    · exact ih hf
theorem below_same {ns : List Nd} {look : Int → Option Nd} (hlook : ∀ x n, look x = some n → n ∈ ns ∧ n.id = x) {top : Int} {f g : Nat} (hf : ns.length ≤ f) (hg : ns.length ≤ g) (id : Int) : belowF look f id top = belowF look g id top := by
  cases h1 : belowF look f id top
  · cases h2 : belowF look g id top
    · rfl
    · rw [below_le hf id (below_stop hlook g id h2)] at h1; cases h1
  · rw [below_le hg id (below_stop hlook f id h1)]
theorem meets_below (t : Tr) (goal : Int) : ∀ (f : Nat) (id : Int), meetsF t (f + 1) id goal = (decide (id = goal) || belowF (fun x => t x.toNat) f id goal) := by
  intro f
  induction f with
  | zero =>
    intro id
    by_cases h : id = goal
    · simp [meetsF, h]
    · rw [meetsF, if_neg h]
      cases hl : t id.toNat with
      | none => simp [belowF, h]
      | some n => simp [belowF, h, meetsF]
  | succ f ih =>
    intro id
    by_cases h : id = goal
    · simp [meetsF, h]
    · rw [meetsF, if_neg h, belowF]
      cases hl : t id.toNat with
      | none => simp [h]
      | some n =>
        simp only
        rw [ih]
        by_cases hp : n.parent = goal
        · simp [hp]
        · simp [h, hp]
theorem ordered_short {ns : List Nd} (ho : Ordered ns) (hb : ∀ n ∈ ns, 1 ≤ n.id ∧ n.id ≤ 99) : ns.length ≤ 99 := by
  have : ∀ i, i < ns.length → (i : Int) + 1 ≤ (ndAt ns i).id := by
    intro i
    induction i with
    | zero => intro h; have := (hb _ (ndAt_mem h)).1; omega
    | succ i ih => intro h; have h1 := ih (by omega); have h2 := ho i (i + 1) (by omega) h; omega
  rcases Nat.lt_or_ge 99 ns.length with h | h
  · have h1 := this 99 h
    have h2 := (hb _ (ndAt_mem h)).2
    omega
  · exact h
theorem meets_R {ns : List Nd} (ho : Ordered ns) (hb : ∀ n ∈ ns, 1 ≤ n.id ∧ n.id ≤ 99) (id goal : Int) : meetsT (gather ns) id goal = (decide (id = goal) || belowR ns id goal) := by
  have hfun : (fun x : Int => gather ns x.toNat) = lookR ns := funext fun x => gather_look (ordered_unique ho) (fun n hn => (hb n hn).1) x
  unfold meetsT belowR
  rw [meets_below, hfun, below_same (ns := ns) (look := lookR ns) (fun x n h => lookR_mem h) (ordered_short ho hb) (show ns.length ≤ ns.length + 1 by omega) id]
theorem isParent_R {ns : List Nd} (ho : Ordered ns) (hb : ∀ n ∈ ns, 1 ≤ n.id ∧ n.id ≤ 99) (id : Int) : isParentT (gather ns) id = folderR ns id := by
  unfold isParentT folderR hasT
  rw [gather_look (ordered_unique ho) (fun n hn => (hb n hn).1) id]
theorem ndAt_take {ns : List Nd} {i j : Nat} (h : j < i) (hi : i ≤ ns.length) : ndAt (ns.take i) j = ndAt ns j := by
  rw [ndAt_get _ _ (by rw [List.length_take]; omega), ndAt_get _ _ (by omega)]; simp
theorem twice_R {ns : List Nd} (hb : ∀ n ∈ ns, 1 ≤ n.id) {i : Nat} (hi : i < ns.length) : twice ns i = rTwice ns i := by
  have hlen : (ns.take i).length = i := by rw [List.length_take]; omega
  unfold rTwice takenR takenN
  rw [hlen]
  rcases scan_cases (placeIs (ns.take i) (ndAt ns i).parent (ndAt ns i).name) 0 i with ⟨h1, _, h3, _⟩ | ⟨h1, h2⟩
  · rw [if_pos h1]
    generalize scan (placeIs (ns.take i) (ndAt ns i).parent (ndAt ns i).name) 0 i = k at *
    have hm := hb _ (ndAt_mem (ns := ns) (i := k) (by omega))
    rw [ndAt_take h1 (by omega)]
    have e1 : twice ns i = true := by
      unfold twice
      refine decide_eq_true ⟨_, h1, ?_⟩
      unfold placeIs at h3; rw [ndAt_take h1 (by omega)] at h3
      exact h3
    rw [e1]
    symm; rw [bne_iff_ne]; omega
  · rw [if_neg (by omega)]
    have e1 : twice ns i = false := by
      unfold twice
      apply decide_eq_false
      rintro ⟨j, hj, hs⟩
      have := h2 j (by omega) hj
      unfold placeIs at this; rw [ndAt_take hj (by omega)] at this
      unfold samePlace at hs
      rw [this] at hs; cases hs
    rw [e1]; rfl
theorem check_same (l : Str) : checkR l = checkT l := by
  unfold checkR checkT
  split
  · rfl
  · simp only []
    split
    · rfl
    · unfold wrongR
      split
      · rfl
      · rename_i _ _ hu
        have ho := ordered_of hu
        have hb := readNodes_bd (cut l)
        generalize readNodes (cut l) = ns at *
        have hb2 : ∀ n ∈ ns, 1 ≤ n.id ∧ n.id ≤ 99 := fun n hn => ⟨(hb n hn).1, (hb n hn).2.1⟩
        unfold misplaced
        have e1 : scan (orphan (gather ns) ns) 0 ns.length = scan (rOrphan ns) 0 ns.length := scan_congr (fun j _ _ => by unfold orphan rOrphan; rw [isParent_R ho hb2])
        have e2 : scan (looped (gather ns) ns) 0 ns.length = scan (rLooped ns) 0 ns.length := scan_congr (fun j _ hj => by
          unfold looped rLooped; rw [meets_R ho hb2]
          have := (hb2 _ (ndAt_mem hj)).1
          have e : decide ((ndAt ns j).id = 0) = false := by simp; omega
          rw [e]; rfl)
        have e3 : scan (twice ns) 0 ns.length = scan (rTwice ns) 0 ns.length := scan_congr (fun j _ hj => twice_R (fun n hn => (hb2 n hn).1) hj)
        rw [e1, e2, e3]
end Go.Proofs.YtdcjimlhaklhfaaDoor
