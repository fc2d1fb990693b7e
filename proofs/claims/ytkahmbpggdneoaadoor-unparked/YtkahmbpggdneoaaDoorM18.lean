import Derived.Test.YtkahmbpggdneoaaDoorM16
import Derived.Test.YtkahmbpggdneoaaDoorM17
import Derived.BigQuiet
namespace Go.Proofs.YtkahmbpggdneoaaDoor
open Go.RowKit
theorem kind_eq (k : UInt8) (n : Nat) (hn : n < 256) : (((k.toNat : Int) == (n : Int)) = (k == UInt8.ofNat n)) := by
  rw [Bool.eq_iff_iff, beq_iff_eq, beq_iff_eq]
  constructor
  · intro h; exact UInt8.toNat_inj.1 (by rw [UInt8.toNat_ofNat_of_lt' (by simpa using hn)]; omega)
  · intro h; rw [h, UInt8.toNat_ofNat_of_lt' (by simpa using hn)]
theorem kind_43 (k : UInt8) : ((k.toNat : Int) == 43) = (k == 43) := kind_eq k 43 (by omega)
theorem kind_45 (k : UInt8) : ((k.toNat : Int) == 45) = (k == 45) := kind_eq k 45 (by omega)
theorem kind_43n (k : UInt8) : ((k.toNat : Int) != 43) = (k != 43) := by show (!((k.toNat : Int) == 43)) = !(k == 43); rw [kind_43]
theorem waits_1 {a b : List Nd} {s o : St} (h : s.kind = 45) : waitsR a b s o = (o.kind != 43 && kidOfR a o.node.id s.node.id) := by unfold waitsR; rw [if_pos h]
set_option maxHeartbeats 4000000 in
set_option maxRecDepth 100000 in
theorem waits_del (na nb : List Nd) (x y : Nd) (ok : UInt8) (ao bo : Option Addr) (ca cb : Nat) (w : World) (ha : Row w ao na.length 3 (ndCells na)) (hla : na.length ≤ 4000) :
    Calls Tryd.prog 69 #[.slice ao na.length ca, .slice bo nb.length cb, .agg #[.int .u8 45, .int .i64 x.id, .int .i64 x.parent, .string (bs x.name)], .agg #[.int .u8 ok.toNat, .int .i64 y.id, .int .i64 y.parent, .string (bs y.name)]] w fun e w' => e = .returned (.bool (waitsR na nb ⟨45, x⟩ ⟨ok, y⟩)) ∧ Below w.heap.size w w' := by
  rw [waits_1 rfl]
  have hb1 := ((Below.refl w.heap.size w).alloc (Nat.le_refl _) (.cells #[.int .u8 45, .int .i64 x.id, .int .i64 x.parent, .string (bs x.name)] 115))
  have hb2 := hb1.alloc hb1.size (.cells #[.int .u8 ok.toNat, .int .i64 y.id, .int .i64 y.parent, .string (bs y.name)] 115)
  have hb3 := hb2.alloc hb2.size (.cells #[.int .i64 x.id, .int .i64 x.parent, .string (bs x.name)] 110)
  have hrow3 := Row.below ha hb3
  have HF := hide (find_any na y.id ao ca _ hrow3 hla)
  have hkn := kind_43n ok
  have HB := hide hb3
  have HR := hide ha
  show Calls _ _ _ w fun e w' => e = .returned (.bool (ok != 43 && kidOfR na y.id x.id)) ∧ Below w.heap.size w w'
  unfold kidOfR
  by_cases hf : findN na y.id < na.length
  · obtain ⟨q1, q2⟩ := lookR_some hf
    obtain ⟨g, hao, hg, c0, c1, c2⟩ := nd_cells ha (Below.refl _ _) hf
    have hg3 : g < w.heap.size := hg
    rw [q1]
    simp only
    rw [q2] at HF
    rw [hao] at HF ⊢
    have hfn0 : (0 : Int) ≤ findN na y.id := by omega
    have hfn1 : (findN na y.id : Int) < na.length := by omega
    have hn1 : ¬ g = w.heap.size := by omega
    have hn2 : ¬ g = w.heap.size + 1 := by omega
    have hn3 : ¬ g = w.heap.size + 1 + 1 := by omega
    have hn4 : g < w.heap.size + 1 := by omega
    have hn5 : g < w.heap.size + 1 + 1 := by omega
    clear hb1 hb2 hb3 hrow3 ha q1 q2 hao
    generalize na[findN na y.id] = m at *
    generalize findN na y.id = fn at *
    cases hq : (ok != 43)
    · rw [hq] at hkn
      go_enter Tryd.func69, Tryd.ntmps69
      go_wp2_with fail
      refine (unhide HF).mono ?_
      rintro e w1 ⟨rfl, rfl⟩
      go_wp2
      go_quiet (fail)
      go_wp2
      go_ret
      exact ⟨rfl, below_drewN (unhide HB) _⟩
    · rw [hq] at hkn
      go_enter Tryd.func69, Tryd.ntmps69
      go_wp2_with fail
      refine (unhide HF).mono ?_
      rintro e w1 ⟨rfl, rfl⟩
      go_wp2
      go_quiet (fail)
      go_wp2
      go_ret
      exact ⟨by first | rfl | (rw [Bool.true_and]), below_drewN (unhide HB) _⟩
  · obtain ⟨q1, q2⟩ := lookR_none hf
    rw [q1]
    simp only [Bool.and_false]
    rw [q2] at HF
    clear hb1 hb2 hb3 hrow3 ha q1 q2
    cases hq : (ok != 43)
    all_goals
      rw [hq] at hkn
      go_enter Tryd.func69, Tryd.ntmps69
      go_wp2_with fail
      refine (unhide HF).mono ?_
      rintro e w1 ⟨rfl, rfl⟩
      go_wp2
      go_quiet (fail)
      go_wp2
      go_ret
      exact ⟨rfl, below_drewN (unhide HB) _⟩
end Go.Proofs.YtkahmbpggdneoaaDoor

namespace Go.Proofs.YtkahmbpggdneoaaDoor
open Go.RowKit
theorem waits_2 {a b : List Nd} {s o : St} (h : s.kind ≠ 45) : waitsR a b s o =
    (if (o.kind != 43 && takenR a s.node.parent s.node.name == o.node.id && takenR a s.node.parent s.node.name != s.node.id) then true else if (o.kind == 45) then false else if (s.kind == 43) then (!(o.kind != 43) && o.node.id == s.node.parent) else belowR b s.node.id o.node.id) := by
  unfold waitsR
  rw [if_neg h]
  by_cases hA : (o.kind != 43 && takenR a s.node.parent s.node.name == o.node.id && takenR a s.node.parent s.node.name != s.node.id) = true
  · rw [if_pos hA, if_pos hA]
  · rw [if_neg hA, if_neg hA]
    by_cases h45 : o.kind = 45
    · simp [h45]
    · by_cases h43 : s.kind = 43
      · simp [h45, h43, bne]
      · simp [h45, h43]
set_option maxHeartbeats 8000000 in
set_option maxRecDepth 100000 in
theorem waits_put (na nb : List Nd) (x y : Nd) (sk ok : UInt8) (hsk : sk = 43 ∨ sk = 61) (ao bo : Option Addr) (ca cb : Nat) (w : World) (ha : Row w ao na.length 3 (ndCells na)) (hla : na.length ≤ 4000) (hb : Row w bo nb.length 3 (ndCells nb)) (hlb : nb.length ≤ 4000) :
    Calls Tryd.prog 69 #[.slice ao na.length ca, .slice bo nb.length cb, .agg #[.int .u8 sk.toNat, .int .i64 x.id, .int .i64 x.parent, .string (bs x.name)], .agg #[.int .u8 ok.toNat, .int .i64 y.id, .int .i64 y.parent, .string (bs y.name)]] w fun e w' => e = .returned (.bool (waitsR na nb ⟨sk, x⟩ ⟨ok, y⟩)) ∧ Below w.heap.size w w' := by
  have HW := hide (waits_2 (a := na) (b := nb) (s := ⟨sk, x⟩) (o := ⟨ok, y⟩) (show sk ≠ 45 by rcases hsk with h | h <;> rw [h] <;> decide))
  have hb1 := ((Below.refl w.heap.size w).alloc (Nat.le_refl _) (.cells #[.int .u8 sk.toNat, .int .i64 x.id, .int .i64 x.parent, .string (bs x.name)] 115))
  have hb2 := hb1.alloc hb1.size (.cells #[.int .u8 ok.toNat, .int .i64 y.id, .int .i64 y.parent, .string (bs y.name)] 115)
  have hb3 := hb2.alloc hb2.size (.cells #[.int .i64 x.id, .int .i64 x.parent, .string (bs x.name)] 110)
  have HT := hide (taken_any na x.parent x.name ao ca _ (Row.below ha hb3) hla)
  have HBE := hide (below_any nb x.id y.id bo cb _ (Row.below hb hb3) hlb)
  have hk1 := kind_43n ok
  have hk2 := kind_45 ok
  have hk3 : ((ok.toNat : Int) == 43) = !(ok != 43) := by rw [kind_43]; cases h : (ok == 43) <;> simp [bne, h]
  have HB := hide hb3
  clear hb1 hb2 hb3 ha hb
  generalize waitsR na nb ⟨sk, x⟩ ⟨ok, y⟩ = R at *
  simp only at HW
  generalize takenR na x.parent x.name = T at *
  generalize belowR nb x.id y.id = D at *
  generalize hq1 : (ok != 43) = b1 at *
  generalize hq2 : (T == y.id) = b2 at *
  generalize hq3 : (T != x.id) = b3 at *
  generalize hq4 : (ok == 45) = b4 at *
  generalize hq5 : (y.id == x.parent) = b5 at *
  clear hq1 hq4
  rcases hsk with rfl | rfl
  all_goals
    rcases b1 <;> rcases b2 <;> rcases b3 <;> rcases b4
    all_goals
      simp at HW
      go_enter Tryd.func69, Tryd.ntmps69
      go_wp2_with fail
      refine (unhide HT).mono ?_
      rintro e w1 ⟨rfl, rfl⟩
      go_wp2_with (first | (go_at_call 83; refine (unhide HBE).mono ?_; rintro e w2 ⟨rfl, rfl⟩) | go_in)
      go_ret
      exact ⟨ret_bool (by rw [unhide HW]), unhide HB⟩
theorem waits_any (na nb : List Nd) (s o : St) (hs : StOk s) (ao bo : Option Addr) (ca cb : Nat) (w : World) (ha : Row w ao na.length 3 (ndCells na)) (hla : na.length ≤ 4000) (hb : Row w bo nb.length 3 (ndCells nb)) (hlb : nb.length ≤ 4000) :
    Calls Tryd.prog 69 #[.slice ao na.length ca, .slice bo nb.length cb, .agg #[.int .u8 s.kind.toNat, .int .i64 s.node.id, .int .i64 s.node.parent, .string (bs s.node.name)], .agg #[.int .u8 o.kind.toNat, .int .i64 o.node.id, .int .i64 o.node.parent, .string (bs o.node.name)]] w fun e w' => e = .returned (.bool (waitsR na nb s o)) ∧ Below w.heap.size w w' := by
  obtain ⟨sk, x⟩ := s
  obtain ⟨ok, y⟩ := o
  rcases hs with ⟨h, _⟩ | ⟨h, _⟩
  · exact waits_put na nb x y sk ok h ao bo ca cb w ha hla hb hlb
  · simp only at h
    subst h
    exact waits_del na nb x y ok ao bo ca cb w ha hla
end Go.Proofs.YtkahmbpggdneoaaDoor
