import Derived.Test.YtkjancfakplogaaGreatDoorPL8
namespace Go.Proofs.YtkjancfakplogaaGreatDoor
open Go.RowKit
/-- A replica with its log. -/
structure Repl (w : World) (b : Nat) (site : Int) (v : Value) (L : List Lo) : Prop where
  at' : RepAt w b site v
  own : w.ownsRow 0 139 5 v L.length (loCells L)
  ok : LogOk L
theorem Repl.lt {w : World} {b : Nat} {site : Int} {v : Value} {L : List Lo} (h : Repl w b site v L) : b < w.heap.size := h.at'.lt
theorem Repl.kept {w w' : World} {b : Nat} {site : Int} {v : Value} {L : List Lo} {S : Nat → Prop} (h : Repl w b site v L) (hk : Keeps S w w') (hS : ∀ k, Foot b v k → ¬ S k) : Repl w' b site v L :=
  ⟨h.at'.kept hk (hS b (.inl rfl)), own_kept h.own hk (fun k e => hS k (.inr e)), h.ok⟩
theorem Repl.below {w w' : World} {b : Nat} {site : Int} {v : Value} {L : List Lo} (h : Repl w b site v L) (hb : Below w.heap.size w w') : Repl w' b site v L :=
  ⟨h.at'.below hb h.lt, own_below h.own hb, h.ok⟩
theorem deliverT_long {L : List Lo} {s : Str} (h : 4000 < s.length) : deliverT L s = (L, 0, 1) := by unfold deliverT; rw [if_pos h]
theorem deliverT_none {L : List Lo} {s : Str} (h : ¬ 4000 < s.length) (g : readOps (cut s) = none) : deliverT L s = (L, 0, 12) := by unfold deliverT; rw [if_neg h, g]
theorem deliverT_full {L list : List Lo} {s : Str} (h : ¬ 4000 < s.length) (g : readOps (cut s) = some list) (hb : 150 < L.length + (fresh L list).length) : deliverT L s = (L, 0, 13) := by unfold deliverT; rw [if_neg h, g]; simp only [if_pos hb]
theorem deliverT_ok {L list : List Lo} {s : Str} (h : ¬ 4000 < s.length) (g : readOps (cut s) = some list) (hb : ¬ 150 < L.length + (fresh L list).length) : deliverT L s = (joinAll L (fresh L list), (fresh L list).length, 0) := by unfold deliverT; rw [if_neg h, g]; simp only [if_neg hb]
set_option maxHeartbeats 2000000 in
set_option maxRecDepth 100000 in
theorem deliver_any (L : List Lo) (s : ByteArray) (b : Nat) (site : Int) (v : Value) (w : World) (hR : Repl w b site v L) :
    Calls Tryz.prog 28 #[.pointer (some ⟨b, 0, none⟩), .string s] w fun e w' =>
      e = .returned (.tuple #[.int .i64 (deliverT L (sl s)).2.1, .int .i64 (deliverT L (sl s)).2.2]) ∧ ∃ v', Repl w' b site v' (deliverT L (sl s)).1 ∧ Keeps (Foot b v) w w' ∧ Moved w v v' := by
  have hkeep : ∀ w', Below w.heap.size w w' → ∃ v', Repl w' b site v' L ∧ Keeps (Foot b v) w w' ∧ Moved w v v' := fun w' hb => ⟨v, hR.below hb, Keeps.of_below hb (fun k h1 h2 => by omega), .inl rfl⟩
  have HKP := hide hkeep; clear hkeep
  by_cases hlong : 4000 < s.size
  · rw [deliverT_long (show 4000 < (sl s).length by rw [sl_length]; exact hlong)]
    have hd : decide ((4000 : Int) < (s.size : Int)) = true := by rw [decide_eq_true_eq]; omega
    clear hR
    go_enter Tryz.func28, Tryz.ntmps28
    go_wp2
    go_ret2
    exact ⟨rfl, unhide HKP _ (Below.refl _ _)⟩
  · have hnl : ¬ 4000 < (sl s).length := by rw [sl_length]; exact hlong
    have hd : decide ((4000 : Int) < (s.size : Int)) = false := by rw [decide_eq_false_iff_not]; omega
    have HRD := hide (fun W => opsRead_any s W (by omega))
    cases hq : readOps (cut (sl s)) with
    | none =>
      rw [deliverT_none hnl hq]
      rw [hq] at HRD
      clear hq hR hnl
      go_enter Tryz.func28, Tryz.ntmps28
      go_wp2_with fail
      refine (unhide HRD _).mono ?_
      rintro e w1 ⟨rfl, hb1⟩
      go_wp2
      go_ret2
      exact ⟨rfl, unhide HKP _ hb1⟩
    | some list =>
      have hll := readOps_len _ _ hq
      have hcl := cut_length_le (sl s)
      rw [sl_length] at hcl
      have hlen : list.length ≤ 4000 := by omega
      clear hll hcl
      have HOK := hide (deliver_ok hR.ok (sl s))
      have HJ := hide (fun W (h : Repl W b site v L) bo cb hl => join_any L list b site v bo cb W h.at' h.own h.ok.1 h.ok.2.2 hl (by omega))
      rw [hq] at HRD
      have HR := hide hR; clear hR
      by_cases hbig : 150 < L.length + (fresh L list).length
      · rw [deliverT_full hnl hq hbig]
        simp only [if_pos hbig] at HJ
        clear hq hnl HOK
        go_enter Tryz.func28, Tryz.ntmps28
        go_wp2_with fail
        refine (unhide HRD _).mono ?_
        rintro e w1 ⟨⟨ao, cap, rfl, hrow⟩, hb1⟩
        have HR1 := hide ((unhide HR).below hb1)
        have HROW := hide hrow; clear hrow
        go_wp2_with fail
        refine (unhide HJ _ (by exact unhide HR1) _ _ (by exact unhide HROW)).mono ?_
        rintro e w2 ⟨rfl, hb2⟩
        have HB2 := hide (hb1.trans (hb2.mono hb1.size))
        clear hb2
        go_wp2
        go_ret2
        exact ⟨rfl, unhide HKP _ (unhide HB2)⟩
      · rw [deliverT_ok hnl hq hbig] at HOK ⊢
        simp only [if_neg hbig] at HJ
        clear hq hnl
        simp only at HOK
        go_enter Tryz.func28, Tryz.ntmps28
        go_wp2_with fail
        refine (unhide HRD _).mono ?_
        rintro e w1 ⟨⟨ao, cap, rfl, hrow⟩, hb1⟩
        have HR1 := hide ((unhide HR).below hb1)
        have HROW := hide hrow; clear hrow
        go_wp2_with fail
        refine (unhide HJ _ (by exact unhide HR1) _ _ (by exact unhide HROW)).mono ?_
        rintro e w2 ⟨rfl, v', h1, h2, h3, h4⟩
        have HF : Hid (∃ v', Repl w2 b site v' (joinAll L (fresh L list)) ∧ Keeps (Foot b v) w w2 ∧ Moved w v v') := by
          apply hide
          refine ⟨v', ⟨h1, h2, unhide HOK⟩, (Keeps.of_below (S := fun _ => False) hb1 (fun k h1 h2 => by omega) |>.mono (fun _ _ h => h.elim)).trans h3 (fun _ _ h => h), ?_⟩
          rcases h4 with h | ⟨q, h, hq⟩
          · exact .inl h
          · exact .inr ⟨q, h, by have := hb1.size; omega⟩
        clear h1 h2 h3 h4
        go_wp2
        go_ret2
        exact ⟨rfl, unhide HF⟩
set_option maxHeartbeats 1000000 in
theorem new_bad (site : Int) (w : World) (h : site < 1 ∨ 9 < site) :
    Calls Tryz.prog 27 #[.int .i64 site] w fun e w' => e = .returned (.tuple #[.pointer none, .int .i64 11]) ∧ Below w.heap.size w w' := by
  rcases h with h | h
  · have hd : decide (site < 1) = true := by simpa using h
    go_enter Tryz.func27, Tryz.ntmps27
    go_wp2
    go_ret2
    exact ⟨rfl, Below.refl _ _⟩
  · have hd : decide (site < 1) = false := by simp; omega
    have hd2 : decide (9 < site) = true := by simpa using h
    go_enter Tryz.func27, Tryz.ntmps27
    go_wp2
    go_ret2
    exact ⟨rfl, Below.refl _ _⟩
set_option maxHeartbeats 1000000 in
theorem new_ok (site : Int) (w : World) (h1 : 1 ≤ site) (h2 : site ≤ 9) :
    Calls Tryz.prog 27 #[.int .i64 site] w fun e w' => e = .returned (.tuple #[.pointer (some ⟨w.heap.size, 0, none⟩), .int .i64 0]) ∧ Repl w' w.heap.size site (.slice none 0 0) [] ∧ Below w.heap.size w w' := by
  have hd : decide (site < 1) = false := by simp; omega
  have hd2 : decide (9 < site) = false := by simp; omega
  go_enter Tryz.func27, Tryz.ntmps27
  go_wp2
  go_ret2
  exact ⟨rfl, ⟨heap_alloc_new w _, World.ownsRow_nil _ _ _ _, logOk_nil⟩, (Below.refl _ _).alloc (Nat.le_refl _) _⟩
end Go.Proofs.YtkjancfakplogaaGreatDoor
