import Derived.Test.YtkjancfakplogaaGreatDoorW3
namespace Go.Proofs.YtkjancfakplogaaGreatDoor
open Go.RowKit
def ndC (n : Nd) : List Value := [.int .i64 n.id, .int .i64 n.parent, .string (bs n.name)]
def ndCells (l : List Nd) : List Value := l.flatMap ndC
theorem ndCells_length (l : List Nd) : (ndCells l).length = l.length * 3 := by
  induction l with
  | nil => rfl
  | cons n l ih => simp only [ndCells, List.flatMap_cons, List.length_append] at ih ⊢; simp [ndC] at ih ⊢; omega
theorem ndCells_snoc (l : List Nd) (n : Nd) : ndCells (l ++ [n]) = ndCells l ++ ndC n := by simp [ndCells]
theorem ndCells_get (l : List Nd) (k : Nat) (h : k < l.length) :
    (ndCells l)[k * 3]? = some (.int .i64 (l[k]).id) ∧ (ndCells l)[k * 3 + 1]? = some (.int .i64 (l[k]).parent) ∧ (ndCells l)[k * 3 + 2]? = some (.string (bs (l[k]).name)) := by
  induction l generalizing k with
  | nil => simp at h
  | cons n l ih =>
    cases k with
    | zero => simp [ndCells, ndC]
    | succ k =>
      have := ih k (by simpa using h)
      have e : ndCells (n :: l) = ndC n ++ ndCells l := rfl
      rw [e, show (k + 1) * 3 = 3 + k * 3 by omega]
      have hl : (ndC n).length = 3 := rfl
      refine ⟨?_, ?_, ?_⟩
      · rw [List.getElem?_append_right (by rw [hl]; omega), hl]; simpa using this.1
      · rw [List.getElem?_append_right (by rw [hl]; omega), hl, show 3 + k * 3 + 1 - 3 = k * 3 + 1 by omega]; simpa using this.2.1
      · rw [List.getElem?_append_right (by rw [hl]; omega), hl, show 3 + k * 3 + 2 - 3 = k * 3 + 2 by omega]; simpa using this.2.2
theorem Tryz.infoNode : (Tryz.prog.info? 85).map (fun i => (i.zero, i.size, i.bytes)) = some (some (.agg #[.int .i64 0, .int .i64 0, .string ByteArray.empty]), 3, 32) := by kernel_rfl
theorem news_three {w : World} (a b c : Value) (t : TypeId) : ∀ j x, [a, b, c][j]? = some x → (w.alloc (.cells #[a, b, c] t)).cell? ((⟨w.heap.size, 0, none⟩ : Addr).add j) = some x := by
  intro j x hx
  exact World.news_of_block (cs := #[a, b, c]) (heap_alloc_new w _) j x hx
theorem news_three' {w : World} (o : Obj) (a b c : Value) (t : TypeId) : ∀ j x, [a, b, c][j]? = some x → ((w.alloc o).alloc (.cells #[a, b, c] t)).cell? ((⟨w.heap.size + 1, 0, none⟩ : Addr).add j) = some x := by
  have := @news_three (w.alloc o) a b c t
  simpa using this
/-- Where readNodes stands behind k records. -/
def RdInv (rs : List Str) (k : Nat) (ns : List Nd) : Prop := ns.length = k ∧ readNodes rs = ns ++ readNodes (rs.drop k)
theorem rdInv_yes {rs : List Str} {k : Nat} {ns : List Nd} (h : RdInv rs k ns) (hk : k < rs.length) {n : Nd} (hn : recNode rs[k] = some n) : RdInv rs (k + 1) (ns ++ [n]) := by
  refine ⟨by simp [h.1], ?_⟩
  rw [h.2, List.drop_eq_getElem_cons hk, readNodes, hn]; simp
theorem rdInv_no {rs : List Str} {k : Nat} {ns : List Nd} (h : RdInv rs k ns) (hk : k < rs.length) (hn : recNode rs[k] = none) : readNodes rs = ns := by
  rw [h.2, List.drop_eq_getElem_cons hk, readNodes, hn]; simp
theorem rdInv_end {rs : List Str} {k : Nat} {ns : List Nd} (h : RdInv rs k ns) (hk : ¬ k < rs.length) : readNodes rs = ns := by
  rw [h.2, List.drop_eq_nil_of_le (by omega)]; simp [readNodes]
theorem str_cell {w wr : World} {ao : Option Addr} {rs : List Str} (hrow : Row w ao rs.length 1 (rs.map strV)) (hb : Below w.heap.size w wr) {k : Nat} (hk : k < rs.length) :
    ∃ g, ao = some ⟨g, 0, none⟩ ∧ g < w.heap.size ∧ wr.cell? ⟨g, k, none⟩ = some (.string (bs rs[k])) := by
  obtain ⟨g, h1, h2, h3⟩ := hrow.2 (by omega)
  refine ⟨g, h1, h2, ?_⟩
  rw [hb.cell (p := ⟨g, k, none⟩) h2]
  exact h3 k _ (by simp [hk, strV])
theorem own_below {wr w2 : World} {base : Nat} {e : TypeId} {size : Nat} {v : Value} {n : Nat} {xs : List Value} (h : wr.ownsRow base e size v n xs) (hb : Below wr.heap.size wr w2) : w2.ownsRow base e size v n xs := by
  obtain ⟨h1, h2⟩ := h
  refine ⟨h1, ?_⟩
  rcases h2 with h2 | ⟨g, cap, cur, hv, hg, hh, r⟩
  · exact Or.inl h2
  · exact Or.inr ⟨g, cap, cur, hv, hg, by rw [hb.block g (lt_of_block hh)]; exact hh, r⟩
set_option maxHeartbeats 2000000 in
theorem readNodes_any (rs : List Str) (ao : Option Addr) (cap : Nat) (w : World) (hrow : Row w ao rs.length 1 (rs.map strV)) (hl : ∀ r ∈ rs, r.length ≤ 4000) (hn : rs.length ≤ 4000) :
    Calls Tryz.prog 66 #[.slice ao rs.length cap] w fun e w' => ∃ ao' cap', e = .returned (.slice ao' (readNodes rs).length cap') ∧ Row w' ao' (readNodes rs).length 3 (ndCells (readNodes rs)) ∧ Below w.heap.size w w' := by
  obtain ⟨i0, hi, hz0, hz1, hz2⟩ := info_parts Tryz.infoNode
  have HROW := hide hrow; clear hrow
  have HL := hide hl; clear hl
  go_enter Tryz.func66, Tryz.ntmps66
  go_wp2
  go_loopw [3, 12] (fun v i wr => ∃ k : Nat, ∃ ns : List Nd, k ≤ rs.length ∧ i = .int .i64 k ∧ wr.ownsRow w.heap.size 85 3 v k (ndCells ns) ∧ Below w.heap.size w wr ∧ Hid (RdInv rs k ns)) (fun _ i _ => rs.length - (intOf i).toNat)
  case atStart => exact ⟨0, [], Nat.zero_le _, rfl, World.ownsRow_nil _ _ _ _, Below.refl _ _, hide ⟨rfl, rfl⟩⟩
  case round =>
    obtain ⟨k, ns, hk, rfl, hown, hbel, HI⟩ := hrel
    by_cases hlt : k < rs.length
    · obtain ⟨g, hao, hg, hcell⟩ := str_cell (unhide HROW) hbel hlt
      rw [hao]
      have hrl : (rs[k]).length ≤ 4000 := unhide HL _ (List.getElem_mem hlt)
      have HBO := hide (fun W => body_any (bs rs[k]) W (by rw [bs_size]; exact hrl))
      rw [sl_bs] at HBO
      have HRD := hide (fun W => readNode_any (bs (bodyS rs[k])) W (by rw [bs_size]; have := bodyS_len rs[k]; omega))
      rw [sl_bs] at HRD
      have HREC : Hid (recNode rs[k] = if bodyB rs[k] then readNode (bodyS rs[k]) else none) := hide rfl
      have hsz := hbel.size
      clear hao
      generalize hr : rs[k] = r at *
      have HR := hide hr; clear hr
      generalize bodyB r = bb at *
      generalize bodyS r = bsr at *
      generalize readNode bsr = R at *
      rcases (show bb = false ∨ (bb = true ∧ R = none) ∨ ∃ n, bb = true ∧ R = some n from by cases bb <;> cases R <;> simp) with hq | ⟨hq, hq'⟩ | ⟨nd, hq, hq'⟩
      · subst hq
        go_wp2_with fail
        refine (unhide HBO _).mono ?_
        rintro e w1 ⟨rfl, rfl⟩
        go_wp2_with fail
        refine (unhide HRD _).mono ?_
        rintro e w2 ⟨rfl, hb2⟩
        have HB3 := hide (hbel.trans (hb2.mono hbel.size))
        have HOWN := hide (own_below hown hb2)
        have hz3 := hb2.size
        have HN := hide (rdInv_no (unhide HI) hlt (by rw [unhide HR, unhide HREC]; rfl))
        have HI1 := hide (unhide HI).1
        go_wp2
        go_ret
        have hE := (Below.refl w2.heap.size w2).alloc (Nat.le_refl _) (.cells #[.int .i64 (R.getD nd0).id, .int .i64 (R.getD nd0).parent, .string (bs (R.getD nd0).name)] 85)
        obtain ⟨ao', cap', rfl, hr⟩ := row_of_owns (own_below (unhide HOWN) hE)
        rw [unhide HN]
        rw [← unhide HI1] at hr
        exact ⟨ao', cap', by rw [unhide HI1]; rfl, hr, (unhide HB3).trans (hE.mono (by have := hbel.size; omega))⟩
      · subst hq hq'
        go_wp2_with fail
        refine (unhide HBO _).mono ?_
        rintro e w1 ⟨rfl, rfl⟩
        go_wp2_with fail
        refine (unhide HRD _).mono ?_
        rintro e w2 ⟨rfl, hb2⟩
        have HB3 := hide (hbel.trans (hb2.mono hbel.size))
        have HOWN := hide (own_below hown hb2)
        have hz3 := hb2.size
        have HN := hide (rdInv_no (unhide HI) hlt (by rw [unhide HR, unhide HREC]; rfl))
        have HI1 := hide (unhide HI).1
        go_wp2
        go_ret
        have hE := (Below.refl w2.heap.size w2).alloc (Nat.le_refl _) (.cells #[.int .i64 nd0.id, .int .i64 nd0.parent, .string (bs nd0.name)] 85)
        obtain ⟨ao', cap', rfl, hr⟩ := row_of_owns (own_below (unhide HOWN) hE)
        rw [unhide HN]
        rw [← unhide HI1] at hr
        exact ⟨ao', cap', by rw [unhide HI1]; rfl, hr, (unhide HB3).trans (hE.mono (by have := hbel.size; omega))⟩
      · subst hq hq'
        go_wp2_with fail
        refine (unhide HBO _).mono ?_
        rintro e w1 ⟨rfl, rfl⟩
        go_wp2_with fail
        refine (unhide HRD _).mono ?_
        rintro e w2 ⟨rfl, hb2⟩
        have HB3 := hide (hbel.trans (hb2.mono hbel.size))
        have HOWN := hide (own_below hown hb2)
        have hz3 := hb2.size
        go_wp2_with (first
          | (at_builtin; (refine wpList_append_own _ rfl _ _ 122 rfl w.heap.size 85 i0 (.agg #[.int .i64 0, .int .i64 0, .string ByteArray.empty]) 3 32 Tryz.underlying122 hi hz0 hz1 hz2 rfl (by decide) _ _ _ rfl (own_below (unhide HOWN) (((Below.refl _ _).alloc (Nat.le_refl _) _).alloc (by simp) _)) ⟨w2.heap.size + 1, 0, none⟩ 1 1 [.int .i64 nd.id, .int .i64 nd.parent, .string (bs nd.name)] rfl rfl (news_three' _ _ _ _ _) (by simp [Value.oneCell']) (by unfold maxLen; omega) (by omega) (by have := hbel.size; simp; omega) ?_))
          | go_in)
        intro v' w3 hown' hgrow _
        have HN := hide (rdInv_yes (unhide HI) hlt (n := nd) (by rw [unhide HR, unhide HREC]; rfl))
        have hb4 : Below w.heap.size w w3 := ((((unhide HB3).alloc (by have := hbel.size; omega) _).alloc (by have := hbel.size; simp; omega) _)).grown hgrow (by have := hbel.size; simp; omega) (own_ge hown)
        have hown2 : w3.ownsRow w.heap.size 85 3 v' (k + 1) (ndCells (ns ++ [nd])) := by rw [ndCells_snoc]; exact hown'
        clear hgrow hown hbel hown' hb2
        go_wp2
        go_roundw
        case rel => exact ⟨k + 1, _, by omega, by go_num, hown2, hb4, HN⟩
        case measure => simp [intOf]; omega
    · have HN := hide (rdInv_end (unhide HI) hlt)
      have HI1 := hide (unhide HI).1
      go_wp2
      go_ret
      obtain ⟨ao', cap', rfl, hr⟩ := row_of_owns hown
      rw [unhide HN]
      rw [← unhide HI1] at hr
      exact ⟨ao', cap', by rw [unhide HI1]; rfl, hr, hbel⟩
end Go.Proofs.YtkjancfakplogaaGreatDoor
