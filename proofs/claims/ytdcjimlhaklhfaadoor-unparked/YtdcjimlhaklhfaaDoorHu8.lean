import Derived.Test.YtdcjimlhaklhfaaDoorHu7
import Derived.Deep.RegionLaw
import Derived.Deep.RegionWith
import Derived.Great.BuildSlice
import Derived.Deep.Cut
namespace Go.Proofs.YtdcjimlhaklhfaaDoor
open Go.RowKit
theorem step_append_own {P : Program} {ops : Array Oper} {o : Oper} {a : Act} {w : World} {K : Act → World → Prop} {Q : Exit → Act → World → Prop} {E : Prop}
    (hg : o.guard = none) (s x : Operand) (t : TypeId) (hop : o.op = Op.call { callee := Callee.builtin Builtin.append, args := #[s, x], argTypes := #[t, t] })
    (e : TypeId) (i : TypeInfo) (z : Value) (size bytes : Nat) (h1 : P.underlying t = some (.slice e)) (h2 : P.info? e = some i) (h3 : i.zero = some z) (h4 : i.size = size) (h5 : i.bytes = bytes) (h6 : z.cells.size = size) (h7 : 0 < size)
    (base : Nat) (v : Value) (n : Nat) (xs : List Value) (hs : a.eval s = v) (hown : w.ownsRow base e size v n xs)
    (ad : Addr) (m c : Nat) (news : List Value) (hx : a.eval x = .slice (some ad) m c) (hn : news.length = m * size) (hc : ∀ j u, news[j]? = some u → w.cell? (ad.add j) = some u) (h1c : ∀ u ∈ news, u.oneCell' = true)
    (b1 : n + m ≤ maxLen) (b2 : (n + m) * bytes ≤ 140737488355328) (hbase : base ≤ w.heap.size)
    (hK : ∀ v' w', w'.ownsRow base e size v' (n + m) (xs ++ news) → w.grownBy w' v.ownBlock → K (a.put o.dst v') w') :
    if Region.wanted o (yielded ops a.tmps) = true then Oper.wp P o a w K Q else E := by
  have hw : Region.wanted o (yielded ops a.tmps) = true := by simp [Region.wanted, hg]
  rw [if_pos hw]
  obtain ⟨v', w', hrun, r1, r2, _⟩ := run_append_own (P := P) w base t o.type e i z size bytes h1 h2 h3 h4 h5 h6 h7 v n xs hown ad m c news hn hc h1c b1 b2 hbase
  unfold Oper.wp
  simp [execOp, hop, resolve, invoke, builtin, hs, hx, hrun, Result.andThen]
  exact hK v' w' r1 r2
theorem own_grown {w w' : World} {base : Nat} {e : TypeId} {size : Nat} {v : Value} {n : Nat} {xs : List Value} {c : Nat} (h : w.ownsRow base e size v n xs) (hg : w.grownBy w' (some c)) (hc : c < base) : w'.ownsRow base e size v n xs := by
  obtain ⟨h1, h2⟩ := h
  refine ⟨h1, ?_⟩
  rcases h2 with h2 | ⟨g, cap, cur, hv, hgb, hh, r⟩
  · exact Or.inl h2
  · exact Or.inr ⟨g, cap, cur, hv, hgb, by rw [hg.block g (lt_of_block hh) (fun e => by cases e; omega)]; exact hh, r⟩
theorem cell_grown {w w' : World} {c b : Nat} (hg : w.grownBy w' (some c)) (hb : b < w.heap.size) (hne : b ≠ c) (o : Nat) : w'.cell? ⟨b, o, none⟩ = w.cell? ⟨b, o, none⟩ :=
  World.cell?_of_block (a := ⟨b, o, none⟩) (hg.block b hb (fun e => hne (by cases e; rfl)))
theorem own_form {w : World} {base : Nat} {e : TypeId} {size : Nat} {v : Value} {n : Nat} {xs : List Value} (h : w.ownsRow base e size v (n + 1) xs) : ∃ g cap, v = .slice (some ⟨g, 0, none⟩) (n + 1) cap ∧ base ≤ g := by
  rcases h.2 with ⟨_, h2⟩ | ⟨g, cap, _, hv, hg, _⟩
  · omega
  · exact ⟨g, cap, hv, hg⟩
theorem own_block {w : World} {base : Nat} {e : TypeId} {size : Nat} {v : Value} {n : Nat} {xs : List Value} (h : w.ownsRow base e size v n xs) {c : Nat} (hc : c < base) : some c ≠ v.ownBlock := by
  rcases h.2 with ⟨rfl, _⟩ | ⟨g, cap, _, rfl, hg, _⟩
  · intro e; cases e
  · intro e; simp [Value.ownBlock] at e; omega
theorem own_set {w : World} {base : Nat} {e : TypeId} {size : Nat} {v : Value} {n : Nat} {xs : List Value} (h : w.ownsRow base e size v n xs) {c : Nat} (hc : c < base) (o : Nat) (u : Value) : (w.setCell ⟨c, o, none⟩ u).ownsRow base e size v n xs := by
  obtain ⟨h1, h2⟩ := h
  refine ⟨h1, ?_⟩
  rcases h2 with h2 | ⟨g, cap, cur, hv, hgb, hh, r⟩
  · exact Or.inl h2
  · exact Or.inr ⟨g, cap, cur, hv, hgb, by rw [heap_setCell_other _ _ _ _ (show g ≠ c by omega)]; exact hh, r⟩
theorem plan_set {w : World} {b : Nat} {a g : Tr} {v v' : Value} (h : TreeAt (planX g v) w b a) : TreeAt (planX g v') (w.setCell ⟨b, 800, none⟩ v') b a := by
  unfold TreeAt
  rw [heap_setCell_same w b 800 _ _ v' h]
  have e : (treeCells a ++ (treeCells g ++ [v])).set 800 v' = treeCells a ++ (treeCells g ++ [v']) := by
    rw [List.set_append_right _ _ (by rw [treeCells_length]; omega), treeCells_length, List.set_append_right _ _ (by rw [treeCells_length]; omega), treeCells_length]
    simp
  simp only [planX, List.setIfInBounds_toArray, e]
theorem plan_grown {x : Ext} {w2 w4 : World} {b : Nat} {a : Tr} {o : Obj} {r : Option Nat} (h : TreeAt x w2 b a) (hg : (World.drew (w2.alloc o)).grownBy w4 r) (hr : some b ≠ r) : TreeAt x w4 b a := by
  have hlt := h.lt
  have h1 : TreeAt x (World.drew (w2.alloc o)) b a := h.below (below_drewN ((Below.refl w2.heap.size w2).alloc (Nat.le_refl _) o) 1)
  unfold TreeAt
  rw [hg.block b h1.lt hr]; exact h1
def PlanAt (w : World) (b : Nat) (g : Tr) (p : Pl) : Prop := ∃ v, TreeAt (planX g v) w b p.now ∧ w.ownsRow (b + 1) 83 4 v p.done.length (stCells p.done)
def tryP (p : Pl) (s : St) : Pl := if stepE p.now s = 0 then ⟨stepT p.now s, p.done ++ [s]⟩ else p
theorem tryP_yes {p : Pl} {s : St} (h : stepE p.now s = 0) : tryP p s = ⟨stepT p.now s, p.done ++ [s]⟩ := by unfold tryP; rw [if_pos h]
theorem tryP_no {p : Pl} {s : St} (h : ¬ stepE p.now s = 0) : tryP p s = p ∧ stepT p.now s = p.now := by unfold tryP stepT; rw [if_neg h, if_neg h]; exact ⟨rfl, rfl⟩
set_option maxHeartbeats 2000000 in
set_option maxRecDepth 100000 in
theorem attempt_any (g : Tr) (p : Pl) (b : Nat) (s : St) (w : World) (ha : TrOk p.now) (hs : StOk s) (hP : PlanAt w b g p) (hl : p.done.length ≤ 30000) :
    Calls Tryd.prog 71 #[.pointer (some ⟨b, 0, none⟩), .agg #[.int .u8 s.kind.toNat, .int .i64 s.node.id, .int .i64 s.node.parent, .string (bs s.node.name)]] w fun e w' => e = .returned (.bool (stepE p.now s == 0)) ∧ PlanAt w' b g (tryP p s) ∧ Below b w w' := by
  obtain ⟨v, hT, hown⟩ := hP
  obtain ⟨i0, hi, hz0, hz1, hz2⟩ := info_parts Tryd.infoStep
  have hlt := hT.lt
  have HDO := hide (fun W (h : TreeAt (planX g v) W b p.now) => do_any p.now b s W ha h hs)
  have hb1 := (Below.refl w.heap.size w).alloc (Nat.le_refl _) (.cells #[.int .u8 s.kind.toNat, .int .i64 s.node.id, .int .i64 s.node.parent, .string (bs s.node.name)] 83)
  have HT1 := hide (hT.below hb1)
  have HOWN := hide (own_below hown hb1)
  clear ha hs
  by_cases hE : stepE p.now s = 0
  · rw [tryP_yes hE]
    rw [hE] at HDO ⊢
    clear hT hown hb1
    go_enter Tryd.func71, Tryd.ntmps71
    go_wp2_with fail
    go_region_with (go_at_call 43; refine (unhide HDO _ (by exact unhide HT1)).mono ?_; rintro e w2 ⟨rfl, hT2, hg2⟩)
    have hlw : w.heap.size + 1 ≤ w2.heap.size := by have := hg2.size; simpa using this
    have HB2 : Hid (Below b w w2) := hide (((below_drewN ((Below.refl b w).alloc (by omega) (.cells #[.int .u8 s.kind.toNat, .int .i64 s.node.id, .int .i64 s.node.parent, .string (bs s.node.name)] 83)) 1)).grown hg2 (by simp; omega) (fun k hk => by cases hk; omega))
    have HOWN2 := hide (own_grown (show World.ownsRow (World.drew (w.alloc _)) _ _ _ _ _ _ from unhide HOWN) hg2 (by omega))
    have hcs : ∀ o, w2.cell? ⟨w.heap.size, o, none⟩ = (w.alloc _).cell? ⟨w.heap.size, o, none⟩ := fun o => cell_grown hg2 (by simp) (by omega) o
    have hdone := plan_done hT2
    have hfz : ∀ o, w2.frozen? ⟨b, o, none⟩ = false := hT2.free
    have HT2 := hide hT2
    clear hT2 hg2
    go_wp2_with fail
    have HOWN3 : Hid (World.ownsRow (World.drew (w2.alloc (.cells #[.int .u8 s.kind.toNat, .int .i64 s.node.id, .int .i64 s.node.parent, .string (bs s.node.name)] 83))) (b + 1) 83 4 v p.done.length (stCells p.done)) := hide (own_below (unhide HOWN2) (below_drewN ((Below.refl w2.heap.size w2).alloc (Nat.le_refl _) _) 1))
    have HNEW : Hid (∀ j x, [Value.int .u8 s.kind.toNat, .int .i64 s.node.id, .int .i64 s.node.parent, .string (bs s.node.name)][j]? = some x → (World.drew (w2.alloc (.cells #[.int .u8 s.kind.toNat, .int .i64 s.node.id, .int .i64 s.node.parent, .string (bs s.node.name)] 83))).cell? ((⟨w2.heap.size, 0, none⟩ : Addr).add j) = some x) := hide (fun j x hx => World.news_of_block (w := w2.alloc (.cells #[.int .u8 s.kind.toNat, .int .i64 s.node.id, .int .i64 s.node.parent, .string (bs s.node.name)] 83)) (cs := #[.int .u8 s.kind.toNat, .int .i64 s.node.id, .int .i64 s.node.parent, .string (bs s.node.name)]) (heap_alloc_new w2 _) j x hx)
    have hbs : b + 1 ≤ w2.heap.size + 1 := by omega
    have hbw : b < w2.heap.size := by omega
    have hbn : ¬ b = w2.heap.size := by omega
    go_region_law (refine step_append_own rfl (.tmp 17) (.tmp 19) 62 rfl 83 i0 (.agg #[.int .u8 0, .int .i64 0, .int .i64 0, .string ByteArray.empty]) 4 40 Tryd.underlying62 hi hz0 hz1 hz2 rfl (by decide) (b + 1) v p.done.length (stCells p.done) (by simp [Act.eval]) (unhide HOWN3) ⟨w2.heap.size, 0, none⟩ 1 1 [.int .u8 s.kind.toNat, .int .i64 s.node.id, .int .i64 s.node.parent, .string (bs s.node.name)] (by simp [Act.eval]) rfl (unhide HNEW) (by simp [Value.oneCell']) (by unfold maxLen; omega) (by omega) (by simp; omega) ?_; intro v' w4 hown4 hgrow; obtain ⟨g4, cap4, rfl, hg4⟩ := own_form hown4; have hT4 : TreeAt (planX g v) w4 b (stepT p.now s) := plan_grown (unhide HT2) hgrow (own_block (unhide HOWN3) (by omega)); have hd4 := plan_done hT4; have hf4 := hT4.free 800; have HT4 := hide hT4; have HOWN4 := hide hown4; have HG4 := hide hgrow; clear hT4 hown4 hgrow)
    all_goals
      go_wp2
      go_ret
      refine ⟨rfl, ⟨_, plan_set (unhide HT4), ?_⟩, ?_⟩
      · have := own_set (unhide HOWN4) (show b < b + 1 by omega) 800 (.slice (some ⟨g4, 0, none⟩) (p.done.length + 1) cap4)
        show World.ownsRow _ _ _ _ _ (p.done ++ [s]).length (stCells (p.done ++ [s]))
        rw [stCells_snoc, List.length_append]; exact this
      · refine Below.setCell ((below_drewN ((unhide HB2).alloc (by omega) _) 1).grown (unhide HG4) (by simp; omega) (fun k hk => by have := own_ge (unhide HOWN3) k hk; omega)) (Nat.le_refl _) _
  · obtain ⟨e1, e2⟩ := tryP_no hE
    rw [e1]
    rw [e2] at HDO
    have hE2 : (stepE p.now s == 0) = false := by simpa using hE
    have hE3 : (stepE p.now s != 0) = true := by simpa using hE
    clear hT hown hb1 e1 e2
    generalize stepE p.now s = E at *
    rw [hE2]
    go_enter Tryd.func71, Tryd.ntmps71
    go_wp2_with fail
    go_region_with (go_at_call 43; refine (unhide HDO _ (by exact unhide HT1)).mono ?_; rintro e w2 ⟨rfl, hT2, hg2⟩)
    have HB2 : Hid (Below b w w2) := hide (((below_drewN ((Below.refl b w).alloc (by omega) (.cells #[.int .u8 s.kind.toNat, .int .i64 s.node.id, .int .i64 s.node.parent, .string (bs s.node.name)] 83)) 1)).grown hg2 (by simp; omega) (fun k hk => by cases hk; omega))
    have HOWN2 := hide (own_grown (show World.ownsRow (World.drew (w.alloc _)) _ _ _ _ _ _ from unhide HOWN) hg2 (by omega))
    have HT2 := hide hT2
    clear hT2 hg2
    go_wp2
    go_ret
    exact ⟨rfl, ⟨v, unhide HT2, unhide HOWN2⟩, unhide HB2⟩
end Go.Proofs.YtdcjimlhaklhfaaDoor

namespace Go.Proofs.YtdcjimlhaklhfaaDoor
open Go.RowKit
theorem PlanAt.below {w w' : World} {b : Nat} {g : Tr} {p : Pl} (h : PlanAt w b g p) (hb : Below w.heap.size w w') : PlanAt w' b g p := by
  obtain ⟨v, h1, h2⟩ := h
  exact ⟨v, h1.below hb, own_below h2 hb⟩
theorem PlanAt.lt {w : World} {b : Nat} {g : Tr} {p : Pl} (h : PlanAt w b g p) : b < w.heap.size := by
  obtain ⟨v, h1, _⟩ := h; exact h1.lt
theorem homeP_any (g : Tr) (p : Pl) (b : Nat) (id : Int) (w : World) (ha : TrOk p.now) (hg : TrOk g) (h0 : 0 ≤ id) (h1 : id ≤ 99) (hP : PlanAt w b g p) :
    Calls Tryd.prog 70 #[.pointer (some ⟨b, 0, none⟩), .int .i64 id] w fun e w' => e = .returned (.tuple #[.agg #[.int .u8 (homeV p.now g id).kind.toNat, .int .i64 (homeV p.now g id).node.id, .int .i64 (homeV p.now g id).node.parent, .string (bs (homeV p.now g id).node.name)], .bool (homeS p.now g id).isSome]) ∧ Below w.heap.size w w' := by
  obtain ⟨v, hT, _⟩ := hP
  exact home_any p.now g b id v w ha hg h0 h1 hT
theorem goOne_none {g : Tr} {p : Pl} {m : Bool} {i : Nat} (h : homeS p.now g i = none) : goOne g (p, m) i = (p, m) := by unfold goOne; rw [h]
theorem goOne_some {g : Tr} {p : Pl} {m : Bool} {i : Nat} {s : St} (h : homeS p.now g i = some s) : goOne g (p, m) i = (tryP p s, m || (stepE p.now s == 0)) := by
  unfold goOne; rw [h]
  by_cases he : stepE p.now s = 0
  · rw [tryP_yes he]; simp [he]
  · rw [(tryP_no he).1]; simp [he]
theorem tryP_len (p : Pl) (s : St) : (tryP p s).done.length ≤ p.done.length + 1 := by unfold tryP; split <;> simp
theorem tryP_ok {p : Pl} {s : St} (h : TrOk p.now) (hs : StOk s) : TrOk (tryP p s).now := by
  unfold tryP; split
  · exact stepT_ok h hs
  · exact h
def GoInv (g : Tr) (F : Pl × Bool) (k : Nat) (q : Pl) (m : Bool) : Prop := F = (List.range' k (100 - k)).foldl (goOne g) (q, m)
theorem goInv_next {g : Tr} {F : Pl × Bool} {k : Nat} {q : Pl} {m : Bool} (h : GoInv g F k q m) (hk : k ≤ 99) {q' : Pl} {m' : Bool} (e : goOne g (q, m) k = (q', m')) : GoInv g F (k + 1) q' m' := by
  unfold GoInv at *
  rw [h, show 100 - k = (100 - (k + 1)) + 1 by omega, List.range'_succ, List.foldl_cons, e]
theorem goInv_end {g : Tr} {F : Pl × Bool} {q : Pl} {m : Bool} {k : Nat} (h : GoInv g F k q m) (hk : ¬ k ≤ 99) : F = (q, m) := by
  unfold GoInv at h; rw [h, show 100 - k = 0 by omega]; rfl
set_option maxHeartbeats 2000000 in
set_option maxRecDepth 100000 in
theorem goHome_any (g : Tr) (p : Pl) (b : Nat) (w : World) (ha : TrOk p.now) (hg : TrOk g) (hP : PlanAt w b g p) (hl : p.done.length ≤ 20000) :
    Calls Tryd.prog 50 #[.pointer (some ⟨b, 0, none⟩)] w fun e w' => e = .returned (.bool (goHomeT g p).2) ∧ PlanAt w' b g (goHomeT g p).1 ∧ Below b w w' := by
  have hlt := hP.lt
  have HF : Hid (GoInv g (goHomeT g p) 1 p false) := hide (by unfold GoInv goHomeT; rfl)
  generalize goHomeT g p = F at *
  have HG := hide hg
  have HP := hide hP
  have HO := hide ha
  clear hg hP ha
  go_enter Tryd.func50, Tryd.ntmps50
  go_wp2
  go_loopw [3, 4] (fun mv i wr => ∃ k : Nat, ∃ q : Pl, ∃ m : Bool, 1 ≤ k ∧ k ≤ 100 ∧ i = .int .i64 k ∧ mv = .bool m ∧ Hid (TrOk q.now) ∧ Hid (PlanAt wr b g q) ∧ q.done.length ≤ p.done.length + (k - 1) ∧ Below b w wr ∧ Hid (GoInv g F k q m)) (fun _ i _ => 101 - (intOf i).toNat)
  case atStart => exact ⟨1, p, false, by omega, by omega, rfl, rfl, HO, HP, by omega, Below.refl _ _, HF⟩
  case round =>
    obtain ⟨k, q, m, hk1, hk, rfl, rfl, HOK, HPL, hql, hbel, HI⟩ := hrel
    have hltr := (unhide HPL).lt
    by_cases hkk : k ≤ 99
    · have HH := hide (homeP_any g q b k wr (unhide HOK) (unhide HG) (by omega) (by omega) (unhide HPL))
      cases hq : homeS q.now g k with
      | none =>
        have HI2 := hide (goInv_next (unhide HI) hkk (goOne_none hq))
        have e2 : homeV q.now g k = stZ := by unfold homeV; rw [hq]; rfl
        rw [hq, e2] at HH
        clear hq e2 HI
        go_wp2_with fail
        refine (unhide HH).mono ?_
        rintro e w1 ⟨rfl, hb1⟩
        have hb2 := hb1.alloc hb1.size (.cells #[.int .u8 stZ.kind.toNat, .int .i64 stZ.node.id, .int .i64 stZ.node.parent, .string (bs stZ.node.name)] 83)
        have HPL2 := hide ((unhide HPL).below hb2)
        have hb3 := hbel.trans (hb2.mono (by omega))
        clear hb1 hb2 hbel HPL
        go_wp2
        go_roundw
        case rel => exact ⟨k + 1, q, m, by omega, by omega, by go_num, rfl, HOK, HPL2, by omega, hb3, HI2⟩
        case measure => simp [intOf]; omega
      | some s =>
        have hsok := (home_ok (unhide HG) (show (1 : Int) ≤ k by omega) (by omega) hq).1
        have HI2 := hide (goInv_next (unhide HI) hkk (goOne_some hq))
        have e2 : homeV q.now g k = s := by unfold homeV; rw [hq]; rfl
        rw [hq, e2] at HH
        have HAT := hide (fun W (h : PlanAt W b g q) => attempt_any g q b s W (unhide HOK) hsok h (by omega))
        have HOK2 := hide (tryP_ok (unhide HOK) hsok)
        have hql2 := tryP_len q s
        clear hq e2 HI hsok
        cases hE : (stepE q.now s == 0)
        · rw [hE] at HAT HI2
          rw [Bool.or_false] at HI2
          go_wp2_with fail
          refine (unhide HH).mono ?_
          rintro e w1 ⟨rfl, hb1⟩
          have hb2 := hb1.alloc hb1.size (.cells #[.int .u8 s.kind.toNat, .int .i64 s.node.id, .int .i64 s.node.parent, .string (bs s.node.name)] 83)
          have HPL2 := hide ((unhide HPL).below hb2)
          have hb3 := hbel.trans (hb2.mono (by omega))
          clear hb1 hb2 hbel HPL
          go_wp2_with fail
          refine (unhide HAT _ (by exact unhide HPL2)).mono ?_
          rintro e w3 ⟨rfl, hP3, hb4⟩
          have HP3 := hide hP3
          have hb5 := hb3.trans hb4
          clear hP3 hb3 hb4
          generalize tryP q s = q2 at *
          go_wp2
          go_roundw
          case rel => exact ⟨k + 1, q2, m, by omega, by omega, by go_num, rfl, HOK2, HP3, by omega, hb5, HI2⟩
          case measure => simp [intOf]; omega
        · rw [hE] at HAT HI2
          rw [Bool.or_true] at HI2
          go_wp2_with fail
          refine (unhide HH).mono ?_
          rintro e w1 ⟨rfl, hb1⟩
          have hb2 := hb1.alloc hb1.size (.cells #[.int .u8 s.kind.toNat, .int .i64 s.node.id, .int .i64 s.node.parent, .string (bs s.node.name)] 83)
          have HPL2 := hide ((unhide HPL).below hb2)
          have hb3 := hbel.trans (hb2.mono (by omega))
          clear hb1 hb2 hbel HPL
          go_wp2_with fail
          refine (unhide HAT _ (by exact unhide HPL2)).mono ?_
          rintro e w3 ⟨rfl, hP3, hb4⟩
          have HP3 := hide hP3
          have hb5 := hb3.trans hb4
          clear hP3 hb3 hb4
          generalize tryP q s = q2 at *
          go_wp2
          go_roundw
          case rel => exact ⟨k + 1, q2, true, by omega, by omega, by go_num, rfl, HOK2, HP3, by omega, hb5, HI2⟩
          case measure => simp [intOf]; omega
    · have hE := goInv_end (unhide HI) hkk
      have HE := hide hE
      clear hE
      go_wp2
      go_ret
      rw [unhide HE]
      exact ⟨rfl, unhide HPL, hbel⟩
theorem seek_bd {a g : Tr} (ha : TrOk a) (hg : TrOk g) : ∀ (f : Nat) (m : Int), 0 ≤ m → m ≤ 99 → 0 ≤ seekF a g f m ∧ seekF a g f m ≤ 99 := by
  intro f
  induction f with
  | zero => intro m _ _; simp [seekF]
  | succ f ih =>
    intro m h0 h1
    rw [seekF]
    split
    · exact ⟨h0, h1⟩
    · have := blocker_bd ha hg (id := m) h0; exact ih _ this.1 this.2
theorem iter_bd {a g : Tr} (ha : TrOk a) (hg : TrOk g) : ∀ (f : Nat) (m : Int), 0 ≤ m → m ≤ 99 → 0 ≤ iter (blocker a g) f m ∧ iter (blocker a g) f m ≤ 99 := by
  intro f
  induction f with
  | zero => intro m h0 h1; exact ⟨h0, h1⟩
  | succ f ih =>
    intro m h0 h1
    rw [iter]
    have := blocker_bd ha hg (id := m) h0; exact ih _ this.1 this.2
theorem knot_bd {a g : Tr} (ha : TrOk a) (hg : TrOk g) : 0 ≤ knotT a g ∧ knotT a g ≤ 99 := by
  have h1 := firstAway_bd a g
  have h2 := iter_bd ha hg 99 _ h1.1 h1.2
  exact seek_bd ha hg 99 _ h2.1 h2.2
theorem parkT_no {g : Tr} {p : Pl} (h : knotT p.now g = 0) : parkT g p = (p, false) := by unfold parkT; rw [if_pos h]
theorem parkT_yes {g : Tr} {p : Pl} (h : ¬ knotT p.now g = 0) : parkT g p = (tryP p (parkS (knotT p.now g)), stepE p.now (parkS (knotT p.now g)) == 0) := by
  unfold parkT; rw [if_neg h]
  by_cases he : stepE p.now (parkS (knotT p.now g)) = 0
  · rw [if_pos he, tryP_yes he, he]; rfl
  · rw [if_neg he, (tryP_no he).1]; simp [he]
theorem add_t (a : Str) (ha : a.length ≤ 1000000) (W : World) : (Op.stringOp .add ⟨#[116, 126]⟩ (bs a)).run Tryd.prog W = .ok (.string (bs (116 :: 126 :: a))) W := add_bs [116, 126] a (by simp) ha W
set_option maxHeartbeats 2000000 in
set_option maxRecDepth 100000 in
theorem park_any (g : Tr) (p : Pl) (b : Nat) (w : World) (ha : TrOk p.now) (hg : TrOk g) (hP : PlanAt w b g p) (hl : p.done.length ≤ 30000) :
    Calls Tryd.prog 51 #[.pointer (some ⟨b, 0, none⟩)] w fun e w' => e = .returned (.bool (parkT g p).2) ∧ PlanAt w' b g (parkT g p).1 ∧ Below b w w' := by
  have hlt := hP.lt
  have HK : Hid (Calls Tryd.prog 72 #[.pointer (some ⟨b, 0, none⟩)] w fun e w' => e = .returned (.int .i64 (knotT p.now g)) ∧ Below w.heap.size w w') := by
    obtain ⟨v, hT, _⟩ := hP; exact hide (knot_any p.now g b v w ha hg hT)
  have hkb := knot_bd ha hg
  have HP := hide hP
  by_cases h0 : knotT p.now g = 0
  · rw [parkT_no h0]
    rw [h0] at HK
    clear hP ha hg
    go_enter Tryd.func51, Tryd.ntmps51
    go_wp2_with fail
    refine (unhide HK).mono ?_
    rintro e w1 ⟨rfl, hb1⟩
    have HP1 := hide ((unhide HP).below hb1)
    have HB := hide (hb1.mono (show b ≤ w.heap.size by omega))
    clear hb1
    go_wp2
    go_ret
    exact ⟨rfl, unhide HP1, unhide HB⟩
  · rw [parkT_yes h0]
    have hz : (knotT p.now g == 0) = false := by simpa using h0
    have HAT := hide (fun W (h : PlanAt W b g p) => attempt_any g p b (parkS (knotT p.now g)) W ha (park_ok (by omega) hkb.2) h hl)
    have HIT := hide (fun W => itoa_any (knotT p.now g) W hkb.1 hkb.2)
    have l1 := digs_len (knotT p.now g)
    have a1 := add_t (digs (knotT p.now g)) (by omega)
    generalize hEE : (stepE p.now (parkS (knotT p.now g)) == 0) = E at *
    clear hEE
    generalize tryP p (parkS (knotT p.now g)) = q at *
    unfold parkS parkN at HAT
    generalize knotT p.now g = id at *
    clear hP ha hg
    go_enter Tryd.func51, Tryd.ntmps51
    go_wp2_with fail
    refine (unhide HK).mono ?_
    rintro e w1 ⟨rfl, hb1⟩
    go_wp2_with fail
    refine (unhide HIT _).mono ?_
    rintro e w2 ⟨rfl, rfl⟩
    have hb2 := hb1.alloc hb1.size (.cells #[.int .i64 id, .int .i64 0, .string (bs (116 :: 126 :: digs id))] 56)
    have HP1 := hide ((unhide HP).below hb2)
    have hb3 := hb2.mono (show b ≤ w.heap.size by omega)
    clear hb1 hb2
    go_wp2_with fail
    refine (unhide HAT _ (by exact unhide HP1)).mono ?_
    rintro e w3 ⟨rfl, hP3, hb4⟩
    have HP3 := hide hP3
    have HB5 := hide (hb3.trans hb4)
    clear hP3 hb3 hb4
    go_wp2
    go_ret
    exact ⟨rfl, unhide HP3, unhide HB5⟩
end Go.Proofs.YtdcjimlhaklhfaaDoor

namespace Go.Proofs.YtdcjimlhaklhfaaDoor
open Go.RowKit
/-! A plan is made. -/
def planCells (a g : Tr) (v : Value) : List Value := treeCells a ++ (treeCells g ++ [v])
theorem planCells_length (a g : Tr) (v : Value) : (planCells a g v).length = 801 := by simp [planCells, treeCells_length]
theorem fold_set (off : Nat) : ∀ (vs : List Value) (k : Nat) (cs : Array Value), off + k + vs.length ≤ cs.size →
    ((vs.zipIdx k).foldl (fun cs (x : Value × Nat) => cs.setIfInBounds (off + x.2) x.1) cs) = (cs.toList.take (off + k) ++ vs ++ cs.toList.drop (off + k + vs.length)).toArray := by
  intro vs
  induction vs with
  | nil => intro k cs h; simp
  | cons v vs ih =>
    intro k cs h
    simp only [List.length_cons] at h
    rw [List.zipIdx_cons, List.foldl_cons, ih (k + 1) _ (by simp; omega)]
    apply Array.ext'
    simp only [Array.toList_setIfInBounds]
    have h1 : off + k < cs.toList.length := by rw [Array.length_toList]; omega
    have e1 : (cs.toList.set (off + k) v).take (off + (k + 1)) = cs.toList.take (off + k) ++ [v] := by
      rw [show off + (k + 1) = off + k + 1 by omega, List.take_succ_eq_append_getElem (by simpa using h1)]
      rw [List.take_set, List.set_eq_of_length_le (by simp; omega)]
      simp
    have e2 : (cs.toList.set (off + k) v).drop (off + (k + 1) + vs.length) = cs.toList.drop (off + k + (v :: vs).length) := by
      rw [List.drop_set_of_lt (by omega)]; congr 1; simp only [List.length_cons]; omega
    rw [e1, e2]; simp
theorem fill_one (place : Nat → Option (Nat × Nat)) (cells : Array Value) (i off size : Nat) (vs : List Value) (rest : List (Nat × Value)) (hp : place i = some (off, size)) (hs : vs.length = size) (hb : off + size ≤ cells.size) :
    Instr.fill place cells ((i, .agg vs.toArray) :: rest) = Instr.fill place (cells.toList.take off ++ vs ++ cells.toList.drop (off + size)).toArray rest := by
  rw [Instr.fill, hp]
  have hc : (Value.agg vs.toArray).cells = vs.toArray := rfl
  simp only [hc, List.size_toArray, hs, ne_eq, not_true_eq_false, decide_false, Bool.false_or, decide_eq_true_eq]
  rw [if_neg (by omega)]
  congr 1
  rw [← Array.foldl_toList, Array.toList_zipIdx]
  have := fold_set off vs 0 cells (by omega)
  rw [Nat.add_zero, hs] at this
  exact this
theorem Tryd.planZero : ((Tryd.prog.info? 97).bind (·.zero)).map (fun z => (z.cells.size, z.cells.toList.drop 800)) = some (801, [.slice none 0 0]) := by kernel_rfl
theorem Tryd.planPlaces : (match Tryd.prog.underlying 97 with
  | some (.struct fields) => fields.toList.mapM (fun f => (Tryd.prog.info? f.type).map fun i => (f.offset, i.size))
  | _ => none) = some [(0, 400), (400, 400), (800, 1)] := by kernel_rfl
theorem plan_built (a g : Tr) : Tryd.prog.built 97 [(0, .agg (treeCells a).toArray), (1, .agg (treeCells g).toArray)] = some (planCells a g (.slice none 0 0)).toArray := by
  have h1 := Tryd.planZero
  have h2 := Tryd.planPlaces
  unfold Program.built
  cases hit : Tryd.prog.info? 97 with
  | none => rw [hit] at h1; cases h1
  | some it =>
    rw [hit] at h1
    cases hz : it.zero with
    | none => simp [hz] at h1
    | some z =>
      simp only [Option.bind_some, hz, Option.map_some, Option.some.injEq, Prod.mk.injEq] at h1
      cases hu : Tryd.prog.underlying 97 with
      | none => rw [hu] at h2; cases h2
      | some d =>
        rw [hu] at h2
        cases d with
        | struct fields =>
          simp only at h2
          simp only [hz, h2]
          unfold planCells
          have hz1 : z.cells.toList.length = 801 := by rw [Array.length_toList]; exact h1.1
          have hla := treeCells_length a
          have hlg := treeCells_length g
          generalize treeCells a = la at *
          generalize treeCells g = lg at *
          generalize z.cells = zc at *
          rw [fill_one _ _ 0 0 400 la _ rfl hla (by omega)]
          rw [fill_one _ _ 1 400 400 lg _ rfl hlg (by simp only [List.size_toArray, List.length_append, List.length_take, List.length_drop]; omega)]
          rw [Instr.fill]
          refine congrArg some (congrArg List.toArray ?_)
          simp only [List.take_zero, List.nil_append, Nat.zero_add]
          rw [List.take_append_of_le_length (by omega), List.take_of_length_le (by omega), List.drop_append, List.drop_eq_nil_of_le (by omega), List.nil_append, List.drop_drop, hla]
          rw [show 400 + (400 + 400 - 400) = 800 from rfl, h1.2]
          simp
        | _ => simp at h2
theorem Tryd.planZeroSize : Tryd.zeroCells97.size = 801 := by kernel_rfl
theorem planSize0 : (Tryd.prog.info? 97).map (·.size) = some 801 := by kernel_rfl
theorem planSize (a g : Tr) (v : Value) : (Tryd.prog.info? 97).map (·.size) = some (planCells a g v).toArray.size := by rw [List.size_toArray, planCells_length]; exact planSize0
theorem tree_one (t : Tr) : ∀ v ∈ treeCells t, v.oneCell' = true := by
  have := treeOne t
  rw [Array.all_eq_true_iff_forall_mem] at this
  intro v hv; exact this v (by simpa using hv)
theorem planOne (a g : Tr) : (planCells a g (.slice none 0 0)).toArray.all (·.oneCell') = true := by
  refine all_oneCell_toArray (fun v hv => ?_)
  unfold planCells at hv
  rcases List.mem_append.1 hv with hv | hv
  · exact tree_one a v hv
  · rcases List.mem_append.1 hv with hv | hv
    · exact tree_one g v hv
    · rw [List.mem_singleton.1 hv]; rfl
theorem there_new {w : World} {b : Nat} {cs : Array Value} {ty : TypeId} (h : w.heap[b]? = some (.cells cs ty (0, 0))) {n : Nat} (hn : n = cs.size) : w.there b 0 n := by
  subst hn
  intro j hj
  refine ⟨?_, ?_⟩
  · rw [Nat.zero_add, cell_of_row w b j _ _ (0, 0) h, Array.getElem?_eq_getElem hj]; rfl
  · simp [World.frozen?, h]
theorem range_new {w : World} {b : Nat} {cs : List Value} {ty : TypeId} (h : w.heap[b]? = some (.cells cs.toArray ty (0, 0))) : w.rangeAt b 0 cs := by
  intro j v hv
  rw [Nat.zero_add, cell_of_row w b j _ _ (0, 0) h]; simpa using hv
theorem plan_new {w : World} {b : Nat} {cs : Array Value} (a g : Tr) (v : Value) (h : w.heap[b]? = some (.cells cs 97 (0, 0))) (hs : cs.size = 801) : TreeAt (planX g v) (w.setCells b 0 (planCells a g v)) b a := by
  have := heap_setCells_row b 97 (planCells a g v) 0 w cs.toList (by simpa using h) (by rw [planCells_length, Array.length_toList]; omega)
  unfold TreeAt
  rw [this]
  have hd : cs.toList.drop (0 + (planCells a g v).length) = [] := by rw [List.drop_eq_nil_of_le (by rw [planCells_length, Array.length_toList]; omega)]
  rw [hd]
  simp [planX, planCells]
theorem goFold_len (g : Tr) (hg : TrOk g) : ∀ (l : List Nat) (p : Pl × Bool), (∀ i ∈ l, 1 ≤ i ∧ i ≤ 99) → TrOk p.1.now → (l.foldl (goOne g) p).1.done.length ≤ p.1.done.length + l.length ∧ TrOk (l.foldl (goOne g) p).1.now := by
  intro l
  induction l with
  | nil => intro p _ h; exact ⟨by simp, h⟩
  | cons i l ih =>
    intro p hl h
    rw [List.foldl_cons]
    have hi := hl i (by simp)
    obtain ⟨q, m⟩ := p
    cases hs : homeS q.now g i with
    | none =>
      rw [goOne_none hs]
      have := ih (q, m) (fun j hj => hl j (by simp [hj])) h
      exact ⟨by simp only [List.length_cons] at *; omega, this.2⟩
    | some s =>
      rw [goOne_some hs]
      have hk := (home_ok hg (show (1 : Int) ≤ i by omega) (by omega) hs).1
      have := ih (tryP q s, m || (stepE q.now s == 0)) (fun j hj => hl j (by simp [hj])) (tryP_ok h hk)
      have h2 := tryP_len q s
      exact ⟨by simp only [List.length_cons] at *; omega, this.2⟩
theorem goHomeT_len {g : Tr} (hg : TrOk g) {p : Pl} (h : TrOk p.now) : (goHomeT g p).1.done.length ≤ p.done.length + 99 ∧ TrOk (goHomeT g p).1.now := by
  have := goFold_len g hg (List.range' 1 99) (p, false) (fun i hi => by rw [List.mem_range'_1] at hi; omega) h
  have hE : goHomeT g p = (List.range' 1 99).foldl (goOne g) (p, false) := by unfold goHomeT; rfl
  rw [← hE, List.length_range'] at this
  exact this
theorem parkT_len {g : Tr} (hg : TrOk g) {p : Pl} (h : TrOk p.now) : (parkT g p).1.done.length ≤ p.done.length + 1 ∧ TrOk (parkT g p).1.now := by
  by_cases h0 : knotT p.now g = 0
  · rw [parkT_no h0]; exact ⟨by simp, h⟩
  · rw [parkT_yes h0]
    have hb := knot_bd h hg
    exact ⟨tryP_len _ _, tryP_ok h (park_ok (by omega) hb.2)⟩
theorem makeF_1 {g : Tr} {f : Nat} {p : Pl} (h : (goHomeT g p).2 = true) : makeF g (f + 1) p = makeF g f (goHomeT g p).1 := by rw [makeF, if_pos h]
theorem makeF_2 {g : Tr} {f : Nat} {p : Pl} (h : (goHomeT g p).2 = false) (h2 : (parkT g (goHomeT g p).1).2 = true) : makeF g (f + 1) p = makeF g f (parkT g (goHomeT g p).1).1 := by rw [makeF, if_neg (by rw [h]; simp), if_pos h2]
theorem makeF_3 {g : Tr} {f : Nat} {p : Pl} (h : (goHomeT g p).2 = false) (h2 : (parkT g (goHomeT g p).1).2 = false) : makeF g (f + 1) p = (parkT g (goHomeT g p).1).1.done := by rw [makeF, if_neg (by rw [h]; simp), if_neg (by rw [h2]; simp)]
theorem plan_row {w : World} {b : Nat} {g : Tr} {p : Pl} (h : PlanAt w b g p) : ∃ ao cap, w.cell? ⟨b, 800, none⟩ = some (.slice ao p.done.length cap) ∧ w.ownsRow (b + 1) 83 4 (.slice ao p.done.length cap) p.done.length (stCells p.done) := by
  obtain ⟨v, hT, hown⟩ := h
  obtain ⟨ao, cap, rfl, hr⟩ := row_of_owns hown
  exact ⟨ao, cap, plan_done hT, hown⟩
theorem own_low {w : World} {base base' : Nat} {e : TypeId} {size : Nat} {v : Value} {n : Nat} {xs : List Value} (h : w.ownsRow base e size v n xs) (hb : base' ≤ base) : w.ownsRow base' e size v n xs := by
  refine ⟨h.1, ?_⟩
  rcases h.2 with hn | ⟨g, cap, cur, hv, hg, rest⟩
  · exact .inl hn
  · exact .inr ⟨g, cap, cur, hv, by omega, rest⟩
set_option maxHeartbeats 4000000 in
set_option maxRecDepth 100000 in
theorem make_own (a g : Tr) (w : World) (ha : TrOk a) (hg : TrOk g) :
    Calls Tryd.prog 30 #[.agg (treeCells a).toArray, .agg (treeCells g).toArray] w fun e w' => (∃ ao cap, e = .returned (.slice ao (makeT a g).length cap) ∧ w'.ownsRow w.heap.size 83 4 (.slice ao (makeT a g).length cap) (makeT a g).length (stCells (makeT a g))) ∧ Below w.heap.size w w' := by
  have HR1 : Hid (((w.alloc (.cells (treeCells a).toArray 59)).alloc (.cells (treeCells g).toArray 59)).rangeAt w.heap.size 0 (treeCells a)) := hide (range_new (by rw [Below.heap_alloc _ _ _ (by simp)]; exact heap_alloc_new w _))
  have HR2 : Hid (((w.alloc (.cells (treeCells a).toArray 59)).alloc (.cells (treeCells g).toArray 59)).rangeAt (w.heap.size + 1) 0 (treeCells g)) := hide (range_new (by simpa using heap_alloc_new (w.alloc (.cells (treeCells a).toArray 59)) (.cells (treeCells g).toArray 59)))
  have hblk : (((w.alloc (.cells (treeCells a).toArray 59)).alloc (.cells (treeCells g).toArray 59)).alloc (.cells Tryd.zeroCells97 97)).heap[w.heap.size + 1 + 1]? = some (.cells Tryd.zeroCells97 97 (0, 0)) := by
    simpa using heap_alloc_new ((w.alloc (.cells (treeCells a).toArray 59)).alloc (.cells (treeCells g).toArray 59)) (.cells Tryd.zeroCells97 97)
  have HTH := hide (there_new hblk (n := (planCells a g (.slice none 0 0)).toArray.size) (by rw [List.size_toArray, planCells_length, Tryd.planZeroSize]))
  have HPN := hide (plan_new a g (.slice none 0 0) hblk Tryd.planZeroSize)
  have HBW := hide ((((Below.refl w.heap.size w).alloc (Nat.le_refl _) (.cells (treeCells a).toArray 59)).alloc (by simp) (.cells (treeCells g).toArray 59)).alloc (by simp; omega) (.cells Tryd.zeroCells97 97))
  have HO := hide ha
  have HG := hide hg
  have HM : Hid (makeT a g = makeF g 199 ⟨a, []⟩) := hide rfl
  generalize makeT a g = M at *
  clear hblk ha hg
  go_enter Tryd.func30, Tryd.ntmps30
  go_wp2_with (first
    | (refine wpList_load_mid (by rfl) 59 (.tmp 2) (by rfl) w.heap.size 0 (by rfl) (treeCells a) _ (unhide HR1) Tryd.underlying59 (by rfl) (treeSize a) ?_)
    | (refine wpList_load_mid (by rfl) 59 (.tmp 3) (by rfl) (w.heap.size + 1) 0 (by rfl) (treeCells g) _ (unhide HR2) Tryd.underlying59 (by rfl) (treeSize g) ?_)
    | (refine wpList_buildTo (by rfl) 97 #[(0, .tmp 8), (1, .tmp 9)] (by rfl) (some 10) (by rfl) (planCells a g (.slice none 0 0)).toArray ?hf ?_; (case hf => (simp [Act.eval, Act.put]; exact plan_built a g)))
    | (refine wpList_store_mid (by rfl) 97 (.tmp 5) (.tmp 10) (by rfl) (w.heap.size + 1 + 1) 0 (planCells a g (.slice none 0 0)).toArray (by rfl) (by rfl) (unhide HTH) (planSize a g _) (planOne a g) ?_))
  have HP0 : Hid (PlanAt _ (w.heap.size + 1 + 1) g ⟨a, []⟩) := hide ⟨.slice none 0 0, unhide HPN, World.ownsRow_nil _ _ _ _⟩
  have hB0 := below_setCells (unhide HBW) (g := w.heap.size + 1 + 1) (by omega) (by simp; omega) 0 (planCells a g (.slice none 0 0))
  have HB0 := hide hB0
  clear hB0
  clear HR1 HR2 HTH HPN HBW
  generalize Value.agg (treeCells a).toArray = va
  generalize Value.agg (treeCells g).toArray = vg
  generalize Value.agg (planCells a g (Value.slice none 0 0)).toArray = vp
  go_loopw [6] (fun i wr => ∃ k : Nat, ∃ p : Pl, k ≤ 199 ∧ i = .int .i64 k ∧ Hid (PlanAt wr (w.heap.size + 1 + 1) g p) ∧ Hid (TrOk p.now) ∧ p.done.length ≤ 100 * k ∧ Below w.heap.size w wr ∧ Hid (M = makeF g (199 - k) p)) (fun i _ => 200 - (intOf i).toNat)
  case atStart => exact ⟨0, ⟨a, []⟩, by omega, rfl, HP0, HO, by simp, unhide HB0, HM⟩
  case round =>
    obtain ⟨k, p, hk, rfl, HPL, HOK, hlen, hbel, HI⟩ := hrel
    have hltr := (unhide HPL).lt
    by_cases hkk : k ≤ 198
    · have HI2 : Hid (M = makeF g ((198 - k) + 1) p) := by apply hide; rw [unhide HI, show 199 - k = (198 - k) + 1 by omega]
      have HGO := hide (goHome_any g p (w.heap.size + 1 + 1) wr (unhide HOK) (unhide HG) (unhide HPL) (by omega))
      have hl1 := goHomeT_len (unhide HG) (unhide HOK)
      have HOK1 := hide hl1.2
      have hl2 := hl1.1
      clear hl1 HI
      cases hq : (goHomeT g p).2
      · cases hq2 : (parkT g (goHomeT g p).1).2
        · have HE := hide ((unhide HI2).trans (makeF_3 hq hq2))
          have HPA := hide (fun W (h : PlanAt W (w.heap.size + 1 + 1) g (goHomeT g p).1) => park_any g (goHomeT g p).1 (w.heap.size + 1 + 1) W (unhide HOK1) (unhide HG) h (by omega))
          rw [hq] at HGO
          rw [hq2] at HPA
          clear hq hq2 HI2
          generalize goHomeT g p = q1 at *
          generalize (parkT g q1.1).1 = q2 at *
          go_wp2_with fail
          refine (unhide HGO).mono ?_
          rintro e w1 ⟨rfl, hP1, hb1⟩
          have HP1 := hide hP1
          have hb2 := hbel.trans (hb1.mono (by omega))
          clear hP1 hb1 hbel
          go_wp2_with fail
          refine (unhide HPA _ (unhide HP1)).mono ?_
          rintro e w2 ⟨rfl, hP2, hb3⟩
          obtain ⟨ao, cap, hc, hr⟩ := plan_row hP2
          have HR := hide hr
          have HB4 := hide (hb2.trans (hb3.mono (by omega)))
          clear hP2 hb2 hb3 hr
          go_wp2
          go_ret
          rw [unhide HE]
          exact ⟨⟨ao, cap, rfl, own_low (unhide HR) (by omega)⟩, unhide HB4⟩
        · have HE := hide ((unhide HI2).trans (makeF_2 hq hq2))
          have HPA := hide (fun W (h : PlanAt W (w.heap.size + 1 + 1) g (goHomeT g p).1) => park_any g (goHomeT g p).1 (w.heap.size + 1 + 1) W (unhide HOK1) (unhide HG) h (by omega))
          have hl3 := parkT_len (unhide HG) (unhide HOK1)
          have HOK2 := hide hl3.2
          have hl4 := hl3.1
          rw [hq] at HGO
          rw [hq2] at HPA
          clear hq hq2 HI2 hl3
          generalize goHomeT g p = q1 at *
          generalize (parkT g q1.1).1 = q2 at *
          go_wp2_with fail
          refine (unhide HGO).mono ?_
          rintro e w1 ⟨rfl, hP1, hb1⟩
          have HP1 := hide hP1
          have hb2 := hbel.trans (hb1.mono (by omega))
          clear hP1 hb1 hbel
          go_wp2_with fail
          refine (unhide HPA _ (unhide HP1)).mono ?_
          rintro e w2 ⟨rfl, hP2, hb3⟩
          have HP2 := hide hP2
          have hb4 := hb2.trans (hb3.mono (by omega))
          clear hP2 hb2 hb3
          go_wp2
          go_roundw
          case rel => exact ⟨k + 1, q2, by omega, by go_num, HP2, HOK2, by omega, hb4, by apply hide; rw [show 199 - (k + 1) = 198 - k by omega]; exact unhide HE⟩
          case measure => simp [intOf]; omega
      · have HE := hide ((unhide HI2).trans (makeF_1 hq))
        rw [hq] at HGO
        clear hq HI2
        generalize goHomeT g p = q1 at *
        go_wp2_with fail
        refine (unhide HGO).mono ?_
        rintro e w1 ⟨rfl, hP1, hb1⟩
        have HP1 := hide hP1
        have hb2 := hbel.trans (hb1.mono (by omega))
        clear hP1 hb1 hbel
        go_wp2
        go_roundw
        case rel => exact ⟨k + 1, q1.1, by omega, by go_num, HP1, HOK1, by omega, hb2, by apply hide; rw [show 199 - (k + 1) = 198 - k by omega]; exact unhide HE⟩
        case measure => simp [intOf]; omega
    · have HE : Hid (M = p.done) := by apply hide; rw [unhide HI, show 199 - k = 0 by omega]; rfl
      obtain ⟨ao, cap, hc, hr⟩ := plan_row (unhide HPL)
      have HR := hide hr
      clear hr
      go_wp2
      go_ret
      rw [unhide HE]
      exact ⟨⟨ao, cap, rfl, own_low (unhide HR) (by omega)⟩, hbel⟩
theorem make_any (a g : Tr) (w : World) (ha : TrOk a) (hg : TrOk g) :
    Calls Tryd.prog 30 #[.agg (treeCells a).toArray, .agg (treeCells g).toArray] w fun e w' => (∃ ao cap, e = .returned (.slice ao (makeT a g).length cap) ∧ Row w' ao (makeT a g).length 4 (stCells (makeT a g))) ∧ Below w.heap.size w w' := by
  refine (make_own a g w ha hg).mono ?_
  rintro e w' ⟨⟨ao, cap, he, ho⟩, hb⟩
  refine ⟨⟨ao, cap, he, ?_⟩, hb⟩
  obtain ⟨ao', cap', e', hr⟩ := row_of_owns ho
  cases e'; exact hr
end Go.Proofs.YtdcjimlhaklhfaaDoor

namespace Go.Proofs.YtdcjimlhaklhfaaDoor
open Go.RowKit
theorem add_43 (a : Str) (ha : a.length ≤ 1000000) (W : World) : (Op.stringOp .add ⟨#[43]⟩ (bs a)).run Tryd.prog W = .ok (.string (bs (43 :: a))) W := add_bs [43] a (by simp) ha W
theorem add_61 (a : Str) (ha : a.length ≤ 1000000) (W : World) : (Op.stringOp .add ⟨#[61]⟩ (bs a)).run Tryd.prog W = .ok (.string (bs (61 :: a))) W := add_bs [61] a (by simp) ha W
theorem add_45 (a : Str) (ha : a.length ≤ 1000000) (W : World) : (Op.stringOp .add ⟨#[45]⟩ (bs a)).run Tryd.prog W = .ok (.string (bs (45 :: a))) W := add_bs [45] a (by simp) ha W
set_option maxHeartbeats 2000000 in
theorem stText_any (s : St) (w : World) (hs : StOk s) :
    Calls Tryd.prog 52 #[.agg #[.int .u8 s.kind.toNat, .int .i64 s.node.id, .int .i64 s.node.parent, .string (bs s.node.name)]] w fun e w' => e = .returned (.string (bs (stText s))) ∧ Below w.heap.size w w' := by
  obtain ⟨k, n⟩ := s
  have HB := hide ((Below.refl w.heap.size w).alloc (Nat.le_refl _) (.cells #[.int .u8 k.toNat, .int .i64 n.id, .int .i64 n.parent, .string (bs n.name)] 83))
  rcases hs with ⟨hk, h1, h2, h3, h4, h5⟩ | ⟨hk, h1, h2⟩
  · simp only at hk h1 h2 h3 h4 h5 ⊢
    have hl := name_len h5
    have hnl := nodeText_len h5
    have HNT := hide (fun W => nodeText_any n W ⟨by omega, h2⟩ ⟨h3, h4⟩ (by omega))
    have HE : Hid (stText ⟨k, n⟩ = k :: nodeText n) := hide (by unfold stText; rw [if_neg (show ¬ k = 45 by rcases hk with h | h <;> rw [h] <;> decide)])
    generalize stText ⟨k, n⟩ = R at *
    generalize nodeText n = nt at *
    rcases hk with rfl | rfl
    · have a1 := add_43 nt (by omega)
      go_enter Tryd.func52, Tryd.ntmps52
      go_wp2_with fail
      refine (unhide HNT _).mono ?_
      rintro e w1 ⟨rfl, hb1⟩
      have HB1 := hide ((unhide HB).trans (hb1.mono (unhide HB).size))
      clear hb1
      go_wp2
      go_ret
      exact ⟨ret_str (by rw [unhide HE]), unhide HB1⟩
    · have a1 := add_61 nt (by omega)
      go_enter Tryd.func52, Tryd.ntmps52
      go_wp2_with fail
      refine (unhide HNT _).mono ?_
      rintro e w1 ⟨rfl, hb1⟩
      have HB1 := hide ((unhide HB).trans (hb1.mono (unhide HB).size))
      clear hb1
      go_wp2
      go_ret
      exact ⟨ret_str (by rw [unhide HE]), unhide HB1⟩
  · simp only at hk h1 h2 ⊢
    subst hk
    have HIT := hide (fun W => itoa_any n.id W (by omega) h2)
    have l1 := digs_len n.id
    have a1 := add_45 (digs n.id) (by omega)
    have a2 := add_59 (45 :: digs n.id) (by simp; omega)
    have HE : Hid (stText ⟨45, n⟩ = 45 :: digs n.id ++ [59]) := hide (by unfold stText; rw [if_pos rfl])
    generalize stText ⟨45, n⟩ = R at *
    generalize 45 :: digs n.id ++ [59] = d3 at *
    generalize 45 :: digs n.id = d2 at *
    generalize digs n.id = d1 at *
    go_enter Tryd.func52, Tryd.ntmps52
    go_wp2_with fail
    refine (unhide HIT _).mono ?_
    rintro e w1 ⟨rfl, rfl⟩
    go_wp2
    go_ret
    exact ⟨ret_str (by rw [unhide HE]), unhide HB⟩
theorem script_snoc (ss : List St) (k : Nat) (h : k < ss.length) : scriptText (ss.take (k + 1)) = scriptText (ss.take k) ++ stText ss[k] := by
  unfold scriptText; rw [List.take_succ_eq_append_getElem h, List.flatMap_append]; simp
set_option maxHeartbeats 2000000 in
theorem script_any (ss : List St) (ao : Option Addr) (cap : Nat) (w : World) (hrow : Row w ao ss.length 4 (stCells ss)) (hs : ∀ s ∈ ss, StOk s) (hl : ss.length ≤ 20000) :
    Calls Tryd.prog 31 #[.slice ao ss.length cap] w fun e w' => e = .returned (.string (bs (scriptText ss))) ∧ Below w.heap.size w w' := by
  have HROW := hide hrow
  have HS := hide hs
  clear hrow hs
  go_enter Tryd.func31, Tryd.ntmps31
  go_wp2
  go_loopw [3, 8] (fun x i wr => ∃ k : Nat, ∃ S : Str, k ≤ ss.length ∧ i = .int .i64 k ∧ x = .string (bs S) ∧ Below w.heap.size w wr ∧ Hid (S = scriptText (ss.take k))) (fun _ i _ => ss.length - (intOf i).toNat)
  case atStart => exact ⟨0, [], by omega, rfl, rfl, Below.refl _ _, hide rfl⟩
  case round =>
    obtain ⟨k, S, hk, rfl, rfl, hbel, HI⟩ := hrel
    by_cases hlt : k < ss.length
    · obtain ⟨g, hao, hg, c0, c1, c2, c3⟩ := st_cells (Row.below (unhide HROW) hbel) hlt
      rw [hao]
      clear hao
      have hsok := unhide HS _ (List.getElem_mem hlt)
      have HI2 : Hid (S ++ stText ss[k] = scriptText (ss.take (k + 1))) := by apply hide; rw [script_snoc _ _ hlt, unhide HI]
      have hSl : S.length ≤ 19 * 20000 := by
        rw [unhide HI]
        have := script_len (ss.take k) (fun s h => unhide HS s (List.mem_of_mem_take h))
        rw [List.length_take] at this; omega
      have htl := stText_len hsok
      have HT := hide (fun W => stText_any ss[k] W hsok)
      have hadd := add_bs S (stText ss[k]) (by omega) (by omega)
      have hsz := hbel.size
      clear hsok
      generalize stText ss[k] = tx at *
      generalize ss[k] = st at *
      have HB1 := hide (hbel.alloc hsz (.cells #[.int .u8 st.kind.toNat, .int .i64 st.node.id, .int .i64 st.node.parent, .string (bs st.node.name)] 83))
      clear hbel
      go_wp2_with fail
      refine (unhide HT _).mono ?_
      rintro e w2 ⟨rfl, hb2⟩
      have hb3 := (unhide HB1).trans (hb2.mono (unhide HB1).size)
      clear hb2 c0 c1 c2 c3
      go_wp2
      go_roundw
      case rel => exact ⟨k + 1, _, by omega, by go_num, rfl, hb3, HI2⟩
      case measure => simp [intOf]; omega
    · have HE : Hid (scriptText ss = S) := by apply hide; rw [unhide HI, List.take_of_length_le (by omega)]
      go_wp2
      go_ret
      exact ⟨ret_str (by rw [unhide HE]), hbel⟩
theorem ret_si {a b : ByteArray} {x y : Int} (h : a = b) (g : x = y) : Ending.returned (.tuple #[.string a, .int .i64 x]) = .returned (.tuple #[.string b, .int .i64 y]) := by rw [h, g]
theorem compileT_no {f t : Str} (h : compileE f t ≠ 0) : compileT f t = [] := by unfold compileT; rw [if_neg h]
theorem makeT_ok {a g : Tr} (hg : TrOk g) (ha : TrOk a) : (∀ s ∈ makeT a g, StOk s) ∧ (makeT a g).length ≤ 20000 := by
  have key : ∀ (f : Nat) (p : Pl), TrOk p.now → (∀ s ∈ p.done, StOk s) → (∀ s ∈ makeF g f p, StOk s) ∧ (makeF g f p).length ≤ p.done.length + 100 * f := by
    have htry : ∀ (p : Pl) (s : St), StOk s → (∀ s ∈ p.done, StOk s) → ∀ x ∈ (tryP p s).done, StOk x := by
      intro p s hs hp x hx
      unfold tryP at hx
      split at hx
      · rcases List.mem_append.1 hx with hx | hx
        · exact hp x hx
        · rw [List.mem_singleton.1 hx]; exact hs
      · exact hp x hx
    have hgo : ∀ (l : List Nat) (p : Pl × Bool), (∀ i ∈ l, 1 ≤ i ∧ i ≤ 99) → TrOk p.1.now → (∀ s ∈ p.1.done, StOk s) → ∀ s ∈ (l.foldl (goOne g) p).1.done, StOk s := by
      intro l
      induction l with
      | nil => intro p _ _ h; exact h
      | cons i l ih =>
        intro p hl hp h
        rw [List.foldl_cons]
        have hi := hl i (by simp)
        obtain ⟨q, m⟩ := p
        cases hs : homeS q.now g i with
        | none => rw [goOne_none hs]; exact ih (q, m) (fun j hj => hl j (by simp [hj])) hp h
        | some s =>
          rw [goOne_some hs]
          have hk := (home_ok hg (show (1 : Int) ≤ i by omega) (by omega) hs).1
          exact ih (tryP q s, m || (stepE q.now s == 0)) (fun j hj => hl j (by simp [hj])) (tryP_ok hp hk) (htry q s hk h)
    have hgo2 : ∀ p : Pl, TrOk p.now → (∀ s ∈ p.done, StOk s) → ∀ s ∈ (goHomeT g p).1.done, StOk s := by
      intro p h1 h2
      have hE : goHomeT g p = (List.range' 1 99).foldl (goOne g) (p, false) := by unfold goHomeT; rfl
      rw [hE]
      exact hgo _ (p, false) (fun i hi => by rw [List.mem_range'_1] at hi; omega) h1 h2
    have hpk : ∀ p : Pl, TrOk p.now → (∀ s ∈ p.done, StOk s) → ∀ s ∈ (parkT g p).1.done, StOk s := by
      intro p h1 h2
      by_cases h0 : knotT p.now g = 0
      · rw [parkT_no h0]; exact h2
      · rw [parkT_yes h0]
        have hb := knot_bd h1 hg
        exact htry p _ (park_ok (by omega) hb.2) h2
    intro f
    induction f with
    | zero => intro p h1 h2; exact ⟨h2, by simp [makeF]⟩
    | succ f ih =>
      intro p h1 h2
      have l1 := goHomeT_len hg h1
      have l2 := parkT_len hg l1.2
      have o1 := hgo2 p h1 h2
      have o2 := hpk _ l1.2 o1
      cases hq : (goHomeT g p).2
      · cases hq2 : (parkT g (goHomeT g p).1).2
        · rw [makeF_3 hq hq2]; exact ⟨o2, by omega⟩
        · rw [makeF_2 hq hq2]
          have := ih _ l2.2 o2
          exact ⟨this.1, by omega⟩
      · rw [makeF_1 hq]
        have := ih _ l1.2 o1
        exact ⟨this.1, by omega⟩
  have := key 199 ⟨a, []⟩ ha (by simp)
  unfold makeT
  exact ⟨this.1, by have h := this.2; simp at h; omega⟩
end Go.Proofs.YtdcjimlhaklhfaaDoor

namespace Go.Proofs.YtdcjimlhaklhfaaDoor
open Go.RowKit
theorem compileE_long {f t : Str} (h : 4000 < f.length ∨ 4000 < t.length) : compileE f t = 1 := by unfold compileE; rw [if_pos h]
theorem compileE_from {f t : Str} (h : ¬ (4000 < f.length ∨ 4000 < t.length)) (h2 : (checkT f).1 ≠ 0) : compileE f t = (checkT f).1 := by unfold compileE; rw [if_neg h, if_pos h2]
theorem compileE_to {f t : Str} (h : ¬ (4000 < f.length ∨ 4000 < t.length)) (h2 : (checkT f).1 = 0) : compileE f t = (checkT t).1 := by unfold compileE; rw [if_neg h, if_neg (fun hh => hh h2)]
set_option maxHeartbeats 4000000 in
set_option maxRecDepth 100000 in
theorem compile_any (s t : ByteArray) (w : World) :
    Calls Tryd.prog 15 #[.string s, .string t] w fun e w' => e = .returned (.tuple #[.string (bs (compileT (sl s) (sl t))), .int .i64 (compileE (sl s) (sl t))]) ∧ Below w.heap.size w w' := by
  by_cases hL : 4000 < s.size ∨ 4000 < t.size
  · have hE := compileE_long (f := sl s) (t := sl t) (by rw [sl_length, sl_length]; exact hL)
    rw [compileT_no (by rw [hE]; decide), hE]
    have hL' : 4000 < s.size ∨ (¬ 4000 < s.size ∧ 4000 < t.size) := by omega
    clear hL hE
    rcases hL' with h | ⟨h, h'⟩
    all_goals
      go_enter Tryd.func15, Tryd.ntmps15
      go_wp2
      go_ret2
      exact ⟨rfl, Below.refl _ _⟩
  · have hLl : ¬ (4000 < (sl s).length ∨ 4000 < (sl t).length) := by rw [sl_length, sl_length]; exact hL
    have h4 : ¬ 4000 < s.size := by omega
    have h5 : ¬ 4000 < t.size := by omega
    have HRS := hide (fun W => read_any s W)
    have HRT := hide (fun W => read_any t W)
    by_cases hC : (checkT (sl s)).1 ≠ 0
    · have hE := compileE_from hLl hC
      rw [compileT_no (by rw [hE]; exact hC), hE]
      have hC' : ((checkT (sl s)).1 != 0) = true := by rw [bne_iff_ne]; exact hC
      clear hE hC hLl hL
      generalize checkT (sl s) = c at *
      generalize readT (sl s) = T at *
      go_enter Tryd.func15, Tryd.ntmps15
      go_wp2_with fail
      refine (unhide HRS _).mono ?_
      rintro e w1 ⟨rfl, hb1⟩
      have HN := hide (treeAt_new w1)
      have HB1 := hide hb1; clear hb1
      go_wp2_with (refine wpList_store_mid (by rfl) 59 (.tmp 6) (.tmp 23) (by rfl) w1.heap.size 0 (treeCells T).toArray (by rfl) (by rfl) (by exact treeAt_there (unhide HN) T) (treeSize' T) (treeOne T) ?_)
      go_ret2
      exact ⟨rfl, below_setCells ((unhide HB1).alloc (unhide HB1).size _) (unhide HB1).size (by have := (unhide HB1).size; simp; omega) _ _⟩
    · have hc0 : (checkT (sl s)).1 = 0 := Classical.not_not.1 hC
      have hTS : readT (sl s) = gather (readNodes (cut (sl s))) := by unfold readT; rw [if_pos hc0]
      have hE := compileE_to hLl hc0
      rw [hc0] at HRS
      by_cases hD : (checkT (sl t)).1 ≠ 0
      · rw [compileT_no (by rw [hE]; exact hD), hE]
        have hD' : ((checkT (sl t)).1 != 0) = true := by rw [bne_iff_ne]; exact hD
        clear hE hC hLl hL hc0 hTS hD
        generalize checkT (sl t) = d at *
        generalize (checkT (sl s)).2 = c2 at *
        generalize readT (sl s) = T at *
        generalize readT (sl t) = U at *
        go_enter Tryd.func15, Tryd.ntmps15
        go_wp2_with fail
        refine (unhide HRS _).mono ?_
        rintro e w1 ⟨rfl, hb1⟩
        have HN := hide (treeAt_new w1)
        have HB1 := hide hb1; clear hb1
        have HB2 : Hid (Below w.heap.size w ((w1.alloc (.cells Tryd.zeroCells59 59)).setCells w1.heap.size 0 (treeCells T))) := hide (below_setCells ((unhide HB1).alloc (unhide HB1).size _) (unhide HB1).size (by have := (unhide HB1).size; simp; omega) _ _)
        go_wp2_with (refine wpList_store_mid (by rfl) 59 (.tmp 6) (.tmp 23) (by rfl) w1.heap.size 0 (treeCells T).toArray (by rfl) (by rfl) (by exact treeAt_there (unhide HN) T) (treeSize' T) (treeOne T) ?_)
        generalize Value.agg (treeCells T).toArray = vT
        refine (unhide HRT _).mono ?_
        rintro e w3 ⟨rfl, hb3⟩
        have HB3 := hide ((unhide HB2).trans (hb3.mono (unhide HB2).size))
        clear hb3
        have HN3 := hide (treeAt_new w3)
        go_wp2_with (refine wpList_store_mid (by rfl) 59 (.tmp 9) (.tmp 32) (by rfl) w3.heap.size 0 (treeCells U).toArray (by rfl) (by rfl) (by exact treeAt_there (unhide HN3) U) (treeSize' U) (treeOne U) ?_)
        go_ret2
        exact ⟨rfl, below_setCells ((unhide HB3).alloc (unhide HB3).size _) (unhide HB3).size (by have := (unhide HB3).size; simp; omega) _ _⟩
      · have hd0 : (checkT (sl t)).1 = 0 := Classical.not_not.1 hD
        have hTT : readT (sl t) = gather (readNodes (cut (sl t))) := by unfold readT; rw [if_pos hd0]
        rw [hd0] at HRT hE
        have hCT : compileT (sl s) (sl t) = scriptText (makeT (readT (sl s)) (readT (sl t))) := by unfold compileT; rw [if_pos hE, hTS, hTT]
        have hO1 : TrOk (readT (sl s)) := by rw [hTS]; exact gather_ok _
        have hO2 : TrOk (readT (sl t)) := by rw [hTT]; exact gather_ok _
        rw [hCT, hE]
        have HMK := hide (fun W => make_any (readT (sl s)) (readT (sl t)) W hO1 hO2)
        have hmo := makeT_ok hO2 hO1
        have HTX := hide (fun ao cap W (h : Row W ao (makeT (readT (sl s)) (readT (sl t))).length 4 (stCells (makeT (readT (sl s)) (readT (sl t))))) => script_any (makeT (readT (sl s)) (readT (sl t))) ao cap W h hmo.1 hmo.2)
        clear hE hC hLl hL hc0 hTS hD hTT hCT hO1 hO2 hmo hd0
        generalize (checkT (sl s)).2 = c2 at *
        generalize (checkT (sl t)).2 = d2 at *
        generalize makeT (readT (sl s)) (readT (sl t)) = M at *
        generalize readT (sl s) = T at *
        generalize readT (sl t) = U at *
        go_enter Tryd.func15, Tryd.ntmps15
        go_wp2_with fail
        refine (unhide HRS _).mono ?_
        rintro e w1 ⟨rfl, hb1⟩
        have HN := hide (treeAt_new w1)
        have HB1 := hide hb1; clear hb1
        have HB2 : Hid (Below w.heap.size w ((w1.alloc (.cells Tryd.zeroCells59 59)).setCells w1.heap.size 0 (treeCells T))) := hide (below_setCells ((unhide HB1).alloc (unhide HB1).size _) (unhide HB1).size (by have := (unhide HB1).size; simp; omega) _ _)
        have HT2 : Hid (TreeAt ext0 ((w1.alloc (.cells Tryd.zeroCells59 59)).setCells w1.heap.size 0 (treeCells T)) w1.heap.size T) := hide (treeAt_stored (unhide HN) T)
        go_wp2_with (refine wpList_store_mid (by rfl) 59 (.tmp 6) (.tmp 23) (by rfl) w1.heap.size 0 (treeCells T).toArray (by rfl) (by rfl) (by exact treeAt_there (unhide HN) T) (treeSize' T) (treeOne T) ?_)
        generalize Value.agg (treeCells T).toArray = vT
        refine (unhide HRT _).mono ?_
        rintro e w3 ⟨rfl, hb3⟩
        have HB3 := hide ((unhide HB2).trans (hb3.mono (unhide HB2).size))
        have HT3 := hide ((unhide HT2).below hb3)
        clear hb3
        have HN3 := hide (treeAt_new w3)
        have hbx := below_setCells ((Below.refl w3.heap.size w3).alloc (Nat.le_refl _) (.cells Tryd.zeroCells59 59)) (g := w3.heap.size) (Nat.le_refl _) (by simp) 0 (treeCells U)
        have HB4 : Hid (Below w.heap.size w ((w3.alloc (.cells Tryd.zeroCells59 59)).setCells w3.heap.size 0 (treeCells U))) := hide ((unhide HB3).trans (hbx.mono (unhide HB3).size))
        have HR1 := hide (treeAt_range ((unhide HT3).below hbx))
        have HR2 := hide (treeAt_range (treeAt_stored (unhide HN3) U))
        clear hbx
        go_upto_region 9 with (refine wpList_store_mid (by rfl) 59 (.tmp 9) (.tmp 32) (by rfl) w3.heap.size 0 (treeCells U).toArray (by rfl) (by rfl) (by exact treeAt_there (unhide HN3) U) (treeSize' U) (treeOne U) ?_)
        generalize Value.agg (treeCells U).toArray = vU
        generalize hW4 : (w3.alloc (.cells Tryd.zeroCells59 59)).setCells w3.heap.size 0 (treeCells U) = w4 at *
        go_wp2_with (first
          | (refine wpList_load_mid (by rfl) 59 (.tmp 6) (by rfl) w1.heap.size 0 (by rfl) (treeCells T) _ (unhide HR1) Tryd.underlying59 (by rfl) (treeSize T) ?_)
          | (refine wpList_load_mid (by rfl) 59 (.tmp 9) (by rfl) w3.heap.size 0 (by rfl) (treeCells U) _ (unhide HR2) Tryd.underlying59 (by rfl) (treeSize U) ?_))
        refine (unhide HMK _).mono ?_
        rintro e w5 ⟨⟨ao, cap, rfl, hrow⟩, hb5⟩
        generalize Value.agg (treeCells T).toArray = vT2
        generalize Value.agg (treeCells U).toArray = vU2
        have HROW := hide hrow
        have HB5 := hide ((unhide HB4).trans (hb5.mono (unhide HB4).size))
        clear hrow hb5 hW4
        go_wp2_with fail
        refine (unhide HTX _ _ _ (unhide HROW)).mono ?_
        rintro e w6 ⟨rfl, hb6⟩
        have HB6 := hide ((unhide HB5).trans (hb6.mono (unhide HB5).size))
        clear hb6
        go_wp2
        go_ret2
        exact ⟨rfl, unhide HB6⟩
end Go.Proofs.YtdcjimlhaklhfaaDoor

namespace Go.Proofs.YtdcjimlhaklhfaaDoor
open Go.RowKit
theorem refusal_compile' (f t : Str) : refusalT f t = compileE f t := rfl
set_option maxHeartbeats 4000000 in
theorem unparked_any (s t : ByteArray) (w : World) :
    Calls Tryd.prog 12 #[.string s, .string t] w fun e w' => e = .returned (.bool true) ∧ Below w.heap.size w w' := by
  have HRF := hide (fun W => refusal_any s t W)
  rw [refusal_compile'] at HRF
  by_cases hE : compileE (sl s) (sl t) = 0
  · obtain ⟨h1, h2, h3, h4⟩ := compileE_parts hE
    have ha := valid_of_check h1
    have hg := valid_of_check h2
    have hCT : compileT (sl s) (sl t) = scriptText (makeT (gather (readNodes (cut (sl s)))) (gather (readNodes (cut (sl t))))) := by unfold compileT; rw [if_pos hE]
    have htl := make_text_len ha hg
    have hcl := (readSteps_script (seg_can (makeT_seg ha hg) hg.ok)).2
    rw [sl_length] at h3 h4
    have HRI := hide (fun W => ringless_any s t W h1 h2 h3 h4)
    have HC := hide (fun W => compile_any s t W)
    rw [hE] at HC
    have HCU := hide (fun W => rcut_any (bs (compileT (sl s) (sl t))) W (by rw [bs_size, hCT]; exact htl))
    rw [sl_bs] at HCU
    have HHO := hide (fun W => homesCount_any s t W h3 h4 (check_parts h1).2.2.1 (check_parts h2).2.2.1)
    have HEQ : Hid (Elim (readNodes (cut (sl s))) (readNodes (cut (sl t))) (homesR (readNodes (cut (sl s))) (readNodes (cut (sl t)))) → (cut (compileT (sl s) (sl t))).length = (homesR (readNodes (cut (sl s))) (readNodes (cut (sl t)))).length) := hide (fun hel => by
      rw [hCT, hcl]; exact make_nopark (rep_read h1) (rep_read h2) ha hg hel)
    rw [hE] at HRF
    clear ha hg hCT htl hcl h1 h2 hE
    generalize Elim (readNodes (cut (sl s))) (readNodes (cut (sl t))) (homesR (readNodes (cut (sl s))) (readNodes (cut (sl t)))) = PE at *
    generalize (homesR (readNodes (cut (sl s))) (readNodes (cut (sl t)))).length = nh at *
    generalize compileT (sl s) (sl t) = sc at *
    generalize cut sc = rs at *
    go_enter Tryd.func12, Tryd.ntmps12
    go_wp2_with fail
    refine (unhide HRF _).mono ?_
    rintro e w1 ⟨rfl, hb1⟩
    have HB1 := hide hb1
    clear hb1
    go_wp2_with fail
    refine (unhide HRI _).mono ?_
    rintro e w2 ⟨⟨r, rfl, hr⟩, hb2⟩
    have HB2 := hide ((unhide HB1).trans (hb2.mono (unhide HB1).size))
    have HRR := hide hr
    clear hb2 hr
    cases r
    · go_wp2
      go_ret
      exact ⟨rfl, unhide HB2⟩
    · have hlen := unhide HEQ (unhide HRR rfl)
      have hlen2 : ((rs.length : Int) == (nh : Int)) = true := by rw [hlen]; simp
      go_wp2_with fail
      refine (unhide HC _).mono ?_
      rintro e w3 ⟨rfl, hb3⟩
      have HB3 := hide ((unhide HB2).trans (hb3.mono (unhide HB2).size))
      clear hb3
      go_wp2_with fail
      refine (unhide HCU _).mono ?_
      rintro e w4 ⟨co, cc, rfl, _, hb4⟩
      have HB4 := hide ((unhide HB3).trans (hb4.mono (unhide HB3).size))
      clear hb4
      go_wp2_with fail
      refine (unhide HHO _).mono ?_
      rintro e w5 ⟨rfl, hb5⟩
      have HB5 := hide ((unhide HB4).trans (hb5.mono (unhide HB4).size))
      clear hb5 hlen
      go_wp2_with go_in
      go_ret
      exact ⟨ret_bool (by first | rfl | exact hlen2 | simpa using hlen2), unhide HB5⟩
  · have hE2 : (compileE (sl s) (sl t) != 0) = true := by simpa using hE
    generalize compileE (sl s) (sl t) = E at *
    go_enter Tryd.func12, Tryd.ntmps12
    go_wp2_with fail
    refine (unhide HRF _).mono ?_
    rintro e w1 ⟨rfl, hb1⟩
    have HB1 := hide hb1
    clear hb1
    go_wp2
    go_ret
    exact ⟨rfl, unhide HB1⟩
set_option maxHeartbeats 4000000 in
theorem unparked_all (ao : Option Addr) (len cap : Nat) (w : World) (hops : OpsAt w ao len) (hlen : len ≤ 140737488355328) :
    Calls Tryd.prog 4 #[.slice ao len cap] w fun e w' => e = .returned (.bool true) ∧ Below w.heap.size w w' := by
  have HO := hide hops; clear hops
  go_enter Tryd.func4, Tryd.ntmps4
  go_wp2
  go_loopw [3] (fun i wr => ∃ k : Nat, k ≤ len ∧ i = .int .i64 k ∧ Below w.heap.size w wr) (fun i _ => len - (intOf i).toNat)
  case atStart => exact ⟨0, Nat.zero_le _, rfl, Below.refl _ _⟩
  case round =>
    obtain ⟨k, hk, rfl, hbel⟩ := hrel
    have hsz := hbel.size
    by_cases hlt : k < len
    · obtain ⟨b, off, hao, hb, hcells⟩ := unhide HO (by omega)
      obtain ⟨kd, x, y, s, t, e0, e1, e2, e3, e4⟩ := hcells k hlt
      clear hcells
      rw [← hbel.cell (p := ⟨b, _, none⟩) hb] at e0 e1 e2 e3 e4
      rw [hao]
      clear hao
      have hk0 : (0 : Int) ≤ k := by omega
      have hk1 : (k : Int) < len := by omega
      by_cases h1 : kd = 3
      · subst h1
        have HS := hide (fun W => unparked_any s t W)
        go_wp2_with fail
        go_region_with (go_at_call 12; refine (unhide HS _).mono ?_; rintro e w1 ⟨rfl, hb1⟩; have hb2 : Below w.heap.size w w1 := hbel.trans (((below_drewN (Below.refl wr.heap.size wr) 1).trans hb1).mono hsz); clear hb1)
        all_goals
          go_wp2
          go_roundw
          case rel => exact ⟨k + 1, by omega, by go_num, hb2⟩
          case measure => simp [intOf]; omega
      · have h1' : (kd == 3) = false := by simpa using h1
        go_wp2
        go_roundw
        case rel => exact ⟨k + 1, by omega, by go_num, hbel⟩
        case measure => simp [intOf]; omega
    · go_wp2
      go_ret
      exact ⟨rfl, hbel⟩
end Go.Proofs.YtdcjimlhaklhfaaDoor
