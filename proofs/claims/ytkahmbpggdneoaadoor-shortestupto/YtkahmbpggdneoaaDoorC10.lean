import Derived.Test.YtkahmbpggdneoaaDoorC9
import Derived.Deep.RegionLaw
import Derived.Deep.RegionWith
namespace Go.Proofs.YtkahmbpggdneoaaDoor
open Go.RowKit
theorem step_append_own {P : Program} {ops : Array Oper} {o : Oper} {a : Act} {w : World} {K : Act → World → Prop} {Q : Exit → Act → World → Prop} {E : Prop}
    (hg : o.guard = none) (s x : Operand) (t : TypeId) (hop : o.op = Op.call { callee := Callee.builtin Builtin.append, args := #[s, x], argTypes := #[t, t] })
    (e : TypeId) (i : TypeInfo) (z : Value) (size bytes : Nat) (h1 : P.underlying t = some (.slice e)) (h2 : P.info? e = some i) (h3 : i.zero = some z) (h4 : i.size = size) (h5 : i.bytes = bytes) (h6 : z.cells.size = size) (h7 : 0 < size)
    (base : Nat) (v : Value) (n : Nat) (xs : List Value) (hs : a.eval s = v) (hown : w.ownsRow base e size v n xs)
    (ad : Addr) (m c : Nat) (news : List Value) (hx : a.eval x = .slice (some ad) m c) (hn : news.length = m * size) (hc : ∀ j u, news[j]? = some u → w.cell? (ad.add j) = some u) (h1c : ∀ u ∈ news, u.oneCell' = true)
    (b1 : n + m ≤ maxLen) (b2 : (n + m) * bytes ≤ 140737488355328) (hbase : base ≤ w.heap.size)
    (hK : ∀ v' w', w'.ownsRow base e size v' (n + m) (xs ++ news) → w.grownBy w' v.ownBlock → K (a.put o.dst v') w') :
    if Region.wanted o (yielded ops a.tmps) = true then Oper.wp P o a w K Q else E := by
  have hw : Region.wanted o (yielded ops a.tmps) = true := by simp [Region.wanted, hg]
  rw [if_pos hw]
  obtain ⟨v', w', hrun, r1, r2, _⟩ := run_append_own (P := P) w base t o.type e i z size bytes h1 h2 h3 h4 h5 h6 h7 v n xs hown ad m c news hn hc h1c b1 b2 hbase
  unfold Oper.wp
  simp [execOp, hop, resolve, invoke, builtin, hs, hx, hrun, Result.andThen]
  exact hK v' w' r1 r2
theorem own_grown {w w' : World} {base : Nat} {e : TypeId} {size : Nat} {v : Value} {n : Nat} {xs : List Value} {c : Nat} (h : w.ownsRow base e size v n xs) (hg : w.grownBy w' (some c)) (hc : c < base) : w'.ownsRow base e size v n xs := by
  obtain ⟨h1, h2⟩ := h
  refine ⟨h1, ?_⟩
  rcases h2 with h2 | ⟨g, cap, cur, hv, hgb, hh, r⟩
  · exact Or.inl h2
  · exact Or.inr ⟨g, cap, cur, hv, hgb, by rw [hg.block g (lt_of_block hh) (fun e => by cases e; omega)]; exact hh, r⟩
theorem cell_grown {w w' : World} {c b : Nat} (hg : w.grownBy w' (some c)) (hb : b < w.heap.size) (hne : b ≠ c) (o : Nat) : w'.cell? ⟨b, o, none⟩ = w.cell? ⟨b, o, none⟩ :=
  World.cell?_of_block (a := ⟨b, o, none⟩) (hg.block b hb (fun e => hne (by cases e; rfl)))
theorem own_form {w : World} {base : Nat} {e : TypeId} {size : Nat} {v : Value} {n : Nat} {xs : List Value} (h : w.ownsRow base e size v (n + 1) xs) : ∃ g cap, v = .slice (some ⟨g, 0, none⟩) (n + 1) cap ∧ base ≤ g := by
  rcases h.2 with ⟨_, h2⟩ | ⟨g, cap, _, hv, hg, _⟩
  · omega
  · exact ⟨g, cap, hv, hg⟩
theorem own_block {w : World} {base : Nat} {e : TypeId} {size : Nat} {v : Value} {n : Nat} {xs : List Value} (h : w.ownsRow base e size v n xs) {c : Nat} (hc : c < base) : some c ≠ v.ownBlock := by
  rcases h.2 with ⟨rfl, _⟩ | ⟨g, cap, _, rfl, hg, _⟩
  · intro e; cases e
  · intro e; simp [Value.ownBlock] at e; omega
theorem own_set {w : World} {base : Nat} {e : TypeId} {size : Nat} {v : Value} {n : Nat} {xs : List Value} (h : w.ownsRow base e size v n xs) {c : Nat} (hc : c < base) (o : Nat) (u : Value) : (w.setCell ⟨c, o, none⟩ u).ownsRow base e size v n xs := by
  obtain ⟨h1, h2⟩ := h
  refine ⟨h1, ?_⟩
  rcases h2 with h2 | ⟨g, cap, cur, hv, hgb, hh, r⟩
  · exact Or.inl h2
  · exact Or.inr ⟨g, cap, cur, hv, hgb, by rw [heap_setCell_other _ _ _ _ (show g ≠ c by omega)]; exact hh, r⟩
theorem plan_set {w : World} {b : Nat} {a g : Tr} {v v' : Value} (h : TreeAt (planX g v) w b a) : TreeAt (planX g v') (w.setCell ⟨b, 800, none⟩ v') b a := by
  unfold TreeAt
  rw [heap_setCell_same w b 800 _ _ v' h]
  have e : (treeCells a ++ (treeCells g ++ [v])).set 800 v' = treeCells a ++ (treeCells g ++ [v']) := by
    rw [List.set_append_right _ _ (by rw [treeCells_length]; omega), treeCells_length, List.set_append_right _ _ (by rw [treeCells_length]; omega), treeCells_length]
    simp
  simp only [planX, List.setIfInBounds_toArray, e]
theorem plan_grown {x : Ext} {w2 w4 : World} {b : Nat} {a : Tr} {o : Obj} {r : Option Nat} (h : TreeAt x w2 b a) (hg : (World.drew (w2.alloc o)).grownBy w4 r) (hr : some b ≠ r) : TreeAt x w4 b a := by
  have hlt := h.lt
  have h1 : TreeAt x (World.drew (w2.alloc o)) b a := h.below (below_drewN ((Below.refl w2.heap.size w2).alloc (Nat.le_refl _) o) 1)
  unfold TreeAt
  rw [hg.block b h1.lt hr]; exact h1
def PlanAt (w : World) (b : Nat) (g : Tr) (p : Pl) : Prop := ∃ v, TreeAt (planX g v) w b p.now ∧ w.ownsRow (b + 1) 83 4 v p.done.length (stCells p.done)
def tryP (p : Pl) (s : St) : Pl := if stepE p.now s = 0 then ⟨stepT p.now s, p.done ++ [s]⟩ else p
theorem tryP_yes {p : Pl} {s : St} (h : stepE p.now s = 0) : tryP p s = ⟨stepT p.now s, p.done ++ [s]⟩ := by unfold tryP; rw [if_pos h]
theorem tryP_no {p : Pl} {s : St} (h : ¬ stepE p.now s = 0) : tryP p s = p ∧ stepT p.now s = p.now := by unfold tryP stepT; rw [if_neg h, if_neg h]; exact ⟨rfl, rfl⟩
set_option maxHeartbeats 2000000 in
set_option maxRecDepth 100000 in
theorem attempt_any (g : Tr) (p : Pl) (b : Nat) (s : St) (w : World) (ha : TrOk p.now) (hs : StOk s) (hP : PlanAt w b g p) (hl : p.done.length ≤ 30000) :
    Calls Tryd.prog 71 #[.pointer (some ⟨b, 0, none⟩), .agg #[.int .u8 s.kind.toNat, .int .i64 s.node.id, .int .i64 s.node.parent, .string (bs s.node.name)]] w fun e w' => e = .returned (.bool (stepE p.now s == 0)) ∧ PlanAt w' b g (tryP p s) ∧ Below b w w' := by
  obtain ⟨v, hT, hown⟩ := hP
  obtain ⟨i0, hi, hz0, hz1, hz2⟩ := info_parts Tryd.infoStep
  have hlt := hT.lt
  have HDO := hide (fun W (h : TreeAt (planX g v) W b p.now) => do_any p.now b s W ha h hs)
  have hb1 := (Below.refl w.heap.size w).alloc (Nat.le_refl _) (.cells #[.int .u8 s.kind.toNat, .int .i64 s.node.id, .int .i64 s.node.parent, .string (bs s.node.name)] 83)
  have HT1 := hide (hT.below hb1)
  have HOWN := hide (own_below hown hb1)
  clear ha hs
  by_cases hE : stepE p.now s = 0
  · rw [tryP_yes hE]
    rw [hE] at HDO ⊢
    clear hT hown hb1
    go_enter Tryd.func71, Tryd.ntmps71
    go_wp2_with fail
    go_region_with (go_at_call 43; refine (unhide HDO _ (by exact unhide HT1)).mono ?_; rintro e w2 ⟨rfl, hT2, hg2⟩)
    have hlw : w.heap.size + 1 ≤ w2.heap.size := by have := hg2.size; simpa using this
    have HB2 : Hid (Below b w w2) := hide (((below_drewN ((Below.refl b w).alloc (by omega) (.cells #[.int .u8 s.kind.toNat, .int .i64 s.node.id, .int .i64 s.node.parent, .string (bs s.node.name)] 83)) 1)).grown hg2 (by simp; omega) (fun k hk => by cases hk; omega))
    have HOWN2 := hide (own_grown (show World.ownsRow (World.drew (w.alloc _)) _ _ _ _ _ _ from unhide HOWN) hg2 (by omega))
    have hcs : ∀ o, w2.cell? ⟨w.heap.size, o, none⟩ = (w.alloc _).cell? ⟨w.heap.size, o, none⟩ := fun o => cell_grown hg2 (by simp) (by omega) o
    have hdone := plan_done hT2
    have hfz : ∀ o, w2.frozen? ⟨b, o, none⟩ = false := hT2.free
    have HT2 := hide hT2
    clear hT2 hg2
    go_wp2_with fail
    have HOWN3 : Hid (World.ownsRow (World.drew (w2.alloc (.cells #[.int .u8 s.kind.toNat, .int .i64 s.node.id, .int .i64 s.node.parent, .string (bs s.node.name)] 83))) (b + 1) 83 4 v p.done.length (stCells p.done)) := hide (own_below (unhide HOWN2) (below_drewN ((Below.refl w2.heap.size w2).alloc (Nat.le_refl _) _) 1))
    have HNEW : Hid (∀ j x, [Value.int .u8 s.kind.toNat, .int .i64 s.node.id, .int .i64 s.node.parent, .string (bs s.node.name)][j]? = some x → (World.drew (w2.alloc (.cells #[.int .u8 s.kind.toNat, .int .i64 s.node.id, .int .i64 s.node.parent, .string (bs s.node.name)] 83))).cell? ((⟨w2.heap.size, 0, none⟩ : Addr).add j) = some x) := hide (fun j x hx => World.news_of_block (w := w2.alloc (.cells #[.int .u8 s.kind.toNat, .int .i64 s.node.id, .int .i64 s.node.parent, .string (bs s.node.name)] 83)) (cs := #[.int .u8 s.kind.toNat, .int .i64 s.node.id, .int .i64 s.node.parent, .string (bs s.node.name)]) (heap_alloc_new w2 _) j x hx)
    have hbs : b + 1 ≤ w2.heap.size + 1 := by omega
    have hbw : b < w2.heap.size := by omega
    have hbn : ¬ b = w2.heap.size := by omega
    go_region_law (refine step_append_own rfl (.tmp 17) (.tmp 19) 62 rfl 83 i0 (.agg #[.int .u8 0, .int .i64 0, .int .i64 0, .string ByteArray.empty]) 4 40 Tryd.underlying62 hi hz0 hz1 hz2 rfl (by decide) (b + 1) v p.done.length (stCells p.done) (by simp [Act.eval]) (unhide HOWN3) ⟨w2.heap.size, 0, none⟩ 1 1 [.int .u8 s.kind.toNat, .int .i64 s.node.id, .int .i64 s.node.parent, .string (bs s.node.name)] (by simp [Act.eval]) rfl (unhide HNEW) (by simp [Value.oneCell']) (by unfold maxLen; omega) (by omega) (by simp; omega) ?_; intro v' w4 hown4 hgrow; obtain ⟨g4, cap4, rfl, hg4⟩ := own_form hown4; have hT4 : TreeAt (planX g v) w4 b (stepT p.now s) := plan_grown (unhide HT2) hgrow (own_block (unhide HOWN3) (by omega)); have hd4 := plan_done hT4; have hf4 := hT4.free 800; have HT4 := hide hT4; have HOWN4 := hide hown4; have HG4 := hide hgrow; clear hT4 hown4 hgrow)
    all_goals
      go_wp2
      go_ret
      refine ⟨rfl, ⟨_, plan_set (unhide HT4), ?_⟩, ?_⟩
      · have := own_set (unhide HOWN4) (show b < b + 1 by omega) 800 (.slice (some ⟨g4, 0, none⟩) (p.done.length + 1) cap4)
        show World.ownsRow _ _ _ _ _ (p.done ++ [s]).length (stCells (p.done ++ [s]))
        rw [stCells_snoc, List.length_append]; exact this
      · refine Below.setCell ((below_drewN ((unhide HB2).alloc (by omega) _) 1).grown (unhide HG4) (by simp; omega) (fun k hk => by have := own_ge (unhide HOWN3) k hk; omega)) (Nat.le_refl _) _
  · obtain ⟨e1, e2⟩ := tryP_no hE
    rw [e1]
    rw [e2] at HDO
    have hE2 : (stepE p.now s == 0) = false := by simpa using hE
    have hE3 : (stepE p.now s != 0) = true := by simpa using hE
    clear hT hown hb1 e1 e2
    generalize stepE p.now s = E at *
    rw [hE2]
    go_enter Tryd.func71, Tryd.ntmps71
    go_wp2_with fail
    go_region_with (go_at_call 43; refine (unhide HDO _ (by exact unhide HT1)).mono ?_; rintro e w2 ⟨rfl, hT2, hg2⟩)
    have HB2 : Hid (Below b w w2) := hide (((below_drewN ((Below.refl b w).alloc (by omega) (.cells #[.int .u8 s.kind.toNat, .int .i64 s.node.id, .int .i64 s.node.parent, .string (bs s.node.name)] 83)) 1)).grown hg2 (by simp; omega) (fun k hk => by cases hk; omega))
    have HOWN2 := hide (own_grown (show World.ownsRow (World.drew (w.alloc _)) _ _ _ _ _ _ from unhide HOWN) hg2 (by omega))
    have HT2 := hide hT2
    clear hT2 hg2
    go_wp2
    go_ret
    exact ⟨rfl, ⟨v, unhide HT2, unhide HOWN2⟩, unhide HB2⟩
end Go.Proofs.YtkahmbpggdneoaaDoor
