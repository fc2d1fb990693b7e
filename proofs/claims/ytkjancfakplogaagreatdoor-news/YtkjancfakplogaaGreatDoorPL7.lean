import Derived.Test.YtkjancfakplogaaGreatDoorPL6
namespace Go.Proofs.YtkjancfakplogaaGreatDoor
open Go.RowKit
theorem conv_out (W : World) (s : ByteArray) : (convert 9 112 (.string s)).run Tryz.prog W = .ok (.slice (some ⟨W.heap.size, 0, none⟩) s.size (grownCap W s.size 0 5)) (W.drew.alloc (.cells (bytesRow s (grownCap W s.size 0 5)) 5 ((bytesRow s (grownCap W s.size 0 5)).size, (bytesRow s (grownCap W s.size 0 5)).size + 1))) :=
  run_bytes_of_string W 9 112 5 s Tryz.underlying9 Tryz.underlying112 Tryz.underlying5
theorem conv_back (w : World) (o : Obj) (s : ByteArray) (cap : Nat) (f : Nat × Nat) : (convert 112 9 (.slice (some ⟨w.heap.size + 1, 0, none⟩) s.size cap)).run Tryz.prog (((w.alloc o).alloc (.cells (bytesRow s cap) 5 f)).drew) = .ok (.string s) (((w.alloc o).alloc (.cells (bytesRow s cap) 5 f)).drew) := by
  have h := run_convert_bytes_back (P := Tryz.prog) (((w.alloc o).alloc (.cells (bytesRow s cap) 5 f)).drew) 112 9 5 ⟨w.heap.size + 1, 0, none⟩ cap s.data.toList Tryz.underlying112 Tryz.underlying5 Tryz.underlying9 (fun j hj => by
    have hb : (((w.alloc o).alloc (.cells (bytesRow s cap) 5 f)).drew).heap[w.heap.size + 1]? = some (.cells (bytesRow s cap) 5 f) := by
      have := heap_alloc_new (w.alloc o) (.cells (bytesRow s cap) 5 f)
      simpa [heap_drew] using this
    refine World.news_of_block hb j _ ?_
    simp only [Array.length_toList] at hj
    simp only [bytesRow, Array.toList_append, Array.toList_map]
    rw [List.getElem?_append_left (by simpa using hj)]
    simp only [List.getElem?_map, Option.map_eq_some_iff]
    exact ⟨s.data[j], by simp, by simp⟩)
  have e : s.data.toList.length = s.size := by rw [Array.length_toList]; rfl
  rw [e] at h
  rw [h]
theorem OpAt.kept {w w' : World} {g : Nat} {x : Lo} {S : Nat → Prop} (h : OpAt w g x) (hk : Keeps S w w') (hS : ¬ S g) : OpAt w' g x := by
  obtain ⟨h0, h1, h2, h3, h4, h5⟩ := h
  have hc : ∀ o, w'.cell? ⟨g, o, none⟩ = w.cell? ⟨g, o, none⟩ := fun o => World.cell?_of_block (a := ⟨g, o, none⟩) (hk.block g h0 hS)
  have := hk.size
  exact ⟨by omega, (hc _).trans h1, (hc _).trans h2, (hc _).trans h3, (hc _).trans h4, (hc _).trans h5⟩
theorem ck {wr W w1 : World} {p o : Nat} {v : Value} (hbel : Below wr.heap.size wr W) (hb : Below W.heap.size W w1) (hp : p < wr.heap.size) (h : W.cell? ⟨p, o, none⟩ = some v) : w1.cell? ⟨p, o, none⟩ = some v := by
  rw [hb.cell (p := ⟨p, o, none⟩) (by have := hbel.size; show p < _; omega)]; exact h
theorem Keeps.drewN {S : Nat → Prop} {w w' : World} (h : Keeps S w w') (n : Nat) : Keeps S w (w'.drewN n) := ⟨h.os, h.tape, h.output, h.size, h.block⟩
def InsPost (b : Nat) (site : Int) (v : Value) (n : Nat) (M : List Lo) (w w' : World) : Prop := ∃ v', RepAt w' b site v' ∧ w'.ownsRow 0 139 5 v' n (loCells M) ∧ Keeps (fun k => k = b ∨ v.ownBlock = some k) w w' ∧ (v'.ownBlock = v.ownBlock ∨ ∃ g, v'.ownBlock = some g ∧ w.heap.size ≤ g)
theorem insPost_of {b : Nat} {site : Int} {v : Value} {n : Nat} {M : List Lo} {w w' : World} {g cap : Nat} (h1 : RepAt w' b site (.slice (some ⟨g, 0, none⟩) n cap)) (h2 : w'.ownsRow 0 139 5 (.slice (some ⟨g, 0, none⟩) n cap) n (loCells M)) (h3 : Keeps (fun k => k = b ∨ v.ownBlock = some k) w w') (h4 : v.ownBlock = some g ∨ w.heap.size ≤ g) : InsPost b site v n M w w' :=
  ⟨_, h1, h2, h3, h4.elim (fun h => .inl h.symm) (fun h => .inr ⟨g, rfl, h⟩)⟩
theorem ins_kept {wr W : World} (hb : Below wr.heap.size wr W) {p b g k : Nat} {a0 a1 a2 a3 a4 s y0 y1 y2 y3 y4 : Value} (hp : p < wr.heap.size) (hb' : b < wr.heap.size) (hg : g < wr.heap.size)
    (h : wr.drew.cell? ⟨p, 0, none⟩ = some a0 ∧ wr.drew.cell? ⟨p, 1, none⟩ = some a1 ∧ wr.drew.cell? ⟨p, 2, none⟩ = some a2 ∧ wr.drew.cell? ⟨p, 3, none⟩ = some a3 ∧ wr.drew.cell? ⟨p, 4, none⟩ = some a4 ∧ wr.drew.cell? ⟨b, 1, none⟩ = some s ∧ wr.drew.cell? ⟨g, k * 5, none⟩ = some y0 ∧ wr.drew.cell? ⟨g, k * 5 + 1, none⟩ = some y1 ∧ wr.drew.cell? ⟨g, k * 5 + 2, none⟩ = some y2 ∧ wr.drew.cell? ⟨g, k * 5 + 3, none⟩ = some y3 ∧ wr.drew.cell? ⟨g, k * 5 + 4, none⟩ = some y4 ∧ Below wr.heap.size wr wr.drew) :
    W.cell? ⟨p, 0, none⟩ = some a0 ∧ W.cell? ⟨p, 1, none⟩ = some a1 ∧ W.cell? ⟨p, 2, none⟩ = some a2 ∧ W.cell? ⟨p, 3, none⟩ = some a3 ∧ W.cell? ⟨p, 4, none⟩ = some a4 ∧ W.cell? ⟨b, 1, none⟩ = some s ∧ W.cell? ⟨g, k * 5, none⟩ = some y0 ∧ W.cell? ⟨g, k * 5 + 1, none⟩ = some y1 ∧ W.cell? ⟨g, k * 5 + 2, none⟩ = some y2 ∧ W.cell? ⟨g, k * 5 + 3, none⟩ = some y3 ∧ W.cell? ⟨g, k * 5 + 4, none⟩ = some y4 ∧ Below wr.heap.size wr W := by
  obtain ⟨h1, h2, h3, h4, h5, h6, h7, h8, h9, h10, h11, _⟩ := h
  exact ⟨(hb.cell (p := ⟨p, _, none⟩) hp).trans h1, (hb.cell (p := ⟨p, _, none⟩) hp).trans h2, (hb.cell (p := ⟨p, _, none⟩) hp).trans h3, (hb.cell (p := ⟨p, _, none⟩) hp).trans h4, (hb.cell (p := ⟨p, _, none⟩) hp).trans h5, (hb.cell (p := ⟨b, _, none⟩) hb').trans h6, (hb.cell (p := ⟨g, _, none⟩) hg).trans h7, (hb.cell (p := ⟨g, _, none⟩) hg).trans h8, (hb.cell (p := ⟨g, _, none⟩) hg).trans h9, (hb.cell (p := ⟨g, _, none⟩) hg).trans h10, (hb.cell (p := ⟨g, _, none⟩) hg).trans h11, hb⟩
theorem Keeps.drew {S : Nat → Prop} {w w' : World} (h : Keeps S w w') : Keeps S w w'.drew := ⟨h.os, h.tape, h.output, h.size, h.block⟩
theorem op_keeps (w : World) (g o0 o1 o2 o3 o4 : Nat) (v0 v1 v2 v3 v4 : Value) : Keeps (fun k => k = g) w (((((w.setCell ⟨g, o0, none⟩ v0).setCell ⟨g, o1, none⟩ v1).setCell ⟨g, o2, none⟩ v2).setCell ⟨g, o3, none⟩ v3).setCell ⟨g, o4, none⟩ v4) :=
  ((((Keeps.set w g o0 v0).trans (Keeps.set _ g o1 v1) (fun _ _ h => h)).trans (Keeps.set _ g o2 v2) (fun _ _ h => h)).trans (Keeps.set _ g o3 v3) (fun _ _ h => h)).trans (Keeps.set _ g o4 v4) (fun _ _ h => h)
theorem own_drew {w : World} {base : Nat} {e : TypeId} {size : Nat} {v : Value} {n : Nat} {xs : List Value} (h : w.ownsRow base e size v n xs) : w.drew.ownsRow base e size v n xs := h
theorem ahead_same (x y : Lo) : (if x.count ≠ y.count then decide (x.count < y.count) else decide (x.site < y.site)) = ahead x y := rfl
set_option maxHeartbeats 4000000 in
set_option maxRecDepth 100000 in
theorem insert_any (L : List Lo) (x : Lo) (b : Nat) (site : Int) (v : Value) (w : World) (hR : RepAt w b site v) (hown : w.ownsRow 0 139 5 v L.length (loCells L)) (hs : Sorted L) (hl : L.length ≤ 4000) :
    Calls Tryz.prog 81 #[.pointer (some ⟨b, 1, none⟩), .agg #[.int .i64 x.count, .int .i64 x.site, .int .i64 x.node.id, .int .i64 x.node.parent, .string (bs x.node.name)]] w fun e w' => e = .returned (.tuple #[]) ∧ InsPost b site v (L.length + 1) (ins x L) w w' := by
  obtain ⟨i0, hi, hz0, hz1, hz2⟩ := info_parts Tryz.infoOp
  have c1 := conv_out
  have c2 := conv_back
  have hbl := hR.lt
  have HR := hide hR; clear hR
  have HOWN := hide hown; clear hown
  have HSO := hide hs; clear hs
  go_enter Tryz.func81, Tryz.ntmps81
  go_wp2
  have HQ : Hid (OpAt (World.drew (World.alloc (World.alloc w (.cells #[.int .i64 x.count, .int .i64 x.site, .int .i64 x.node.id, .int .i64 x.node.parent, .string (bs x.node.name)] 139)) (.cells (bytesRow (bs x.node.name) (grownCap (w.alloc (.cells #[.int .i64 x.count, .int .i64 x.site, .int .i64 x.node.id, .int .i64 x.node.parent, .string (bs x.node.name)] 139)) (bs x.node.name).size 0 5)) 5 ((bytesRow (bs x.node.name) (grownCap (w.alloc (.cells #[.int .i64 x.count, .int .i64 x.site, .int .i64 x.node.id, .int .i64 x.node.parent, .string (bs x.node.name)] 139)) (bs x.node.name).size 0 5)).size, (bytesRow (bs x.node.name) (grownCap (w.alloc (.cells #[.int .i64 x.count, .int .i64 x.site, .int .i64 x.node.id, .int .i64 x.node.parent, .string (bs x.node.name)] 139)) (bs x.node.name).size 0 5)).size + 1)))) w.heap.size x ∧ Below w.heap.size w (World.drew (World.alloc (World.alloc w (.cells #[.int .i64 x.count, .int .i64 x.site, .int .i64 x.node.id, .int .i64 x.node.parent, .string (bs x.node.name)] 139)) (.cells (bytesRow (bs x.node.name) (grownCap (w.alloc (.cells #[.int .i64 x.count, .int .i64 x.site, .int .i64 x.node.id, .int .i64 x.node.parent, .string (bs x.node.name)] 139)) (bs x.node.name).size 0 5)) 5 ((bytesRow (bs x.node.name) (grownCap (w.alloc (.cells #[.int .i64 x.count, .int .i64 x.site, .int .i64 x.node.id, .int .i64 x.node.parent, .string (bs x.node.name)] 139)) (bs x.node.name).size 0 5)).size, (bytesRow (bs x.node.name) (grownCap (w.alloc (.cells #[.int .i64 x.count, .int .i64 x.site, .int .i64 x.node.id, .int .i64 x.node.parent, .string (bs x.node.name)] 139)) (bs x.node.name).size 0 5)).size + 1)))) ∧ (World.drew (World.alloc (World.alloc w (.cells #[.int .i64 x.count, .int .i64 x.site, .int .i64 x.node.id, .int .i64 x.node.parent, .string (bs x.node.name)] 139)) (.cells (bytesRow (bs x.node.name) (grownCap (w.alloc (.cells #[.int .i64 x.count, .int .i64 x.site, .int .i64 x.node.id, .int .i64 x.node.parent, .string (bs x.node.name)] 139)) (bs x.node.name).size 0 5)) 5 ((bytesRow (bs x.node.name) (grownCap (w.alloc (.cells #[.int .i64 x.count, .int .i64 x.site, .int .i64 x.node.id, .int .i64 x.node.parent, .string (bs x.node.name)] 139)) (bs x.node.name).size 0 5)).size, (bytesRow (bs x.node.name) (grownCap (w.alloc (.cells #[.int .i64 x.count, .int .i64 x.site, .int .i64 x.node.id, .int .i64 x.node.parent, .string (bs x.node.name)] 139)) (bs x.node.name).size 0 5)).size + 1)))).heap.size = w.heap.size + 2) := by
    refine hide ⟨OpAt.below (w := w.alloc (.cells #[.int .i64 x.count, .int .i64 x.site, .int .i64 x.node.id, .int .i64 x.node.parent, .string (bs x.node.name)] 139)) (opAt_new w x _) ((Below.refl (w.heap.size + 1) _).alloc (by simp) _).drew (by omega), ((Below.refl _ _).alloc (Nat.le_refl _) _).alloc (by simp) _ |>.drew, by simp [heap_drew]⟩
  generalize World.drew (World.alloc (World.alloc w (.cells #[.int .i64 x.count, .int .i64 x.site, .int .i64 x.node.id, .int .i64 x.node.parent, .string (bs x.node.name)] 139)) (.cells (bytesRow (bs x.node.name) (grownCap (w.alloc (.cells #[.int .i64 x.count, .int .i64 x.site, .int .i64 x.node.id, .int .i64 x.node.parent, .string (bs x.node.name)] 139)) (bs x.node.name).size 0 5)) 5 ((bytesRow (bs x.node.name) (grownCap (w.alloc (.cells #[.int .i64 x.count, .int .i64 x.site, .int .i64 x.node.id, .int .i64 x.node.parent, .string (bs x.node.name)] 139)) (bs x.node.name).size 0 5)).size, (bytesRow (bs x.node.name) (grownCap (w.alloc (.cells #[.int .i64 x.count, .int .i64 x.site, .int .i64 x.node.id, .int .i64 x.node.parent, .string (bs x.node.name)] 139)) (bs x.node.name).size 0 5)).size + 1))) = wq at *
  generalize (grownCap (w.alloc (.cells #[.int .i64 x.count, .int .i64 x.site, .int .i64 x.node.id, .int .i64 x.node.parent, .string (bs x.node.name)] 139)) (bs x.node.name).size 0 5) = capq at *
  obtain ⟨hopq, hbq, hszq⟩ := unhide HQ
  clear HQ c1 c2
  have HBQ := hide hbq
  have HOPQ := hide hopq
  obtain ⟨_, o0, o1, o2, o3, o4⟩ := hopq
  have hRq := (unhide HR).below hbq hbl
  have r1 := hRq.cell1
  have rf := hRq.free
  have HRQ := hide hRq; clear hRq
  have HOWNQ := hide (own_below (unhide HOWN) hbq)
  clear hbq
  have hbq : b < wq.heap.size := by omega
  have hbn : ¬ b = wq.heap.size := by omega
  have hpn : ¬ w.heap.size = wq.heap.size := by omega
  have hpl : w.heap.size < wq.heap.size := by omega
  have HSZQ := hide hszq; clear hszq
  have HAP : Hid (v.ownBlock ≠ some b) := hide (rep_apart (unhide HRQ) (unhide HOWNQ))
  have HVL : Hid (∀ k, v.ownBlock = some k → k < w.heap.size) := hide (fun k hk => ((unhide HOWN).lt k hk).2)
  have hB3 : Below wq.heap.size wq (World.drew (wq.alloc (.cells #[.int .i64 x.count, .int .i64 x.site, .int .i64 x.node.id, .int .i64 x.node.parent, .string (bs x.node.name)] 139))) := ((Below.refl wq.heap.size wq).alloc (Nat.le_refl _) _).drew
  have HOWN3 := hide (own_below (unhide HOWNQ) hB3)
  have HR3 := hide ((unhide HRQ).below hB3 hbq)
  have HOP3 := hide ((unhide HOPQ).below hB3 hpl)
  have HK3 : Hid (Keeps (fun k => k = b ∨ v.ownBlock = some k) w (World.drew (wq.alloc (.cells #[.int .i64 x.count, .int .i64 x.site, .int .i64 x.node.id, .int .i64 x.node.parent, .string (bs x.node.name)] 139)))) := hide (Keeps.of_below ((unhide HBQ).trans (hB3.mono (by omega))) (fun k h1 h2 => by omega))
  have HNEW : Hid (∀ j y, (loC x)[j]? = some y → (World.drew (wq.alloc (.cells #[.int .i64 x.count, .int .i64 x.site, .int .i64 x.node.id, .int .i64 x.node.parent, .string (bs x.node.name)] 139))).cell? ((⟨wq.heap.size, 0, none⟩ : Addr).add j) = some y) := hide (news_five (w := wq) _ _ _ _ _ _)
  clear hB3
  go_region_law (refine step_append_lies _ rfl (.tmp 16) (.tmp 18) 100 rfl 0 139 i0 (.agg #[.int .i64 0, .int .i64 0, .int .i64 0, .int .i64 0, .string ByteArray.empty]) 5 48 Tryz.underlying100 hi hz0 hz1 hz2 rfl (by decide) v L.length (loCells L) (by simp [Act.eval]) (unhide HOWN3) ⟨wq.heap.size, 0, none⟩ 1 1 (loC x) (by simp [Act.eval]) rfl (unhide HNEW) (by simp [Value.oneCell', loC]) (by decide) (by unfold maxLen; omega) (by omega) (by simp) (wq.heap.size + 1) (by simp [heap_drew]) ?_; intro g cap w4 hown4 hgrow hgg hgl; have hR4 := (unhide HR3).kept (Keeps.of_grown hgrow) (unhide HAP); have q1 := hR4.cell1; have qf := hR4.free; have HR4 := hide hR4; have HOWN4 := hide hown4; have HG4 := hide hgrow; have HGG := hide hgg; clear hR4 hown4 hgrow hgg)
  all_goals
    have HGN : Hid (g ≠ b ∧ g ≠ w.heap.size ∧ (v.ownBlock = some g ∨ w.heap.size ≤ g)) := by
      apply hide
      have h1 : g ≠ b := by
        intro e; subst e
        exact (rep_apart (unhide HR4) (unhide HOWN4)) rfl
      rcases unhide HGG with h2 | h2
      · exact ⟨h1, by have := unhide HVL g h2; omega, .inl h2⟩
      · exact ⟨h1, by have := unhide HSZQ; omega, .inr (by have := unhide HSZQ; omega)⟩
    have HR5 := hide ((unhide HR4).set (.slice (some ⟨g, 0, none⟩) (L.length + 1) cap))
    have HOWN5 : Hid ((w4.setCell ⟨b, 1, none⟩ (.slice (some ⟨g, 0, none⟩) (L.length + 1) cap)).ownsRow 0 139 5 (.slice (some ⟨g, 0, none⟩) (L.length + 1) cap) (L.length + 1) (loCells (bub x L L.length))) := by
      apply hide
      have e : bub x L L.length = L ++ [x] := by unfold bub; simp
      rw [e, loCells_snoc]
      exact own_kept (unhide HOWN4) (Keeps.set w4 b 1 _) (fun k hk => by simp [Value.ownBlock] at hk; subst hk; exact (unhide HGN).1)
    have HOP5 : Hid (OpAt (w4.setCell ⟨b, 1, none⟩ (.slice (some ⟨g, 0, none⟩) (L.length + 1) cap)) w.heap.size x) := by
      apply hide
      exact (OpAt.kept (unhide HOP3) (Keeps.of_grown (unhide HG4)) (fun e => by have := unhide HVL _ e; omega)).kept (Keeps.set w4 b 1 _) (by omega)
    have HK5 : Hid (Keeps (fun k => k = b ∨ v.ownBlock = some k) w (w4.setCell ⟨b, 1, none⟩ (.slice (some ⟨g, 0, none⟩) (L.length + 1) cap))) := hide (((unhide HK3).trans (Keeps.of_grown (unhide HG4)) (fun k _ h => .inr h)).trans (Keeps.set w4 b 1 _) (fun k _ h => .inl h))
    clear q1 qf HG4 HR4 HOWN4
    generalize w4.setCell ⟨b, 1, none⟩ (.slice (some ⟨g, 0, none⟩) (L.length + 1) cap) = w5 at *
    have s1 := (unhide HR5).cell1
    clear o0 o1 o2 o3 o4 r1 rf
    go_wp2
    go_loopw [4] (fun t wr => ∃ i : Nat, i ≤ L.length ∧ t = .int .i64 i ∧ Hid (RepAt wr b site (.slice (some ⟨g, 0, none⟩) (L.length + 1) cap)) ∧ Hid (wr.ownsRow 0 139 5 (.slice (some ⟨g, 0, none⟩) (L.length + 1) cap) (L.length + 1) (loCells (bub x L i))) ∧ Hid (OpAt wr w.heap.size x) ∧ Hid (Keeps (fun k => k = b ∨ v.ownBlock = some k) w wr) ∧ Hid (∀ j (h : j < L.length), i ≤ j → ahead x L[j] = true)) (fun t _ => (intOf t).toNat)
    case atStart => exact ⟨L.length, Nat.le_refl _, rfl, HR5, HOWN5, HOP5, HK5, hide (fun j h1 h2 => by omega)⟩
    case round =>
      obtain ⟨i, hi', rfl, HRr, HOr, HPr, HKr, HA⟩ := hrel
      clear s1
      cases i with
      | zero =>
        have HE : Hid (ins x L = bub x L 0) := hide (sorted_cut (unhide HSO) (Nat.zero_le _) (unhide HA) (.inl rfl))
        go_wp2
        go_quiet (fail)
        go_wp2
        go_end0
        refine ⟨rfl, ?_⟩
        rw [unhide HE]
        exact insPost_of (unhide HRr) (unhide HOr) ((unhide HKr).drewN _) (unhide HGN).2.2
      | succ k =>
        have hkl : k < L.length := by omega
        have r1 := (unhide HRr).cell1
        have rf := (unhide HRr).free
        have hbr := (unhide HRr).lt
        have HY := hide (bub_get x L hkl)
        have HBS := hide (bub_step x L hkl)
        have hbk : k < (bub x L (k + 1)).length := by rw [bub_len x L (by omega)]; omega
        have hgk : (bub x L (k + 1))[k] = L[k] := by have := bub_get x L hkl; rw [List.getElem?_eq_getElem hbk] at this; exact Option.some.inj this
        have y0 := own_at (unhide HOr) (j := k * 5 + 0) (by rw [loCells_at _ k 0 hbk (by omega), hgk]; rfl)
        have y1 := own_at (unhide HOr) (j := k * 5 + 1) (by rw [loCells_at _ k 1 hbk (by omega), hgk]; rfl)
        have y2 := own_at (unhide HOr) (j := k * 5 + 2) (by rw [loCells_at _ k 2 hbk (by omega), hgk]; rfl)
        have y3 := own_at (unhide HOr) (j := k * 5 + 3) (by rw [loCells_at _ k 3 hbk (by omega), hgk]; rfl)
        have y4 := own_at (unhide HOr) (j := k * 5 + 4) (by rw [loCells_at _ k 4 hbk (by omega), hgk]; rfl)
        have hgl' : g < wr.heap.size := ((unhide HOr).lt g rfl).2
        rw [Nat.add_zero] at y0
        obtain ⟨hpr, p0, p1, p2, p3, p4⟩ := unhide HPr
        have HSC : Hid (ahead x L[k] = false → ins x L = bub x L (k + 1)) := hide (fun h => sorted_cut (unhide HSO) hi' (unhide HA) (.inr ⟨by simpa using hkl, by simpa using h⟩))
        have HAN : Hid (ahead x L[k] = true → ∀ j (h : j < L.length), k ≤ j → ahead x L[j] = true) := hide (fun h j hj hkj => by
          by_cases e : j = k
          · subst e; exact h
          · exact unhide HA j hj (by omega))
        have HIS := hide (fun W => isAhead_any x.count x.site x.node.id x.node.parent (bs x.node.name) (L[k]).count (L[k]).site (L[k]).node.id (L[k]).node.parent (bs (L[k]).node.name) W)
        rw [ahead_same] at HIS
        clear hgk hbk
        generalize L[k] = y at *
        generalize ahead x y = ah at *
        have hk0 : (0 : Int) ≤ (k : Int) := by omega
        have hk1 : ((k : Int) + 1).toNat = k + 1 := by omega
        obtain ⟨N, hN⟩ : ∃ N, N = L.length + 1 := ⟨_, rfl⟩
        rw [← hN] at HRr HOr r1 ⊢
        have hk2 : (k : Int) < N := by omega
        have hk3 : (k : Int) + 1 < N := by omega
        have HN := hide hN; clear hN
        have hw1 : IntKind.i64.wrap (k : Int) = k := IntWalk.i64_in _ ⟨by omega, by omega⟩
        have hw2 : IntKind.i64.wrap ((k : Int) + 1 - 1) = k := IntWalk.i64_in _ ⟨by omega, by omega⟩ |>.trans (by omega)
        have hd : decide ((0 : Int) < (k : Int) + 1) = true := by simp
        rw [show ((k + 1 : Nat) : Int) = (k : Int) + 1 from rfl]
        have HS0 := hide (show wr.drew.cell? ⟨w.heap.size, 0, none⟩ = some (.int .i64 x.count) ∧ wr.drew.cell? ⟨w.heap.size, 1, none⟩ = some (.int .i64 x.site) ∧ wr.drew.cell? ⟨w.heap.size, 2, none⟩ = some (.int .i64 x.node.id) ∧ wr.drew.cell? ⟨w.heap.size, 3, none⟩ = some (.int .i64 x.node.parent) ∧ wr.drew.cell? ⟨w.heap.size, 4, none⟩ = some (.string (bs x.node.name)) ∧ wr.drew.cell? ⟨b, 1, none⟩ = some (.slice (some ⟨g, 0, none⟩) N cap) ∧ wr.drew.cell? ⟨g, k * 5, none⟩ = some (.int .i64 y.count) ∧ wr.drew.cell? ⟨g, k * 5 + 1, none⟩ = some (.int .i64 y.site) ∧ wr.drew.cell? ⟨g, k * 5 + 2, none⟩ = some (.int .i64 y.node.id) ∧ wr.drew.cell? ⟨g, k * 5 + 3, none⟩ = some (.int .i64 y.node.parent) ∧ wr.drew.cell? ⟨g, k * 5 + 4, none⟩ = some (.string (bs y.node.name)) ∧ Below wr.heap.size wr wr.drew from ⟨p0, p1, p2, p3, p4, r1, y0, y1, y2, y3, y4, (Below.refl _ _).drew⟩)
        go_wp2
        go_region_held3 (fun W => W.cell? ⟨w.heap.size, 0, none⟩ = some (.int .i64 x.count) ∧ W.cell? ⟨w.heap.size, 1, none⟩ = some (.int .i64 x.site) ∧ W.cell? ⟨w.heap.size, 2, none⟩ = some (.int .i64 x.node.id) ∧ W.cell? ⟨w.heap.size, 3, none⟩ = some (.int .i64 x.node.parent) ∧ W.cell? ⟨w.heap.size, 4, none⟩ = some (.string (bs x.node.name)) ∧ W.cell? ⟨b, 1, none⟩ = some (.slice (some ⟨g, 0, none⟩) N cap) ∧ W.cell? ⟨g, k * 5, none⟩ = some (.int .i64 y.count) ∧ W.cell? ⟨g, k * 5 + 1, none⟩ = some (.int .i64 y.site) ∧ W.cell? ⟨g, k * 5 + 2, none⟩ = some (.int .i64 y.node.id) ∧ W.cell? ⟨g, k * 5 + 3, none⟩ = some (.int .i64 y.node.parent) ∧ W.cell? ⟨g, k * 5 + 4, none⟩ = some (.string (bs y.node.name)) ∧ Below wr.heap.size wr W) (first | exact unhide HS0 | assumption) ((go_at_call 111; refine (unhide HIS _).mono ?_; rintro e w1 ⟨rfl, hb1⟩; have hbx : Below wr.heap.size wr w1 := (Below.refl wr.heap.size wr).drew.trans (hb1.mono (by simp [heap_drew])); have hs1 := ins_kept hbx hpr hbr hgl' (unhide HS0)))
        all_goals
          have HR1 := hide ((unhide HRr).below hbx hbr)
          have HO1 := hide (own_below (unhide HOr) hbx)
          have HP1 := hide ((unhide HPr).below hbx hpr)
          have HK1 : Hid (Keeps (fun k => k = b ∨ v.ownBlock = some k) w w1) := hide ((unhide HKr).trans (Keeps.of_below (S := fun _ => False) hbx (fun k h1 h2 => by omega)) (fun k _ h => h.elim))
          clear p0 p1 p2 p3 p4 y0 y1 y2 y3 y4 r1 rf HS0
          cases ah with
          | false =>
            have HE := hide (unhide HSC rfl)
            go_wp2
            go_end0
            refine ⟨rfl, ?_⟩
            rw [unhide HE, ← unhide HN]
            exact insPost_of (unhide HR1) (unhide HO1) (unhide HK1) (unhide HGN).2.2
          | true =>
            have HA2 := hide (unhide HAN rfl)
            obtain ⟨p0, p1, p2, p3, p4, r1, y0, y1, y2, y3, y4, _⟩ := hs1
            have hbk : k + 1 < (bub x L (k + 1)).length := by rw [bub_len x L (by omega)]; omega
            have hgk : (bub x L (k + 1))[k + 1] = x := by
              have : (bub x L (k + 1))[k + 1]? = some x := by
                unfold bub
                rw [List.getElem?_append_right (by rw [List.length_take]; omega), List.length_take, show k + 1 - min (k + 1) L.length = 0 by omega]; rfl
              rw [List.getElem?_eq_getElem hbk] at this; exact Option.some.inj this
            have z0 := own_at (unhide HO1) (j := (k + 1) * 5 + 0) (by rw [loCells_at _ (k + 1) 0 hbk (by omega), hgk]; rfl)
            have z1 := own_at (unhide HO1) (j := (k + 1) * 5 + 1) (by rw [loCells_at _ (k + 1) 1 hbk (by omega), hgk]; rfl)
            have z2 := own_at (unhide HO1) (j := (k + 1) * 5 + 2) (by rw [loCells_at _ (k + 1) 2 hbk (by omega), hgk]; rfl)
            have z3 := own_at (unhide HO1) (j := (k + 1) * 5 + 3) (by rw [loCells_at _ (k + 1) 3 hbk (by omega), hgk]; rfl)
            have z4 := own_at (unhide HO1) (j := (k + 1) * 5 + 4) (by rw [loCells_at _ (k + 1) 4 hbk (by omega), hgk]; rfl)
            rw [Nat.add_zero] at z0
            have zf := own_free (unhide HO1)
            have n1 : ¬ g = b := (unhide HGN).1
            have n2 : ¬ g = w.heap.size := (unhide HGN).2.1
            have n3 : ¬ b = g := fun e => n1 e.symm
            have n4 : ¬ w.heap.size = g := fun e => n2 e.symm
            have hk6 : (0 : Int) ≤ (k : Int) + 1 := by omega
            clear hgk hbk
            go_wp2
            go_region
            all_goals go_wp2
            all_goals go_region
            all_goals go_wp2
            all_goals
              have hkx := ((op_keeps w1 g ((k + 1) * 5) ((k + 1) * 5 + 1) ((k + 1) * 5 + 2) ((k + 1) * 5 + 3) ((k + 1) * 5 + 4) (.int .i64 y.count) (.int .i64 y.site) (.int .i64 y.node.id) (.int .i64 y.node.parent) (.string (bs y.node.name))).trans (op_keeps _ g (k * 5) (k * 5 + 1) (k * 5 + 2) (k * 5 + 3) (k * 5 + 4) (.int .i64 x.count) (.int .i64 x.site) (.int .i64 x.node.id) (.int .i64 x.node.parent) (.string (bs x.node.name))) (fun _ _ h => h)).drew.drew
              have hox := own_op (own_op (unhide HO1) (i := k + 1) (by have := unhide HN; omega) (by rw [bub_len x L (by omega)]; exact (unhide HN).symm) y) (i := k) (by have := unhide HN; omega) (by rw [List.length_set, bub_len x L (by omega)]; exact (unhide HN).symm) x
              rw [unhide HBS] at hox
              have hox := own_drew (own_drew hox)
              have HKX := hide hkx
              have HOX := hide hox
              clear hkx hox
              go_roundw
              case rel =>
                refine ⟨k, by omega, rfl, hide ((unhide HR1).kept (unhide HKX) n3), HOX, hide ((unhide HP1).kept (unhide HKX) n4), hide ((unhide HK1).trans (unhide HKX) (fun j hj e => ?_)), HA2⟩
                subst e
                rcases (unhide HGN).2.2 with h | h
                · exact .inr h
                · omega
              case measure => simp [intOf]
end Go.Proofs.YtkjancfakplogaaGreatDoor
