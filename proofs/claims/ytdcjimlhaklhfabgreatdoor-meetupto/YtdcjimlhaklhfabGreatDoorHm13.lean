import Derived.Test.YtdcjimlhaklhfabGreatDoorHm12
namespace Go.Proofs.YtdcjimlhaklhfabGreatDoor
open Go.RowKit
/-! Three replicas. -/
structure RP where
  b : Nat
  st : Int
  v : Value
  L : List Lo
def ptrR (p : RP) : Value := .pointer (some ⟨p.b, 0, none⟩)
structure ThreeAt (w0 w : World) (U : List Lo) (ps : List RP) : Prop where
  each : ∀ p ∈ ps, RS w0 w p.b p.st p.v p.L ∧ Know U p.L p.st
  apart : ∀ i j (hi : i < ps.length) (hj : j < ps.length), i ≠ j → Apart2 (ps[i]).b (ps[i]).v (ps[j]).b (ps[j]).v
  sites : ∀ i j (hi : i < ps.length) (hj : j < ps.length), i ≠ j → (ps[i]).st ≠ (ps[j]).st
theorem ThreeAt.below {w0 w w' : World} {U : List Lo} {ps : List RP} (h : ThreeAt w0 w U ps) (hb : Below w.heap.size w w') : ThreeAt w0 w' U ps :=
  ⟨fun p hp => ⟨(h.each p hp).1.below hb, (h.each p hp).2⟩, h.apart, h.sites⟩
/-- One of them goes on; what all know may grow. -/
theorem ThreeAt.set {w0 w w' : World} {U U' : List Lo} {ps : List RP} (h : ThreeAt w0 w U ps) {i : Nat} (hi : i < ps.length) {v' : Value} {L' : List Lo} (hp : RPost w0 w w' (ps[i]).b (ps[i]).st (ps[i]).v v' L') (hk : Know U' L' (ps[i]).st) (ho : ∀ j (hj : j < ps.length), j ≠ i → Know U' (ps[j]).L (ps[j]).st) :
    ThreeAt w0 w' U' (ps.set i ⟨(ps[i]).b, (ps[i]).st, v', L'⟩) := by
  refine ⟨?_, ?_, ?_⟩
  · intro p hpm
    obtain ⟨j, hj, rfl⟩ := List.mem_iff_getElem.1 hpm
    rw [List.length_set] at hj
    by_cases e : i = j
    · subst e
      rw [List.getElem_set_self]
      exact ⟨hp.rs, hk⟩
    · rw [List.getElem_set_ne e]
      exact ⟨(h.each _ (List.getElem_mem hj)).1.kept hp.keeps (fun k h1 h2 => h.apart i j hi hj e k h2 h1), ho j hj (fun h => e h.symm)⟩
  · intro a c ha hc hne
    rw [List.length_set] at ha hc
    by_cases e1 : i = a
    · subst e1
      rw [List.getElem_set_self, List.getElem_set_ne hne]
      exact apart_moved (h.apart i c hi hc hne) hp.moved (h.each _ (List.getElem_mem hc)).1
    · rw [List.getElem_set_ne e1]
      by_cases e2 : i = c
      · subst e2
        rw [List.getElem_set_self]
        exact (apart_moved (h.apart i a hi ha e1) hp.moved (h.each _ (List.getElem_mem ha)).1).symm
      · rw [List.getElem_set_ne e2]; exact h.apart a c ha hc hne
  · intro a c ha hc hne
    rw [List.length_set] at ha hc
    have key : ∀ j (hj : j < ps.length), ((ps.set i ⟨(ps[i]).b, (ps[i]).st, v', L'⟩)[j]'(by rw [List.length_set]; exact hj)).st = (ps[j]).st := by
      intro j hj
      by_cases e : i = j
      · subst e; rw [List.getElem_set_self]
      · rw [List.getElem_set_ne e]
    rw [key a ha, key c hc]; exact h.sites a c ha hc hne
theorem ptr_set {ps : List RP} {i : Nat} (hi : i < ps.length) (v' : Value) (L' : List Lo) : (ps.set i ⟨(ps[i]).b, (ps[i]).st, v', L'⟩).map ptrR = ps.map ptrR := by
  rw [List.map_set]
  have : ptrR ⟨(ps[i]).b, (ps[i]).st, v', L'⟩ = (ps.map ptrR)[i]'(by rw [List.length_map]; exact hi) := by rw [List.getElem_map]; rfl
  rw [this, List.set_getElem_self]
/-- A row whose cells are neither replicas nor ops stays when a replica goes on. -/
theorem row_out {w0 w w' : World} {base : Nat} {e : TypeId} {size n : Nat} {u v : Value} {xs : List Value} {b : Nat} {st : Int} {L : List Lo} (h : w.ownsRow base e size u n xs) (hR : RS w0 w b st v L) (hk : Keeps (Foot b v) w w') (h1 : e ≠ 69) (h2 : e ≠ 113) : w'.ownsRow base e size u n xs := by
  refine own_kept h hk (fun k hk1 hf => ?_)
  have ht := tyAt_own h k hk1
  rcases hf with hf | hf
  · have hf' : k = b := hf
    have h3 : tyAt w b 69 := ⟨_, _, hR.rep.at'⟩
    rw [← hf'] at h3
    exact h1 (tyAt_inj ht h3)
  · exact h2 (tyAt_inj ht (tyAt_own hR.rep.own k hf))
theorem pick_small {a : Nat} : pickK (a : Int) 9 = a % 9 := by
  unfold pickK
  rw [if_neg (by omega)]
  omega
theorem sites_apart {p i j : Nat} (hi : i < 3) (hj : j < 3) (h : i ≠ j) : siteK ((p + i : Nat) : Int) ≠ siteK ((p + j : Nat) : Int) := by
  unfold siteK
  rw [pick_small, pick_small]
  omega
theorem Tryz.infoRepPtr : (Tryz.prog.info? 27).map (fun i => (i.zero, i.size, i.bytes)) = some (some (.pointer none), 1, 8) := by kernel_rfl
/-- Replicas stay when another row grows. -/
theorem rs_row {w0 w w' : World} {base : Nat} {e : TypeId} {size n : Nat} {u v : Value} {xs : List Value} {b : Nat} {st : Int} {L : List Lo} (hR : RS w0 w b st v L) (h : w.ownsRow base e size u n xs) (hk : Keeps (fun k => u.ownBlock = some k) w w') (h1 : e ≠ 69) (h2 : e ≠ 113) : RS w0 w' b st v L := by
  refine hR.kept hk (fun k hf hk1 => ?_)
  have ht := tyAt_own h k hk1
  rcases hf with hf | hf
  · have hf' : k = b := hf
    have h3 : tyAt w b 69 := ⟨_, _, hR.rep.at'⟩
    rw [← hf'] at h3
    exact h1 (tyAt_inj ht h3)
  · exact h2 (tyAt_inj ht (tyAt_own hR.rep.own k hf))
theorem ThreeAt.row {w0 w w' : World} {base : Nat} {e : TypeId} {size n : Nat} {u : Value} {xs : List Value} {U : List Lo} {ps : List RP} (hT : ThreeAt w0 w U ps) (h : w.ownsRow base e size u n xs) (hk : Keeps (fun k => u.ownBlock = some k) w w') (h1 : e ≠ 69) (h2 : e ≠ 113) : ThreeAt w0 w' U ps :=
  ⟨fun p hp => ⟨rs_row (hT.each p hp).1 h hk h1 h2, (hT.each p hp).2⟩, hT.apart, hT.sites⟩
theorem ThreeAt.push {w0 w : World} {ps : List RP} {p : RP} (h : ThreeAt w0 w [] ps) (hp : RS w0 w p.b p.st p.v p.L) (hk : Know [] p.L p.st) (ha : ∀ q ∈ ps, Apart2 q.b q.v p.b p.v) (hs : ∀ q ∈ ps, q.st ≠ p.st) : ThreeAt w0 w [] (ps ++ [p]) := by
  have cases' : ∀ i (hi : i < (ps ++ [p]).length), (∃ h : i < ps.length, (ps ++ [p])[i] = ps[i]) ∨ (i = ps.length ∧ (ps ++ [p])[i] = p) := by
    intro i hi
    rcases Nat.lt_or_ge i ps.length with h1 | h1
    · exact .inl ⟨h1, List.getElem_append_left h1⟩
    · rw [List.length_append, List.length_singleton] at hi
      have : i = ps.length := by omega
      subst this
      exact .inr ⟨rfl, by simp⟩
  refine ⟨?_, ?_, ?_⟩
  · intro q hq
    rcases List.mem_append.1 hq with hq | hq
    · exact h.each q hq
    · rw [List.mem_singleton] at hq; subst hq; exact ⟨hp, hk⟩
  · intro i j hi hj hne
    rcases cases' i hi with ⟨h1, e1⟩ | ⟨h1, e1⟩ <;> rcases cases' j hj with ⟨h2, e2⟩ | ⟨h2, e2⟩
    · rw [e1, e2]; exact h.apart i j h1 h2 hne
    · rw [e1, e2]; exact ha _ (List.getElem_mem h1)
    · rw [e1, e2]; exact (ha _ (List.getElem_mem h2)).symm
    · omega
  · intro i j hi hj hne
    rcases cases' i hi with ⟨h1, e1⟩ | ⟨h1, e1⟩ <;> rcases cases' j hj with ⟨h2, e2⟩ | ⟨h2, e2⟩
    · rw [e1, e2]; exact h.sites i j h1 h2 hne
    · rw [e1, e2]; exact hs _ (List.getElem_mem h1)
    · rw [e1, e2]; exact (hs _ (List.getElem_mem h2)).symm
    · omega
set_option maxHeartbeats 4000000 in
set_option maxRecDepth 100000 in
theorem three_any (site : Int) (w : World) (h : I64 site) :
    Calls Tryz.prog 21 #[.int .i64 site] w fun e w' => ∃ u ps, e = .returned u ∧ ps.length = 3 ∧ ThreeAt w w' [] ps ∧ w'.ownsRow w.heap.size 27 1 u 3 (ps.map ptrR) ∧ Below w.heap.size w w' := by
  obtain ⟨i0, hi, hz0, hz1, hz2⟩ := info_parts Tryz.infoRepPtr
  have HP := hide (fun W => kpick_any site 9 W (by omega) (by omega) h)
  have hp := pickK_lt site (show 0 < 9 by omega)
  generalize pickK site 9 = p at *
  clear h
  go_enter Tryz.func21, Tryz.ntmps21
  go_wp2
  go_loopw [3, 4] (fun u i wr => ∃ k : Nat, ∃ ps : List RP, k ≤ 3 ∧ i = .int .i64 k ∧ ps.length = k ∧ Hid (ThreeAt w wr [] ps ∧ ∀ j (hj : j < ps.length), (ps[j]).st = siteK ((p + j : Nat) : Int)) ∧ Hid (wr.ownsRow w.heap.size 27 1 u k (ps.map ptrR)) ∧ Hid (Below w.heap.size w wr)) (fun _ i _ => 3 - (intOf i).toNat)
  case atStart => exact ⟨0, [], by omega, rfl, rfl, hide ⟨⟨by simp, fun i j hi => by simp at hi, fun i j hi => by simp at hi⟩, fun j hj => by simp at hj⟩, hide (World.ownsRow_nil _ _ _ _), hide (Below.refl _ _)⟩
  case round =>
    obtain ⟨k, ps, hk, rfl, hlen, HT, HO, HB⟩ := hrel
    by_cases hlt : k < 3
    · have HRP := hide (replica_site ((p : Int) + (k : Int)) w wr ⟨by omega, by omega⟩ (unhide HB))
      have hsr := (unhide HB).size
      go_wp2_with fail
      refine (unhide HP _).mono ?_
      rintro e w1 ⟨rfl, rfl⟩
      go_wp2_with fail
      refine (unhide HRP).mono ?_
      rintro e w2 ⟨rfl, hR, hb2⟩
      have HT2 := hide ((unhide HT).1.below hb2)
      have HO2 := hide (own_below (unhide HO) hb2)
      have HB2 := hide ((unhide HB).trans (hb2.mono hsr))
      have hs2 := (unhide HB2).size
      have HST := hide (unhide HT).2
      have HR := hide hR
      have HLT : Hid (∀ p ∈ ps, ∀ k, Foot p.b p.v k → k < w1.heap.size) := hide (fun p hp k hk => ((unhide HT).1.each p hp).1.lt hk)
      clear hR hb2
      have hpe : (p : Int) + (k : Int) = ((p + k : Nat) : Int) := by omega
      rw [hpe] at HR
      clear hpe
      go_wp2_with (first
        | (at_builtin; (refine wpList_append_own _ rfl _ _ 47 rfl w.heap.size 27 i0 (.pointer none) 1 8 Tryz.underlying47 hi hz0 hz1 hz2 rfl (by decide) _ _ _ rfl (own_below (unhide HO2) ((Below.refl _ _).alloc (Nat.le_refl _) _)) ⟨w2.heap.size, 0, none⟩ 1 1 [.pointer (some ⟨w1.heap.size, 0, none⟩)] rfl rfl (news_one _ _) (by simp [Value.oneCell']) (by unfold maxLen; omega) (by omega) (by simp; omega) ?_))
        | go_in)
      intro v' w8 hown' hgrow _
      have hb7 := (Below.refl w2.heap.size w2).alloc (Nat.le_refl _) (.cells #[.pointer (some ⟨w1.heap.size, 0, none⟩)] 27)
      have HB8 : Hid (Below w.heap.size w w8) := hide (((unhide HB2).trans (hb7.mono hs2)).grown hgrow (by simp; omega) (own_ge (unhide HO2)))
      have hkg := Keeps.of_grown hgrow
      have HO8 : Hid (w8.ownsRow w.heap.size 27 1 v' (k + 1) ((ps ++ [(⟨w1.heap.size, siteK ((p + k : Nat) : Int), .slice none 0 0, []⟩ : RP)]).map ptrR)) := by
        apply hide; rw [List.map_append]; exact hown'
      have HT8 : Hid (ThreeAt w w8 [] (ps ++ [(⟨w1.heap.size, siteK ((p + k : Nat) : Int), .slice none 0 0, []⟩ : RP)])) := by
        apply hide
        refine ThreeAt.push ?_ ?_ (know_nil _) ?_ ?_
        · exact ((unhide HT2).below hb7).row (own_below (unhide HO2) hb7) hkg (by decide) (by decide)
        · exact rs_row ((unhide HR).below hb7) (own_below (unhide HO2) hb7) hkg (by decide) (by decide)
        · intro q hq j h1 h2
          have := unhide HLT q hq j h1
          rcases h2 with h2 | h2
          · have h2' : j = w1.heap.size := h2
            omega
          · simp [Value.ownBlock] at h2
        · intro q hq
          obtain ⟨j, hj, rfl⟩ := List.mem_iff_getElem.1 hq
          rw [unhide HST j hj]
          exact sites_apart (by omega) (by omega) (by omega)
      have HST8 : Hid (∀ j (hj : j < (ps ++ [⟨w1.heap.size, siteK ((p + k : Nat) : Int), .slice none 0 0, []⟩] : List RP).length), ((ps ++ [⟨w1.heap.size, siteK ((p + k : Nat) : Int), .slice none 0 0, []⟩] : List RP)[j]).st = siteK ((p + j : Nat) : Int)) := by
        apply hide
        intro j hj
        rw [List.length_append, List.length_singleton] at hj
        rcases Nat.lt_or_ge j ps.length with h1 | h1
        · rw [List.getElem_append_left h1]; exact unhide HST j h1
        · have : j = ps.length := by omega
          subst this
          rw [List.getElem_append_right (Nat.le_refl _)]
          simp [hlen]
      clear hgrow hown' hb7 hkg
      go_wp2
      go_roundw
      case rel => exact ⟨k + 1, _, by omega, by go_num, by rw [List.length_append, hlen]; rfl, hide ⟨unhide HT8, unhide HST8⟩, HO8, HB8⟩
      case measure => simp [intOf]; omega
    · have hk3 : k = 3 := by omega
      subst hk3
      go_wp2
      go_ret
      exact ⟨_, ps, rfl, hlen, (unhide HT).1, unhide HO, unhide HB⟩
end Go.Proofs.YtdcjimlhaklhfabGreatDoor

namespace Go.Proofs.YtdcjimlhaklhfabGreatDoor
open Go.RowKit
theorem turn_upK (n f i : Nat) : ((f : Int) + (i : Int)) % (n : Int) = ((turnAt n f true i : Nat) : Int) := by
  unfold turnAt; simp only [if_true]; norm_cast
theorem turn_downK {n f i : Nat} (h : i ≤ f + n) : ((f : Int) + (n : Int) - (i : Int)) % (n : Int) = ((turnAt n f false i : Nat) : Int) := by
  unfold turnAt; simp only [Bool.false_eq_true, if_false]
  rw [show (f : Int) + (n : Int) - (i : Int) = ((f + n - i : Nat) : Int) by omega]; norm_cast
/-- The texts of ops so far, in memory. -/
def textsV (Ts : List (List Lo)) : List Value := Ts.map fun T => .string (bs (logText T))
structure TextsOk (U : List Lo) (Ts : List (List Lo)) : Prop where
  flat : Ts.flatten = U
theorem texts_sub {U : List Lo} {Ts : List (List Lo)} (h : TextsOk U Ts) {T : List Lo} (hT : T ∈ Ts) : (∀ x ∈ T, x ∈ U) ∧ T.length ≤ U.length := by
  refine ⟨fun x hx => ?_, ?_⟩
  · rw [← h.flat]; exact List.mem_flatten.2 ⟨T, hT, hx⟩
  · rw [← h.flat]
    exact (List.sublist_flatten_of_mem hT).length_le
theorem text_cell {w : World} {base : Nat} {to : Option Addr} {tc : Nat} {Ts : List (List Lo)} (h : w.ownsRow base 9 1 (.slice to Ts.length tc) Ts.length (textsV Ts)) {i : Nat} (hi : i < Ts.length) : ∃ g, to = some ⟨g, 0, none⟩ ∧ g < w.heap.size ∧ w.cell? ⟨g, i, none⟩ = some (.string (bs (logText Ts[i]))) := by
  obtain ⟨g, h1, h2, h3⟩ := (row_of h).2 (by omega)
  exact ⟨g, h1, h2, by
    have := h3 i (.string (bs (logText Ts[i]))) (by unfold textsV; rw [List.getElem?_map, List.getElem?_eq_getElem hi]; rfl)
    simpa using this⟩
/-- A replica that has got some of the texts. -/
structure Got (U : List Lo) (Ts : List (List Lo)) (st : Int) (fr : Nat) (up : Bool) (k : Nat) (L : List Lo) : Prop where
  know : Know U L st
  has : ∀ i, i < k → ∀ T, Ts[turnAt Ts.length fr up i]? = some T → ∀ x ∈ T, x ∈ L
theorem got_all {U : List Lo} {Ts : List (List Lo)} {st : Int} {fr : Nat} {up : Bool} {L : List Lo} (h : Got U Ts st fr up Ts.length L) (ht : TextsOk U Ts) (hf : fr < Ts.length ∨ Ts.length = 0) : ∀ x ∈ U, x ∈ L := by
  intro x hx
  rw [← ht.flat] at hx
  obtain ⟨T, hT, hxT⟩ := List.mem_flatten.1 hx
  obtain ⟨q, hq, rfl⟩ := List.mem_iff_getElem.1 hT
  obtain ⟨i, hi, e⟩ := turnAt_surj up (show fr < Ts.length by omega) hq
  exact h.has i hi _ (by rw [e, List.getElem?_eq_getElem hq]) x hxT
theorem got_step {U L T : List Lo} {Ts : List (List Lo)} {st : Int} {fr : Nat} {up : Bool} {k : Nat} (h : Got U Ts st fr up k L) (hU : Univ U) (ht : TextsOk U Ts) (hT : Ts[turnAt Ts.length fr up k]? = some T) : (deliverT L (logText T)).2.2 = 0 ∧ Got U Ts st fr up (k + 1) (deliverT L (logText T)).1 := by
  have hmem : T ∈ Ts := List.mem_of_getElem? hT
  obtain ⟨s1, s2⟩ := texts_sub ht hmem
  obtain ⟨d1, d2, d3⟩ := know_deliver hU h.know s1 (by have := hU.len; omega)
  refine ⟨d1, ⟨d2, fun i hi T' hT' x hx => ?_⟩⟩
  rw [d3]
  by_cases e : i = k
  · subst e
    rw [hT] at hT'; cases hT'
    exact .inr hx
  · exact .inl (h.has i (by omega) T' hT' x hx)
theorem rpost_trans {w0 w w1 w2 : World} {b : Nat} {st : Int} {v v1 v2 : Value} {L1 L2 : List Lo} (h : RPost w0 w w1 b st v v1 L1) (g : RPost w0 w1 w2 b st v1 v2 L2) : RPost w0 w w2 b st v v2 L2 := by
  have hs := h.keeps.size
  refine ⟨g.rs, h.keeps.trans g.keeps (fun k hk hf => ?_), ?_, g.bel⟩
  · rcases hf with hf | hf
    · exact .inl hf
    · rcases h.moved with e | ⟨q, e, hq⟩
      · exact .inr (e ▸ hf)
      · rw [e] at hf; cases hf; omega
  · rcases g.moved with e | ⟨q, e, hq⟩
    · rcases h.moved with e' | ⟨q, e', hq⟩
      · exact .inl (e.trans e')
      · exact .inr ⟨q, e.trans e', hq⟩
    · exact .inr ⟨q, e, by omega⟩
theorem rpost_refl {w0 w : World} {b : Nat} {st : Int} {v : Value} {L : List Lo} (h : RS w0 w b st v L) (hb : Below w0.heap.size w0 w) : RPost w0 w w b st v v L := ⟨h, Keeps.refl _ _, .inl rfl, hb⟩
set_option maxHeartbeats 4000000 in
set_option maxRecDepth 100000 in
theorem all_any2 (b : Nat) (st : Int) (v : Value) (L U : List Lo) (Ts : List (List Lo)) (to : Option Addr) (tc fr : Nat) (up : Bool) (w0 w : World) (hR : RS w0 w b st v L) (hb : Below w0.heap.size w0 w) (hK : Know U L st) (hU : Univ U) (ht : TextsOk U Ts) (ho : w.ownsRow w0.heap.size 9 1 (.slice to Ts.length tc) Ts.length (textsV Ts)) (hf : fr < Ts.length ∨ Ts.length = 0) (hn : Ts.length ≤ 2000000) (hfr : fr ≤ 2000000) :
    Calls Tryz.prog 41 #[.pointer (some ⟨b, 0, none⟩), .slice to Ts.length tc, .int .i64 fr, .bool up] w fun e w' => e = .returned (.bool true) ∧ ∃ v' L', RPost w0 w w' b st v v' L' ∧ Know U L' st ∧ ∀ x ∈ U, x ∈ L' := by
  have HD := hide (fun L s v W (hR : RS w0 W b st v L) hb => kdeliver_any L s b st v w0 W hR hb)
  have HGS := hide (fun (L T : List Lo) k (h : Got U Ts st fr up k L) (hT : Ts[turnAt Ts.length fr up k]? = some T) => got_step h hU ht hT)
  have HP0 := hide (rpost_refl hR hb)
  have HG0 : Hid (Got U Ts st fr up 0 L) := hide ⟨hK, fun i hi => by omega⟩
  have HGO := hide (fun L (h : Got U Ts st fr up Ts.length L) => got_all h ht hf)
  have HTC := hide (fun (W : World) (h : W.ownsRow w0.heap.size 9 1 (.slice to Ts.length tc) Ts.length (textsV Ts)) i hi => text_cell h (i := i) hi)
  have HO := hide ho
  have HUP : Hid (∀ i, i < Ts.length → turnAt Ts.length fr up i < Ts.length) := hide (fun i h => turnAt_lt (by omega))
  have HKX : Hid (∀ i : Nat, up = true → ((fr : Int) + (i : Int)) % (Ts.length : Int) = ((turnAt Ts.length fr up i : Nat) : Int)) := hide (fun i h => by subst h; exact turn_upK _ _ _)
  have HKY : Hid (∀ i : Nat, i ≤ fr + Ts.length → up = false → ((fr : Int) + (Ts.length : Int) - (i : Int)) % (Ts.length : Int) = ((turnAt Ts.length fr up i : Nat) : Int)) := hide (fun i hi h => by subst h; exact turn_downK hi)
  clear hR hb hK hU ht ho
  go_enter Tryz.func41, Tryz.ntmps41
  go_wp2
  go_loopw [9] (fun j wr => ∃ i : Nat, ∃ v' : Value, ∃ L' : List Lo, i ≤ Ts.length ∧ j = .int .i64 i ∧ Hid (RPost w0 w wr b st v v' L') ∧ Hid (Got U Ts st fr up i L') ∧ Hid (wr.ownsRow w0.heap.size 9 1 (.slice to Ts.length tc) Ts.length (textsV Ts))) (fun j _ => Ts.length - (intOf j).toNat)
  case atStart => exact ⟨0, v, L, Nat.zero_le _, rfl, HP0, HG0, HO⟩
  case round =>
    obtain ⟨i, v', L', hi, rfl, HP, HG, HOr⟩ := hrel
    by_cases hlt : i < Ts.length
    · have htk := unhide HUP i hlt
      obtain ⟨g, hto, hg, hcell⟩ := unhide HTC wr (unhide HOr) _ htk
      have hgs := unhide HGS L' (Ts[turnAt Ts.length fr up i]) i (unhide HG) (List.getElem?_eq_getElem htk)
      have HDE := hide hgs.1
      have HGN := hide hgs.2
      have HDL := hide (unhide HD L' (bs (logText (Ts[turnAt Ts.length fr up i]))) v' wr (unhide HP).rs (unhide HP).bel)
      rw [sl_bs] at HDL
      have HTO := hide hto
      have kx := unhide HKX i
      have ky := unhide HKY i (by omega)
      have hpos : (0 : Int) < (Ts.length : Int) := by omega
      have hi0 : (0 : Int) ≤ i := by omega
      have hi1 : (i : Int) < Ts.length := by omega
      have htk0 : (0 : Int) ≤ (turnAt Ts.length fr up i : Nat) := by omega
      have htk1 : ((turnAt Ts.length fr up i : Nat) : Int) < Ts.length := by omega
      have hfi : (0 : Int) ≤ (fr : Int) + (i : Int) := by omega
      have hfn : (0 : Int) ≤ (fr : Int) + (Ts.length : Int) - (i : Int) := by omega
      have hN0 : ((Ts.length : Int) == 0) = false := by rw [beq_eq_false_iff_ne]; omega
      have hm0 : (0 : Int) ≤ ((fr : Int) + (i : Int)) % (Ts.length : Int) := Int.emod_nonneg _ (by omega)
      rw [hto]
      clear hto hgs
      generalize turnAt Ts.length fr up i = tk at *
      generalize Ts[tk] = T at *
      generalize deliverT L' (logText T) = dt at *
      obtain ⟨L2, n, er⟩ := dt
      simp only at HDE HGN HDL
      rw [unhide HDE] at HDL
      have HOX : Hid (∀ w2 v2, RPost w0 wr w2 b st v' v2 L2 → w2.ownsRow w0.heap.size 9 1 (.slice to Ts.length tc) Ts.length (textsV Ts)) := hide (fun w2 v2 hp => row_out (unhide HOr) (unhide HP).rs hp.keeps (by decide) (by decide))
      cases up with
      | true =>
        have kx' := kx rfl
        clear kx ky
        go_wp2_with fail
        refine (unhide HDL).mono ?_
        rintro e w2 ⟨rfl, v2, hp⟩
        have HP2 := hide (rpost_trans (unhide HP) hp)
        have HO2 := hide (unhide HOX w2 v2 hp)
        clear hp hcell
        go_wp2
        go_roundw
        case rel => exact ⟨i + 1, v2, L2, by omega, by go_num, HP2, HGN, by have h := HO2; rw [unhide HTO] at h; exact h⟩
        case measure => simp [intOf]; omega
      | false =>
        have ky' := ky rfl
        clear kx ky
        go_wp2_with fail
        refine (unhide HDL).mono ?_
        rintro e w2 ⟨rfl, v2, hp⟩
        have HP2 := hide (rpost_trans (unhide HP) hp)
        have HO2 := hide (unhide HOX w2 v2 hp)
        clear hp hcell
        go_wp2
        go_roundw
        case rel => exact ⟨i + 1, v2, L2, by omega, by go_num, HP2, HGN, by have h := HO2; rw [unhide HTO] at h; exact h⟩
        case measure => simp [intOf]; omega
    · have hil : i = Ts.length := by omega
      subst hil
      have HF := hide (unhide HGO L' (unhide HG))
      go_wp2
      go_ret
      exact ⟨rfl, v', L', unhide HP, (unhide HG).know, unhide HF⟩
end Go.Proofs.YtdcjimlhaklhfabGreatDoor

namespace Go.Proofs.YtdcjimlhaklhfabGreatDoor
open Go.RowKit
theorem three_of {ps : List RP} (h : ps.length = 3) : ∃ a b c, ps = [a, b, c] := by
  match ps, h with
  | [a, b, c], _ => exact ⟨a, b, c, rfl⟩
theorem row_cells {w : World} {base : Nat} {e : TypeId} {u : Value} {xs : List Value} {n : Nat} (h : w.ownsRow base e 1 u n xs) (hn : 0 < n) : ∃ g cap, u = .slice (some ⟨g, 0, none⟩) n cap ∧ g < w.heap.size ∧ ∀ i x, xs[i]? = some x → w.cell? ⟨g, i, none⟩ = some x := by
  obtain ⟨ao, cap, rfl, hr⟩ := row_of_owns h
  obtain ⟨g, rfl, hg, hc⟩ := hr.2 (by omega)
  exact ⟨g, cap, rfl, hg, fun i x hx => by simpa using hc i x hx⟩
theorem ptrs_kept {W0 W w1 : World} {g o1 o2 : Nat} {a b : Value} (hg : g < W0.heap.size) (hb : Below W.heap.size W w1) (h : W.cell? ⟨g, o1, none⟩ = some a ∧ W.cell? ⟨g, o2, none⟩ = some b ∧ Below W0.heap.size W0 W) : w1.cell? ⟨g, o1, none⟩ = some a ∧ w1.cell? ⟨g, o2, none⟩ = some b ∧ Below W0.heap.size W0 w1 := by
  have hlt : g < W.heap.size := by have := h.2.2.size; omega
  exact ⟨by rw [hb.cell (p := ⟨g, o1, none⟩) hlt]; exact h.1, by rw [hb.cell (p := ⟨g, o2, none⟩) hlt]; exact h.2.1, h.2.2.trans (hb.mono h.2.2.size)⟩
set_option maxHeartbeats 8000000 in
set_option maxRecDepth 100000 in
theorem gathered_any (ps : List RP) (u : Value) (U : List Lo) (Ts : List (List Lo)) (to : Option Addr) (tc : Nat) (w0 w : World) (hlen : ps.length = 3) (hT : ThreeAt w0 w U ps) (hxs : w.ownsRow w0.heap.size 27 1 u 3 (ps.map ptrR)) (ho : w.ownsRow w0.heap.size 9 1 (.slice to Ts.length tc) Ts.length (textsV Ts)) (hU : Univ U) (ht : TextsOk U Ts) (hb : Below w0.heap.size w0 w) (htab : Tab w0) (hn : Ts.length ≤ 2000000) :
    Calls Tryz.prog 23 #[u, .slice to Ts.length tc, .int .i64 U.length] w fun e w' => e = .returned (.bool true) ∧ Below w0.heap.size w0 w' := by
  obtain ⟨⟨b0, s0, v0, L0⟩, ⟨b1, s1, v1, L1⟩, ⟨b2, s2, v2, L2⟩, rfl⟩ := three_of hlen
  obtain ⟨g, xc, rfl, -, -⟩ := row_cells hxs (by omega)
  have HRC : Hid (∀ W : World, W.ownsRow w0.heap.size 27 1 (.slice (some ⟨g, 0, none⟩) 3 xc) 3 [.pointer (some ⟨b0, 0, none⟩), .pointer (some ⟨b1, 0, none⟩), .pointer (some ⟨b2, 0, none⟩)] → g < W.heap.size ∧ W.cell? ⟨g, 0, none⟩ = some (.pointer (some ⟨b0, 0, none⟩)) ∧ W.cell? ⟨g, 1, none⟩ = some (.pointer (some ⟨b1, 0, none⟩)) ∧ W.cell? ⟨g, 2, none⟩ = some (.pointer (some ⟨b2, 0, none⟩))) := by
    apply hide
    intro W h
    obtain ⟨g', xc', e, h1, h2⟩ := row_cells h (by omega)
    cases e
    exact ⟨h1, h2 0 _ rfl, h2 1 _ rfl, h2 2 _ rfl⟩
  have HT := hide hT
  have HX : Hid (w.ownsRow w0.heap.size 27 1 (.slice (some ⟨g, 0, none⟩) 3 xc) 3 [.pointer (some ⟨b0, 0, none⟩), .pointer (some ⟨b1, 0, none⟩), .pointer (some ⟨b2, 0, none⟩)]) := hide hxs
  have HO := hide ho
  have HB := hide hb
  have HA0 := hide (fun W hR hb hK ho => all_any2 b0 s0 v0 L0 U Ts to tc 0 true w0 W hR hb hK hU ht ho (by omega) hn (by omega))
  have HA1 := hide (fun W hR hb hK ho => all_any2 b1 s1 v1 L1 U Ts to tc 0 false w0 W hR hb hK hU ht ho (by omega) hn (by omega))
  have HA2 := hide (fun W hR hb hK ho => all_any2 b2 s2 v2 L2 U Ts to tc (Ts.length / 2) true w0 W hR hb hK hU ht ho (by omega) hn (by omega))
  have HKA := hide (fun L (hk : Know U L s0) h => know_all hU hk h)
  have HLK := hide (fun L bx b' sx sy vx vy W (hX : RS w0 W bx sx vx L) (hY : RS w0 W b' sy vy L) (hb : Below w0.heap.size w0 W) => like_any L bx b' sx sy vx vy W hX.rep hY.rep (tab_below htab hb))
  have HLG := hide (fun L v W (hR : RS w0 W b0 s0 v L) hb => klog_any L b0 s0 v w0 W hR hb htab)
  rw [show ((0 : Nat) : Int) = 0 from rfl] at HA0 HA1
  have hq : (Ts.length : Int).tdiv 2 = ((Ts.length / 2 : Nat) : Int) := by
    rw [Int.tdiv_eq_ediv_of_nonneg (by omega)]; norm_cast
  have HQ2 : Hid ((Ts.length : Int) / 2 = ((Ts.length / 2 : Nat) : Int)) := hide (by omega)
  have hn0 : (0 : Int) ≤ Ts.length := by omega
  clear hT hxs ho hb hU ht htab hlen
  obtain ⟨hg0, c0, c1, c2⟩ := unhide HRC _ (unhide HX)
  go_enter Tryz.func23, Tryz.ntmps23
  go_wp2_with fail
  refine (unhide HA0 _ (by exact ((unhide HT).each ⟨b0, s0, v0, L0⟩ (by simp)).1) (by exact unhide HB) (by exact ((unhide HT).each ⟨b0, s0, v0, L0⟩ (by simp)).2) (by exact unhide HO)).mono ?_
  rintro e w1 ⟨rfl, v0', L0', hp, hk0, h0⟩
  have HT1 : Hid (ThreeAt w0 w1 U [⟨b0, s0, v0', L0'⟩, ⟨b1, s1, v1, L1⟩, ⟨b2, s2, v2, L2⟩]) := hide ((unhide HT).set (i := 0) (by simp) hp hk0 (fun j hj _ => ((unhide HT).each _ (List.getElem_mem hj)).2))
  have HO1 := hide (row_out (unhide HO) ((unhide HT).each ⟨b0, s0, v0, L0⟩ (by simp)).1 hp.keeps (by decide) (by decide))
  have HX1 := hide (row_out (unhide HX) ((unhide HT).each ⟨b0, s0, v0, L0⟩ (by simp)).1 hp.keeps (by decide) (by decide))
  have HB1 := hide hp.bel
  have HK0 := hide hk0
  have H0 := hide h0
  clear hp hk0 h0 HT HO HX HB HA0 c0 c1 c2 hg0
  obtain ⟨hg0, c0, c1, c2⟩ := unhide HRC _ (unhide HX1)
  go_wp2_with fail
  refine (unhide HA1 _ (by exact ((unhide HT1).each ⟨b1, s1, v1, L1⟩ (by simp)).1) (by exact unhide HB1) (by exact ((unhide HT1).each ⟨b1, s1, v1, L1⟩ (by simp)).2) (by exact unhide HO1)).mono ?_
  rintro e w2 ⟨rfl, v1', L1', hp, hk1, h1⟩
  have HT2 : Hid (ThreeAt w0 w2 U [⟨b0, s0, v0', L0'⟩, ⟨b1, s1, v1', L1'⟩, ⟨b2, s2, v2, L2⟩]) := hide ((unhide HT1).set (i := 1) (by simp) hp hk1 (fun j hj _ => ((unhide HT1).each _ (List.getElem_mem hj)).2))
  have HO2 := hide (row_out (unhide HO1) ((unhide HT1).each ⟨b1, s1, v1, L1⟩ (by simp)).1 hp.keeps (by decide) (by decide))
  have HX2 := hide (row_out (unhide HX1) ((unhide HT1).each ⟨b1, s1, v1, L1⟩ (by simp)).1 hp.keeps (by decide) (by decide))
  have HB2 := hide hp.bel
  have e01 : L1' = L0' := know_same hk1 (unhide HK0) h1 (unhide H0)
  subst e01
  clear hp hk1 h1 HT1 HO1 HX1 HB1 HA1 c0 c1 c2 hg0
  obtain ⟨hg0, c0, c1, c2⟩ := unhide HRC _ (unhide HX2)
  go_wp2_with fail
  rw [unhide HQ2]
  refine (unhide HA2 _ (by exact ((unhide HT2).each ⟨b2, s2, v2, L2⟩ (by simp)).1) (by exact unhide HB2) (by exact ((unhide HT2).each ⟨b2, s2, v2, L2⟩ (by simp)).2) (by exact unhide HO2)).mono ?_
  rintro e w3 ⟨rfl, v2', L2', hp, hk2, h2⟩
  have HT3 : Hid (ThreeAt w0 w3 U [⟨b0, s0, v0', L1'⟩, ⟨b1, s1, v1', L1'⟩, ⟨b2, s2, v2', L2'⟩]) := hide ((unhide HT2).set (i := 2) (by simp) hp hk2 (fun j hj _ => ((unhide HT2).each _ (List.getElem_mem hj)).2))
  have HX3 := hide (row_out (unhide HX2) ((unhide HT2).each ⟨b2, s2, v2, L2⟩ (by simp)).1 hp.keeps (by decide) (by decide))
  have HB3 := hide hp.bel
  have e02 : L2' = L1' := know_same hk2 (unhide HK0) h2 (unhide H0)
  subst e02
  clear hp hk2 h2 HT2 HO2 HX2 HB2 HA2 c0 c1 c2 hg0
  obtain ⟨hg0, c0, c1, c2⟩ := unhide HRC _ (unhide HX3)
  have R0 : Hid (RS w0 w3 b0 s0 v0' L2') := hide ((unhide HT3).each ⟨b0, s0, v0', L2'⟩ (by simp)).1
  have R1 : Hid (RS w0 w3 b1 s1 v1' L2') := hide ((unhide HT3).each ⟨b1, s1, v1', L2'⟩ (by simp)).1
  have R2 : Hid (RS w0 w3 b2 s2 v2' L2') := hide ((unhide HT3).each ⟨b2, s2, v2', L2'⟩ (by simp)).1
  have hN := unhide HKA _ (unhide HK0) (unhide H0)
  have hok := (unhide R0).rep.ok
  have hlt := logText_len25 L2' hok.2.1
  have hll := hok.2.2
  have HCT := hide (fun W => kcut_any (bs (logText L2')) W (by rw [bs_size]; omega))
  rw [sl_bs, cut_log L2' hok.2.1, List.length_map, hN] at HCT
  clear hok HT3 HX3 HK0 H0 HKA HRC hlt
  have HS0 := hide (show w3.drew.cell? ⟨g, 0, none⟩ = some (.pointer (some ⟨b0, 0, none⟩)) ∧ w3.drew.cell? ⟨g, 1, none⟩ = some (.pointer (some ⟨b1, 0, none⟩)) ∧ Below w3.heap.size w3 w3.drew from ⟨c0, c1, (Below.refl _ _).drew⟩)
  have HLK1 : Hid (∀ W, Below w3.heap.size w3 W → Calls Tryz.prog 20 #[.pointer (some ⟨b0, 0, none⟩), .pointer (some ⟨b1, 0, none⟩)] W fun e w' => e = .returned (.bool true) ∧ Below W.heap.size W w') := hide (fun W hb => unhide HLK _ _ _ _ _ _ _ W ((unhide R0).below hb) ((unhide R1).below hb) ((unhide HB3).trans (hb.mono (unhide HB3).size)))
  clear c0 c1
  go_wp2_with fail
  go_region_held3 (fun W => W.cell? ⟨g, 0, none⟩ = some (.pointer (some ⟨b0, 0, none⟩)) ∧ W.cell? ⟨g, 1, none⟩ = some (.pointer (some ⟨b1, 0, none⟩)) ∧ Below w3.heap.size w3 W) (first | exact unhide HS0 | assumption) ((go_at_call 20; refine (unhide HLK1 _ (by first | exact (unhide HS0).2.2 | (rename_i h; exact h.2.2))).mono ?_; rintro e w4 ⟨rfl, hb4⟩; have hs4 := ptrs_kept hg0 hb4 (by first | assumption | exact unhide HS0)))
  obtain ⟨d0, d1, hb4'⟩ := hs4
  have HB4 := hide hb4'
  have d2 : w4.cell? ⟨g, 2, none⟩ = some (.pointer (some ⟨b2, 0, none⟩)) := by rw [hb4'.cell (p := ⟨g, 2, none⟩) hg0]; exact c2
  have hg4 : g < w4.heap.size := by have := hb4'.size; omega
  have HS4 := hide (show w4.drew.cell? ⟨g, 0, none⟩ = some (.pointer (some ⟨b0, 0, none⟩)) ∧ w4.drew.cell? ⟨g, 2, none⟩ = some (.pointer (some ⟨b2, 0, none⟩)) ∧ Below w4.heap.size w4 w4.drew from ⟨d0, d2, (Below.refl _ _).drew⟩)
  have HLK2 : Hid (∀ W, Below w4.heap.size w4 W → Calls Tryz.prog 20 #[.pointer (some ⟨b0, 0, none⟩), .pointer (some ⟨b2, 0, none⟩)] W fun e w' => e = .returned (.bool true) ∧ Below W.heap.size W w') := hide (fun W hb => unhide HLK _ _ _ _ _ _ _ W (((unhide R0).below (unhide HB4)).below hb) (((unhide R2).below (unhide HB4)).below hb) (((unhide HB3).trans ((unhide HB4).mono (unhide HB3).size)).trans (hb.mono (by have := (unhide HB3).size; have := (unhide HB4).size; omega))))
  clear d0 d1 d2 c2 hb4 hb4' HS0 HLK1
  go_wp2_with fail
  go_region_held3 (fun W => W.cell? ⟨g, 0, none⟩ = some (.pointer (some ⟨b0, 0, none⟩)) ∧ W.cell? ⟨g, 2, none⟩ = some (.pointer (some ⟨b2, 0, none⟩)) ∧ Below w4.heap.size w4 W) (first | exact unhide HS4 | assumption) ((go_at_call 20; refine (unhide HLK2 _ (by first | exact (unhide HS4).2.2 | (rename_i h; exact h.2.2))).mono ?_; rintro e w5 ⟨rfl, hb5⟩; have hs5 := ptrs_kept hg4 hb5 (by first | assumption | exact unhide HS4)))
  obtain ⟨d0, -, hb5'⟩ := hs5
  have R5 : Hid (RS w0 w5 b0 s0 v0' L2') := hide (((unhide R0).below (unhide HB4)).below hb5')
  have HB5 : Hid (Below w0.heap.size w0 w5) := hide (((unhide HB3).trans ((unhide HB4).mono (unhide HB3).size)).trans (hb5'.mono (by have := (unhide HB3).size; have := (unhide HB4).size; omega)))
  clear hb5 hb5' HS4 HLK2 HLK
  go_wp2_with fail
  refine (unhide HLG _ _ _ (by exact unhide R5) (by exact unhide HB5)).mono ?_
  rintro e w6 ⟨rfl, hb6⟩
  have HB6 := hide ((unhide HB5).trans (hb6.mono (unhide HB5).size))
  clear hb6
  go_wp2_with fail
  refine (unhide HCT _).mono ?_
  rintro e w7 ⟨ro, rc, rfl, _, hb7⟩
  have HB7 := hide ((unhide HB6).trans (hb7.mono (unhide HB6).size))
  clear hb7 d0
  go_wp2
  go_ret
  exact ⟨by simp, unhide HB7⟩
end Go.Proofs.YtdcjimlhaklhfabGreatDoor

namespace Go.Proofs.YtdcjimlhaklhfabGreatDoor
open Go.RowKit
/-- The acts, in memory. -/
def ActsU (w : World) (ao : Option Addr) (len : Nat) : Prop :=
  0 < len → ∃ b off, ao = some ⟨b, off, none⟩ ∧ b < w.heap.size ∧ ∀ i, i < len → ∃ (x y : Int) (s : ByteArray), (((-9223372036854775808 ≤ x ∧ x ≤ 9223372036854775807) ∧ -9223372036854775808 ≤ y ∧ y ≤ 9223372036854775807) ∧ s.size ≤ 1048576) ∧
    w.cell? ⟨b, off + i * 3, none⟩ = some (.int .i64 x) ∧ w.cell? ⟨b, off + i * 3 + 1, none⟩ = some (.int .i64 y) ∧ w.cell? ⟨b, off + i * 3 + 2, none⟩ = some (.string s)
theorem rpost_below {w0 w w1 w2 : World} {b : Nat} {st : Int} {v v1 : Value} {L1 : List Lo} (h : RPost w0 w w1 b st v v1 L1) (hb : Below w1.heap.size w1 w2) : RPost w0 w w2 b st v v1 L1 :=
  ⟨h.rs.below hb, h.keeps.trans (Keeps.of_below (S := fun _ => False) hb (fun k h1 h2 => by omega)) (fun _ _ hf => hf.elim), h.moved, h.bel.trans (hb.mono h.bel.size)⟩
theorem ThreeAt.set' {w0 w w' : World} {U U' : List Lo} {ps : List RP} (h : ThreeAt w0 w U ps) {i : Nat} (hi : i < ps.length) {b : Nat} {st : Int} {v : Value} {L : List Lo} (he : ps[i] = ⟨b, st, v, L⟩) {v' : Value} {L' : List Lo} (hp : RPost w0 w w' b st v v' L') (hk : Know U' L' st) (ho : ∀ j (hj : j < ps.length), j ≠ i → Know U' (ps[j]).L (ps[j]).st) :
    ThreeAt w0 w' U' (ps.set i ⟨b, st, v', L'⟩) := by
  have e1 : (ps[i]).b = b := by rw [he]
  have e2 : (ps[i]).st = st := by rw [he]
  have e3 : (ps[i]).v = v := by rw [he]
  subst e1 e2 e3
  exact h.set hi hp hk ho
theorem ptr_set' {ps : List RP} {i : Nat} (hi : i < ps.length) {b : Nat} {st : Int} {v : Value} {L : List Lo} (he : ps[i] = ⟨b, st, v, L⟩) (v' : Value) (L' : List Lo) : (ps.set i ⟨b, st, v', L'⟩).map ptrR = ps.map ptrR := by
  have e1 : (ps[i]).b = b := by rw [he]
  have e2 : (ps[i]).st = st := by rw [he]
  subst e1 e2
  exact ptr_set hi v' L'
theorem meet_made {U L : List Lo} {st : Int} {u : Tr} (hU : Univ U) (hK : Know U L st) (s1 : 1 ≤ st) (s2 : st ≤ 9) (hv : Valid u) (hlen : (U ++ (reachT L st u).1).length ≤ 150) : Univ (U ++ (reachT L st u).1) ∧ Know (U ++ (reachT L st u).1) (L ++ (reachT L st u).1) st := by
  have h := univ_made (s := textT u) hU hK s1 s2
  rw [ingest_text hv] at h
  exact h hlen
theorem meet_other {U L L' : List Lo} {st st' : Int} {u : Tr} (hK : Know U L' st') (hne : st' ≠ st) (hv : Valid u) : Know (U ++ (reachT L st u).1) L' st' :=
  know_other hK (fun x hx => by
    have h := made_site (L := L) (site := st) (s := textT u) x
    rw [ingest_text hv] at h
    rw [h hx]; exact fun e => hne e.symm)
theorem texts_push {U : List Lo} {Ts : List (List Lo)} (h : TextsOk U Ts) (M : List Lo) : TextsOk (U ++ M) (Ts ++ [M]) := ⟨by rw [List.flatten_append, h.flat]; simp⟩
theorem textsV_push (Ts : List (List Lo)) (M : List Lo) : textsV (Ts ++ [M]) = textsV Ts ++ [.string (bs (logText M))] := by simp [textsV]
theorem row_row {w w' : World} {base base' : Nat} {e e' : TypeId} {size size' n n' : Nat} {u u' : Value} {xs xs' : List Value} (h : w.ownsRow base e size u n xs) (h2 : w.ownsRow base' e' size' u' n' xs') (hk : Keeps (fun k => u'.ownBlock = some k) w w') (hne : e ≠ e') : w'.ownsRow base e size u n xs :=
  own_kept h hk (fun k h1 h3 => hne (tyAt_inj (tyAt_own h k h1) (tyAt_own h2 k h3)))
/-- Where Meet stands at the head of a round. -/
structure MeetAt (w wr : World) (U : List Lo) (Ts : List (List Lo)) (ps : List RP) (g xc : Nat) (tv : Value) : Prop where
  len : ps.length = 3
  at' : ThreeAt w wr U ps
  txt : wr.ownsRow w.heap.size 9 1 tv Ts.length (textsV Ts)
  row : wr.ownsRow w.heap.size 27 1 (.slice (some ⟨g, 0, none⟩) 3 xc) 3 (ps.map ptrR)
  univ : Univ U
  ok : TextsOk U Ts
  bel : Below w.heap.size w wr
/-- A round's end: the replica has gone on, its text is behind the others. -/
theorem MeetAt.next {w wr w1 w2 w3 : World} {U L L' : List Lo} {Ts : List (List Lo)} {ps : List RP} {g xc : Nat} {tv tv' : Value} (h : MeetAt w wr U Ts ps g xc tv) {p : Nat} (hp : p < ps.length) {b : Nat} {st : Int} {v v' : Value} (he : ps[p] = ⟨b, st, v, L⟩) {u : Tr} (hv : Valid u) (hK : Know U L' st) (hP : RPost w wr w1 b st v v' (L' ++ (reachT L' st u).1)) (hlen : U.length + (reachT L' st u).1.length ≤ 150)
    (hb2 : Below w1.heap.size w1 w2) (hb3 : Below w.heap.size w w3) (hk : Keeps (fun k => tv.ownBlock = some k) w2 w3) (hown : w3.ownsRow w.heap.size 9 1 tv' (Ts.length + 1) (textsV Ts ++ [.string (bs (logText (reachT L' st u).1))])) :
    MeetAt w w3 (U ++ (reachT L' st u).1) (Ts ++ [(reachT L' st u).1]) (ps.set p ⟨b, st, v', L' ++ (reachT L' st u).1⟩) g xc tv' := by
  have hR : RS w wr b st v L := by
    have := (h.at'.each _ (List.getElem_mem hp)).1
    rw [he] at this; exact this
  have ht2 := own_below (row_out h.txt hR hP.keeps (by decide) (by decide)) hb2
  obtain ⟨m1, m2⟩ := meet_made h.univ hK hR.s1 hR.s2 hv (by rw [List.length_append]; exact hlen)
  refine ⟨by rw [List.length_set]; exact h.len, ?_, ?_, ?_, m1, texts_push h.ok _, hb3⟩
  · have h1 := h.at'.set' hp he hP m2 (fun j hj hne => meet_other (h.at'.each _ (List.getElem_mem hj)).2 (by
      have := h.at'.sites j p hj hp hne
      rw [he] at this; exact this) hv)
    exact (h1.below hb2).row ht2 hk (by decide) (by decide)
  · rw [List.length_append, textsV_push]; exact hown
  · rw [ptr_set' hp he]
    exact row_row (own_below (row_out h.row hR hP.keeps (by decide) (by decide)) hb2) ht2 hk (by decide)
end Go.Proofs.YtdcjimlhaklhfabGreatDoor

namespace Go.Proofs.YtdcjimlhaklhfabGreatDoor
open Go.RowKit
set_option maxHeartbeats 16000000 in
set_option maxRecDepth 100000 in
theorem meet_law (site : Int) (ao : Option Addr) (len cap : Nat) (w : World) (h : I64 site) (ha : ActsU w ao len) (hlen : len ≤ 1048576) (htab : Tab w) :
    Calls Tryz.prog 6 #[.int .i64 site, .slice ao len cap] w fun e w' => e = .returned (.bool true) ∧ Below w.heap.size w w' := by
  obtain ⟨i0, hi, hz0, hz1, hz2⟩ := info_parts Tryz.infoStr
  have HTH := hide (three_any site w h)
  have HTB := hide htab
  have HA := hide ha
  clear ha htab h
  go_enter Tryz.func6, Tryz.ntmps6
  go_wp2_with fail
  refine (unhide HTH).mono ?_
  rintro e w1 ⟨u0, ps0, rfl, hps0, hT0, hX0, hb1⟩
  obtain ⟨g, xc, rfl, -, -⟩ := row_cells hX0 (by omega)
  have HM0 : Hid (MeetAt w w1 [] [] ps0 g xc (.slice none 0 0)) := hide ⟨hps0, hT0, World.ownsRow_nil _ _ _ _, hX0, univ_nil, ⟨rfl⟩, hb1⟩
  clear hps0 hT0 hX0 hb1 HTH
  go_wp2
  go_loopw [6, 7, 8] (fun tv to i wr => ∃ k : Nat, ∃ U : List Lo, ∃ Ts : List (List Lo), ∃ ps : List RP, k ≤ len ∧ i = .int .i64 k ∧ to = .int .i64 U.length ∧ Ts.length = k ∧ Hid (MeetAt w wr U Ts ps g xc tv)) (fun _ _ i _ => len - (intOf i).toNat)
  case atStart => exact ⟨0, [], [], ps0, Nat.zero_le _, rfl, rfl, rfl, HM0⟩
  case round =>
    obtain ⟨k, U, Ts, ps, hk, rfl, rfl, hTl, HM⟩ := hrel
    subst hTl
    obtain ⟨to, tc, rfl, -⟩ := row_of_owns (unhide HM).txt
    have hU150 := (unhide HM).univ.len
    by_cases hlt : Ts.length < len
    · obtain ⟨ab, aoff, hao, hab, hall⟩ := unhide HA (by omega)
      obtain ⟨who, fr, sc, ⟨⟨hwho, hfr⟩, hsc⟩, a0, a1, a2⟩ := hall Ts.length hlt
      have HAC : Hid (∀ W : World, Below w.heap.size w W → W.cell? ⟨ab, aoff + Ts.length * 3, none⟩ = some (.int .i64 who) ∧ W.cell? ⟨ab, aoff + Ts.length * 3 + 1, none⟩ = some (.int .i64 fr) ∧ W.cell? ⟨ab, aoff + Ts.length * 3 + 2, none⟩ = some (.string sc)) := hide (fun W hb => ⟨(hb.cell (p := ⟨ab, aoff + Ts.length * 3, none⟩) hab).trans a0, (hb.cell (p := ⟨ab, aoff + Ts.length * 3 + 1, none⟩) hab).trans a1, (hb.cell (p := ⟨ab, aoff + Ts.length * 3 + 2, none⟩) hab).trans a2⟩)
      subst hao
      clear hall a0 a1 a2
      have HPW := hide (fun W => kpick_any who 3 W (by omega) (by omega) hwho)
      have hp3 := pickK_lt who (show 0 < 3 by omega)
      generalize pickK who 3 = p at *
      have hpl : p < ps.length := by rw [(unhide HM).len]; exact hp3
      obtain ⟨b, st, v, L, he⟩ : ∃ b st v L, ps[p] = ⟨b, st, v, L⟩ := ⟨_, _, _, _, rfl⟩
      have HRK : Hid (RS w wr b st v L ∧ Know U L st) := by
        apply hide
        have := (unhide HM).at'.each _ (List.getElem_mem hpl)
        rw [he] at this; exact this
      have HRS := hide (unhide HRK).1
      have hcp : wr.cell? ⟨g, p, none⟩ = some (.pointer (some ⟨b, 0, none⟩)) := by
        obtain ⟨g', xc', e, -, h2⟩ := row_cells (unhide HM).row (by omega)
        cases e
        refine h2 p _ ?_
        rw [List.getElem?_map, List.getElem?_eq_getElem hpl, he]; rfl
      have HEX := hide (fun L v W (hR : RS w W b st v L) => kexport_any L b st v w W hR)
      have HLG := hide (fun L v W (hR : RS w W b st v L) hb => klog_any L b st v w W hR hb (unhide HTB))
      have HIN := hide (fun L s v W (hR : RS w W b st v L) hb => kingest_any L s b st v w W hR hb (unhide HTB))
      have hpz : (0 : Int) ≤ p := by omega
      have hpz3 : (p : Int) < 3 := by omega
      have hkz : (0 : Int) ≤ Ts.length := by omega
      have hkl : (Ts.length : Int) < len := by omega
      have hMl : (0 : Int) ≤ (U.length : Int) := by omega
      by_cases hz : Ts.length = 0
      · have HP := hide (rpost_refl (unhide HRS) (unhide HM).bel)
        have HKN := hide (unhide HRK).2
        obtain ⟨c0, c1, c2⟩ := unhide HAC wr (unhide HM).bel
        clear c1 c2
        have hd0 : decide ((0 : Int) < (Ts.length : Int)) = false := by rw [decide_eq_false_iff_not]; omega
        have hzz : ¬ 0 < Ts.length := by omega
        clear hz
        go_wp2_with fail
        refine (unhide HPW _).mono ?_
        rintro e w2 ⟨rfl, rfl⟩
        have HOK := hide (unhide HP).rs.rep.ok
        have HVV := hide (view_valid (places_ok (unhide HOK).2.1))
        have HED := hide (fun W => edited_any (viewT (places L)) (unhide HVV) sc W hsc)
        have HRF := hide (fun u C M D (hE : EdInv (viewT (places L)) u C M D) h => refuse_ok (st := st) (unhide HOK) hE h)
        have HRV := hide (fun tb C M D A e0 W h1 h2 h3 h4 => refused_any L (viewT (places L)) tb C M D A e0 W (unhide HOK) (unhide HVV) h1 h2 h3 h4)
        have HSH := hide (fun u (hu : Valid u) h => reach_shows (site := st) (unhide HOK).2.1 (g := u) hu h)
        go_wp2_with fail
        refine (unhide HEX _ _ _ (by exact (unhide HP).rs)).mono ?_
        rintro e w3 ⟨rfl, hb3⟩
        have HP3 := hide (rpost_below (unhide HP) hb3)
        clear hb3 HP
        go_wp2_with fail
        refine (unhide HLG _ _ _ (by exact (unhide HP3).rs) (by exact (unhide HP3).bel)).mono ?_
        rintro e w4 ⟨rfl, hb4⟩
        have HP4 := hide (rpost_below (unhide HP3) hb4)
        clear hb4 HP3
        obtain ⟨c0, c1, c2⟩ := unhide HAC w4 (unhide HP4).bel
        clear c0 c1
        go_wp2_with fail
        refine (unhide HED _).mono ?_
        rintro e w5 ⟨⟨u, tb, C, M, D, A, rfl, hT5, hE, hC, hM, hD⟩, hb5⟩
        have HP5 := hide (rpost_below (unhide HP4) hb5)
        have HT5 := hide hT5
        have HE := hide hE
        have HI := hide (fun W h1 h2 => unhide HIN L (bs (textT u)) v W h1 h2)
        rw [sl_bs, ingest_text hE.v] at HI
        clear hb5 hT5 hE c2 HP4 HED
        go_wp2_with fail
        refine (unhide HI _ (by exact (unhide HP5).rs) (by exact (unhide HP5).bel)).mono ?_
        rintro e w6 ⟨rfl, v6, hp6⟩
        have HT6 : Hid (TallyAt w6 tb C M D A) := by
          apply hide
          unfold TallyAt
          rw [hp6.keeps.block tb (unhide HT5).lt (fun hf => ?_)]
          · exact unhide HT5
          · exact tally_out (unhide HT5) (unhide HP5).rs hf
        have HP6 := hide (rpost_trans (unhide HP5) hp6)
        clear hp6 HI HP5 HT5
        have HNX := hide (fun w1 w2 w3 tv' v' h1 h2 h3 h4 h5 h6 => (unhide HM).next hpl he (unhide HE).v (unhide HKN) (w1 := w1) (w2 := w2) (w3 := w3) (tv' := tv') (v' := v') h1 h2 h3 h4 h5 h6)
        generalize hrt : reachT L st u = rt at *
        have HRT := hide hrt
        clear hrt
        obtain ⟨M', er⟩ := rt
        simp only at HP6 HNX ⊢
        go_wp2_with fail
        refine (unhide HEX _ _ _ (by exact (unhide HP6).rs)).mono ?_
        rintro e w7 ⟨rfl, hb7⟩
        have HP7 := hide (rpost_below (unhide HP6) hb7)
        have HT7 : Hid (TallyAt w7 tb C M D A) := by apply hide; unfold TallyAt; rw [hb7.block tb (unhide HT6).lt]; exact unhide HT6
        clear hb7 HP6 HT6
        go_wp2_with fail
        refine (unhide HRV tb C M D A er _ (by exact unhide HT7) hC hM hD).mono ?_
        rintro e w8 ⟨rfl, hb8⟩
        have HP8 := hide (rpost_below (unhide HP7) hb8)
        clear hb8 HP7 HT7
        have h150 := (unhide HP8).rs.rep.ok.2.2
        rw [List.length_append] at h150
        have hokM : ∀ x ∈ M', LoOk x := fun x hx => (unhide HP8).rs.rep.ok.2.1 x (List.mem_append_right _ hx)
        have HCT := hide (fun W => kcut_any (bs (logText M')) W (by rw [bs_size]; have := logText_len25 M' hokM; omega))
        rw [sl_bs, cut_log M' hokM, List.length_map] at HCT
        clear hokM
        have hdis : er = 0 ∨ er ≠ 0 := by omega
        rcases hdis with rfl | her2
        · have HS : Hid (viewT (places (L ++ M')) = u) := by
            apply hide
            have := unhide HSH u (unhide HE).v (by rw [unhide HRT])
            rw [unhide HRT] at this; exact this
          rw [unhide HS]
          have y1 := str_ne (textT u)
          clear HRF HSH
          go_wp2_with fail
          refine (unhide HCT _).mono ?_
          rintro e w9 ⟨ro, rc, rfl, _, hb9⟩
          have HP9 := hide (rpost_below (unhide HP8) hb9)
          clear hb9 HP8 HCT
          by_cases htot : U.length + M'.length ≤ 150
          · have hd : decide ((150 : Int) < (U.length : Int) + (M'.length : Int)) = false := by rw [decide_eq_false_iff_not]; omega
            have hd1 : ¬ 150 < U.length + M'.length := by omega
            have hs9 := (unhide HP9).bel.size
            have HO9 := hide (row_out (unhide HM).txt (unhide HRS) (unhide HP9).keeps (by decide) (by decide))
            go_wp2_with (first
              | (at_builtin; (refine wpList_append_own _ rfl _ _ 42 rfl w.heap.size 9 i0 (.string ByteArray.empty) 1 16 Tryz.underlying42 hi hz0 hz1 hz2 rfl (by decide) _ _ _ rfl (own_below (unhide HO9) ((Below.refl _ _).alloc (Nat.le_refl _) _)) ⟨w9.heap.size, 0, none⟩ 1 1 [.string (bs (logText M'))] rfl rfl (news_one _ _) (by simp [Value.oneCell']) (by unfold maxLen; omega) (by omega) (by simp; omega) ?_))
              | go_in)
            intro v' w10 hown' hgrow _
            have hb10 := (Below.refl w9.heap.size w9).alloc (Nat.le_refl _) (.cells #[.string (bs (logText M'))] 9)
            have HB10 : Hid (Below w.heap.size w w10) := hide (((unhide HP9).bel.trans (hb10.mono hs9)).grown hgrow (by simp; omega) (own_ge (unhide HO9)))
            have HN := hide (unhide HNX w9 _ w10 v' v6 (unhide HP9) htot hb10 (unhide HB10) (Keeps.of_grown hgrow) hown')
            clear hgrow hown' hb10
            go_wp2
            go_roundw
            case rel => exact ⟨Ts.length + 1, U ++ M', Ts ++ [M'], _, by omega, by go_num, by rw [List.length_append]; go_num, by rw [List.length_append]; rfl, HN⟩
            case measure => simp [intOf]; omega
          · have hd : decide ((150 : Int) < (U.length : Int) + (M'.length : Int)) = true := by rw [decide_eq_true_iff]; omega
            have hd1 : 150 < U.length + M'.length := by omega
            go_wp2
            go_ret
            exact ⟨rfl, (unhide HP9).bel⟩
        · have hne : (reachT L st u).2 ≠ 0 := by rw [unhide HRT]; exact her2
          have hM0 : M' = [] := by have := reach_none hne; rw [unhide HRT] at this; exact this
          have HRR := hide (unhide HRF u C M D (unhide HE) hne)
          rw [unhide HRT] at HRR
          simp only at HRR
          rw [unhide HRR]
          have HS : Hid (L ++ M' = L) := hide (by rw [hM0, List.append_nil])
          have y1 := str_ne (textT (viewT (places L)))
          have k1 : (er == 0) = false := by rw [beq_eq_false_iff_ne]; exact her2
          have k2 : (er != 0) = true := by rw [bne_iff_ne]; exact her2
          rw [unhide HS]
          clear HRF HSH hne her2 hM0
          go_wp2_with fail
          refine (unhide HCT _).mono ?_
          rintro e w9 ⟨ro, rc, rfl, _, hb9⟩
          have HP9 := hide (rpost_below (unhide HP8) hb9)
          clear hb9 HP8 HCT k1 k2
          by_cases htot : U.length + M'.length ≤ 150
          · have hd : decide ((150 : Int) < (U.length : Int) + (M'.length : Int)) = false := by rw [decide_eq_false_iff_not]; omega
            have hd1 : ¬ 150 < U.length + M'.length := by omega
            have hs9 := (unhide HP9).bel.size
            have HO9 := hide (row_out (unhide HM).txt (unhide HRS) (unhide HP9).keeps (by decide) (by decide))
            go_wp2_with (first
              | (at_builtin; (refine wpList_append_own _ rfl _ _ 42 rfl w.heap.size 9 i0 (.string ByteArray.empty) 1 16 Tryz.underlying42 hi hz0 hz1 hz2 rfl (by decide) _ _ _ rfl (own_below (unhide HO9) ((Below.refl _ _).alloc (Nat.le_refl _) _)) ⟨w9.heap.size, 0, none⟩ 1 1 [.string (bs (logText M'))] rfl rfl (news_one _ _) (by simp [Value.oneCell']) (by unfold maxLen; omega) (by omega) (by simp; omega) ?_))
              | go_in)
            intro v' w10 hown' hgrow _
            have hb10 := (Below.refl w9.heap.size w9).alloc (Nat.le_refl _) (.cells #[.string (bs (logText M'))] 9)
            have HB10 : Hid (Below w.heap.size w w10) := hide (((unhide HP9).bel.trans (hb10.mono hs9)).grown hgrow (by simp; omega) (own_ge (unhide HO9)))
            have HN := hide (unhide HNX w9 _ w10 v' v6 (unhide HP9) htot hb10 (unhide HB10) (Keeps.of_grown hgrow) hown')
            clear hgrow hown' hb10
            go_wp2
            go_roundw
            case rel => exact ⟨Ts.length + 1, U ++ M', Ts ++ [M'], _, by omega, by go_num, by rw [List.length_append]; go_num, by rw [List.length_append]; rfl, HN⟩
            case measure => simp [intOf]; omega
          · have hd : decide ((150 : Int) < (U.length : Int) + (M'.length : Int)) = true := by rw [decide_eq_true_iff]; omega
            have hd1 : 150 < U.length + M'.length := by omega
            go_wp2
            go_ret
            exact ⟨rfl, (unhide HP9).bel⟩
      · have hd0 : decide ((0 : Int) < (Ts.length : Int)) = true := by rw [decide_eq_true_iff]; omega
        have hzz : 0 < Ts.length := by omega
        clear hz
        have HPF := hide (fun W => kpick_any fr Ts.length W (by omega) (by omega) hfr)
        have hq3 := pickK_lt fr (show 0 < Ts.length by omega)
        generalize pickK fr Ts.length = q at *
        obtain ⟨gt, hto, -, ct⟩ := text_cell (unhide HM).txt hq3
        have HTQ : Hid (∀ T, T = Ts[q] → (deliverT L (logText T)).2.2 = 0 ∧ Know U (deliverT L (logText T)).1 st) := by
          apply hide
          rintro T rfl
          obtain ⟨s1, s2⟩ := texts_sub (unhide HM).ok (List.getElem_mem hq3)
          obtain ⟨d1, d2, _⟩ := know_deliver (unhide HM).univ (unhide HRK).2 s1 (by omega)
          exact ⟨d1, d2⟩
        have HTE := hide (unhide HTQ _ rfl)
        clear HTQ
        have HDL := hide (fun W (hR : RS w W b st v L) hb => kdeliver_any L (bs (logText (Ts[q]))) b st v w W hR hb)
        rw [sl_bs] at HDL
        subst hto
        generalize Ts[q] = T at *
        generalize deliverT L (logText T) = dt at *
        obtain ⟨L2, n2, er2⟩ := dt
        obtain ⟨hee, hkn⟩ := unhide HTE
        have HKN := hide hkn
        simp only at hee HKN HDL
        subst hee
        clear hkn HTE
        obtain ⟨c0, c1, c2⟩ := unhide HAC wr (unhide HM).bel
        clear c2
        have hqz : (0 : Int) ≤ q := by omega
        have hql : (q : Int) < Ts.length := by omega
        go_wp2_with fail
        refine (unhide HPW _).mono ?_
        rintro e w2 ⟨rfl, rfl⟩
        go_wp2_with fail
        refine (unhide HPF _).mono ?_
        rintro e w2' ⟨rfl, rfl⟩
        go_wp2_with fail
        refine (unhide HDL _ (by exact unhide HRS) (by exact (unhide HM).bel)).mono ?_
        rintro e w2 ⟨rfl, v2, hp2⟩
        have HP := hide hp2
        clear hp2 c0 c1 ct HPF HDL
        have HOK := hide (unhide HP).rs.rep.ok
        have HVV := hide (view_valid (places_ok (unhide HOK).2.1))
        have HED := hide (fun W => edited_any (viewT (places L2)) (unhide HVV) sc W hsc)
        have HRF := hide (fun u C M D (hE : EdInv (viewT (places L2)) u C M D) h => refuse_ok (st := st) (unhide HOK) hE h)
        have HRV := hide (fun tb C M D A e0 W h1 h2 h3 h4 => refused_any L2 (viewT (places L2)) tb C M D A e0 W (unhide HOK) (unhide HVV) h1 h2 h3 h4)
        have HSH := hide (fun u (hu : Valid u) h => reach_shows (site := st) (unhide HOK).2.1 (g := u) hu h)
        go_wp2_with fail
        refine (unhide HEX _ _ _ (by exact (unhide HP).rs)).mono ?_
        rintro e w3 ⟨rfl, hb3⟩
        have HP3 := hide (rpost_below (unhide HP) hb3)
        clear hb3 HP
        go_wp2_with fail
        refine (unhide HLG _ _ _ (by exact (unhide HP3).rs) (by exact (unhide HP3).bel)).mono ?_
        rintro e w4 ⟨rfl, hb4⟩
        have HP4 := hide (rpost_below (unhide HP3) hb4)
        clear hb4 HP3
        obtain ⟨c0, c1, c2⟩ := unhide HAC w4 (unhide HP4).bel
        clear c0 c1
        go_wp2_with fail
        refine (unhide HED _).mono ?_
        rintro e w5 ⟨⟨u, tb, C, M, D, A, rfl, hT5, hE, hC, hM, hD⟩, hb5⟩
        have HP5 := hide (rpost_below (unhide HP4) hb5)
        have HT5 := hide hT5
        have HE := hide hE
        have HI := hide (fun W h1 h2 => unhide HIN L2 (bs (textT u)) v2 W h1 h2)
        rw [sl_bs, ingest_text hE.v] at HI
        clear hb5 hT5 hE c2 HP4 HED
        go_wp2_with fail
        refine (unhide HI _ (by exact (unhide HP5).rs) (by exact (unhide HP5).bel)).mono ?_
        rintro e w6 ⟨rfl, v6, hp6⟩
        have HT6 : Hid (TallyAt w6 tb C M D A) := by
          apply hide
          unfold TallyAt
          rw [hp6.keeps.block tb (unhide HT5).lt (fun hf => ?_)]
          · exact unhide HT5
          · exact tally_out (unhide HT5) (unhide HP5).rs hf
        have HP6 := hide (rpost_trans (unhide HP5) hp6)
        clear hp6 HI HP5 HT5
        have HNX := hide (fun w1 w2 w3 tv' v' h1 h2 h3 h4 h5 h6 => (unhide HM).next hpl he (unhide HE).v (unhide HKN) (w1 := w1) (w2 := w2) (w3 := w3) (tv' := tv') (v' := v') h1 h2 h3 h4 h5 h6)
        generalize hrt : reachT L2 st u = rt at *
        have HRT := hide hrt
        clear hrt
        obtain ⟨M', er⟩ := rt
        simp only at HP6 HNX ⊢
        go_wp2_with fail
        refine (unhide HEX _ _ _ (by exact (unhide HP6).rs)).mono ?_
        rintro e w7 ⟨rfl, hb7⟩
        have HP7 := hide (rpost_below (unhide HP6) hb7)
        have HT7 : Hid (TallyAt w7 tb C M D A) := by apply hide; unfold TallyAt; rw [hb7.block tb (unhide HT6).lt]; exact unhide HT6
        clear hb7 HP6 HT6
        go_wp2_with fail
        refine (unhide HRV tb C M D A er _ (by exact unhide HT7) hC hM hD).mono ?_
        rintro e w8 ⟨rfl, hb8⟩
        have HP8 := hide (rpost_below (unhide HP7) hb8)
        clear hb8 HP7 HT7
        have h150 := (unhide HP8).rs.rep.ok.2.2
        rw [List.length_append] at h150
        have hokM : ∀ x ∈ M', LoOk x := fun x hx => (unhide HP8).rs.rep.ok.2.1 x (List.mem_append_right _ hx)
        have HCT := hide (fun W => kcut_any (bs (logText M')) W (by rw [bs_size]; have := logText_len25 M' hokM; omega))
        rw [sl_bs, cut_log M' hokM, List.length_map] at HCT
        clear hokM
        have hdis : er = 0 ∨ er ≠ 0 := by omega
        rcases hdis with rfl | her2
        · have HS : Hid (viewT (places (L2 ++ M')) = u) := by
            apply hide
            have := unhide HSH u (unhide HE).v (by rw [unhide HRT])
            rw [unhide HRT] at this; exact this
          rw [unhide HS]
          have y1 := str_ne (textT u)
          clear HRF HSH
          go_wp2_with fail
          refine (unhide HCT _).mono ?_
          rintro e w9 ⟨ro, rc, rfl, _, hb9⟩
          have HP9 := hide (rpost_below (unhide HP8) hb9)
          clear hb9 HP8 HCT
          by_cases htot : U.length + M'.length ≤ 150
          · have hd : decide ((150 : Int) < (U.length : Int) + (M'.length : Int)) = false := by rw [decide_eq_false_iff_not]; omega
            have hd1 : ¬ 150 < U.length + M'.length := by omega
            have hs9 := (unhide HP9).bel.size
            have HO9 := hide (row_out (unhide HM).txt (unhide HRS) (unhide HP9).keeps (by decide) (by decide))
            go_wp2_with (first
              | (at_builtin; (refine wpList_append_own _ rfl _ _ 42 rfl w.heap.size 9 i0 (.string ByteArray.empty) 1 16 Tryz.underlying42 hi hz0 hz1 hz2 rfl (by decide) _ _ _ rfl (own_below (unhide HO9) ((Below.refl _ _).alloc (Nat.le_refl _) _)) ⟨w9.heap.size, 0, none⟩ 1 1 [.string (bs (logText M'))] rfl rfl (news_one _ _) (by simp [Value.oneCell']) (by unfold maxLen; omega) (by omega) (by simp; omega) ?_))
              | go_in)
            intro v' w10 hown' hgrow _
            have hb10 := (Below.refl w9.heap.size w9).alloc (Nat.le_refl _) (.cells #[.string (bs (logText M'))] 9)
            have HB10 : Hid (Below w.heap.size w w10) := hide (((unhide HP9).bel.trans (hb10.mono hs9)).grown hgrow (by simp; omega) (own_ge (unhide HO9)))
            have HN := hide (unhide HNX w9 _ w10 v' v6 (unhide HP9) htot hb10 (unhide HB10) (Keeps.of_grown hgrow) hown')
            clear hgrow hown' hb10
            go_wp2
            go_roundw
            case rel => exact ⟨Ts.length + 1, U ++ M', Ts ++ [M'], _, by omega, by go_num, by rw [List.length_append]; go_num, by rw [List.length_append]; rfl, HN⟩
            case measure => simp [intOf]; omega
          · have hd : decide ((150 : Int) < (U.length : Int) + (M'.length : Int)) = true := by rw [decide_eq_true_iff]; omega
            have hd1 : 150 < U.length + M'.length := by omega
            go_wp2
            go_ret
            exact ⟨rfl, (unhide HP9).bel⟩
        · have hne : (reachT L2 st u).2 ≠ 0 := by rw [unhide HRT]; exact her2
          have hM0 : M' = [] := by have := reach_none hne; rw [unhide HRT] at this; exact this
          have HRR := hide (unhide HRF u C M D (unhide HE) hne)
          rw [unhide HRT] at HRR
          simp only at HRR
          rw [unhide HRR]
          have HS : Hid (L2 ++ M' = L2) := hide (by rw [hM0, List.append_nil])
          have y1 := str_ne (textT (viewT (places L2)))
          have k1 : (er == 0) = false := by rw [beq_eq_false_iff_ne]; exact her2
          have k2 : (er != 0) = true := by rw [bne_iff_ne]; exact her2
          rw [unhide HS]
          clear HRF HSH hne her2 hM0
          go_wp2_with fail
          refine (unhide HCT _).mono ?_
          rintro e w9 ⟨ro, rc, rfl, _, hb9⟩
          have HP9 := hide (rpost_below (unhide HP8) hb9)
          clear hb9 HP8 HCT k1 k2
          by_cases htot : U.length + M'.length ≤ 150
          · have hd : decide ((150 : Int) < (U.length : Int) + (M'.length : Int)) = false := by rw [decide_eq_false_iff_not]; omega
            have hd1 : ¬ 150 < U.length + M'.length := by omega
            have hs9 := (unhide HP9).bel.size
            have HO9 := hide (row_out (unhide HM).txt (unhide HRS) (unhide HP9).keeps (by decide) (by decide))
            go_wp2_with (first
              | (at_builtin; (refine wpList_append_own _ rfl _ _ 42 rfl w.heap.size 9 i0 (.string ByteArray.empty) 1 16 Tryz.underlying42 hi hz0 hz1 hz2 rfl (by decide) _ _ _ rfl (own_below (unhide HO9) ((Below.refl _ _).alloc (Nat.le_refl _) _)) ⟨w9.heap.size, 0, none⟩ 1 1 [.string (bs (logText M'))] rfl rfl (news_one _ _) (by simp [Value.oneCell']) (by unfold maxLen; omega) (by omega) (by simp; omega) ?_))
              | go_in)
            intro v' w10 hown' hgrow _
            have hb10 := (Below.refl w9.heap.size w9).alloc (Nat.le_refl _) (.cells #[.string (bs (logText M'))] 9)
            have HB10 : Hid (Below w.heap.size w w10) := hide (((unhide HP9).bel.trans (hb10.mono hs9)).grown hgrow (by simp; omega) (own_ge (unhide HO9)))
            have HN := hide (unhide HNX w9 _ w10 v' v6 (unhide HP9) htot hb10 (unhide HB10) (Keeps.of_grown hgrow) hown')
            clear hgrow hown' hb10
            go_wp2
            go_roundw
            case rel => exact ⟨Ts.length + 1, U ++ M', Ts ++ [M'], _, by omega, by go_num, by rw [List.length_append]; go_num, by rw [List.length_append]; rfl, HN⟩
            case measure => simp [intOf]; omega
          · have hd : decide ((150 : Int) < (U.length : Int) + (M'.length : Int)) = true := by rw [decide_eq_true_iff]; omega
            have hd1 : 150 < U.length + M'.length := by omega
            go_wp2
            go_ret
            exact ⟨rfl, (unhide HP9).bel⟩
    · have hkl : decide ((Ts.length : Int) < (len : Int)) = false := by rw [decide_eq_false_iff_not]; omega
      have HGA := hide (gathered_any ps (.slice (some ⟨g, 0, none⟩) 3 xc) U Ts to tc w wr (unhide HM).len (unhide HM).at' (unhide HM).row (unhide HM).txt (unhide HM).univ (unhide HM).ok (unhide HM).bel (unhide HTB) (by omega))
      go_wp2_with fail
      refine (unhide HGA).mono ?_
      rintro e w2 ⟨rfl, hb2⟩
      have HB2 := hide hb2
      clear hb2
      go_wp2
      go_ret
      exact ⟨rfl, unhide HB2⟩
end Go.Proofs.YtdcjimlhaklhfabGreatDoor
