import Derived.Test.YtdcjimlhaklhfabGreatDoorHi8
import Derived.Deep.RegionLaw
import Derived.Deep.AppendLies
import Derived.Test.YtdcjimlhaklhfabGreatDoorHi5
import Derived.Test.YtdcjimlhaklhfabGreatDoorHi3
import Derived.Test.YtdcjimlhaklhfabGreatDoorHi4
import Derived.Test.YtdcjimlhaklhfabGreatDoorHi7
import Derived.Deep.RegionWith
import Derived.Deep.Cut
import Derived.Shelf.Strconv.Itoa0
import Derived.Shelf.Strconv.Itoa1
import Derived.Shelf.LaysM
import Derived.Shelf.Strconv.Itoa2
import Derived.Shelf.Strconv.Itoa3
import Derived.Lib.AppendIntMem
import Derived.Test.YtdcjimlhaklhfabGreatDoorHi2
namespace Go.Proofs.YtdcjimlhaklhfabGreatDoor
open Go.RowKit
attribute [local go_sem ↓] Go.wp_at_zero Go.wp_at_succ
theorem add_t126 (a : Str) (ha : a.length ≤ 1000000) (W : World) : (Op.stringOp .add (bs a) ⟨#[126]⟩).run Tryz.prog W = .ok (.string (bs (a ++ [126]))) W := add_bs a [126] ha (by simp) W
theorem clash_none {l : List Nd} {x : Nd} {k : Nat} (h : ∀ j (hj : j < l.length), j < k → clashB x l[j] = false) (hk : ¬ k < l.length) : shownR l x = x.name := by
  unfold shownR; rw [if_neg]
  rw [List.any_eq_true]
  rintro ⟨y, hy, hc⟩
  obtain ⟨j, hj, rfl⟩ := List.mem_iff_getElem.1 hy
  rw [h j hj (by omega)] at hc; cases hc
theorem clash_yes {l : List Nd} {x : Nd} {k : Nat} (hk : k < l.length) (h : clashB x l[k] = true) : shownR l x = x.name ++ 126 :: digs x.id := by
  unfold shownR; rw [if_pos]
  rw [List.any_eq_true]; exact ⟨l[k], List.getElem_mem hk, h⟩
set_option maxHeartbeats 4000000 in
set_option maxRecDepth 100000 in
theorem rshown_any (l : List Nd) (x : Nd) (ao : Option Addr) (cap : Nat) (w : World) (hrow : Row w ao l.length 3 (ndCells l)) (hl : l.length ≤ 1000) (hx0 : 0 ≤ x.id) (hx1 : x.id ≤ 99) (hxn : x.name.length ≤ 4000) :
    Calls Tryz.prog 85 #[.slice ao l.length cap, .agg #[.int .i64 x.id, .int .i64 x.parent, .string (bs x.name)]] w fun e w' => e = .returned (.string (bs (shownR l x))) ∧ Below w.heap.size w w' := by
  obtain ⟨w0, hw0⟩ : ∃ w0, w.alloc (Obj.cells #[.int .i64 x.id, .int .i64 x.parent, .string (bs x.name)] 144) = w0 := ⟨_, rfl⟩
  have hbw : Below w.heap.size w w0 := by rw [← hw0]; exact (Below.refl _ _).alloc (Nat.le_refl _) _
  have HBW := hide hbw
  have HROW := hide (hrow.below hbw)
  have hlt0 : w.heap.size < w0.heap.size := by rw [← hw0]; simp
  have HX : Hid (w0.cell? ⟨w.heap.size, 0, none⟩ = some (.int .i64 x.id) ∧ w0.cell? ⟨w.heap.size, 1, none⟩ = some (.int .i64 x.parent) ∧ w0.cell? ⟨w.heap.size, 2, none⟩ = some (.string (bs x.name))) := by
    apply hide; rw [← hw0]
    exact ⟨news_three _ _ _ _ 0 _ rfl, news_three _ _ _ _ 1 _ rfl, news_three _ _ _ _ 2 _ rfl⟩
  clear hrow hbw
  have hdl := digs_len x.id
  have HDI := hide (fun W => digits_digs x.id W hx0 hx1)
  go_enter Tryz.func85, Tryz.ntmps85
  go_wp2
  try rw [hw0]
  clear hw0
  go_loopw [5] (fun i wr => ∃ k : Nat, k ≤ l.length ∧ i = .int .i64 k ∧ Below w0.heap.size w0 wr ∧ Hid (∀ j (hj : j < l.length), j < k → clashB x l[j] = false)) (fun i _ => l.length - (intOf i).toNat)
  case atStart => exact ⟨0, Nat.zero_le _, rfl, Below.refl _ _, hide (fun j hj h => by omega)⟩
  case round =>
    obtain ⟨k, hk, rfl, hbel, HN⟩ := hrel
    obtain ⟨hc, _⟩ := bcell hbel
    have x0 := (hc _ 0 hlt0).trans (unhide HX).1
    have x1 := (hc _ 1 hlt0).trans (unhide HX).2.1
    have x2 := (hc _ 2 hlt0).trans (unhide HX).2.2
    clear hc
    by_cases hlt : k < l.length
    · obtain ⟨g, hao, hg, c0, c1, c2⟩ := nd_cells (unhide HROW) hbel hlt
      rw [hao]
      clear hao
      have hk0 : (0 : Int) ≤ k := by omega
      have hk1 : (k : Int) < l.length := by omega
      have hsz := hbel.size
      have HCB : Hid (clashB x l[k] = ((l[k]).parent == x.parent && ((l[k]).name == x.name && decide ((l[k]).id < x.id)))) := hide rfl
      have HNX : Hid (clashB x l[k] = false → ∀ j (hj : j < l.length), j < k + 1 → clashB x l[j] = false) := by
        apply hide; intro hh j hj hjk
        by_cases e : j = k
        · subst e; exact hh
        · exact unhide HN j hj (by omega)
      have HYS := hide (@clash_yes l x k hlt)
      generalize l[k] = y at *
      have hne := names_eq y.name x.name
      cases h0 : (y.parent == x.parent)
      · have HF := hide (unhide HNX (by rw [unhide HCB, h0]; rfl))
        clear hne
        go_wp2
        go_quiet (fail)
        go_wp2
        go_roundw
        case rel => exact ⟨k + 1, by omega, by go_num, below_drewN hbel _, HF⟩
        case measure => simp [intOf]; omega
      · cases h1 : (y.name == x.name)
        · have HF := hide (unhide HNX (by rw [unhide HCB, h0, h1]; rfl))
          rw [h1] at hne
          clear h1
          go_wp2
          go_quiet (fail)
          go_wp2
          go_roundw
          case rel => exact ⟨k + 1, by omega, by go_num, below_drewN hbel _, HF⟩
          case measure => simp [intOf]; omega
        · rw [h1] at hne
          cases h2 : decide (y.id < x.id)
          · have HF := hide (unhide HNX (by rw [unhide HCB, h0, h1, h2]; rfl))
            clear h1
            go_wp2
            go_quiet (fail)
            go_wp2
            go_roundw
            case rel => exact ⟨k + 1, by omega, by go_num, below_drewN hbel _, HF⟩
            case measure => simp [intOf]; omega
          · have HF := hide (unhide HYS (by rw [unhide HCB, h0, h1, h2]; rfl))
            clear h1
            generalize digs x.id = d at *
            have a1 := add_t126 x.name (by omega)
            have a2 := add_bs (x.name ++ [126]) d (by simp; omega) (by omega)
            have HE : Hid (x.name ++ [126] ++ d = x.name ++ 126 :: d) := hide (by simp)
            generalize x.name ++ [126] ++ d = r2 at *
            generalize x.name ++ [126] = r1 at *
            go_wp2
            go_quiet (fail)
            go_wp2
            go_region_with (go_at_call 81; refine (unhide HDI _).mono ?_; rintro e w2 ⟨rfl, hb2⟩; have hb3 := (below_drewN hbel _).trans (hb2.mono (show w0.heap.size ≤ wr.heap.size from hsz)); obtain ⟨hc3, _⟩ := bcell hb3; have z2 := (hc3 _ 2 hlt0).trans (unhide HX).2.2; have HB3 := hide hb3; clear hb2 hb3 hc3)
            all_goals
              go_wp2
              go_ret
              exact ⟨ret_str (by rw [unhide HF, ← unhide HE]), (unhide HBW).trans ((unhide HB3).mono (by omega))⟩
    · have HF := hide (clash_none (unhide HN) hlt)
      go_wp2
      go_ret
      exact ⟨ret_str (by rw [unhide HF]), (unhide HBW).trans (hbel.mono (by omega))⟩
theorem row_of' {w : World} {base : Nat} {e : TypeId} {size : Nat} {fo : Option Addr} {n cap : Nat} {xs : List Value} (h : w.ownsRow base e size (.slice fo n cap) n xs) : Row w fo n size xs := by
  obtain ⟨ao, c, e', hr⟩ := row_of_owns h
  cases e'; exact hr
theorem viewL_take (l : List Nd) (k : Nat) (h : k < l.length) : (l.take (k + 1)).map (fun n => (⟨n.id, n.parent, shownR l n⟩ : Nd)) = (l.take k).map (fun n => (⟨n.id, n.parent, shownR l n⟩ : Nd)) ++ [⟨(l[k]).id, (l[k]).parent, shownR l l[k]⟩] := by
  rw [List.take_succ_eq_append_getElem h, List.map_append]; rfl
theorem seenR_sub (ns : List Nd) : ∀ n ∈ seenR ns, n ∈ ns := fun _ hn => (List.mem_filter.1 hn).1
theorem seenR_len (ns : List Nd) : (seenR ns).length ≤ ns.length := List.length_filter_le _ _
set_option maxHeartbeats 4000000 in
set_option maxRecDepth 100000 in
theorem rview_any (L : List Lo) (ao : Option Addr) (cap : Nat) (w : World) (hrow : Row w ao L.length 5 (loCells L)) (hx : ∀ x ∈ L, LoOk x) (hl : L.length ≤ 1000) :
    Calls Tryz.prog 48 #[.slice ao L.length cap] w fun e w' => ∃ fo cf, e = .returned (.slice fo (viewR L).length cf) ∧ Row w' fo (viewR L).length 3 (ndCells (viewR L)) ∧ Below w.heap.size w w' := by
  obtain ⟨i0, hi, hz0, hz1, hz2⟩ := info_parts Tryz.infoRNode
  have HPL := hide (rplaces_any L ao cap w hrow hl)
  have HOK : Hid (∀ n ∈ placesR L, NdW n) := hide (repW_places hx).ok
  have hpl := placesR_len L
  have HV : Hid (viewR L = viewL (seenR (placesR L))) := hide rfl
  clear hrow hx
  have HSE := hide (fun fo cf W (h : Row W fo (placesR L).length 3 (ndCells (placesR L))) => rseen_any (placesR L) fo cf W h (by omega))
  have hsl := seenR_len (placesR L)
  have HOS : Hid (∀ n ∈ seenR (placesR L), NdW n) := hide (fun n hn => unhide HOK n (seenR_sub _ n hn))
  have hsm : (seenR (placesR L)).length ≤ 1000 := by omega
  clear HOK hsl hpl
  generalize seenR (placesR L) = sn at *
  generalize placesR L = pl at *
  generalize viewR L = vr at *
  go_enter Tryz.func48, Tryz.ntmps48
  go_wp2_with fail
  refine (unhide HPL).mono ?_
  rintro e w1 ⟨fo1, cf1, rfl, hr1, hb1⟩
  have HR1 := hide hr1
  have HB1 := hide hb1
  clear hr1 hb1
  go_wp2_with fail
  refine (unhide HSE _ _ _ (by exact unhide HR1)).mono ?_
  rintro e w2 ⟨fo2, cf2, rfl, hr2, hb2⟩
  have HR2 := hide hr2
  have HB2 := hide ((unhide HB1).trans (hb2.mono (unhide HB1).size))
  clear hr2 hb2
  go_wp2
  go_loopw [5, 6] (fun v i wr => ∃ k : Nat, k ≤ sn.length ∧ i = .int .i64 k ∧ wr.ownsRow w2.heap.size 144 3 v k (ndCells ((sn.take k).map (fun n => (⟨n.id, n.parent, shownR sn n⟩ : Nd)))) ∧ Below w2.heap.size w2 wr) (fun _ i _ => sn.length - (intOf i).toNat)
  case atStart => exact ⟨0, Nat.zero_le _, rfl, by simpa [ndCells] using World.ownsRow_nil w2 w2.heap.size 144 3, Below.refl _ _⟩
  case round =>
    obtain ⟨k, hk, rfl, hown, hbel⟩ := hrel
    obtain ⟨vo, vc, rfl, _⟩ := row_of_owns hown
    by_cases hlt : k < sn.length
    · have HROWr := hide ((unhide HR2).below hbel)
      obtain ⟨g, hao, hg, c0, c1, c2⟩ := nd_cells (unhide HR2) hbel hlt
      have HST := hide (viewL_take sn k hlt)
      have hw := unhide HOS _ (List.getElem_mem hlt)
      have hnl := ndW_name hw
      have hw1 := hw.1
      have hw2 := hw.2.1
      have HSH := hide (fun W (h : Row W fo2 sn.length 3 (ndCells sn)) => rshown_any sn sn[k] fo2 cf2 W h hsm (by omega) hw2 (by omega))
      have hk0 : (0 : Int) ≤ k := by omega
      have hk1 : (k : Int) < sn.length := by omega
      have hsz := hbel.size
      rw [hao] at HSH HROWr ⊢
      clear hao hw
      generalize sn[k] = nd at *
      generalize shownR sn nd = sh at *
      go_wp2_with fail
      refine (unhide HSH _ (by exact unhide HROWr)).mono ?_
      rintro e w3 ⟨rfl, hb3⟩
      have hgr : g < wr.heap.size := by omega
      have d0 := (hb3.cell (p := ⟨g, _, none⟩) hgr).trans c0
      have d1 := (hb3.cell (p := ⟨g, _, none⟩) hgr).trans c1
      have hg3 : g < w3.heap.size := Nat.lt_of_lt_of_le hgr hb3.size
      have hg4 : ¬ g = w3.heap.size := Nat.ne_of_lt hg3
      have HB3 := hide (hbel.trans (hb3.mono hsz))
      have HOWN3 : Hid ((World.drew (w3.alloc (.cells #[.int .i64 nd.id, .int .i64 nd.parent, .string (bs sh)] 144))).ownsRow w2.heap.size 144 3 (.slice vo k vc) k (ndCells ((sn.take k).map (fun n => (⟨n.id, n.parent, shownR sn n⟩ : Nd))))) := hide (own_below hown (hb3.trans (((Below.refl w3.heap.size w3).alloc (Nat.le_refl _) _).drew.mono hb3.size)))
      have HOG := hide (own_ge hown)
      have HNEW : Hid (∀ j y, [Value.int .i64 nd.id, .int .i64 nd.parent, .string (bs sh)][j]? = some y → (World.drew (w3.alloc (.cells #[.int .i64 nd.id, .int .i64 nd.parent, .string (bs sh)] 144))).cell? ((⟨w3.heap.size, 0, none⟩ : Addr).add j) = some y) := hide (news_three (w := w3) _ _ _ _)
      have hs3 : w2.heap.size ≤ w3.heap.size := (unhide HB3).size
      clear hb3 hbel hown c0 c1 c2
      go_wp2
      go_region_law (refine step_append_lies _ rfl (.tmp 24) (.tmp 37) 102 rfl w2.heap.size 144 i0 (.agg #[.int .i64 0, .int .i64 0, .string ByteArray.empty]) 3 32 Tryz.underlying102 hi hz0 hz1 hz2 rfl (by decide) (.slice vo k vc) k (ndCells ((sn.take k).map (fun n => (⟨n.id, n.parent, shownR sn n⟩ : Nd)))) (by simp [Act.eval]) (unhide HOWN3) ⟨w3.heap.size, 0, none⟩ 1 1 [.int .i64 nd.id, .int .i64 nd.parent, .string (bs sh)] (by simp [Act.eval]) rfl (unhide HNEW) (by simp [Value.oneCell']) (by decide) (by unfold maxLen; omega) (by omega) (by simp [heap_drew]; omega) (w3.heap.size + 1) (by simp [heap_drew]) ?_; intro g4 cap4 w4 hown4 hgrow _ _; have HOWN4 := hide hown4; have HG4 := hide hgrow; clear hown4 hgrow)
      all_goals
        have hb4 : Below w2.heap.size w2 w4 := ((unhide HB3).alloc hs3 _).drew.grown (unhide HG4) (by simp [heap_drew]; omega) (fun j hj => unhide HOG j hj)
        have hown5 : w4.ownsRow w2.heap.size 144 3 (.slice (some ⟨g4, 0, none⟩) (k + 1) cap4) (k + 1) (ndCells ((sn.take (k + 1)).map (fun n => (⟨n.id, n.parent, shownR sn n⟩ : Nd)))) := by rw [unhide HST, ndCells_snoc]; exact unhide HOWN4
        go_wp2
        go_roundw
        case rel => exact ⟨k + 1, by omega, by go_num, hown5, hb4⟩
        case measure => simp [intOf]; omega
    · have HE : Hid (vr = (sn.take k).map (fun n => (⟨n.id, n.parent, shownR sn n⟩ : Nd))) := by apply hide; rw [unhide HV, List.take_of_length_le (by omega)]; rfl
      have hkl : k = vr.length := by rw [unhide HE]; simp; omega
      have hr := row_of' hown
      have HKL := hide hkl
      clear hkl
      go_wp2
      go_ret
      refine ⟨vo, vc, by rw [← unhide HKL]; rfl, ?_, (unhide HB2).trans (hbel.mono (unhide HB2).size)⟩
      rw [unhide HE] at HKL ⊢
      rw [← unhide HKL]; exact hr
end Go.Proofs.YtdcjimlhaklhfabGreatDoor

namespace Go.Proofs.YtdcjimlhaklhfabGreatDoor
open Go.RowKit
/-- What Entries answers. -/
def EntRes (r : Option (List Lo)) (e : Ending) (w' : World) : Prop := match r with
  | none => e = .returned (.tuple #[.slice none 0 0, .bool false])
  | some l => ∃ ao cap, e = .returned (.tuple #[.slice ao l.length cap, .bool true]) ∧ Row w' ao l.length 5 (loCells l)
set_option maxHeartbeats 2000000 in
theorem entries_any (s : ByteArray) (w : World) (hs : s.size ≤ 4000) :
    Calls Tryz.prog 115 #[.string s] w fun e w' => EntRes (readOps (cut (sl s))) e w' ∧ Below w.heap.size w w' := by
  obtain ⟨i0, hi, hz0, hz1, hz2⟩ := info_parts Tryz.infoEntry
  have HC := hide (fun W => rcut_any s W hs)
  have hn : (cut (sl s)).length ≤ 4000 := by have := cut_length_le (sl s); rw [sl_length] at this; omega
  have HL : Hid (∀ r ∈ cut (sl s), r.length ≤ 4000) := hide (fun r hr => by have := cut_mem_len (sl s) r hr; rw [sl_length] at this; omega)
  generalize cut (sl s) = rs at *
  go_enter Tryz.func115, Tryz.ntmps115
  go_wp2_with fail
  refine (unhide HC _).mono ?_
  rintro e w0 ⟨ao, cap, rfl, hrow, hbel0⟩
  have HROW := hide hrow; clear hrow
  have hs0 := hbel0.size
  have HB0 := hide hbel0; clear hbel0
  go_wp2
  go_loopw [4, 6] (fun v i wr => ∃ k : Nat, ∃ acc : List Lo, k ≤ rs.length ∧ i = .int .i64 k ∧ wr.ownsRow w0.heap.size 146 5 v k (loCells acc) ∧ Below w0.heap.size w0 wr ∧ Hid (LoInv rs k acc)) (fun _ i _ => rs.length - (intOf i).toNat)
  case atStart => exact ⟨0, [], Nat.zero_le _, rfl, World.ownsRow_nil _ _ _ _, Below.refl _ _, hide (loInv_0 rs)⟩
  case round =>
    obtain ⟨k, acc, hk, rfl, hown, hbel, HI⟩ := hrel
    by_cases hlt : k < rs.length
    · obtain ⟨g, hao, hg, hcell⟩ := str_cell (unhide HROW) hbel hlt
      rw [hao]
      have hrl : (rs[k]).length ≤ 4000 := unhide HL _ (List.getElem_mem hlt)
      have HRD := hide (fun W => entry_any (bs rs[k]) W (by rw [bs_size]; exact hrl))
      rw [sl_bs] at HRD
      have hk0 : (0 : Int) ≤ k := by omega
      have hk1 : (k : Int) < rs.length := by omega
      have hsz := hbel.size
      clear hao
      generalize hr : rs[k] = r at *
      have HR := hide hr; clear hr
      generalize hR : readOp r = R at *
      have HRR := hide hR; clear hR
      cases R with
      | none =>
        go_wp2_with fail
        refine (unhide HRD _).mono ?_
        rintro e w2 ⟨⟨a, b, c, d, z, rfl, _⟩, hb2⟩
        have HN := hide (loInv_no (unhide HI) hlt (by rw [unhide HR, unhide HRR]))
        have HB3 := hide (hbel.trans (hb2.mono hbel.size))
        have hz3 := hb2.size
        go_wp2
        go_ret2
        refine ⟨by rw [unhide HN]; rfl, ?_⟩
        exact (unhide HB0).trans (((unhide HB3).alloc (by omega) _).mono hs0)
      | some nd =>
        go_wp2_with fail
        refine (unhide HRD _).mono ?_
        rintro e w2 ⟨⟨a, b, c, d, z, rfl, hx⟩, hb2⟩
        obtain ⟨rfl, rfl, rfl, rfl, rfl⟩ := hx nd rfl
        have HB3 := hide (hbel.trans (hb2.mono hbel.size))
        have HOWN := hide (own_below hown hb2)
        have hz3 := hb2.size
        go_wp2_with (first
          | (at_builtin; (refine wpList_append_own _ rfl _ _ 99 rfl w0.heap.size 146 i0 (.agg #[.int .i64 0, .int .i64 0, .int .i64 0, .int .i64 0, .string ByteArray.empty]) 5 48 Tryz.underlying99 hi hz0 hz1 hz2 rfl (by decide) _ _ _ rfl (own_below (unhide HOWN) (((Below.refl _ _).alloc (Nat.le_refl _) _).alloc (by simp) _)) ⟨w2.heap.size + 1, 0, none⟩ 1 1 (loC nd) rfl rfl (news_five' _ _ _ _ _ _ _) (by simp [Value.oneCell', loC]) (by unfold maxLen; omega) (by omega) (by have := hbel.size; simp; omega) ?_))
          | go_in)
        intro v' w3 hown' hgrow _
        have HN := hide (loInv_yes (unhide HI) hlt (x := nd) (by rw [unhide HR, unhide HRR]))
        have hb4 : Below w0.heap.size w0 w3 := ((((unhide HB3).alloc (by have := hbel.size; omega) _).alloc (by have := hbel.size; simp; omega) _)).grown hgrow (by have := hbel.size; simp; omega) (own_ge hown)
        have hown2 : w3.ownsRow w0.heap.size 146 5 v' (k + 1) (loCells (acc ++ [nd])) := by rw [loCells_snoc]; exact hown'
        clear hgrow hown hbel hown' hb2
        go_wp2
        go_roundw
        case rel => exact ⟨k + 1, _, by omega, by go_num, hown2, hb4, HN⟩
        case measure => simp [intOf]; omega
    · have HN := hide (loInv_end (unhide HI) hlt)
      have HI1 := hide (unhide HI).1
      obtain ⟨ao', cap', rfl, hr⟩ := row_of_owns hown
      go_wp2
      go_ret2
      refine ⟨?_, (unhide HB0).trans (hbel.mono hs0)⟩
      rw [unhide HN]
      rw [← unhide HI1] at hr
      exact ⟨ao', cap', by rw [unhide HI1]; rfl, hr⟩
theorem next_take (L list : List Lo) (k : Nat) (h : k < list.length) : (list.take (k + 1)).foldl nextS L = nextS ((list.take k).foldl nextS L) list[k] := by
  rw [List.take_succ_eq_append_getElem h, List.foldl_append]; rfl
theorem next_len (L : List Lo) : ∀ (list : List Lo), (list.foldl nextS L).length ≤ L.length + list.length := by
  refine list_snoc_ind (by simp) ?_
  intro l x ih
  rw [List.foldl_append, List.foldl_cons, List.foldl_nil, List.length_append]
  generalize l.foldl nextS L = N at *
  unfold nextS
  split
  · simp; omega
  · rw [ins_len]; simp; omega
/-- The document's log behind a Deliver: as it was, or new. -/
def LogMoved (w : World) (u u' : Value) : Prop := u' = u ∨ ∀ k, u'.ownBlock = some k → w.heap.size ≤ k
set_option maxHeartbeats 2000000 in
set_option maxRecDepth 100000 in
theorem delivered_ref (L : List Lo) (s : ByteArray) (u : Value) (w : World) (hown : w.ownsRow 0 146 5 u L.length (loCells L)) (hL : L.length ≤ 150) :
    Calls Tryz.prog 80 #[u, .string s] w fun e w' => ∃ u', e = .returned (.tuple #[u', .int .i64 (deliverT L (sl s)).2.1, .int .i64 (deliverT L (sl s)).2.2]) ∧ w'.ownsRow 0 146 5 u' (deliverT L (sl s)).1.length (loCells (deliverT L (sl s)).1) ∧ LogMoved w u u' ∧ Below w.heap.size w w' := by
  obtain ⟨ao, ca, rfl, _⟩ := row_of_owns hown
  by_cases hlong : 4000 < s.size
  · rw [deliverT_long (show 4000 < (sl s).length by rw [sl_length]; exact hlong)]
    have hd : decide ((4000 : Int) < (s.size : Int)) = true := by rw [decide_eq_true_eq]; omega
    have HO := hide hown; clear hown
    go_enter Tryz.func80, Tryz.ntmps80
    go_wp2
    go_ret3
    exact ⟨_, rfl, unhide HO, .inl rfl, Below.refl _ _⟩
  · have hnl : ¬ 4000 < (sl s).length := by rw [sl_length]; exact hlong
    have hd : decide ((4000 : Int) < (s.size : Int)) = false := by rw [decide_eq_false_iff_not]; omega
    have HRD := hide (fun W => entries_any s W (by omega))
    cases hq : readOps (cut (sl s)) with
    | none =>
      rw [deliverT_none hnl hq]
      rw [hq] at HRD
      have HO := hide hown; clear hq hnl hown
      go_enter Tryz.func80, Tryz.ntmps80
      go_wp2_with fail
      refine (unhide HRD _).mono ?_
      rintro e w1 ⟨rfl, hb1⟩
      have HO1 := hide (own_below (unhide HO) hb1)
      go_wp2
      go_ret3
      exact ⟨_, rfl, unhide HO1, .inl rfl, hb1⟩
    | some list =>
      have hll := readOps_len _ _ hq
      have hcl := cut_length_le (sl s)
      rw [sl_length] at hcl
      have hlen : list.length ≤ 4000 := by omega
      clear hll hcl
      rw [hq] at HRD
      have HDT : Hid (if 150 < L.length + (fresh L list).length then deliverT L (sl s) = (L, 0, 13) else deliverT L (sl s) = (joinAll L (fresh L list), (fresh L list).length, 0)) := by
        apply hide; split
        · rename_i h; exact deliverT_full hnl hq h
        · rename_i h; exact deliverT_ok hnl hq h
      have HNF := hide (next_fresh L list)
      have HJL := hide (joinAll_len L (fresh L list))
      generalize deliverT L (sl s) = dt at *
      clear hq hnl
      have HO := hide hown; clear hown
      go_enter Tryz.func80, Tryz.ntmps80
      go_wp2_with fail
      refine (unhide HRD _).mono ?_
      rintro e w1 ⟨⟨bo, cb, rfl, hrow⟩, hb1⟩
      have HROW := hide hrow; clear hrow
      have HO1 := hide (own_below (unhide HO) hb1)
      have HB1 := hide hb1; clear hb1
      go_wp2
      go_loopw [9, 10] (fun v i wr => ∃ k : Nat, ∃ vo : Option Addr, ∃ vc : Nat, k ≤ list.length ∧ i = .int .i64 k ∧ v = .slice vo ((list.take k).foldl nextS L).length vc ∧ Hid (wr.ownsRow 0 146 5 (.slice vo ((list.take k).foldl nextS L).length vc) ((list.take k).foldl nextS L).length (loCells ((list.take k).foldl nextS L))) ∧ Hid (LogMoved w (.slice ao L.length ca) (.slice vo ((list.take k).foldl nextS L).length vc)) ∧ Below w1.heap.size w1 wr) (fun _ i _ => list.length - (intOf i).toNat)
      case atStart => exact ⟨0, ao, ca, Nat.zero_le _, rfl, rfl, HO1, hide (.inl rfl), Below.refl _ _⟩
      case round =>
        obtain ⟨k, vo, vc, hk, rfl, rfl, HOr, HMr, hbel⟩ := hrel
        have hnl2 := next_len L (list.take k)
        rw [List.length_take] at hnl2
        by_cases hlt : k < list.length
        · obtain ⟨g, hao, hg, c0, c1, c2, c3, c4⟩ := lo_cells (unhide HROW) hbel (Nat.le_refl _) hlt
          rw [hao]
          clear hao
          have hk0 : (0 : Int) ≤ k := by omega
          have hk1 : (k : Int) < list.length := by omega
          have HST := hide (next_take L list k hlt)
          have hsz := hbel.size
          have hgr : g < wr.heap.size := by omega
          generalize list[k] = x at *
          have HKN := hide (known_any ((list.take k).foldl nextS L) x vo vc wr (row_of' (unhide HOr)) (by omega))
          have HJN := hide (fun W (h : Row W vo ((list.take k).foldl nextS L).length 5 (loCells ((list.take k).foldl nextS L))) => joined_any ((list.take k).foldl nextS L) x vo vc W h (by omega))
          have HNS : Hid (nextS ((list.take k).foldl nextS L) x = if hasStamp ((list.take k).foldl nextS L) x then (list.take k).foldl nextS L else ins x ((list.take k).foldl nextS L)) := hide rfl
          generalize hasStamp ((list.take k).foldl nextS L) x = q at *
          cases q with
          | true =>
            have HE : Hid ((list.take (k + 1)).foldl nextS L = (list.take k).foldl nextS L) := hide ((unhide HST).trans (unhide HNS))
            go_wp2_with fail
            refine (unhide HKN).mono ?_
            rintro e w2 ⟨rfl, hb2⟩
            have HO2 := hide (own_below (unhide HOr) hb2)
            have HB2 := hide (hbel.trans (hb2.mono hsz))
            clear hb2 c0 c1 c2 c3 c4
            go_wp2
            go_roundw
            case rel => exact ⟨k + 1, vo, vc, by omega, by go_num, by rw [unhide HE], by rw [unhide HE]; exact HO2, by rw [unhide HE]; exact HMr, unhide HB2⟩
            case measure => simp [intOf]; omega
          | false =>
            have HE : Hid ((list.take (k + 1)).foldl nextS L = ins x ((list.take k).foldl nextS L)) := hide ((unhide HST).trans (unhide HNS))
            go_wp2_with fail
            refine (unhide HKN).mono ?_
            rintro e w2 ⟨rfl, hb2⟩
            have HO2 := hide (own_below (unhide HOr) hb2)
            have HB2 := hide (hbel.trans (hb2.mono hsz))
            have d0 := (hb2.cell (p := ⟨g, _, none⟩) hgr).trans c0
            have d1 := (hb2.cell (p := ⟨g, _, none⟩) hgr).trans c1
            have d2 := (hb2.cell (p := ⟨g, _, none⟩) hgr).trans c2
            have d3 := (hb2.cell (p := ⟨g, _, none⟩) hgr).trans c3
            have d4 := (hb2.cell (p := ⟨g, _, none⟩) hgr).trans c4
            clear hb2 c0 c1 c2 c3 c4
            go_wp2_with fail
            refine (unhide HJN _ (by exact row_of' (unhide HO2))).mono ?_
            rintro e w3 ⟨fo, cf, rfl, hown3, hb3⟩
            have hs2 := (unhide HB2).size
            have hs1 := (unhide HB1).size
            have HM3 : Hid (LogMoved w (.slice ao L.length ca) (.slice fo ((list.take (k + 1)).foldl nextS L).length cf)) := by
              apply hide; right; rw [unhide HE]; intro j hj
              have := (hown3.lt j hj).1; omega
            have HO3 : Hid (w3.ownsRow 0 146 5 (.slice fo ((list.take (k + 1)).foldl nextS L).length cf) ((list.take (k + 1)).foldl nextS L).length (loCells ((list.take (k + 1)).foldl nextS L))) := by
              apply hide; rw [unhide HE]; exact own_base hown3 (Nat.zero_le _)
            have HB3 := hide ((unhide HB2).trans (hb3.mono (unhide HB2).size))
            clear hown3 hb3 d0 d1 d2 d3 d4
            go_wp2
            go_roundw
            case rel => exact ⟨k + 1, fo, cf, by omega, by go_num, by rw [unhide HE], HO3, HM3, unhide HB3⟩
            case measure => simp [intOf]; omega
        · have HE : Hid ((list.take k).foldl nextS L = joinAll L (fresh L list)) := by apply hide; rw [List.take_of_length_le (by omega)]; exact unhide HNF
          have HBW : Hid (Below w.heap.size w wr) := hide ((unhide HB1).trans (hbel.mono (unhide HB1).size))
          have HOW := hide (own_below (unhide HO1) hbel)
          rw [unhide HE] at HOr HMr ⊢
          generalize joinAll L (fresh L list) = J at *
          generalize fresh L list = fr at *
          have hjl := unhide HJL
          by_cases hbig : 150 < L.length + fr.length
          · have hD := unhide HDT
            rw [if_pos hbig] at hD
            have hdd : decide ((150 : Int) < (J.length : Int)) = true := by rw [decide_eq_true_eq]; omega
            have HDD := hide hD
            clear hjl hD
            go_wp2
            go_ret3
            exact ⟨_, by rw [unhide HDD]; rfl, by rw [unhide HDD]; exact unhide HOW, .inl rfl, unhide HBW⟩
          · have hD := unhide HDT
            rw [if_neg hbig] at hD
            have hdd : decide ((150 : Int) < (J.length : Int)) = false := by rw [decide_eq_false_iff_not]; omega
            have HDD := hide hD
            have HFL : Hid ((J.length : Int) - (L.length : Int) = (fr.length : Int)) := by apply hide; omega
            have hj4 : J.length ≤ 5000 := by omega
            clear hjl hD
            go_wp2
            go_ret3
            exact ⟨_, by rw [unhide HDD]; simp only [← unhide HFL]; rfl, by rw [unhide HDD]; exact unhide HOr, unhide HMr, unhide HBW⟩
end Go.Proofs.YtdcjimlhaklhfabGreatDoor

namespace Go.Proofs.YtdcjimlhaklhfabGreatDoor
open Go.RowKit
theorem trW_far {t : Tr} (ht : TrW t) {m : Nat} (h : 99 < m) : t m = none := by
  cases hm : t m with
  | none => rfl
  | some n => have := (ht.2 m n hm).2.2.1; omega
set_option maxHeartbeats 400000 in
theorem has_w {x : Ext} (t : Tr) (b m : Nat) (w : World) (ht : TrW t) (hm : m ≤ 1000) (hT : TreeAt x w b t) :
    Calls Tryz.prog 97 #[.pointer (some ⟨b, 0, none⟩), .int .i64 m] w fun e w' => e = .returned (.bool (t m).isSome) ∧ w' = w := by
  have HT0 := hide ht.1
  by_cases h1 : 1 ≤ m
  · by_cases h2 : m ≤ 99
    · have hcell := hT.here m (by omega)
      clear hT ht
      go_enter Tryz.func97, Tryz.ntmps97
      go_wp2
      go_ret
      exact ⟨rfl, rfl⟩
    · have HF := hide (trW_far ht (show 99 < m by omega))
      clear hT ht
      go_enter Tryz.func97, Tryz.ntmps97
      go_wp2
      go_ret
      exact ⟨by rw [unhide HF]; rfl, rfl⟩
  · have hm0 : m = 0 := by omega
    subst hm0
    clear hT ht
    go_enter Tryz.func97, Tryz.ntmps97
    go_wp2
    go_ret
    exact ⟨by rw [unhide HT0]; rfl, rfl⟩
set_option maxHeartbeats 1000000 in
theorem meets_w {x : Ext} (t : Tr) (b : Nat) (id goal : Int) (w : World) (ht : TrW t) (h0 : 0 ≤ id) (h1 : id ≤ 100) (hT : TreeAt x w b t) :
    Calls Tryz.prog 61 #[.pointer (some ⟨b, 0, none⟩), .int .i64 id, .int .i64 goal] w fun e w' => e = .returned (.bool (meetsT t id goal)) ∧ w' = w := by
  have HO := hide ht
  have HT := hide hT
  clear ht hT
  have HM : Hid (meetsT t id goal = meetsF t 100 id goal) := hide rfl
  generalize meetsT t id goal = M at *
  go_enter Tryz.func61, Tryz.ntmps61
  go_wp2
  go_loop [7, 8] (fun d i => ∃ k : Nat, ∃ m : Int, k ≤ 100 ∧ i = .int .i64 k ∧ d = .int .i64 m ∧ 0 ≤ m ∧ m ≤ 100 ∧ Hid (M = meetsF t (100 - k) m goal)) (fun _ i => 101 - (intOf i).toNat)
  case atStart => exact ⟨0, id, by omega, rfl, rfl, h0, h1, HM⟩
  case round =>
    obtain ⟨k, m, hk, rfl, rfl, hm0, hm1, HI⟩ := hrel
    by_cases hlt : k ≤ 99
    · have hf : 100 - k = (99 - k) + 1 := by omega
      have HI2 : Hid (M = meetsF t ((99 - k) + 1) m goal) := by apply hide; rw [← hf]; exact unhide HI
      clear hf HI HM
      by_cases hg : m = goal
      · subst hg
        have hM := unhide HI2
        rw [meetsF_hit] at hM
        have HMt := hide hM; clear hM
        go_wp2
        go_ret
        exact ⟨ret_bool (unhide HMt).symm, rfl⟩
      · have hg' : (m == goal) = false := by simpa using hg
        obtain ⟨mn, rfl⟩ := Int.eq_ofNat_of_zero_le hm0
        have HH := hide (has_w t b mn w (unhide HO) (by omega) (unhide HT))
        cases hn : t mn with
        | none =>
          have HMf := hide ((unhide HI2).trans (meetsF_none hg (by simpa using hn)))
          rw [hn] at HH
          clear hn
          go_wp2_with (go_at_call 97; refine (unhide HH).mono ?_; rintro e w' ⟨rfl, rfl⟩)
          go_ret
          exact ⟨ret_bool (unhide HMf).symm, rfl⟩
        | some n =>
          have HMf := hide ((unhide HI2).trans (meetsF_some hg (by simpa using hn)))
          have hb := (unhide HO).2 mn n hn
          have hmn := hb.2.2.1
          have hcell := (unhide HT).cell (100 + mn * 3 + 1)
          rw [(treeCells_node t mn (by omega)).2.1, hn] at hcell
          rw [hn] at HH
          have hp0 : 0 ≤ n.parent := hb.2.2.2.2.2.1
          have hp1 : n.parent ≤ 100 := hb.2.2.2.2.2.2.1
          have hmi : (mn : Int) < 100 := by omega
          clear hn hb
          go_wp2_with (go_at_call 97; refine (unhide HH).mono ?_; rintro e w' ⟨rfl, rfl⟩)
          go_round
          case rel => exact ⟨k + 1, n.parent, by omega, by go_num, rfl, hp0, hp1, by apply hide; rw [show 100 - (k + 1) = 99 - k by omega]; exact unhide HMf⟩
          case measure => simp [intOf]; omega
    · have HMf : Hid (M = false) := by apply hide; rw [unhide HI, show 100 - k = 0 by omega]; rfl
      go_wp2
      go_ret
      exact ⟨ret_bool (unhide HMf).symm, rfl⟩
theorem placeS_no {t : Tr} {x : Lo} (h : meetsT t x.node.parent x.node.id = true) : placeS t x = t := by unfold placeS; rw [if_pos h]
theorem placeS_yes {t : Tr} {x : Lo} (h : meetsT t x.node.parent x.node.id = false) : placeS t x = trPut t x.node := by unfold placeS; rw [if_neg (by rw [h]; simp)]
set_option maxHeartbeats 2000000 in
theorem places_any (L : List Lo) (b o : Nat) (ao : Option Addr) (cap : Nat) (w : World) (hlog : w.cell? ⟨b, o, none⟩ = some (.slice ao L.length cap)) (hb : b < w.heap.size) (hrow : Row w ao L.length 5 (loCells L)) (hx : ∀ x ∈ L, LoOk x) (hl : L.length ≤ 4000) :
    Calls Tryz.prog 60 #[.pointer (some ⟨b, o, none⟩)] w fun e w' => e = .returned (.agg (treeCells (places L)).toArray) ∧ Below w.heap.size w w' := by
  have HROW := hide hrow; clear hrow
  have HX := hide hx; clear hx
  have HZ := hide zeroTree
  go_enter Tryz.func60, Tryz.ntmps60
  go_wp2
  go_loopw [11] (fun i wr => ∃ k : Nat, k ≤ L.length ∧ i = .int .i64 k ∧ Below w.heap.size w wr ∧ Hid (TreeAt ext0 wr (w.heap.size + 1) (places (L.take k))) ∧ Hid (TreeAt ext0 wr w.heap.size tr0)) (fun i _ => L.length - (intOf i).toNat)
  case atStart =>
    refine ⟨0, Nat.zero_le _, rfl, ((Below.refl _ _).alloc (Nat.le_refl _) _).alloc (by simp) _, ?_, ?_⟩
    · apply hide; rw [show places (List.take 0 L) = tr0 by simp [places]]; unfold TreeAt ext0; rw [unhide HZ]; simpa using heap_alloc_new (w.alloc (.cells (treeCells tr0).toArray 78)) (.cells (treeCells tr0).toArray 78)
    · apply hide; unfold TreeAt ext0; rw [unhide HZ, Below.heap_alloc _ _ _ (by simp)]; simpa using heap_alloc_new w (.cells (treeCells tr0).toArray 78)
  case round =>
    obtain ⟨k, hk, rfl, hbel, HT1, HT0⟩ := hrel
    have HOK : Hid (TrW (places (L.take k))) := hide (places_ok (fun x h => unhide HX x (List.mem_of_mem_take h)))
    by_cases hlt : k < L.length
    · obtain ⟨g, hao, hg, c0, c1, c2, c3, c4⟩ := lo_cells (unhide HROW) hbel (Nat.le_refl _) hlt
      rw [hao]
      have hxk := unhide HX _ (List.getElem_mem hlt)
      have HS := hide (places_snoc L k hlt)
      have hsz := hbel.size
      clear hao
      generalize L[k] = x at *
      have hwx := hxk.2.2.2.2
      have hw1 := hwx.1
      have hw2 := hwx.2.1
      have hw3 := hwx.2.2.1
      have hw4 := hwx.2.2.2.1
      clear hwx hxk
      have hB1 : Below wr.heap.size wr (wr.alloc (.cells #[.int .i64 x.count, .int .i64 x.site, .int .i64 x.node.id, .int .i64 x.node.parent, .string (bs x.node.name)] 113)) := (Below.refl _ _).alloc (Nat.le_refl _) _
      have HT1b := hide ((unhide HT1).below hB1)
      have HT0b := hide ((unhide HT0).below hB1)
      have HB1 := hide (hbel.trans (hB1.mono hsz))
      clear hB1
      have HME := hide (meets_w _ _ x.node.parent x.node.id _ (unhide HOK) hw3 hw4 (unhide HT1b))
      generalize hmq : meetsT (places (L.take k)) x.node.parent x.node.id = q at *
      have HMQ := hide hmq; clear hmq
      cases q with
      | true =>
        have HS2 := hide ((unhide HS).trans (placeS_no (unhide HMQ)))
        go_wp2_with (go_at_call 61; refine (unhide HME).mono ?_; rintro e w' ⟨rfl, rfl⟩)
        go_roundw
        case rel => exact ⟨k + 1, by omega, by go_num, unhide HB1, by rw [unhide HS2]; exact HT1b, HT0b⟩
        case measure => simp [intOf]; omega
      | false =>
        have HS2 := hide ((unhide HS).trans (placeS_yes (unhide HMQ)))
        go_wp2_with (first | (go_at_call 61; refine (unhide HME).mono ?_; rintro e w' ⟨rfl, rfl⟩) | fail)
        refine (put_any _ _ x.node _ hw1 hw2 (unhide HT1b)).mono ?_
        rintro e w2 ⟨rfl, hT2, hg2⟩
        have HT2 : Hid (TreeAt ext0 w2 (w.heap.size + 1) (places (L.take (k + 1)))) := by apply hide; rw [unhide HS2]; exact hT2
        have HT02 : Hid (TreeAt ext0 w2 w.heap.size tr0) := hide (treeAt_grown (unhide HT0b) hg2 (by omega))
        have hb2 : Below w.heap.size w w2 := (unhide HB1).grown hg2 (by simp; omega) (fun k hk => by cases hk; omega)
        clear hT2 hg2 c0 c1 c2 c3 c4 hbel
        go_wp2
        go_roundw
        case rel => exact ⟨k + 1, by omega, by go_num, hb2, HT2, HT02⟩
        case measure => simp [intOf]; omega
    · have HE : Hid (places L = places (L.take k)) := by apply hide; rw [List.take_of_length_le (by omega)]
      generalize places (L.take k) = T at *
      have hRange : wr.rangeAt (w.heap.size + 1) 0 (treeCells T) := treeAt_range (unhide HT1)
      have hThere : wr.there w.heap.size 0 (treeCells T).toArray.size := treeAt_there (unhide HT0) T
      have HR := hide hRange; clear hRange
      have HTH := hide hThere; clear hThere
      go_wp2_with (first
        | (refine wpList_load_mid (by rfl) 78 (.tmp 3) (by rfl) (w.heap.size + 1) 0 (by rfl) (treeCells T) _ (unhide HR) Tryz.underlying78 (by rfl) (treeSize T) ?_)
        | (refine wpList_store_mid (by rfl) 78 (.tmp 2) (.tmp 27) (by rfl) w.heap.size 0 (treeCells T).toArray (by rfl) (by rfl) (unhide HTH) (treeSize' T) (treeOne T) ?_))
      have hr := World.rangeAt_setCells_same wr w.heap.size 0 (treeCells T) (by have := unhide HTH; rwa [List.size_toArray] at this)
      refine bodyPost_ret (v := .agg (treeCells T).toArray) (by simp [results, Tryz.results60, Act.put, asAddr, run_loadVar_mid _ _ _ _ _ _ hr Tryz.underlying78 rfl (treeSize T)]) rfl ⟨by rw [unhide HE], ?_⟩
      exact below_setCells hbel (Nat.le_refl _) hbel.size _ _
end Go.Proofs.YtdcjimlhaklhfabGreatDoor

namespace Go.Proofs.YtdcjimlhaklhfabGreatDoor
open Go.RowKit
theorem below_grown {w w1 w2 : World} {b : Nat} (h : Below w.heap.size w w1) (hg : w1.grownBy w2 (some b)) (hb : w.heap.size ≤ b) : Below w.heap.size w w2 :=
  h.grown hg h.size (fun k hk => by cases hk; exact hb)
theorem doAllT_ok : ∀ (ss : List St) (t : Tr), TrOk t → (∀ s ∈ ss, StOk s) → TrOk (doAllT ss t) := by
  intro ss
  induction ss with
  | nil => intro t h _; exact h
  | cons s ss ih =>
    intro t h hs
    unfold doAllT
    split
    · exact ih _ (stepT_ok h (hs s (by simp))) (fun x hx => hs x (by simp [hx]))
    · exact h
theorem ret_sii {a : Str} {n : Nat} {e : Int} {r : Str × Nat × Int} (h : r = (a, n, e)) : Ending.returned (.tuple #[.string (bs a), .int .i64 n, .int .i64 e]) = .returned (.tuple #[.string (bs r.1), .int .i64 r.2.1, .int .i64 r.2.2]) := by rw [h]
theorem applyT_long {l sc : Str} (h : 4000 < l.length ∨ 4000 < sc.length) : applyT l sc = ([], 0, 1) := by unfold applyT; rw [if_pos h]
theorem applyT_check {l sc : Str} (h : ¬ (4000 < l.length ∨ 4000 < sc.length)) (h2 : (checkT l).1 ≠ 0) : applyT l sc = ([], (checkT l).2, (checkT l).1) := by unfold applyT; rw [if_neg h, if_pos h2]
theorem applyT_step {l sc : Str} (h : ¬ (4000 < l.length ∨ 4000 < sc.length)) (h2 : ¬ (checkT l).1 ≠ 0) (h3 : (readSteps (cut sc)).length < (cut sc).length) : applyT l sc = ([], (readSteps (cut sc)).length, 7) := by unfold applyT; rw [if_neg h, if_neg h2, if_pos h3]
theorem applyT_do {l sc : Str} (h : ¬ (4000 < l.length ∨ 4000 < sc.length)) (h2 : ¬ (checkT l).1 ≠ 0) (h3 : ¬ (readSteps (cut sc)).length < (cut sc).length) (h4 : (doAllE (readSteps (cut sc)) (gather (readNodes (cut l))) 0).1 ≠ 0) : applyT l sc = ([], (doAllE (readSteps (cut sc)) (gather (readNodes (cut l))) 0).2, (doAllE (readSteps (cut sc)) (gather (readNodes (cut l))) 0).1) := by unfold applyT; rw [if_neg h, if_neg h2, if_neg h3, if_pos h4]
theorem applyT_ok {l sc : Str} (h : ¬ (4000 < l.length ∨ 4000 < sc.length)) (h2 : ¬ (checkT l).1 ≠ 0) (h3 : ¬ (readSteps (cut sc)).length < (cut sc).length) (h4 : ¬ (doAllE (readSteps (cut sc)) (gather (readNodes (cut l))) 0).1 ≠ 0) : applyT l sc = (textT (doAllT (readSteps (cut sc)) (gather (readNodes (cut l)))), 0, 0) := by unfold applyT; rw [if_neg h, if_neg h2, if_neg h3, if_neg h4]
set_option maxHeartbeats 2000000 in
theorem apply_any (s sc : ByteArray) (w : World) :
    Calls Tryz.prog 34 #[.string s, .string sc] w fun e w' => e = .returned (.tuple #[.string (bs (applyT (sl s) (sl sc)).1), .int .i64 (applyT (sl s) (sl sc)).2.1, .int .i64 (applyT (sl s) (sl sc)).2.2]) ∧ Below w.heap.size w w' := by
  by_cases hL : 4000 < s.size ∨ 4000 < sc.size
  · have HA := hide (applyT_long (l := sl s) (sc := sl sc) (by rw [sl_length, sl_length]; exact hL))
    generalize applyT (sl s) (sl sc) = A at *
    have hL' : 4000 < s.size ∨ (¬ 4000 < s.size ∧ 4000 < sc.size) := by omega
    clear hL
    rcases hL' with h | ⟨h, h'⟩
    all_goals
      go_enter Tryz.func34, Tryz.ntmps34
      go_wp2
      go_ret3
      exact ⟨ret_sii (unhide HA), Below.refl _ _⟩
  · have hLl : ¬ (4000 < (sl s).length ∨ 4000 < (sl sc).length) := by rw [sl_length, sl_length]; exact hL
    have h4 : ¬ 4000 < s.size := by omega
    have h5 : ¬ 4000 < sc.size := by omega
    have HRD := hide (fun W => read_any s W)
    by_cases hC : (checkT (sl s)).1 ≠ 0
    · have HA := hide (applyT_check hLl hC)
      have hC' : ((checkT (sl s)).1 != 0) = true := by rw [bne_iff_ne]; exact hC
      generalize applyT (sl s) (sl sc) = A at *
      generalize checkT (sl s) = c at *
      generalize readT (sl s) = T at *
      clear hC hL hLl
      go_enter Tryz.func34, Tryz.ntmps34
      go_wp2_with fail
      refine (unhide HRD _).mono ?_
      rintro e w1 ⟨rfl, hb1⟩
      have HN := hide (treeAt_new w1)
      have HB1 := hide hb1; clear hb1
      go_wp2_with (refine wpList_store_mid (by rfl) 78 (.tmp 7) (.tmp 23) (by rfl) w1.heap.size 0 (treeCells T).toArray (by rfl) (by rfl) (by exact treeAt_there (unhide HN) T) (treeSize' T) (treeOne T) ?_)
      go_ret3
      exact ⟨ret_sii (unhide HA), below_setCells ((unhide HB1).alloc (unhide HB1).size _) (unhide HB1).size (by have := (unhide HB1).size; simp; omega) _ _⟩
    · have hc0 : (checkT (sl s)).1 = 0 := Classical.not_not.1 hC
      have hTG : readT (sl s) = gather (readNodes (cut (sl s))) := by unfold readT; rw [if_pos hc0]
      have hOK := gather_ok (cut (sl s))
      rw [hc0, hTG] at HRD
      have HSR := hide (fun W => stepsRead_any sc W (by omega))
      have HSO := hide (readSteps_ok (cut (sl sc)))
      have hsl := readSteps_length (cut (sl sc))
      have hcl : (cut (sl sc)).length ≤ 4000 := by have := cut_length_le (sl sc); rw [sl_length] at this; omega
      by_cases hS : (readSteps (cut (sl sc))).length < (cut (sl sc)).length
      · have HA := hide (applyT_step hLl hC hS)
        have hd : decide ((readSteps (cut (sl sc))).length = (cut (sl sc)).length) = false := decide_eq_false (by omega)
        rw [hd] at HSR
        generalize applyT (sl s) (sl sc) = A at *
        generalize gather (readNodes (cut (sl s))) = T at *
        generalize (checkT (sl s)).2 = c2 at *
        generalize readSteps (cut (sl sc)) = ss at *
        clear hC hL hLl hc0 hTG hd
        go_enter Tryz.func34, Tryz.ntmps34
        go_wp2_with fail
        refine (unhide HRD _).mono ?_
        rintro e w1 ⟨rfl, hb1⟩
        have HN := hide (treeAt_new w1)
        have HB1 := hide hb1; clear hb1
        have HB2 : Hid (Below w.heap.size w ((w1.alloc (.cells Tryz.zeroCells78 78)).setCells w1.heap.size 0 (treeCells T))) := hide (below_setCells ((unhide HB1).alloc (unhide HB1).size _) (unhide HB1).size (by have := (unhide HB1).size; simp; omega) _ _)
        go_wp2_with (refine wpList_store_mid (by rfl) 78 (.tmp 7) (.tmp 23) (by rfl) w1.heap.size 0 (treeCells T).toArray (by rfl) (by rfl) (by exact treeAt_there (unhide HN) T) (treeSize' T) (treeOne T) ?_)
        refine (unhide HSR _).mono ?_
        rintro e w3 ⟨⟨ao, cap, rfl, hrow, hge⟩, hb3⟩
        have HB3 := hide ((unhide HB2).trans (hb3.mono (unhide HB2).size))
        clear hrow hge hb3
        go_wp2
        go_ret3
        exact ⟨ret_sii (unhide HA), unhide HB3⟩
      · have hd : decide ((readSteps (cut (sl sc))).length = (cut (sl sc)).length) = true := decide_eq_true (by omega)
        rw [hd] at HSR
        have HDA := hide (fun b ao cap W h1 h2 h3 => doAll_any (x := ext0) (gather (readNodes (cut (sl s)))) b (readSteps (cut (sl sc))) ao cap W hOK h1 h2 h3 (unhide HSO) (by omega))
        have HTO := hide (doAllT_ok (readSteps (cut (sl sc))) _ hOK (unhide HSO))
        have HTX := hide (fun b W h => text_any (x := ext0) (doAllT (readSteps (cut (sl sc))) (gather (readNodes (cut (sl s))))) b W (unhide HTO) h)
        by_cases hE : (doAllE (readSteps (cut (sl sc))) (gather (readNodes (cut (sl s)))) 0).1 ≠ 0
        · have HA := hide (applyT_do hLl hC hS hE)
          have hE' : ((doAllE (readSteps (cut (sl sc))) (gather (readNodes (cut (sl s)))) 0).1 != 0) = true := by rw [bne_iff_ne]; exact hE
          generalize applyT (sl s) (sl sc) = A at *
          generalize doAllE (readSteps (cut (sl sc))) (gather (readNodes (cut (sl s)))) 0 = E at *
          generalize doAllT (readSteps (cut (sl sc))) (gather (readNodes (cut (sl s)))) = T2 at *
          generalize gather (readNodes (cut (sl s))) = T at *
          generalize (checkT (sl s)).2 = c2 at *
          generalize readSteps (cut (sl sc)) = ss at *
          clear hC hL hLl hc0 hTG hd hE hS
          go_enter Tryz.func34, Tryz.ntmps34
          go_wp2_with fail
          refine (unhide HRD _).mono ?_
          rintro e w1 ⟨rfl, hb1⟩
          have HN := hide (treeAt_new w1)
          have HB1 := hide hb1; clear hb1
          have HB2 : Hid (Below w.heap.size w ((w1.alloc (.cells Tryz.zeroCells78 78)).setCells w1.heap.size 0 (treeCells T))) := hide (below_setCells ((unhide HB1).alloc (unhide HB1).size _) (unhide HB1).size (by have := (unhide HB1).size; simp; omega) _ _)
          have HT2 : Hid (TreeAt ext0 ((w1.alloc (.cells Tryz.zeroCells78 78)).setCells w1.heap.size 0 (treeCells T)) w1.heap.size T) := hide (treeAt_stored (unhide HN) T)
          go_wp2_with (refine wpList_store_mid (by rfl) 78 (.tmp 7) (.tmp 23) (by rfl) w1.heap.size 0 (treeCells T).toArray (by rfl) (by rfl) (by exact treeAt_there (unhide HN) T) (treeSize' T) (treeOne T) ?_)
          refine (unhide HSR _).mono ?_
          rintro e w3 ⟨⟨ao, cap, rfl, hrow, hge⟩, hb3⟩
          have HB3 := hide ((unhide HB2).trans (hb3.mono (unhide HB2).size))
          have HT3 := hide ((unhide HT2).below hb3)
          have HR3 := hide hrow
          have HNE : Hid (∀ g, ao = some ⟨g, 0, none⟩ → g ≠ w1.heap.size) := hide (fun g hg => by have h1 := hge g hg; have h2 := (unhide HT2).lt; omega)
          clear hrow hge hb3
          go_wp2_with fail
          refine (unhide HDA _ _ _ _ (unhide HT3) (unhide HR3) (unhide HNE)).mono ?_
          rintro e w4 ⟨rfl, hT4, hg4⟩
          have HB4 := hide (below_grown (unhide HB3) hg4 (unhide HB1).size)
          clear hT4 hg4
          go_wp2
          go_ret3
          exact ⟨ret_sii (unhide HA), unhide HB4⟩
        · have HA := hide (applyT_ok hLl hC hS hE)
          have hE' : ((doAllE (readSteps (cut (sl sc))) (gather (readNodes (cut (sl s)))) 0).1 != 0) = false := by rw [bne_eq_false_iff_eq]; exact Classical.not_not.1 hE
          generalize applyT (sl s) (sl sc) = A at *
          generalize doAllE (readSteps (cut (sl sc))) (gather (readNodes (cut (sl s)))) 0 = E at *
          generalize doAllT (readSteps (cut (sl sc))) (gather (readNodes (cut (sl s)))) = T2 at *
          generalize gather (readNodes (cut (sl s))) = T at *
          generalize (checkT (sl s)).2 = c2 at *
          generalize readSteps (cut (sl sc)) = ss at *
          clear hC hL hLl hc0 hTG hd hE hS
          go_enter Tryz.func34, Tryz.ntmps34
          go_wp2_with fail
          refine (unhide HRD _).mono ?_
          rintro e w1 ⟨rfl, hb1⟩
          have HN := hide (treeAt_new w1)
          have HB1 := hide hb1; clear hb1
          have HB2 : Hid (Below w.heap.size w ((w1.alloc (.cells Tryz.zeroCells78 78)).setCells w1.heap.size 0 (treeCells T))) := hide (below_setCells ((unhide HB1).alloc (unhide HB1).size _) (unhide HB1).size (by have := (unhide HB1).size; simp; omega) _ _)
          have HT2 : Hid (TreeAt ext0 ((w1.alloc (.cells Tryz.zeroCells78 78)).setCells w1.heap.size 0 (treeCells T)) w1.heap.size T) := hide (treeAt_stored (unhide HN) T)
          go_wp2_with (refine wpList_store_mid (by rfl) 78 (.tmp 7) (.tmp 23) (by rfl) w1.heap.size 0 (treeCells T).toArray (by rfl) (by rfl) (by exact treeAt_there (unhide HN) T) (treeSize' T) (treeOne T) ?_)
          refine (unhide HSR _).mono ?_
          rintro e w3 ⟨⟨ao, cap, rfl, hrow, hge⟩, hb3⟩
          have HB3 := hide ((unhide HB2).trans (hb3.mono (unhide HB2).size))
          have HT3 := hide ((unhide HT2).below hb3)
          have HR3 := hide hrow
          have HNE : Hid (∀ g, ao = some ⟨g, 0, none⟩ → g ≠ w1.heap.size) := hide (fun g hg => by have h1 := hge g hg; have h2 := (unhide HT2).lt; omega)
          clear hrow hge hb3
          go_wp2_with fail
          refine (unhide HDA _ _ _ _ (unhide HT3) (unhide HR3) (unhide HNE)).mono ?_
          rintro e w4 ⟨rfl, hT4, hg4⟩
          have HT4 := hide hT4
          have HB4 := hide (below_grown (unhide HB3) hg4 (unhide HB1).size)
          clear hT4 hg4
          go_wp2_with fail
          refine (unhide HTX _ _ (unhide HT4)).mono ?_
          rintro e w5 ⟨rfl, hb5⟩
          have HB5 := hide ((unhide HB4).trans (hb5.mono (unhide HB4).size))
          clear hb5
          go_wp2
          go_ret3
          exact ⟨ret_sii (unhide HA), unhide HB5⟩
end Go.Proofs.YtdcjimlhaklhfabGreatDoor

namespace Go.Proofs.YtdcjimlhaklhfabGreatDoor
open Go.RowKit
set_option maxHeartbeats 400000 in
theorem get_w (t : Tr) (b m : Nat) (n : Nd) (w : World) (ht : TrW t) (hm : m ≤ 99) (hn : t m = some n) (hT : TreeAt ext0 w b t) :
    Calls Tryz.prog 98 #[.pointer (some ⟨b, 0, none⟩), .int .i64 m] w fun e w' => e = .returned (.agg #[.int .i64 n.id, .int .i64 n.parent, .string (bs n.name)]) ∧ Below w.heap.size w w' := by
  have hb1 := (Below.refl w.heap.size w).alloc (Nat.le_refl _) (.cells #[.int .i64 0, .int .i64 0, .string ByteArray.empty] 75)
  have HH := hide (has_w t b m _ ht (by omega) (hT.below hb1))
  have c1 := hT.id m (by omega)
  have c2 := hT.parent m (by omega)
  have c3 := hT.name m (by omega)
  have hlt := hT.lt
  have hne : ¬ b = w.heap.size := by omega
  have hm0 : (0 : Int) ≤ m := by omega
  have HB := hide hb1
  rw [hn] at HH c1 c2 c3
  clear hT ht hb1 hn
  go_enter Tryz.func98, Tryz.ntmps98
  go_wp2_with fail
  refine (unhide HH).mono ?_
  rintro e w1 ⟨rfl, rfl⟩
  go_wp2
  refine bodyPost_ret (v := .agg #[.int .i64 n.id, .int .i64 n.parent, .string (bs n.name)]) (by simp [results, Tryz.results98, go_sem]) rfl ⟨rfl, ?_⟩
  exact (Below.refl _ _).alloc (Nat.le_refl _) _
theorem add_126 (a : Str) (ha : a.length ≤ 1000000) (W : World) : (Op.stringOp .add ⟨#[126]⟩ (bs a)).run Tryz.prog W = .ok (.string (bs (126 :: a))) W := add_bs [126] a (by simp) ha W
set_option maxHeartbeats 2000000 in
theorem shown_any (t : Tr) (b m : Nat) (n : Nd) (w : World) (ht : TrW t) (hm1 : 1 ≤ m) (hm : m ≤ 99) (hn : t m = some n) (hT : TreeAt ext0 w b t) :
    Calls Tryz.prog 62 #[.pointer (some ⟨b, 0, none⟩), .int .i64 m] w fun e w' => e = .returned (.agg #[.int .i64 (shownNd t m).id, .int .i64 (shownNd t m).parent, .string (bs (shownNd t m).name)]) ∧ Below w.heap.size w w' := by
  have hb1 := (Below.refl w.heap.size w).alloc (Nat.le_refl _) (.cells #[.int .i64 0, .int .i64 0, .string ByteArray.empty] 75)
  have HG := hide (get_w t b m n _ ht hm hn (hT.below hb1))
  have HAT := hide (fun W (h : TreeAt ext0 W b t) => at_any t b n.parent n.name W h)
  have HS : Hid (shownNd t m = if atT t n.parent n.name = (m : Int) then n else ⟨n.id, n.parent, n.name ++ 126 :: digs m⟩) := by apply hide; unfold shownNd; rw [hn]; rfl
  have hnl := ndW_name (ht.2 m n hn).2.2.2
  have hlt := hT.lt
  have hne : ¬ b = w.heap.size := by omega
  have HIT := hide (fun W => itoa_any (m : Int) W (by omega) (by omega))
  have hdl := digs_len (m : Int)
  have HT1 := hide (hT.below hb1)
  clear hT ht hb1 hn
  generalize atT t n.parent n.name = q at *
  have a1 := add_126 (digs (m : Int)) (by omega)
  have a2 := add_bs n.name (126 :: digs (m : Int)) (by omega) (by simp; omega)
  by_cases hq : q = (m : Int)
  · have hqe : (q != (m : Int)) = false := by simpa using hq
    have HS2 : Hid (shownNd t m = n) := by apply hide; rw [unhide HS, if_pos hq]
    clear hq
    go_enter Tryz.func62, Tryz.ntmps62
    go_wp2_with fail
    refine (unhide HG).mono ?_
    rintro e w1 ⟨rfl, hb1⟩
    obtain ⟨hc, hf⟩ := bcell hb1
    have hz : w.heap.size + 1 ≤ w1.heap.size := by have := hb1.size; simp at this; omega
    have hz1 : w.heap.size < w1.heap.size := by omega
    have hz2 : ¬ w.heap.size = w1.heap.size := by omega
    have HB0 : Hid (Below w.heap.size w w1) := hide (((Below.refl _ _).alloc (Nat.le_refl _) _).trans (hb1.mono (by simp)))
    have HT2 := hide (((unhide HT1).below hb1).below ((Below.refl w1.heap.size w1).alloc (Nat.le_refl _) (.cells #[.int .i64 n.id, .int .i64 n.parent, .string (bs n.name)] 75)))
    clear hb1
    go_wp2_with fail
    refine (unhide HAT _ (by exact unhide HT2)).mono ?_
    rintro e w2 ⟨rfl, rfl⟩
    go_wp2
    refine bodyPost_ret (v := .agg #[.int .i64 n.id, .int .i64 n.parent, .string (bs n.name)]) (by simp [results, Tryz.results62, go_sem, hc, hz1]) rfl ⟨by rw [unhide HS2], ?_⟩
    exact ((((unhide HB0).setCell (by simp) _).setCell (by simp) _).setCell (by simp) _).alloc (by simp; omega) _
  · have hqe : (q != (m : Int)) = true := by simpa using hq
    have HS2 : Hid (shownNd t m = ⟨n.id, n.parent, n.name ++ 126 :: digs m⟩) := by apply hide; rw [unhide HS, if_neg hq]
    clear hq
    generalize n.name ++ 126 :: digs (m : Int) = nn at *
    go_enter Tryz.func62, Tryz.ntmps62
    go_wp2_with fail
    refine (unhide HG).mono ?_
    rintro e w1 ⟨rfl, hb1⟩
    obtain ⟨hc, hf⟩ := bcell hb1
    have hz : w.heap.size + 1 ≤ w1.heap.size := by have := hb1.size; simp at this; omega
    have hz1 : w.heap.size < w1.heap.size := by omega
    have hz2 : ¬ w.heap.size = w1.heap.size := by omega
    have HB0 : Hid (Below w.heap.size w w1) := hide (((Below.refl _ _).alloc (Nat.le_refl _) _).trans (hb1.mono (by simp)))
    have HT2 := hide (((unhide HT1).below hb1).below ((Below.refl w1.heap.size w1).alloc (Nat.le_refl _) (.cells #[.int .i64 n.id, .int .i64 n.parent, .string (bs n.name)] 75)))
    clear hb1
    go_wp2_with fail
    refine (unhide HAT _ (by exact unhide HT2)).mono ?_
    rintro e w2 ⟨rfl, rfl⟩
    go_wp2_with fail
    go_region_with (go_at_call 100; refine (unhide HIT _).mono ?_; rintro e w3 ⟨rfl, rfl⟩)
    all_goals
      go_wp2
      refine bodyPost_ret (v := .agg #[.int .i64 n.id, .int .i64 n.parent, .string (bs nn)]) (by simp [results, Tryz.results62, go_sem, hc, hz1]) rfl ⟨by rw [unhide HS2], ?_⟩
      exact (((((unhide HB0).setCell (by simp) _).setCell (by simp) _).setCell (by simp) _).alloc (by simp; omega) _).drew
end Go.Proofs.YtdcjimlhaklhfabGreatDoor

namespace Go.Proofs.YtdcjimlhaklhfabGreatDoor
open Go.RowKit
theorem shown_nd {t : Tr} (h : TrW t) {i : Nat} {n : Nd} (hn : t i = some n) : (shownNd t i).id = (i : Int) := (shown_id h hn).1
set_option maxHeartbeats 4000000 in
set_option maxRecDepth 100000 in
theorem view_any (L : List Lo) (b o : Nat) (ao : Option Addr) (cap : Nat) (w : World) (hlog : w.cell? ⟨b, o, none⟩ = some (.slice ao L.length cap)) (hb : b < w.heap.size) (hrow : Row w ao L.length 5 (loCells L)) (hx : ∀ x ∈ L, LoOk x) (hl : L.length ≤ 4000) :
    Calls Tryz.prog 31 #[.pointer (some ⟨b, o, none⟩)] w fun e w' => e = .returned (.agg (treeCells (viewT (places L))).toArray) ∧ Below w.heap.size w w' := by
  have hb0 := (Below.refl w.heap.size w).alloc (Nat.le_refl _) (.cells Tryz.zeroCells78 78)
  have HPL := hide (places_any L b o ao cap _ (by rw [hb0.cell (p := ⟨b, o, none⟩) hb]; exact hlog) (by simp; omega) (hrow.below hb0) hx hl)
  have HTW := hide (places_ok hx)
  have HN0 := hide (treeAt_new w)
  clear hlog hrow hx hb0
  generalize places L = T at *
  go_enter Tryz.func31, Tryz.ntmps31
  go_wp2_with fail
  refine (unhide HPL).mono ?_
  rintro e w1 ⟨rfl, hb1⟩
  have HB1 : Hid (Below w.heap.size w w1) := hide (((Below.refl _ _).alloc (Nat.le_refl _) _).trans (hb1.mono (by simp)))
  have HR1 := hide ((unhide HN0).below hb1)
  have hsz : w.heap.size < w1.heap.size := by have := hb1.size; simp at this; omega
  clear hb1
  have HN1 := hide (treeAt_new w1)
  have hbx := below_setCells ((Below.refl w1.heap.size w1).alloc (Nat.le_refl _) (.cells Tryz.zeroCells78 78)) (g := w1.heap.size) (Nat.le_refl _) (by simp) 0 (treeCells T)
  have HB2 : Hid (Below w.heap.size w ((w1.alloc (.cells Tryz.zeroCells78 78)).setCells w1.heap.size 0 (treeCells T))) := hide ((unhide HB1).trans (hbx.mono (by omega)))
  have HR2 := hide ((unhide HR1).below hbx)
  have HP2 := hide (treeAt_stored (unhide HN1) T)
  have hs2 : ((w1.alloc (.cells Tryz.zeroCells78 78)).setCells w1.heap.size 0 (treeCells T)).heap.size = w1.heap.size + 1 := by rw [(size_setCells _ _ _ _).1]; simp
  clear hbx
  go_upto_region 2 with (refine wpList_store_mid (by rfl) 78 (.tmp 3) (.tmp 8) (by rfl) w1.heap.size 0 (treeCells T).toArray (by rfl) (by rfl) (by exact treeAt_there (unhide HN1) T) (treeSize' T) (treeOne T) ?_)
  generalize Value.agg (treeCells T).toArray = vT
  generalize (w1.alloc (.cells Tryz.zeroCells78 78)).setCells w1.heap.size 0 (treeCells T) = w2 at *
  have hb3 := (Below.refl w2.heap.size w2).alloc (Nat.le_refl _) (.cells Tryz.zeroCells78 78)
  have HV3 := hide (treeAt_new w2)
  have HR3 := hide ((unhide HR2).below hb3)
  have HP3 := hide ((unhide HP2).below hb3)
  have HB3 := hide ((unhide HB2).trans (hb3.mono (by omega)))
  clear hb3
  have hV : w2.heap.size = w1.heap.size + 1 := hs2
  have HVS := hide hV; clear hV hs2
  have hPV : w1.heap.size < w2.heap.size := by have := unhide HVS; omega
  go_wp2
  generalize w2.alloc (.cells Tryz.zeroCells78 78) = w3 at *
  go_loopw [5] (fun i wr => ∃ k : Nat, k ≤ 99 ∧ i = .int .i64 ((k : Int) + 1) ∧ Hid (Below w.heap.size w wr) ∧ Hid (TreeAt ext0 wr w1.heap.size T) ∧ Hid (TreeAt ext0 wr w2.heap.size (viewTo T k)) ∧ Hid (TreeAt ext0 wr w.heap.size tr0)) (fun i _ => 101 - (intOf i).toNat)
  case atStart => exact ⟨0, by omega, rfl, HB3, HP3, by rw [viewTo_0]; exact HV3, HR3⟩
  case round =>
    obtain ⟨k, hk, rfl, HB, HP, HV, HR⟩ := hrel
    by_cases hlt : k < 99
    · have HME := hide (meets_w T w1.heap.size ((k : Int) + 1) 0 wr (unhide HTW) (by omega) (by omega) (unhide HP))
      have HYS : Hid (meetsT T ((k : Int) + 1) 0 = true → (∃ n, T (k + 1) = some n) ∧ viewTo T (k + 1) = trPut (viewTo T k) (shownNd T (k + 1))) := hide (fun h => ⟨meets_there (i := k + 1) (by omega) h, viewTo_yes (unhide HTW) hlt h⟩)
      have HNO : Hid (meetsT T ((k : Int) + 1) 0 = false → viewTo T (k + 1) = viewTo T k) := hide (fun h => viewTo_no h)
      generalize meetsT T ((k : Int) + 1) 0 = q at *
      have hk1 : (k : Int) + 1 ≤ 99 := by omega
      cases q with
      | false =>
        have HE := hide (unhide HNO rfl)
        go_wp2_with (go_at_call 61; refine (unhide HME).mono ?_; rintro e w' ⟨rfl, rfl⟩)
        go_roundw
        case rel => exact ⟨k + 1, by omega, by go_num, HB, HP, by rw [unhide HE]; exact HV, HR⟩
        case measure => simp [intOf]; omega
      | true =>
        obtain ⟨⟨n, hn⟩, hE⟩ := unhide HYS rfl
        have HE := hide hE; clear hE
        have HSH : Hid (∀ W, TreeAt ext0 W w1.heap.size T → Calls Tryz.prog 62 #[.pointer (some ⟨w1.heap.size, 0, none⟩), .int .i64 ((k : Int) + 1)] W fun e w' => e = .returned (.agg #[.int .i64 (shownNd T (k + 1)).id, .int .i64 (shownNd T (k + 1)).parent, .string (bs (shownNd T (k + 1)).name)]) ∧ Below W.heap.size W w') := hide (fun W h => shown_any T w1.heap.size (k + 1) n W (unhide HTW) (by omega) (by omega) hn h)
        have HID := hide (shown_nd (unhide HTW) hn)
        clear hn
        generalize shownNd T (k + 1) = nd at *
        go_wp2_with (go_at_call 61; refine (unhide HME).mono ?_; rintro e w' ⟨rfl, rfl⟩)
        refine (unhide HSH _ (by exact unhide HP)).mono ?_
        rintro e w4 ⟨rfl, hb4⟩
        have hsr := (unhide HB).size
        have hb5 := hb4.trans (((Below.refl w4.heap.size w4).alloc (Nat.le_refl _) (.cells #[.int .i64 nd.id, .int .i64 nd.parent, .string (bs nd.name)] 75)).mono hb4.size)
        have HB5 := hide ((unhide HB).trans (hb5.mono hsr))
        have HP5 := hide ((unhide HP).below hb5)
        have HV5 := hide ((unhide HV).below hb5)
        have HR5 := hide ((unhide HR).below hb5)
        clear hb5 hb4
        go_wp2_with fail
        refine (put_any _ _ nd _ (by rw [unhide HID]; omega) (by rw [unhide HID]; omega) (by exact unhide HV5)).mono ?_
        rintro e w6 ⟨rfl, hT6, hg6⟩
        have HB6 : Hid (Below w.heap.size w w6) := hide ((unhide HB5).grown hg6 (unhide HB5).size (fun k hk => by cases hk; omega))
        have HP6 := hide (treeAt_grown (unhide HP5) hg6 (by omega))
        have HR6 := hide (treeAt_grown (unhide HR5) hg6 (by omega))
        have HV6 : Hid (TreeAt ext0 w6 w2.heap.size (viewTo T (k + 1))) := by apply hide; rw [unhide HE]; exact hT6
        clear hT6 hg6
        go_wp2
        go_roundw
        case rel => exact ⟨k + 1, by omega, by go_num, HB6, HP6, HV6, HR6⟩
        case measure => simp [intOf]; omega
    · have hk9 : k = 99 := by omega
      subst hk9
      have HE := hide (viewTo_99 T)
      generalize viewTo T 99 = U at *
      have HRG := hide (treeAt_range (unhide HV))
      have HTH := hide (treeAt_there (unhide HR) U)
      have hsr := (unhide HB).size
      go_wp2_with (first
        | (refine wpList_load_mid (by rfl) 78 (.tmp 4) (by rfl) w2.heap.size 0 (by rfl) (treeCells U) _ (unhide HRG) Tryz.underlying78 (by rfl) (treeSize U) ?_)
        | (refine wpList_store_mid (by rfl) 78 (.tmp 2) (.tmp 19) (by rfl) w.heap.size 0 (treeCells U).toArray (by rfl) (by rfl) (unhide HTH) (treeSize' U) (treeOne U) ?_))
      have hr := World.rangeAt_setCells_same wr w.heap.size 0 (treeCells U) (by have := unhide HTH; rwa [List.size_toArray] at this)
      refine bodyPost_ret (v := .agg (treeCells U).toArray) (by simp [results, Tryz.results31, Act.put, asAddr, run_loadVar_mid _ _ _ _ _ _ hr Tryz.underlying78 rfl (treeSize U)]) rfl ⟨by rw [unhide HE], ?_⟩
      exact below_setCells (unhide HB) (Nat.le_refl _) hsr _ _
set_option maxHeartbeats 2000000 in
set_option maxRecDepth 100000 in
theorem export_any (L : List Lo) (b : Nat) (site : Int) (v : Value) (w : World) (hR : Repl w b site v L) :
    Calls Tryz.prog 13 #[.pointer (some ⟨b, 0, none⟩)] w fun e w' => e = .returned (.string (bs (textT (viewT (places L))))) ∧ Below w.heap.size w w' := by
  have hlt := hR.lt
  obtain ⟨ao, ca, rfl, hrow⟩ := row_of_owns hR.own
  have HV := hide (view_any L b 1 ao ca w hR.at'.cell1 hlt hrow hR.ok.2.1 (by have := hR.ok.2.2; omega))
  have HOK := hide (view_valid (places_ok hR.ok.2.1)).ok
  clear hR hrow
  generalize viewT (places L) = U at *
  go_enter Tryz.func13, Tryz.ntmps13
  go_wp2_with fail
  refine (unhide HV).mono ?_
  rintro e w1 ⟨rfl, hb1⟩
  have HN1 := hide (treeAt_new w1)
  have hbx := below_setCells ((Below.refl w1.heap.size w1).alloc (Nat.le_refl _) (.cells Tryz.zeroCells78 78)) (g := w1.heap.size) (Nat.le_refl _) (by simp) 0 (treeCells U)
  have HB2 : Hid (Below w.heap.size w ((w1.alloc (.cells Tryz.zeroCells78 78)).setCells w1.heap.size 0 (treeCells U))) := hide (hb1.trans (hbx.mono hb1.size))
  have HP2 := hide (treeAt_stored (unhide HN1) U)
  clear hbx hb1
  go_upto_region 2 with (refine wpList_store_mid (by rfl) 78 (.tmp 3) (.tmp 7) (by rfl) w1.heap.size 0 (treeCells U).toArray (by rfl) (by rfl) (by exact treeAt_there (unhide HN1) U) (treeSize' U) (treeOne U) ?_)
  generalize Value.agg (treeCells U).toArray = vT
  generalize (w1.alloc (.cells Tryz.zeroCells78 78)).setCells w1.heap.size 0 (treeCells U) = w2 at *
  go_wp2_with fail
  refine (text_any U w1.heap.size w2 (unhide HOK) (unhide HP2)).mono ?_
  rintro e w3 ⟨rfl, hb3⟩
  have HB3 := hide ((unhide HB2).trans (hb3.mono (unhide HB2).size))
  clear hb3
  go_wp2
  go_ret
  exact ⟨rfl, unhide HB3⟩
end Go.Proofs.YtdcjimlhaklhfabGreatDoor

namespace Go.Proofs.YtdcjimlhaklhfabGreatDoor
open Go.Shelf Go.RowKit
def itoaRen : Go.Shelf.Ren := ⟨fun | 171 => 100 | 243 => 128 | 246 => 144 | 283 => 157 | 284 => 158 | 285 => 159 | 286 => 160 | 129 => 165 | 317 => 164 | 318 => 166 | 319 => 167 | 320 => 168 | 337 => 170 | 338 => 171 | n => n, fun | 3 => 3 | 9 => 9 | 2 => 2 | 4 => 4 | 171 => 220 | 0 => 0 | 53 => 221 | 37 => 159 | 5 => 5 | 173 => 224 | 212 => 228 | 51 => 229 | 20 => 20 | 213 => 230 | 46 => 231 | 232 => 235 | 233 => 236 | n => n, fun | 17 => 0 | 18 => 1 | 19 => 2 | n => n⟩
theorem itoaLays : Go.Proofs.LaysM.n171 Tryz.prog itoaRen := {
  mixed := by kernel_rfl
  f129 := Tryz.func165.trans (congrArg some (by kernel_rfl))
  f171 := Tryz.func100.trans (congrArg some (by kernel_rfl))
  f243 := Tryz.func128.trans (congrArg some (by kernel_rfl))
  f246 := Tryz.func144.trans (congrArg some (by kernel_rfl))
  f283 := Tryz.func157.trans (congrArg some (by kernel_rfl))
  f284 := Tryz.func158.trans (congrArg some (by kernel_rfl))
  f285 := Tryz.func159.trans (congrArg some (by kernel_rfl))
  f286 := Tryz.func160.trans (congrArg some (by kernel_rfl))
  f317 := Tryz.func164.trans (congrArg some (by kernel_rfl))
  f318 := Tryz.func166.trans (congrArg some (by kernel_rfl))
  f319 := Tryz.func167.trans (congrArg some (by kernel_rfl))
  f320 := Tryz.func168.trans (congrArg some (by kernel_rfl))
  f337 := Tryz.func170.trans (congrArg some (by kernel_rfl))
  f338 := Tryz.func171.trans (congrArg some (by kernel_rfl))
  t0 := Tryz.underlying0
  a0 := Tryz.isAgg0
  z0 := Tryz.sizeOf0
  v0 := Tryz.zeroValue0
  t2 := Tryz.underlying2
  a2 := Tryz.isAgg2
  z2 := Tryz.sizeOf2
  v2 := Tryz.zeroValue2
  t3 := Tryz.underlying3
  a3 := Tryz.isAgg3
  z3 := Tryz.sizeOf3
  v3 := Tryz.zeroValue3
  t4 := Tryz.underlying4
  a4 := Tryz.isAgg4
  z4 := Tryz.sizeOf4
  v4 := Tryz.zeroValue4
  t5 := Tryz.underlying5
  a5 := Tryz.isAgg5
  z5 := Tryz.sizeOf5
  v5 := Tryz.zeroValue5
  t9 := Tryz.underlying9
  a9 := Tryz.isAgg9
  z9 := Tryz.sizeOf9
  v9 := Tryz.zeroValue9
  t20 := Tryz.underlying20
  a20 := Tryz.isAgg20
  z20 := Tryz.sizeOf20
  v20 := Tryz.zeroValue20
  t37 := Tryz.underlying159
  a37 := Tryz.isAgg159
  z37 := Tryz.sizeOf159
  v37 := Tryz.zeroValue159
  t46 := Tryz.underlying231
  a46 := Tryz.isAgg231
  z46 := Tryz.sizeOf231
  v46 := Tryz.zeroValue231
  t51 := Tryz.underlying229
  a51 := Tryz.isAgg229
  z51 := Tryz.sizeOf229
  v51 := Tryz.zeroValue229
  t53 := Tryz.underlying221
  a53 := Tryz.isAgg221
  z53 := Tryz.sizeOf221
  v53 := Tryz.zeroValue221
  t171 := Tryz.underlying220
  a171 := Tryz.isAgg220
  z171 := Tryz.sizeOf220
  v171 := Tryz.zeroValue220
  t173 := Tryz.underlying224
  a173 := Tryz.isAgg224
  z173 := Tryz.sizeOf224
  v173 := Tryz.zeroValue224
  t212 := Tryz.underlying228
  a212 := Tryz.isAgg228
  z212 := Tryz.sizeOf228
  v212 := Tryz.zeroValue228
  t213 := Tryz.underlying230
  a213 := Tryz.isAgg230
  z213 := Tryz.sizeOf230
  t232 := Tryz.underlying235
  a232 := Tryz.isAgg235
  z232 := Tryz.sizeOf235
  v232 := Tryz.zeroValue235
  t233 := Tryz.underlying236
  a233 := Tryz.isAgg236
  z233 := Tryz.sizeOf236
  v233 := Tryz.zeroValue236
  g17 := by kernel_rfl
  g18 := by kernel_rfl
  g19 := by kernel_rfl
  i0 := by kernel_rfl
  i2 := by kernel_rfl
  i3 := by kernel_rfl
  i4 := by kernel_rfl
  i5 := by kernel_rfl
  i9 := by kernel_rfl
  i20 := by kernel_rfl
  i37 := by kernel_rfl
  i46 := by kernel_rfl
  i51 := by kernel_rfl
  i53 := by kernel_rfl
  i171 := by kernel_rfl
  i173 := by kernel_rfl
  i212 := by kernel_rfl
  i232 := by kernel_rfl
  i233 := by kernel_rfl
  m17 := by kernel_rfl
  m18 := by kernel_rfl
  m19 := by kernel_rfl }
/-- The library's table of powers, as its initialiser lays it. -/
abbrev Tab (w : World) : Prop := Lib.TabIs Tryz.prog w "internal/strconv.uint64pow10" .u64 Lib.pow10Tab
theorem dec_lib : ∀ (f n : Nat), n ≤ f → Lib.decDigits n = dec n := by
  intro f
  induction f with
  | zero => intro n h; have : n = 0 := by omega
            subst this; rw [Lib.decDigits]; rfl
  | succ f ih =>
    intro n h
    by_cases hn : n < 10
    · rw [Lib.decDigits, dif_pos hn, dec_small hn, Nat.mod_eq_of_lt hn]
    · rw [Lib.decDigits, dif_neg hn, dec_big hn, ih (n / 10) (by omega)]
theorem tab_below {w w' : World} (h : Tab w) (hb : Below w.heap.size w w') : Tab w' := Lib.tabBelow_of_tabIs h w' hb
theorem itoa_dec (n : Int) (w : World) (h0 : 0 ≤ n) (h1 : n ≤ 99999) (htab : Tab w) :
    Calls Tryz.prog 100 #[.int .i64 n] w fun e w' => e = .returned (.string (bs (dec n.toNat))) ∧ Below w.heap.size w w' := by
  refine (Any.strconv_Itoa itoaLays n (by omega) (by omega) w htab).mono ?_
  rintro e w' ⟨rfl, k, os, rfl⟩
  refine ⟨?_, Lib.below_grow w.heap.size w (Nat.le_refl _) k os⟩
  unfold Lib.itoa
  rw [if_neg (by omega), dec_lib n.toNat n.toNat (Nat.le_refl _)]
  rfl
end Go.Proofs.YtdcjimlhaklhfabGreatDoor

namespace Go.Proofs.YtdcjimlhaklhfabGreatDoor
open Go.RowKit
def ndTextW (n : Nd) : Str := dec n.id.toNat ++ [32] ++ dec n.parent.toNat ++ [32] ++ n.name ++ [59]
theorem loText_nd (x : Lo) : loText x = dec x.count.toNat ++ [32] ++ dec x.site.toNat ++ [32] ++ ndTextW x.node := by unfold loText ndTextW; simp only [List.append_assoc]
theorem ndTextW_len {n : Nd} (h : NdW n) : (ndTextW n).length ≤ 22 := by
  have h3 := dec_len n.id.toNat (by have := h.2.1; omega)
  have h4 := dec_len n.parent.toNat (by have := h.2.2.2.1; omega)
  have h5 := ndW_name h
  simp only [ndTextW, List.length_append, List.length_cons, List.length_nil]; omega
set_option maxHeartbeats 1000000 in
theorem ndTextW_any (n : Nd) (w : World) (h : NdW n) (htab : Tab w) :
    Calls Tryz.prog 64 #[.agg #[.int .i64 n.id, .int .i64 n.parent, .string (bs n.name)]] w fun e w' => e = .returned (.string (bs (ndTextW n))) ∧ Below w.heap.size w w' := by
  have hb0 := (Below.refl w.heap.size w).alloc (Nat.le_refl _) (.cells #[.int .i64 n.id, .int .i64 n.parent, .string (bs n.name)] 75)
  have hn1 := h.1
  have hn2 := h.2.1
  have hp1 := h.2.2.1
  have hp2 := h.2.2.2.1
  have hnl := ndW_name h
  have HI := hide (itoa_dec n.id _ (by omega) (by omega) (tab_below htab hb0))
  have HP := hide (fun W (t : Tab W) => itoa_dec n.parent W (by omega) (by omega) t)
  have l1 := dec_len n.id.toNat (by omega)
  have l2 := dec_len n.parent.toNat (by omega)
  have HN : Hid (ndTextW n = dec n.id.toNat ++ [32] ++ dec n.parent.toNat ++ [32] ++ n.name ++ [59]) := hide rfl
  have HT := hide (tab_below htab hb0)
  have HB0 := hide hb0; clear hb0 htab h
  have c1 : (w.alloc (.cells #[.int .i64 n.id, .int .i64 n.parent, .string (bs n.name)] 75)).cell? ⟨w.heap.size, 1, none⟩ = some (.int .i64 n.parent) := news_three _ _ _ _ 1 _ rfl
  have c2 : (w.alloc (.cells #[.int .i64 n.id, .int .i64 n.parent, .string (bs n.name)] 75)).cell? ⟨w.heap.size, 2, none⟩ = some (.string (bs n.name)) := news_three _ _ _ _ 2 _ rfl
  have C1 := hide c1
  have C2 := hide c2
  clear c1 c2
  generalize dec n.id.toNat = a at *
  generalize dec n.parent.toNat = b at *
  have a1 := add_32 a (by omega)
  have a2 := add_bs (a ++ [32]) b (by simp; omega) (by omega)
  have a3 := add_32 (a ++ [32] ++ b) (by simp; omega)
  have a4 := add_bs (a ++ [32] ++ b ++ [32]) n.name (by simp; omega) (by omega)
  have a5 := add_59 (a ++ [32] ++ b ++ [32] ++ n.name) (by simp; omega)
  generalize a ++ [32] ++ b ++ [32] ++ n.name ++ [59] = r5 at *
  generalize a ++ [32] ++ b ++ [32] ++ n.name = r4 at *
  generalize a ++ [32] ++ b ++ [32] = r3 at *
  generalize a ++ [32] ++ b = r2 at *
  generalize a ++ [32] = r1 at *
  go_enter Tryz.func64, Tryz.ntmps64
  go_wp2_with fail
  refine (unhide HI).mono ?_
  rintro e w1 ⟨rfl, hb1⟩
  have d1 := (hb1.cell (p := ⟨w.heap.size, 1, none⟩) (by simp)).trans (unhide C1)
  have D2 := hide ((hb1.cell (p := ⟨w.heap.size, 2, none⟩) (by simp)).trans (unhide C2))
  have HT1 := hide (tab_below (unhide HT) hb1)
  have HB1 := hide ((unhide HB0).trans (hb1.mono (by simp)))
  have hs1 : w.heap.size < w1.heap.size := by have := hb1.size; simp at this; omega
  clear hb1
  go_wp2_with fail
  refine (unhide HP _ (by exact unhide HT1)).mono ?_
  rintro e w2 ⟨rfl, hb2⟩
  have d2 := (hb2.cell (p := ⟨w.heap.size, 2, none⟩) hs1).trans (unhide D2)
  have HB2 := hide ((unhide HB1).trans (hb2.mono (by omega)))
  clear hb2
  go_wp2
  go_ret
  exact ⟨ret_str (by rw [unhide HN]), unhide HB2⟩
set_option maxHeartbeats 2000000 in
theorem opText_any (x : Lo) (w : World) (h : LoOk x) (htab : Tab w) :
    Calls Tryz.prog 75 #[.agg #[.int .i64 x.count, .int .i64 x.site, .int .i64 x.node.id, .int .i64 x.node.parent, .string (bs x.node.name)]] w fun e w' => e = .returned (.string (bs (loText x))) ∧ Below w.heap.size w w' := by
  have hb0 := (Below.refl w.heap.size w).alloc (Nat.le_refl _) (.cells #[.int .i64 x.count, .int .i64 x.site, .int .i64 x.node.id, .int .i64 x.node.parent, .string (bs x.node.name)] 113)
  have h1 := h.1
  have h2 := h.2.1
  have h3 := h.2.2.1
  have h4 := h.2.2.2.1
  have HI := hide (itoa_dec x.count _ (by omega) (by omega) (tab_below htab hb0))
  have HP := hide (fun W (t : Tab W) => itoa_dec x.site W (by omega) (by omega) t)
  have HX := hide (fun W (t : Tab W) => ndTextW_any x.node W h.2.2.2.2 t)
  have l1 := dec_len x.count.toNat (by omega)
  have l2 := dec_len x.site.toNat (by omega)
  have l3 := ndTextW_len h.2.2.2.2
  have HN := hide (loText_nd x)
  have HT := hide (tab_below htab hb0)
  have HB0 := hide hb0
  have HO := hide (opAt_new w x 113)
  clear hb0 htab h
  generalize dec x.count.toNat = a at *
  generalize dec x.site.toNat = b at *
  generalize ndTextW x.node = c at *
  have a1 := add_32 a (by omega)
  have a2 := add_bs (a ++ [32]) b (by simp; omega) (by omega)
  have a3 := add_32 (a ++ [32] ++ b) (by simp; omega)
  have a4 := add_bs (a ++ [32] ++ b ++ [32]) c (by simp; omega) (by omega)
  generalize a ++ [32] ++ b ++ [32] ++ c = r4 at *
  generalize a ++ [32] ++ b ++ [32] = r3 at *
  generalize a ++ [32] ++ b = r2 at *
  generalize a ++ [32] = r1 at *
  go_enter Tryz.func75, Tryz.ntmps75
  go_wp2_with fail
  refine (unhide HI).mono ?_
  rintro e w1 ⟨rfl, hb1⟩
  have HO1 := hide ((unhide HO).below hb1 (by simp))
  obtain ⟨hs1, _, d1, _⟩ := unhide HO1
  have HT1 := hide (tab_below (unhide HT) hb1)
  have HB1 := hide ((unhide HB0).trans (hb1.mono (by simp)))
  clear hb1
  go_wp2_with fail
  refine (unhide HP _ (by exact unhide HT1)).mono ?_
  rintro e w2 ⟨rfl, hb2⟩
  have HO2 := hide ((unhide HO1).below hb2 hs1)
  clear d1
  obtain ⟨hs2, _, _, d2, d3, d4⟩ := unhide HO2
  have HT2 := hide (tab_below (unhide HT1) hb2)
  have HB2 := hide ((unhide HB1).trans (hb2.mono (by omega)))
  clear hb2
  go_wp2_with fail
  refine (unhide HX _ (by exact unhide HT2)).mono ?_
  rintro e w3 ⟨rfl, hb3⟩
  have HB3 := hide ((unhide HB2).trans (hb3.mono (by omega)))
  clear hb3
  go_wp2
  go_ret
  exact ⟨ret_str (by rw [unhide HN]), unhide HB3⟩
theorem logText_take (L : List Lo) (k : Nat) (h : k < L.length) : logText (L.take (k + 1)) = logText (L.take k) ++ loText L[k] := by
  rw [List.take_succ_eq_append_getElem h, logText_snoc]
set_option maxHeartbeats 2000000 in
theorem opsText_any (L : List Lo) (ao : Option Addr) (cap : Nat) (w : World) (hrow : Row w ao L.length 5 (loCells L)) (hx : ∀ x ∈ L, LoOk x) (hl : L.length ≤ 4000) (htab : Tab w) :
    Calls Tryz.prog 38 #[.slice ao L.length cap] w fun e w' => e = .returned (.string (bs (logText L))) ∧ Below w.heap.size w w' := by
  have HROW := hide hrow; clear hrow
  have HX := hide hx; clear hx
  have HT := hide htab; clear htab
  go_enter Tryz.func38, Tryz.ntmps38
  go_wp2
  go_loopw [3, 8] (fun s i wr => ∃ k : Nat, ∃ S : Str, k ≤ L.length ∧ i = .int .i64 k ∧ s = .string (bs S) ∧ Below w.heap.size w wr ∧ Hid (S = logText (L.take k))) (fun _ i _ => L.length - (intOf i).toNat)
  case atStart => exact ⟨0, [], Nat.zero_le _, rfl, rfl, Below.refl _ _, hide (by simp [logText])⟩
  case round =>
    obtain ⟨k, S, hk, rfl, rfl, hbel, HS⟩ := hrel
    by_cases hlt : k < L.length
    · obtain ⟨g, hao, hg, c0, c1, c2, c3, c4⟩ := lo_cells (unhide HROW) hbel (Nat.le_refl _) hlt
      rw [hao]
      clear hao
      have hxk := unhide HX _ (List.getElem_mem hlt)
      have HSN := hide (logText_take L k hlt)
      have hsl : S.length ≤ 32 * 4000 := by
        rw [unhide HS]
        have := logText_len (L.take k) (fun x h => unhide HX x (List.mem_of_mem_take h))
        rw [List.length_take] at this; omega
      have htl := loText_len hxk
      have hsz := hbel.size
      generalize L[k] = x at *
      have hB1 := (Below.refl wr.heap.size wr).alloc (Nat.le_refl _) (.cells #[.int .i64 x.count, .int .i64 x.site, .int .i64 x.node.id, .int .i64 x.node.parent, .string (bs x.node.name)] 113)
      have HTX := hide (opText_any x _ hxk (tab_below (unhide HT) (hbel.trans (hB1.mono hsz))))
      have HB1 := hide (hbel.trans (hB1.mono hsz))
      clear hB1 hxk
      have hadd := add_bs S (loText x) (by omega) (by omega)
      have HS2 : Hid (S ++ loText x = logText (L.take (k + 1))) := by apply hide; rw [unhide HSN, unhide HS]
      generalize loText x = tx at *
      go_wp2_with fail
      refine (unhide HTX).mono ?_
      rintro e w2 ⟨rfl, hb2⟩
      have HB2 := hide ((unhide HB1).trans (hb2.mono (unhide HB1).size))
      clear hb2 c0 c1 c2 c3 c4
      go_wp2
      go_roundw
      case rel => exact ⟨k + 1, _, by omega, by go_num, rfl, unhide HB2, HS2⟩
      case measure => simp [intOf]; omega
    · have HE : Hid (logText L = S) := by apply hide; rw [unhide HS, List.take_of_length_le (by omega)]
      go_wp2
      go_ret
      exact ⟨ret_str (by rw [unhide HE]), hbel⟩
set_option maxHeartbeats 1000000 in
theorem logText_any (L : List Lo) (b o : Nat) (ao : Option Addr) (cap : Nat) (w : World) (hlog : w.cell? ⟨b, o, none⟩ = some (.slice ao L.length cap)) (hrow : Row w ao L.length 5 (loCells L)) (hx : ∀ x ∈ L, LoOk x) (hl : L.length ≤ 4000) (htab : Tab w) :
    Calls Tryz.prog 28 #[.pointer (some ⟨b, o, none⟩)] w fun e w' => e = .returned (.string (bs (logText L))) ∧ Below w.heap.size w w' := by
  have HT := hide (opsText_any L ao cap w hrow hx hl htab)
  clear hrow hx htab
  go_enter Tryz.func28, Tryz.ntmps28
  go_wp2_with fail
  refine (unhide HT).mono ?_
  rintro e w1 ⟨rfl, hb1⟩
  go_wp2
  go_ret
  exact ⟨rfl, hb1⟩
set_option maxHeartbeats 1000000 in
theorem log_any (L : List Lo) (b : Nat) (site : Int) (v : Value) (w : World) (hR : Repl w b site v L) (htab : Tab w) :
    Calls Tryz.prog 11 #[.pointer (some ⟨b, 0, none⟩)] w fun e w' => e = .returned (.string (bs (logText L))) ∧ Below w.heap.size w w' := by
  obtain ⟨ao, ca, rfl, hrow⟩ := row_of_owns hR.own
  have HL := hide (logText_any L b 1 ao ca w hR.at'.cell1 hrow hR.ok.2.1 (by have := hR.ok.2.2; omega) htab)
  clear hR hrow htab
  go_enter Tryz.func11, Tryz.ntmps11
  go_wp2_with fail
  refine (unhide HL).mono ?_
  rintro e w1 ⟨rfl, hb1⟩
  go_wp2
  go_ret
  exact ⟨rfl, hb1⟩
end Go.Proofs.YtdcjimlhaklhfabGreatDoor
