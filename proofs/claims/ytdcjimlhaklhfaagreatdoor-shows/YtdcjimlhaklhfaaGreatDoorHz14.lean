import Derived.Test.YtdcjimlhaklhfaaGreatDoorHz13
import Derived.Test.YtdcjimlhaklhfaaGreatDoorHz7
import Derived.Deep.RegionWith
import Derived.Test.YtdcjimlhaklhfaaGreatDoorHz12
import Derived.Deep.Cut
import Derived.Shelf.Strconv.Itoa0
import Derived.Shelf.Strconv.Itoa1
import Derived.Shelf.LaysM
import Derived.Shelf.Strconv.Itoa2
import Derived.Shelf.Strconv.Itoa3
import Derived.Lib.AppendIntMem
import Derived.Test.YtdcjimlhaklhfaaGreatDoorHz1
import Derived.Test.YtdcjimlhaklhfaaGreatDoorHz5
import Derived.BigQuiet
namespace Go.Proofs.YtdcjimlhaklhfaaGreatDoor
open Go.RowKit
set_option maxHeartbeats 400000 in
theorem get_w (t : Tr) (b m : Nat) (n : Nd) (w : World) (ht : TrW t) (hm : m ≤ 99) (hn : t m = some n) (hT : TreeAt ext0 w b t) :
    Calls Tryz.prog 122 #[.pointer (some ⟨b, 0, none⟩), .int .i64 m] w fun e w' => e = .returned (.agg #[.int .i64 n.id, .int .i64 n.parent, .string (bs n.name)]) ∧ Below w.heap.size w w' := by
  have hb1 := (Below.refl w.heap.size w).alloc (Nat.le_refl _) (.cells #[.int .i64 0, .int .i64 0, .string ByteArray.empty] 85)
  have HH := hide (has_w t b m _ ht (by omega) (hT.below hb1))
  have c1 := hT.id m (by omega)
  have c2 := hT.parent m (by omega)
  have c3 := hT.name m (by omega)
  have hlt := hT.lt
  have hne : ¬ b = w.heap.size := by omega
  have hm0 : (0 : Int) ≤ m := by omega
  have HB := hide hb1
  rw [hn] at HH c1 c2 c3
  clear hT ht hb1 hn
  go_enter Tryz.func122, Tryz.ntmps122
  go_wp2_with fail
  refine (unhide HH).mono ?_
  rintro e w1 ⟨rfl, rfl⟩
  go_wp2
  refine bodyPost_ret (v := .agg #[.int .i64 n.id, .int .i64 n.parent, .string (bs n.name)]) (by simp [results, Tryz.results122, go_sem]) rfl ⟨rfl, ?_⟩
  exact (Below.refl _ _).alloc (Nat.le_refl _) _
theorem add_126 (a : Str) (ha : a.length ≤ 1000000) (W : World) : (Op.stringOp .add ⟨#[126]⟩ (bs a)).run Tryz.prog W = .ok (.string (bs (126 :: a))) W := add_bs [126] a (by simp) ha W
set_option maxHeartbeats 2000000 in
theorem shown_any (t : Tr) (b m : Nat) (n : Nd) (w : World) (ht : TrW t) (hm1 : 1 ≤ m) (hm : m ≤ 99) (hn : t m = some n) (hT : TreeAt ext0 w b t) :
    Calls Tryz.prog 94 #[.pointer (some ⟨b, 0, none⟩), .int .i64 m] w fun e w' => e = .returned (.agg #[.int .i64 (shownNd t m).id, .int .i64 (shownNd t m).parent, .string (bs (shownNd t m).name)]) ∧ Below w.heap.size w w' := by
  have hb1 := (Below.refl w.heap.size w).alloc (Nat.le_refl _) (.cells #[.int .i64 0, .int .i64 0, .string ByteArray.empty] 85)
  have HG := hide (get_w t b m n _ ht hm hn (hT.below hb1))
  have HAT := hide (fun W (h : TreeAt ext0 W b t) => at_any t b n.parent n.name W h)
  have HS : Hid (shownNd t m = if atT t n.parent n.name = (m : Int) then n else ⟨n.id, n.parent, n.name ++ 126 :: digs m⟩) := by apply hide; unfold shownNd; rw [hn]; rfl
  have hnl := ndW_name (ht.2 m n hn).2.2.2
  have hlt := hT.lt
  have hne : ¬ b = w.heap.size := by omega
  have HIT := hide (fun W => itoa_any (m : Int) W (by omega) (by omega))
  have hdl := digs_len (m : Int)
  have HT1 := hide (hT.below hb1)
  clear hT ht hb1 hn
  generalize atT t n.parent n.name = q at *
  have a1 := add_126 (digs (m : Int)) (by omega)
  have a2 := add_bs n.name (126 :: digs (m : Int)) (by omega) (by simp; omega)
  by_cases hq : q = (m : Int)
  · have hqe : (q != (m : Int)) = false := by simpa using hq
    have HS2 : Hid (shownNd t m = n) := by apply hide; rw [unhide HS, if_pos hq]
    clear hq
    go_enter Tryz.func94, Tryz.ntmps94
    go_wp2_with fail
    refine (unhide HG).mono ?_
    rintro e w1 ⟨rfl, hb1⟩
    obtain ⟨hc, hf⟩ := bcell hb1
    have hz : w.heap.size + 1 ≤ w1.heap.size := by have := hb1.size; simp at this; omega
    have hz1 : w.heap.size < w1.heap.size := by omega
    have hz2 : ¬ w.heap.size = w1.heap.size := by omega
    have HB0 : Hid (Below w.heap.size w w1) := hide (((Below.refl _ _).alloc (Nat.le_refl _) _).trans (hb1.mono (by simp)))
    have HT2 := hide (((unhide HT1).below hb1).below ((Below.refl w1.heap.size w1).alloc (Nat.le_refl _) (.cells #[.int .i64 n.id, .int .i64 n.parent, .string (bs n.name)] 85)))
    clear hb1
    go_wp2_with fail
    refine (unhide HAT _ (by exact unhide HT2)).mono ?_
    rintro e w2 ⟨rfl, rfl⟩
    go_wp2
    refine bodyPost_ret (v := .agg #[.int .i64 n.id, .int .i64 n.parent, .string (bs n.name)]) (by simp [results, Tryz.results94, go_sem, hc, hz1]) rfl ⟨by rw [unhide HS2], ?_⟩
    exact ((((unhide HB0).setCell (by simp) _).setCell (by simp) _).setCell (by simp) _).alloc (by simp; omega) _
  · have hqe : (q != (m : Int)) = true := by simpa using hq
    have HS2 : Hid (shownNd t m = ⟨n.id, n.parent, n.name ++ 126 :: digs m⟩) := by apply hide; rw [unhide HS, if_neg hq]
    clear hq
    generalize n.name ++ 126 :: digs (m : Int) = nn at *
    go_enter Tryz.func94, Tryz.ntmps94
    go_wp2_with fail
    refine (unhide HG).mono ?_
    rintro e w1 ⟨rfl, hb1⟩
    obtain ⟨hc, hf⟩ := bcell hb1
    have hz : w.heap.size + 1 ≤ w1.heap.size := by have := hb1.size; simp at this; omega
    have hz1 : w.heap.size < w1.heap.size := by omega
    have hz2 : ¬ w.heap.size = w1.heap.size := by omega
    have HB0 : Hid (Below w.heap.size w w1) := hide (((Below.refl _ _).alloc (Nat.le_refl _) _).trans (hb1.mono (by simp)))
    have HT2 := hide (((unhide HT1).below hb1).below ((Below.refl w1.heap.size w1).alloc (Nat.le_refl _) (.cells #[.int .i64 n.id, .int .i64 n.parent, .string (bs n.name)] 85)))
    clear hb1
    go_wp2_with fail
    refine (unhide HAT _ (by exact unhide HT2)).mono ?_
    rintro e w2 ⟨rfl, rfl⟩
    go_wp2_with fail
    go_region_with (go_at_call 106; refine (unhide HIT _).mono ?_; rintro e w3 ⟨rfl, rfl⟩)
    all_goals
      go_wp2
      refine bodyPost_ret (v := .agg #[.int .i64 n.id, .int .i64 n.parent, .string (bs nn)]) (by simp [results, Tryz.results94, go_sem, hc, hz1]) rfl ⟨by rw [unhide HS2], ?_⟩
      exact (((((unhide HB0).setCell (by simp) _).setCell (by simp) _).setCell (by simp) _).alloc (by simp; omega) _).drew
end Go.Proofs.YtdcjimlhaklhfaaGreatDoor

namespace Go.Proofs.YtdcjimlhaklhfaaGreatDoor
open Go.RowKit
theorem shown_nd {t : Tr} (h : TrW t) {i : Nat} {n : Nd} (hn : t i = some n) : (shownNd t i).id = (i : Int) := (shown_id h hn).1
set_option maxHeartbeats 4000000 in
set_option maxRecDepth 100000 in
theorem view_any (L : List Lo) (b o : Nat) (ao : Option Addr) (cap : Nat) (w : World) (hlog : w.cell? ⟨b, o, none⟩ = some (.slice ao L.length cap)) (hb : b < w.heap.size) (hrow : Row w ao L.length 5 (loCells L)) (hx : ∀ x ∈ L, LoOk x) (hl : L.length ≤ 4000) :
    Calls Tryz.prog 66 #[.pointer (some ⟨b, o, none⟩)] w fun e w' => e = .returned (.agg (treeCells (viewT (places L))).toArray) ∧ Below w.heap.size w w' := by
  have hb0 := (Below.refl w.heap.size w).alloc (Nat.le_refl _) (.cells Tryz.zeroCells88 88)
  have HPL := hide (places_any L b o ao cap _ (by rw [hb0.cell (p := ⟨b, o, none⟩) hb]; exact hlog) (by simp; omega) (hrow.below hb0) hx hl)
  have HTW := hide (places_ok hx)
  have HN0 := hide (treeAt_new w)
  clear hlog hrow hx hb0
  generalize places L = T at *
  go_enter Tryz.func66, Tryz.ntmps66
  go_wp2_with fail
  refine (unhide HPL).mono ?_
  rintro e w1 ⟨rfl, hb1⟩
  have HB1 : Hid (Below w.heap.size w w1) := hide (((Below.refl _ _).alloc (Nat.le_refl _) _).trans (hb1.mono (by simp)))
  have HR1 := hide ((unhide HN0).below hb1)
  have hsz : w.heap.size < w1.heap.size := by have := hb1.size; simp at this; omega
  clear hb1
  have HN1 := hide (treeAt_new w1)
  have hbx := below_setCells ((Below.refl w1.heap.size w1).alloc (Nat.le_refl _) (.cells Tryz.zeroCells88 88)) (g := w1.heap.size) (Nat.le_refl _) (by simp) 0 (treeCells T)
  have HB2 : Hid (Below w.heap.size w ((w1.alloc (.cells Tryz.zeroCells88 88)).setCells w1.heap.size 0 (treeCells T))) := hide ((unhide HB1).trans (hbx.mono (by omega)))
  have HR2 := hide ((unhide HR1).below hbx)
  have HP2 := hide (treeAt_stored (unhide HN1) T)
  have hs2 : ((w1.alloc (.cells Tryz.zeroCells88 88)).setCells w1.heap.size 0 (treeCells T)).heap.size = w1.heap.size + 1 := by rw [(size_setCells _ _ _ _).1]; simp
  clear hbx
  go_upto_region 2 with (refine wpList_store_mid (by rfl) 88 (.tmp 3) (.tmp 8) (by rfl) w1.heap.size 0 (treeCells T).toArray (by rfl) (by rfl) (by exact treeAt_there (unhide HN1) T) (treeSize' T) (treeOne T) ?_)
  generalize Value.agg (treeCells T).toArray = vT
  generalize (w1.alloc (.cells Tryz.zeroCells88 88)).setCells w1.heap.size 0 (treeCells T) = w2 at *
  have hb3 := (Below.refl w2.heap.size w2).alloc (Nat.le_refl _) (.cells Tryz.zeroCells88 88)
  have HV3 := hide (treeAt_new w2)
  have HR3 := hide ((unhide HR2).below hb3)
  have HP3 := hide ((unhide HP2).below hb3)
  have HB3 := hide ((unhide HB2).trans (hb3.mono (by omega)))
  clear hb3
  have hV : w2.heap.size = w1.heap.size + 1 := hs2
  have HVS := hide hV; clear hV hs2
  have hPV : w1.heap.size < w2.heap.size := by have := unhide HVS; omega
  go_wp2
  generalize w2.alloc (.cells Tryz.zeroCells88 88) = w3 at *
  go_loopw [5] (fun i wr => ∃ k : Nat, k ≤ 99 ∧ i = .int .i64 ((k : Int) + 1) ∧ Hid (Below w.heap.size w wr) ∧ Hid (TreeAt ext0 wr w1.heap.size T) ∧ Hid (TreeAt ext0 wr w2.heap.size (viewTo T k)) ∧ Hid (TreeAt ext0 wr w.heap.size tr0)) (fun i _ => 101 - (intOf i).toNat)
  case atStart => exact ⟨0, by omega, rfl, HB3, HP3, by rw [viewTo_0]; exact HV3, HR3⟩
  case round =>
    obtain ⟨k, hk, rfl, HB, HP, HV, HR⟩ := hrel
    by_cases hlt : k < 99
    · have HME := hide (meets_w T w1.heap.size ((k : Int) + 1) 0 wr (unhide HTW) (by omega) (by omega) (unhide HP))
      have HYS : Hid (meetsT T ((k : Int) + 1) 0 = true → (∃ n, T (k + 1) = some n) ∧ viewTo T (k + 1) = trPut (viewTo T k) (shownNd T (k + 1))) := hide (fun h => ⟨meets_there (i := k + 1) (by omega) h, viewTo_yes (unhide HTW) hlt h⟩)
      have HNO : Hid (meetsT T ((k : Int) + 1) 0 = false → viewTo T (k + 1) = viewTo T k) := hide (fun h => viewTo_no h)
      generalize meetsT T ((k : Int) + 1) 0 = q at *
      have hk1 : (k : Int) + 1 ≤ 99 := by omega
      cases q with
      | false =>
        have HE := hide (unhide HNO rfl)
        go_wp2_with (go_at_call 93; refine (unhide HME).mono ?_; rintro e w' ⟨rfl, rfl⟩)
        go_roundw
        case rel => exact ⟨k + 1, by omega, by go_num, HB, HP, by rw [unhide HE]; exact HV, HR⟩
        case measure => simp [intOf]; omega
      | true =>
        obtain ⟨⟨n, hn⟩, hE⟩ := unhide HYS rfl
        have HE := hide hE; clear hE
        have HSH : Hid (∀ W, TreeAt ext0 W w1.heap.size T → Calls Tryz.prog 94 #[.pointer (some ⟨w1.heap.size, 0, none⟩), .int .i64 ((k : Int) + 1)] W fun e w' => e = .returned (.agg #[.int .i64 (shownNd T (k + 1)).id, .int .i64 (shownNd T (k + 1)).parent, .string (bs (shownNd T (k + 1)).name)]) ∧ Below W.heap.size W w') := hide (fun W h => shown_any T w1.heap.size (k + 1) n W (unhide HTW) (by omega) (by omega) hn h)
        have HID := hide (shown_nd (unhide HTW) hn)
        clear hn
        generalize shownNd T (k + 1) = nd at *
        go_wp2_with (go_at_call 93; refine (unhide HME).mono ?_; rintro e w' ⟨rfl, rfl⟩)
        refine (unhide HSH _ (by exact unhide HP)).mono ?_
        rintro e w4 ⟨rfl, hb4⟩
        have hsr := (unhide HB).size
        have hb5 := hb4.trans (((Below.refl w4.heap.size w4).alloc (Nat.le_refl _) (.cells #[.int .i64 nd.id, .int .i64 nd.parent, .string (bs nd.name)] 85)).mono hb4.size)
        have HB5 := hide ((unhide HB).trans (hb5.mono hsr))
        have HP5 := hide ((unhide HP).below hb5)
        have HV5 := hide ((unhide HV).below hb5)
        have HR5 := hide ((unhide HR).below hb5)
        clear hb5 hb4
        go_wp2_with fail
        refine (put_any _ _ nd _ (by rw [unhide HID]; omega) (by rw [unhide HID]; omega) (by exact unhide HV5)).mono ?_
        rintro e w6 ⟨rfl, hT6, hg6⟩
        have HB6 : Hid (Below w.heap.size w w6) := hide ((unhide HB5).grown hg6 (unhide HB5).size (fun k hk => by cases hk; omega))
        have HP6 := hide (treeAt_grown (unhide HP5) hg6 (by omega))
        have HR6 := hide (treeAt_grown (unhide HR5) hg6 (by omega))
        have HV6 : Hid (TreeAt ext0 w6 w2.heap.size (viewTo T (k + 1))) := by apply hide; rw [unhide HE]; exact hT6
        clear hT6 hg6
        go_wp2
        go_roundw
        case rel => exact ⟨k + 1, by omega, by go_num, HB6, HP6, HV6, HR6⟩
        case measure => simp [intOf]; omega
    · have hk9 : k = 99 := by omega
      subst hk9
      have HE := hide (viewTo_99 T)
      generalize viewTo T 99 = U at *
      have HRG := hide (treeAt_range (unhide HV))
      have HTH := hide (treeAt_there (unhide HR) U)
      have hsr := (unhide HB).size
      go_wp2_with (first
        | (refine wpList_load_mid (by rfl) 88 (.tmp 4) (by rfl) w2.heap.size 0 (by rfl) (treeCells U) _ (unhide HRG) Tryz.underlying88 (by rfl) (treeSize U) ?_)
        | (refine wpList_store_mid (by rfl) 88 (.tmp 2) (.tmp 19) (by rfl) w.heap.size 0 (treeCells U).toArray (by rfl) (by rfl) (unhide HTH) (treeSize' U) (treeOne U) ?_))
      have hr := World.rangeAt_setCells_same wr w.heap.size 0 (treeCells U) (by have := unhide HTH; rwa [List.size_toArray] at this)
      refine bodyPost_ret (v := .agg (treeCells U).toArray) (by simp [results, Tryz.results66, Act.put, asAddr, run_loadVar_mid _ _ _ _ _ _ hr Tryz.underlying88 rfl (treeSize U)]) rfl ⟨by rw [unhide HE], ?_⟩
      exact below_setCells (unhide HB) (Nat.le_refl _) hsr _ _
set_option maxHeartbeats 2000000 in
set_option maxRecDepth 100000 in
theorem export_any (L : List Lo) (b : Nat) (site : Int) (v : Value) (w : World) (hR : Repl w b site v L) :
    Calls Tryz.prog 41 #[.pointer (some ⟨b, 0, none⟩)] w fun e w' => e = .returned (.string (bs (textT (viewT (places L))))) ∧ Below w.heap.size w w' := by
  have hlt := hR.lt
  obtain ⟨ao, ca, rfl, hrow⟩ := row_of_owns hR.own
  have HV := hide (view_any L b 1 ao ca w hR.at'.cell1 hlt hrow hR.ok.2.1 (by have := hR.ok.2.2; omega))
  have HOK := hide (view_valid (places_ok hR.ok.2.1)).ok
  clear hR hrow
  generalize viewT (places L) = U at *
  go_enter Tryz.func41, Tryz.ntmps41
  go_wp2_with fail
  refine (unhide HV).mono ?_
  rintro e w1 ⟨rfl, hb1⟩
  have HN1 := hide (treeAt_new w1)
  have hbx := below_setCells ((Below.refl w1.heap.size w1).alloc (Nat.le_refl _) (.cells Tryz.zeroCells88 88)) (g := w1.heap.size) (Nat.le_refl _) (by simp) 0 (treeCells U)
  have HB2 : Hid (Below w.heap.size w ((w1.alloc (.cells Tryz.zeroCells88 88)).setCells w1.heap.size 0 (treeCells U))) := hide (hb1.trans (hbx.mono hb1.size))
  have HP2 := hide (treeAt_stored (unhide HN1) U)
  clear hbx hb1
  go_upto_region 2 with (refine wpList_store_mid (by rfl) 88 (.tmp 3) (.tmp 7) (by rfl) w1.heap.size 0 (treeCells U).toArray (by rfl) (by rfl) (by exact treeAt_there (unhide HN1) U) (treeSize' U) (treeOne U) ?_)
  generalize Value.agg (treeCells U).toArray = vT
  generalize (w1.alloc (.cells Tryz.zeroCells88 88)).setCells w1.heap.size 0 (treeCells U) = w2 at *
  go_wp2_with fail
  refine (text_any U w1.heap.size w2 (unhide HOK) (unhide HP2)).mono ?_
  rintro e w3 ⟨rfl, hb3⟩
  have HB3 := hide ((unhide HB2).trans (hb3.mono (unhide HB2).size))
  clear hb3
  go_wp2
  go_ret
  exact ⟨rfl, unhide HB3⟩
end Go.Proofs.YtdcjimlhaklhfaaGreatDoor

namespace Go.Proofs.YtdcjimlhaklhfaaGreatDoor
open Go.Shelf Go.RowKit
def itoaRen : Go.Shelf.Ren := ⟨fun | 171 => 106 | 243 => 128 | 246 => 135 | 283 => 139 | 284 => 140 | 285 => 141 | 286 => 142 | 129 => 145 | 317 => 144 | 318 => 146 | 319 => 147 | 320 => 148 | 337 => 150 | 338 => 151 | n => n, fun | 3 => 3 | 9 => 9 | 2 => 2 | 4 => 4 | 171 => 191 | 0 => 0 | 53 => 192 | 37 => 112 | 5 => 5 | 173 => 195 | 212 => 199 | 51 => 200 | 20 => 20 | 213 => 201 | 46 => 202 | 232 => 205 | 233 => 206 | n => n, fun | 17 => 0 | 18 => 1 | 19 => 2 | n => n⟩
theorem itoaLays : Go.Proofs.LaysM.n171 Tryz.prog itoaRen := {
  mixed := by kernel_rfl
  f129 := Tryz.func145.trans (congrArg some (by kernel_rfl))
  f171 := Tryz.func106.trans (congrArg some (by kernel_rfl))
  f243 := Tryz.func128.trans (congrArg some (by kernel_rfl))
  f246 := Tryz.func135.trans (congrArg some (by kernel_rfl))
  f283 := Tryz.func139.trans (congrArg some (by kernel_rfl))
  f284 := Tryz.func140.trans (congrArg some (by kernel_rfl))
  f285 := Tryz.func141.trans (congrArg some (by kernel_rfl))
  f286 := Tryz.func142.trans (congrArg some (by kernel_rfl))
  f317 := Tryz.func144.trans (congrArg some (by kernel_rfl))
  f318 := Tryz.func146.trans (congrArg some (by kernel_rfl))
  f319 := Tryz.func147.trans (congrArg some (by kernel_rfl))
  f320 := Tryz.func148.trans (congrArg some (by kernel_rfl))
  f337 := Tryz.func150.trans (congrArg some (by kernel_rfl))
  f338 := Tryz.func151.trans (congrArg some (by kernel_rfl))
  t0 := Tryz.underlying0
  a0 := Tryz.isAgg0
  z0 := Tryz.sizeOf0
  v0 := Tryz.zeroValue0
  t2 := Tryz.underlying2
  a2 := Tryz.isAgg2
  z2 := Tryz.sizeOf2
  v2 := Tryz.zeroValue2
  t3 := Tryz.underlying3
  a3 := Tryz.isAgg3
  z3 := Tryz.sizeOf3
  v3 := Tryz.zeroValue3
  t4 := Tryz.underlying4
  a4 := Tryz.isAgg4
  z4 := Tryz.sizeOf4
  v4 := Tryz.zeroValue4
  t5 := Tryz.underlying5
  a5 := Tryz.isAgg5
  z5 := Tryz.sizeOf5
  v5 := Tryz.zeroValue5
  t9 := Tryz.underlying9
  a9 := Tryz.isAgg9
  z9 := Tryz.sizeOf9
  v9 := Tryz.zeroValue9
  t20 := Tryz.underlying20
  a20 := Tryz.isAgg20
  z20 := Tryz.sizeOf20
  v20 := Tryz.zeroValue20
  t37 := Tryz.underlying112
  a37 := Tryz.isAgg112
  z37 := Tryz.sizeOf112
  v37 := Tryz.zeroValue112
  t46 := Tryz.underlying202
  a46 := Tryz.isAgg202
  z46 := Tryz.sizeOf202
  v46 := Tryz.zeroValue202
  t51 := Tryz.underlying200
  a51 := Tryz.isAgg200
  z51 := Tryz.sizeOf200
  v51 := Tryz.zeroValue200
  t53 := Tryz.underlying192
  a53 := Tryz.isAgg192
  z53 := Tryz.sizeOf192
  v53 := Tryz.zeroValue192
  t171 := Tryz.underlying191
  a171 := Tryz.isAgg191
  z171 := Tryz.sizeOf191
  v171 := Tryz.zeroValue191
  t173 := Tryz.underlying195
  a173 := Tryz.isAgg195
  z173 := Tryz.sizeOf195
  v173 := Tryz.zeroValue195
  t212 := Tryz.underlying199
  a212 := Tryz.isAgg199
  z212 := Tryz.sizeOf199
  v212 := Tryz.zeroValue199
  t213 := Tryz.underlying201
  a213 := Tryz.isAgg201
  z213 := Tryz.sizeOf201
  t232 := Tryz.underlying205
  a232 := Tryz.isAgg205
  z232 := Tryz.sizeOf205
  v232 := Tryz.zeroValue205
  t233 := Tryz.underlying206
  a233 := Tryz.isAgg206
  z233 := Tryz.sizeOf206
  v233 := Tryz.zeroValue206
  g17 := by kernel_rfl
  g18 := by kernel_rfl
  g19 := by kernel_rfl
  i0 := by kernel_rfl
  i2 := by kernel_rfl
  i3 := by kernel_rfl
  i4 := by kernel_rfl
  i5 := by kernel_rfl
  i9 := by kernel_rfl
  i20 := by kernel_rfl
  i37 := by kernel_rfl
  i46 := by kernel_rfl
  i51 := by kernel_rfl
  i53 := by kernel_rfl
  i171 := by kernel_rfl
  i173 := by kernel_rfl
  i212 := by kernel_rfl
  i232 := by kernel_rfl
  i233 := by kernel_rfl
  m17 := by kernel_rfl
  m18 := by kernel_rfl
  m19 := by kernel_rfl }
/-- The library's table of powers, as its initialiser lays it. -/
abbrev Tab (w : World) : Prop := Lib.TabIs Tryz.prog w "internal/strconv.uint64pow10" .u64 Lib.pow10Tab
theorem dec_lib : ∀ (f n : Nat), n ≤ f → Lib.decDigits n = dec n := by
  intro f
  induction f with
  | zero => intro n h; have : n = 0 := by omega
            subst this; rw [Lib.decDigits]; rfl
  | succ f ih =>
    intro n h
    by_cases hn : n < 10
    · rw [Lib.decDigits, dif_pos hn, dec_small hn, Nat.mod_eq_of_lt hn]
    · rw [Lib.decDigits, dif_neg hn, dec_big hn, ih (n / 10) (by omega)]
theorem tab_below {w w' : World} (h : Tab w) (hb : Below w.heap.size w w') : Tab w' := Lib.tabBelow_of_tabIs h w' hb
theorem itoa_dec (n : Int) (w : World) (h0 : 0 ≤ n) (h1 : n ≤ 99999) (htab : Tab w) :
    Calls Tryz.prog 106 #[.int .i64 n] w fun e w' => e = .returned (.string (bs (dec n.toNat))) ∧ Below w.heap.size w w' := by
  refine (Any.strconv_Itoa itoaLays n (by omega) (by omega) w htab).mono ?_
  rintro e w' ⟨rfl, k, os, rfl⟩
  refine ⟨?_, Lib.below_grow w.heap.size w (Nat.le_refl _) k os⟩
  unfold Lib.itoa
  rw [if_neg (by omega), dec_lib n.toNat n.toNat (Nat.le_refl _)]
  rfl
end Go.Proofs.YtdcjimlhaklhfaaGreatDoor

namespace Go.Proofs.YtdcjimlhaklhfaaGreatDoor
open Go.RowKit
def ndTextW (n : Nd) : Str := dec n.id.toNat ++ [32] ++ dec n.parent.toNat ++ [32] ++ n.name ++ [59]
theorem loText_nd (x : Lo) : loText x = dec x.count.toNat ++ [32] ++ dec x.site.toNat ++ [32] ++ ndTextW x.node := by unfold loText ndTextW; simp only [List.append_assoc]
theorem ndTextW_len {n : Nd} (h : NdW n) : (ndTextW n).length ≤ 22 := by
  have h3 := dec_len n.id.toNat (by have := h.2.1; omega)
  have h4 := dec_len n.parent.toNat (by have := h.2.2.2.1; omega)
  have h5 := ndW_name h
  simp only [ndTextW, List.length_append, List.length_cons, List.length_nil]; omega
set_option maxHeartbeats 1000000 in
theorem ndTextW_any (n : Nd) (w : World) (h : NdW n) (htab : Tab w) :
    Calls Tryz.prog 76 #[.agg #[.int .i64 n.id, .int .i64 n.parent, .string (bs n.name)]] w fun e w' => e = .returned (.string (bs (ndTextW n))) ∧ Below w.heap.size w w' := by
  have hb0 := (Below.refl w.heap.size w).alloc (Nat.le_refl _) (.cells #[.int .i64 n.id, .int .i64 n.parent, .string (bs n.name)] 85)
  have hn1 := h.1
  have hn2 := h.2.1
  have hp1 := h.2.2.1
  have hp2 := h.2.2.2.1
  have hnl := ndW_name h
  have HI := hide (itoa_dec n.id _ (by omega) (by omega) (tab_below htab hb0))
  have HP := hide (fun W (t : Tab W) => itoa_dec n.parent W (by omega) (by omega) t)
  have l1 := dec_len n.id.toNat (by omega)
  have l2 := dec_len n.parent.toNat (by omega)
  have HN : Hid (ndTextW n = dec n.id.toNat ++ [32] ++ dec n.parent.toNat ++ [32] ++ n.name ++ [59]) := hide rfl
  have HT := hide (tab_below htab hb0)
  have HB0 := hide hb0; clear hb0 htab h
  have c1 : (w.alloc (.cells #[.int .i64 n.id, .int .i64 n.parent, .string (bs n.name)] 85)).cell? ⟨w.heap.size, 1, none⟩ = some (.int .i64 n.parent) := news_three _ _ _ _ 1 _ rfl
  have c2 : (w.alloc (.cells #[.int .i64 n.id, .int .i64 n.parent, .string (bs n.name)] 85)).cell? ⟨w.heap.size, 2, none⟩ = some (.string (bs n.name)) := news_three _ _ _ _ 2 _ rfl
  have C1 := hide c1
  have C2 := hide c2
  clear c1 c2
  generalize dec n.id.toNat = a at *
  generalize dec n.parent.toNat = b at *
  have a1 := add_32 a (by omega)
  have a2 := add_bs (a ++ [32]) b (by simp; omega) (by omega)
  have a3 := add_32 (a ++ [32] ++ b) (by simp; omega)
  have a4 := add_bs (a ++ [32] ++ b ++ [32]) n.name (by simp; omega) (by omega)
  have a5 := add_59 (a ++ [32] ++ b ++ [32] ++ n.name) (by simp; omega)
  generalize a ++ [32] ++ b ++ [32] ++ n.name ++ [59] = r5 at *
  generalize a ++ [32] ++ b ++ [32] ++ n.name = r4 at *
  generalize a ++ [32] ++ b ++ [32] = r3 at *
  generalize a ++ [32] ++ b = r2 at *
  generalize a ++ [32] = r1 at *
  go_enter Tryz.func76, Tryz.ntmps76
  go_wp2_with fail
  refine (unhide HI).mono ?_
  rintro e w1 ⟨rfl, hb1⟩
  have d1 := (hb1.cell (p := ⟨w.heap.size, 1, none⟩) (by simp)).trans (unhide C1)
  have D2 := hide ((hb1.cell (p := ⟨w.heap.size, 2, none⟩) (by simp)).trans (unhide C2))
  have HT1 := hide (tab_below (unhide HT) hb1)
  have HB1 := hide ((unhide HB0).trans (hb1.mono (by simp)))
  have hs1 : w.heap.size < w1.heap.size := by have := hb1.size; simp at this; omega
  clear hb1
  go_wp2_with fail
  refine (unhide HP _ (by exact unhide HT1)).mono ?_
  rintro e w2 ⟨rfl, hb2⟩
  have d2 := (hb2.cell (p := ⟨w.heap.size, 2, none⟩) hs1).trans (unhide D2)
  have HB2 := hide ((unhide HB1).trans (hb2.mono (by omega)))
  clear hb2
  go_wp2
  go_ret
  exact ⟨ret_str (by rw [unhide HN]), unhide HB2⟩
set_option maxHeartbeats 2000000 in
theorem opText_any (x : Lo) (w : World) (h : LoOk x) (htab : Tab w) :
    Calls Tryz.prog 90 #[.agg #[.int .i64 x.count, .int .i64 x.site, .int .i64 x.node.id, .int .i64 x.node.parent, .string (bs x.node.name)]] w fun e w' => e = .returned (.string (bs (loText x))) ∧ Below w.heap.size w w' := by
  have hb0 := (Below.refl w.heap.size w).alloc (Nat.le_refl _) (.cells #[.int .i64 x.count, .int .i64 x.site, .int .i64 x.node.id, .int .i64 x.node.parent, .string (bs x.node.name)] 142)
  have h1 := h.1
  have h2 := h.2.1
  have h3 := h.2.2.1
  have h4 := h.2.2.2.1
  have HI := hide (itoa_dec x.count _ (by omega) (by omega) (tab_below htab hb0))
  have HP := hide (fun W (t : Tab W) => itoa_dec x.site W (by omega) (by omega) t)
  have HX := hide (fun W (t : Tab W) => ndTextW_any x.node W h.2.2.2.2 t)
  have l1 := dec_len x.count.toNat (by omega)
  have l2 := dec_len x.site.toNat (by omega)
  have l3 := ndTextW_len h.2.2.2.2
  have HN := hide (loText_nd x)
  have HT := hide (tab_below htab hb0)
  have HB0 := hide hb0
  have HO := hide (opAt_new w x 142)
  clear hb0 htab h
  generalize dec x.count.toNat = a at *
  generalize dec x.site.toNat = b at *
  generalize ndTextW x.node = c at *
  have a1 := add_32 a (by omega)
  have a2 := add_bs (a ++ [32]) b (by simp; omega) (by omega)
  have a3 := add_32 (a ++ [32] ++ b) (by simp; omega)
  have a4 := add_bs (a ++ [32] ++ b ++ [32]) c (by simp; omega) (by omega)
  generalize a ++ [32] ++ b ++ [32] ++ c = r4 at *
  generalize a ++ [32] ++ b ++ [32] = r3 at *
  generalize a ++ [32] ++ b = r2 at *
  generalize a ++ [32] = r1 at *
  go_enter Tryz.func90, Tryz.ntmps90
  go_wp2_with fail
  refine (unhide HI).mono ?_
  rintro e w1 ⟨rfl, hb1⟩
  have HO1 := hide ((unhide HO).below hb1 (by simp))
  obtain ⟨hs1, _, d1, _⟩ := unhide HO1
  have HT1 := hide (tab_below (unhide HT) hb1)
  have HB1 := hide ((unhide HB0).trans (hb1.mono (by simp)))
  clear hb1
  go_wp2_with fail
  refine (unhide HP _ (by exact unhide HT1)).mono ?_
  rintro e w2 ⟨rfl, hb2⟩
  have HO2 := hide ((unhide HO1).below hb2 hs1)
  clear d1
  obtain ⟨hs2, _, _, d2, d3, d4⟩ := unhide HO2
  have HT2 := hide (tab_below (unhide HT1) hb2)
  have HB2 := hide ((unhide HB1).trans (hb2.mono (by omega)))
  clear hb2
  go_wp2_with fail
  refine (unhide HX _ (by exact unhide HT2)).mono ?_
  rintro e w3 ⟨rfl, hb3⟩
  have HB3 := hide ((unhide HB2).trans (hb3.mono (by omega)))
  clear hb3
  go_wp2
  go_ret
  exact ⟨ret_str (by rw [unhide HN]), unhide HB3⟩
theorem logText_take (L : List Lo) (k : Nat) (h : k < L.length) : logText (L.take (k + 1)) = logText (L.take k) ++ loText L[k] := by
  rw [List.take_succ_eq_append_getElem h, logText_snoc]
set_option maxHeartbeats 2000000 in
theorem opsText_any (L : List Lo) (ao : Option Addr) (cap : Nat) (w : World) (hrow : Row w ao L.length 5 (loCells L)) (hx : ∀ x ∈ L, LoOk x) (hl : L.length ≤ 4000) (htab : Tab w) :
    Calls Tryz.prog 56 #[.slice ao L.length cap] w fun e w' => e = .returned (.string (bs (logText L))) ∧ Below w.heap.size w w' := by
  have HROW := hide hrow; clear hrow
  have HX := hide hx; clear hx
  have HT := hide htab; clear htab
  go_enter Tryz.func56, Tryz.ntmps56
  go_wp2
  go_loopw [3, 8] (fun s i wr => ∃ k : Nat, ∃ S : Str, k ≤ L.length ∧ i = .int .i64 k ∧ s = .string (bs S) ∧ Below w.heap.size w wr ∧ Hid (S = logText (L.take k))) (fun _ i _ => L.length - (intOf i).toNat)
  case atStart => exact ⟨0, [], Nat.zero_le _, rfl, rfl, Below.refl _ _, hide (by simp [logText])⟩
  case round =>
    obtain ⟨k, S, hk, rfl, rfl, hbel, HS⟩ := hrel
    by_cases hlt : k < L.length
    · obtain ⟨g, hao, hg, c0, c1, c2, c3, c4⟩ := lo_cells (unhide HROW) hbel (Nat.le_refl _) hlt
      rw [hao]
      clear hao
      have hxk := unhide HX _ (List.getElem_mem hlt)
      have HSN := hide (logText_take L k hlt)
      have hsl : S.length ≤ 32 * 4000 := by
        rw [unhide HS]
        have := logText_len (L.take k) (fun x h => unhide HX x (List.mem_of_mem_take h))
        rw [List.length_take] at this; omega
      have htl := loText_len hxk
      have hsz := hbel.size
      generalize L[k] = x at *
      have hB1 := (Below.refl wr.heap.size wr).alloc (Nat.le_refl _) (.cells #[.int .i64 x.count, .int .i64 x.site, .int .i64 x.node.id, .int .i64 x.node.parent, .string (bs x.node.name)] 142)
      have HTX := hide (opText_any x _ hxk (tab_below (unhide HT) (hbel.trans (hB1.mono hsz))))
      have HB1 := hide (hbel.trans (hB1.mono hsz))
      clear hB1 hxk
      have hadd := add_bs S (loText x) (by omega) (by omega)
      have HS2 : Hid (S ++ loText x = logText (L.take (k + 1))) := by apply hide; rw [unhide HSN, unhide HS]
      generalize loText x = tx at *
      go_wp2_with fail
      refine (unhide HTX).mono ?_
      rintro e w2 ⟨rfl, hb2⟩
      have HB2 := hide ((unhide HB1).trans (hb2.mono (unhide HB1).size))
      clear hb2 c0 c1 c2 c3 c4
      go_wp2
      go_roundw
      case rel => exact ⟨k + 1, _, by omega, by go_num, rfl, unhide HB2, HS2⟩
      case measure => simp [intOf]; omega
    · have HE : Hid (logText L = S) := by apply hide; rw [unhide HS, List.take_of_length_le (by omega)]
      go_wp2
      go_ret
      exact ⟨ret_str (by rw [unhide HE]), hbel⟩
set_option maxHeartbeats 1000000 in
theorem logText_any (L : List Lo) (b o : Nat) (ao : Option Addr) (cap : Nat) (w : World) (hlog : w.cell? ⟨b, o, none⟩ = some (.slice ao L.length cap)) (hrow : Row w ao L.length 5 (loCells L)) (hx : ∀ x ∈ L, LoOk x) (hl : L.length ≤ 4000) (htab : Tab w) :
    Calls Tryz.prog 65 #[.pointer (some ⟨b, o, none⟩)] w fun e w' => e = .returned (.string (bs (logText L))) ∧ Below w.heap.size w w' := by
  have HT := hide (opsText_any L ao cap w hrow hx hl htab)
  clear hrow hx htab
  go_enter Tryz.func65, Tryz.ntmps65
  go_wp2_with fail
  refine (unhide HT).mono ?_
  rintro e w1 ⟨rfl, hb1⟩
  go_wp2
  go_ret
  exact ⟨rfl, hb1⟩
set_option maxHeartbeats 1000000 in
theorem log_any (L : List Lo) (b : Nat) (site : Int) (v : Value) (w : World) (hR : Repl w b site v L) (htab : Tab w) :
    Calls Tryz.prog 40 #[.pointer (some ⟨b, 0, none⟩)] w fun e w' => e = .returned (.string (bs (logText L))) ∧ Below w.heap.size w w' := by
  obtain ⟨ao, ca, rfl, hrow⟩ := row_of_owns hR.own
  have HL := hide (logText_any L b 1 ao ca w hR.at'.cell1 hrow hR.ok.2.1 (by have := hR.ok.2.2; omega) htab)
  clear hR hrow htab
  go_enter Tryz.func40, Tryz.ntmps40
  go_wp2_with fail
  refine (unhide HL).mono ?_
  rintro e w1 ⟨rfl, hb1⟩
  go_wp2
  go_ret
  exact ⟨rfl, hb1⟩
end Go.Proofs.YtdcjimlhaklhfaaGreatDoor

namespace Go.Proofs.YtdcjimlhaklhfaaGreatDoor
open Go.RowKit
/-! pick: which of n things. -/
def pickT (c : Int) (n : Nat) : Nat := ((if c < 0 then -(c + 1) else c) % n).toNat
theorem pickT_lt (c : Int) {n : Nat} (h : 0 < n) : pickT c n < n := by
  unfold pickT
  have h1 := Int.emod_nonneg (if c < 0 then -(c + 1) else c) (show (n : Int) ≠ 0 by omega)
  have h2 := Int.emod_lt_of_pos (if c < 0 then -(c + 1) else c) (show (0 : Int) < n by omega)
  omega
theorem pickT_int (c : Int) {n : Nat} (h : 0 < n) : ((pickT c n : Nat) : Int) = (if c < 0 then -(c + 1) else c) % n := by
  unfold pickT
  exact Int.toNat_of_nonneg (Int.emod_nonneg _ (show (n : Int) ≠ 0 by omega))
set_option maxHeartbeats 1000000 in
theorem pick_any (c : Int) (n : Nat) (w : World) (hn : 0 < n) (hn2 : n ≤ 10000000000000) (h0 : -9223372036854775808 ≤ c) (h1 : c ≤ 9223372036854775807) :
    Calls Tryz.prog 13 #[.int .i64 c, .int .i64 n] w fun e w' => e = .returned (.int .i64 (pickT c n)) ∧ w' = w := by
  have HP := hide (pickT_int c hn)
  generalize pickT c n = p at *
  by_cases hc : c < 0
  · have hd : decide (c < 0) = true := by simpa using hc
    have HP2 : Hid ((p : Int) = -((c + 1).tmod n)) := by apply hide; rw [unhide HP, if_pos hc, ← Int.neg_tmod]; exact (Int.tmod_eq_emod_of_nonneg (by omega)).symm
    go_enter Tryz.func13, Tryz.ntmps13
    go_wp2
    go_ret
    exact ⟨ret_int (by rw [unhide HP2]), rfl⟩
  · have hd : decide (c < 0) = false := by simpa using hc
    have HP2 : Hid ((p : Int) = c % n) := by apply hide; rw [unhide HP, if_neg hc]
    have hc0 : 0 ≤ c := by omega
    go_enter Tryz.func13, Tryz.ntmps13
    go_wp2
    go_ret
    exact ⟨ret_int (by rw [unhide HP2]), rfl⟩
theorem PairOk.sep1 {w : World} {p : PS} (h : PairOk w p) : ¬ Foot p.rb p.v p.pb := by
  rintro (e | e)
  · have h1 : tyAt w p.rb 104 := ⟨_, _, h.rep.at'⟩
    rw [← e] at h1
    exact absurd (tyAt_inj ⟨_, _, h.at'⟩ h1) (by decide)
  · exact absurd (tyAt_inj ⟨_, _, h.at'⟩ (tyAt_own h.rep.own _ e)) (by decide)
theorem PairOk.sep2 {w : World} {p : PS} (h : PairOk w p) : ∀ k, p.u.ownBlock = some k → ¬ Foot p.rb p.v k := by
  intro k hk
  have ht := tyAt_own h.log k hk
  rintro (e | e)
  · subst e
    exact absurd (tyAt_inj ht ⟨_, _, h.rep.at'⟩) (by decide)
  · exact absurd (tyAt_inj ht (tyAt_own h.rep.own _ e)) (by decide)
/-- What a call on a pair leaves. -/
def PairPost (p : PS) (w : World) (e : Ending) (w' : World) : Prop := e = .returned (.bool true) ∧ ∃ p' : PS, p'.pb = p.pb ∧ PairOk w' p' ∧ Keeps (PFoot p) w w' ∧ ∀ k, PFoot p' k → PFoot p k ∨ w.heap.size ≤ k
set_option maxHeartbeats 2000000 in
theorem pdelivered_any (p : PS) (s : ByteArray) (w : World) (h : PairOk w p) :
    Calls Tryz.prog 14 #[.pointer (some ⟨p.pb, 0, none⟩), .string s] w (PairPost p w) := by
  have c0 := h.cell0
  have HD := hide (deliver_any p.L s p.rb p.site p.v w h.rep)
  have HREF := hide (fun W (hh : W.ownsRow 0 66 5 p.u p.L.length (loCells p.L)) => delivered_ref p.L s p.u W hh h.rep.ok.2.2)
  have hpl : p.pb < w.heap.size := lt_of_block h.at'
  have HH := hide h; clear h
  generalize hdt : deliverT p.L (sl s) = dt at *
  clear hdt
  obtain ⟨L', n, e⟩ := dt
  simp only at HD HREF
  go_enter Tryz.func14, Tryz.ntmps14
  go_wp2_with fail
  refine (unhide HD).mono ?_
  rintro e1 w1 ⟨rfl, v', hR1, hK1, hM1⟩
  have hat1 : PairAt w1 p := by unfold PairAt; rw [hK1.block p.pb hpl (unhide HH).sep1]; exact (unhide HH).at'
  have HLG1 := hide (own_kept (unhide HH).log hK1 (unhide HH).sep2)
  have c2 : w1.cell? ⟨p.pb, 2, none⟩ = some p.u := by rw [cell_of_row w1 p.pb 2 _ _ _ hat1]; rfl
  have HAT1 := hide hat1
  have HR1 := hide hR1
  have HK1 := hide hK1
  have HM1 := hide hM1
  clear hat1 hR1 hK1 hM1 c0
  go_wp2_with fail
  refine (unhide HREF _ (by exact unhide HLG1)).mono ?_
  rintro e2 w2 ⟨u', rfl, hO2, hLM, hb2⟩
  obtain ⟨uo, uc, hu', _⟩ := row_of_owns hO2
  subst hu'
  have hpl1 : p.pb < w1.heap.size := lt_of_block (unhide HAT1)
  have hat2 : w2.heap[p.pb]? = some (.cells #[.pointer (some ⟨p.rb, 0, none⟩), .int .i64 p.site, p.u] 40 (0, 0)) := (hb2.block p.pb hpl1).trans (unhide HAT1)
  have d2 : w2.cell? ⟨p.pb, 2, none⟩ = some p.u := by rw [cell_of_row w2 p.pb 2 _ _ _ hat2]; rfl
  have df : ∀ j, w2.frozen? ⟨p.pb, j, none⟩ = false := fun j => by simp [World.frozen?, hat2]
  have HF : Hid (∃ p' : PS, p'.pb = p.pb ∧ PairOk (w2.setCell ⟨p.pb, 2, none⟩ (.slice uo L'.length uc)) p' ∧ Keeps (PFoot p) w (w2.setCell ⟨p.pb, 2, none⟩ (.slice uo L'.length uc)) ∧ ∀ k, PFoot p' k → PFoot p k ∨ w.heap.size ≤ k) := by
    apply hide
    have hR2 := (unhide HR1).below hb2
    have hks := Keeps.set w2 p.pb 2 (.slice uo L'.length uc)
    have htp : tyAt w2 p.pb 40 := ⟨_, _, hat2⟩
    refine ⟨⟨p.pb, p.rb, p.site, v', .slice uo L'.length uc, L'⟩, rfl, ⟨?_, ?_, ?_⟩, ?_, ?_⟩
    · unfold PairAt; rw [heap_setCell_same w2 p.pb 2 _ _ _ hat2]; rfl
    · refine hR2.kept hks (fun k hf e => ?_)
      have e' : k = p.pb := e
      subst e'
      rcases hf with hf | hf
      · have hty : tyAt w2 p.rb 104 := ⟨_, _, hR2.at'⟩
        have hf' : p.pb = p.rb := hf
        rw [← hf'] at hty
        exact absurd (tyAt_inj htp hty) (by decide)
      · exact absurd (tyAt_inj htp (tyAt_own hR2.own _ hf)) (by decide)
    · refine own_kept hO2 hks (fun k hk e => ?_)
      have e' : k = p.pb := e
      subst e'
      exact absurd (tyAt_inj htp (tyAt_own hO2 _ hk)) (by decide)
    · refine ((((unhide HK1).mono (T := PFoot p) (fun k _ hf => ?_)).trans (Keeps.of_below (S := fun _ => False) hb2 (fun k h1 h2 => by omega)) (fun _ _ h => h.elim)).trans hks (fun k _ e => .inl e))
      rcases hf with hf | hf
      · exact .inr (.inl hf)
      · exact .inr (.inr (.inl hf))
    · intro k hk
      rcases hk with hk | hk | hk | hk
      · exact .inl (.inl hk)
      · exact .inl (.inr (.inl hk))
      · rcases unhide HM1 with hm | ⟨q, hm, hq⟩
        · exact .inl (.inr (.inr (.inl (hm ▸ hk))))
        · right
          have hk' : v'.ownBlock = some k := hk
          rw [hm] at hk'; cases hk'; exact hq
      · rcases hLM with hm | hm
        · have hk' : (Value.slice uo L'.length uc).ownBlock = some k := hk
          rw [hm] at hk'; exact .inl (.inr (.inr (.inr hk')))
        · have := hm k hk
          have := (unhide HK1).size
          exact .inr (by omega)
  clear hO2 hLM hb2 hat2 c2
  go_wp2_with go_in
  go_ret
  exact ⟨by simp, unhide HF⟩
theorem viewR_text {L : List Lo} (h : ∀ x ∈ L, LoOk x) : trOf (viewR L) = viewT (places L) := funext fun i => (viewR_rep h).look i
set_option maxHeartbeats 1000000 in
theorem pview_any (p : PS) (w : World) (h : PairOk w p) :
    Calls Tryz.prog 19 #[.pointer (some ⟨p.pb, 0, none⟩)] w fun e w' => e = .returned (.string (bs (textT (viewT (places p.L))))) ∧ Below w.heap.size w w' := by
  have c2 := h.cell2
  obtain ⟨ao, ca, hu, hrow⟩ := row_of_owns h.log
  rw [hu] at c2
  have hll := h.rep.ok.2.2
  have HV := hide (rview_any p.L ao ca w hrow h.rep.ok.2.1 (by omega))
  have HTX := hide (viewR_text h.rep.ok.2.1)
  have HOK := hide (view_valid (places_ok h.rep.ok.2.1)).ok
  have hvl := rep_len (viewR_rep h.rep.ok.2.1)
  have HPR : Hid (∀ fo cf W, Row W fo (viewR p.L).length 3 (ndCells (viewR p.L)) → Calls Tryz.prog 39 #[.slice fo (viewR p.L).length cf] W fun e w' => e = .returned (.string (bs (textT (viewT (places p.L))))) ∧ Below W.heap.size W w') := by
    apply hide; intro fo cf W hr
    have := print_any (viewR p.L) fo cf W hr (by omega) (by rw [unhide HTX]; exact unhide HOK)
    rw [unhide HTX] at this; exact this
  clear h hrow hu
  generalize viewR p.L = vr at *
  generalize textT (viewT (places p.L)) = tx at *
  go_enter Tryz.func19, Tryz.ntmps19
  go_wp2_with fail
  refine (unhide HV).mono ?_
  rintro e w1 ⟨fo, cf, rfl, hr1, hb1⟩
  have HR1 := hide hr1; clear hr1
  go_wp2_with fail
  refine (unhide HPR _ _ _ (by exact unhide HR1)).mono ?_
  rintro e w2 ⟨rfl, hb2⟩
  have HB2 := hide (hb1.trans (hb2.mono hb1.size))
  clear hb2
  go_wp2
  go_ret
  exact ⟨rfl, unhide HB2⟩
set_option maxHeartbeats 1000000 in
theorem shows_log (p : PS) (w : World) (h : PairOk w p) (htab : Tab w) :
    Calls Tryz.prog 20 #[.pointer (some ⟨p.pb, 0, none⟩), .int .i64 7] w fun e w' => e = .returned (.bool true) ∧ Below w.heap.size w w' := by
  have c0 := h.cell0
  have HL := hide (log_any p.L p.rb p.site p.v w h.rep htab)
  obtain ⟨ao, ca, hu, hrow⟩ := row_of_owns h.log
  have hll := h.rep.ok.2.2
  have HW := hide (fun W (hr : Row W ao p.L.length 5 (loCells p.L)) => written_any p.L ao ca W hr h.rep.ok.2.1 (by omega))
  have HH := hide h
  have HROW := hide hrow
  have hpl : p.pb < w.heap.size := lt_of_block h.at'
  clear h hrow htab
  have hbb : ((bs (logText p.L)).toList == (bs (logText p.L)).toList) = true := by simp
  generalize bs (logText p.L) = tx at *
  go_enter Tryz.func20, Tryz.ntmps20
  go_wp2_with fail
  refine (unhide HL).mono ?_
  rintro e w1 ⟨rfl, hb1⟩
  have c2 : w1.cell? ⟨p.pb, 2, none⟩ = some (.slice ao p.L.length ca) := by rw [hb1.cell (p := ⟨p.pb, 2, none⟩) hpl, (unhide HH).cell2, hu]
  have HR1 := hide ((unhide HROW).below hb1)
  clear c0
  go_wp2_with fail
  refine (unhide HW _ (by exact unhide HR1)).mono ?_
  rintro e w2 ⟨rfl, hb2⟩
  have HB2 := hide (hb1.trans (hb2.mono hb1.size))
  clear hb2 c2
  go_wp2
  go_ret
  exact ⟨ret_bool (by simp), unhide HB2⟩
set_option maxHeartbeats 1000000 in
theorem shows_export (p : PS) (kd : Int) (w : World) (h : PairOk w p) (hk : kd ≠ 7) :
    Calls Tryz.prog 20 #[.pointer (some ⟨p.pb, 0, none⟩), .int .i64 kd] w fun e w' => e = .returned (.bool true) ∧ Below w.heap.size w w' := by
  have hk7 : (kd == 7) = false := by simpa using hk
  have c0 := h.cell0
  have HE := hide (export_any p.L p.rb p.site p.v w h.rep)
  have HV := hide (fun W (hh : PairOk W p) => pview_any p W hh)
  have HH := hide h
  clear h hk
  have hbb : ((bs (textT (viewT (places p.L)))).toList == (bs (textT (viewT (places p.L)))).toList) = true := by simp
  generalize bs (textT (viewT (places p.L))) = tx at *
  go_enter Tryz.func20, Tryz.ntmps20
  go_wp2_with fail
  refine (unhide HE).mono ?_
  rintro e w1 ⟨rfl, hb1⟩
  have HH1 := hide ((unhide HH).kept (Keeps.of_below (S := fun _ => False) hb1 (fun k h1 h2 => by omega)) (fun _ _ e => e))
  clear c0
  go_wp2_with fail
  refine (unhide HV _ (by exact unhide HH1)).mono ?_
  rintro e w2 ⟨rfl, hb2⟩
  have HB2 := hide (hb1.trans (hb2.mono hb1.size))
  clear hb2
  go_wp2
  go_ret
  exact ⟨ret_bool (by simp), unhide HB2⟩
end Go.Proofs.YtdcjimlhaklhfaaGreatDoor

namespace Go.Proofs.YtdcjimlhaklhfaaGreatDoor
open Go.RowKit
/-- The steps, their numbers within an int. -/
def OpsR (w : World) (ao : Option Addr) (len : Nat) : Prop :=
  0 < len → ∃ b off, ao = some ⟨b, off, none⟩ ∧ b < w.heap.size ∧ ∀ i, i < len → ∃ (k x y : Int) (s t : ByteArray), ((-9223372036854775808 ≤ x ∧ x ≤ 9223372036854775807) ∧ -9223372036854775808 ≤ y ∧ y ≤ 9223372036854775807) ∧
    w.cell? ⟨b, off + i * 5, none⟩ = some (.int .i64 k) ∧ w.cell? ⟨b, off + i * 5 + 1, none⟩ = some (.int .i64 x) ∧ w.cell? ⟨b, off + i * 5 + 2, none⟩ = some (.int .i64 y) ∧ w.cell? ⟨b, off + i * 5 + 3, none⟩ = some (.string s) ∧ w.cell? ⟨b, off + i * 5 + 4, none⟩ = some (.string t)
theorem world_drewN {base wp : Nat} {ps : List PS} {rv : Value} {w : World} (h : WorldAt base wp ps rv w) (n : Nat) : WorldAt base wp ps rv (w.drewN n) := world_below h (below_drewN (Below.refl _ _) n)
/-- From a pair's call to the script's world. -/
theorem step_of_pair {base wp : Nat} {ps : List PS} {rv : Value} {w W w' : World} {e : Ending} (h : WorldAt base wp ps rv W) (hb : base ≤ W.heap.size) (hw : Below w.heap.size w W) {i : Nat} (hi : i < ps.length) (hp : PairPost ps[i] W e w') : StepPost base wp ps rv w e w' := by
  obtain ⟨he, p', hpb, hok, hk, hf⟩ := hp
  refine ⟨he, ⟨ps.set i p', rv, by simp, world_set h hi hpb hok hk hf hb⟩, ?_⟩
  exact (Keeps.of_below (S := WFoot wp ps rv) hw (fun k h1 h2 => by omega)).trans hk (fun k _ h1 => .inr (.inr ⟨_, List.getElem_mem hi, h1⟩))
theorem step_of_below {base wp : Nat} {ps : List PS} {rv : Value} {w W w' : World} {e : Ending} (h : WorldAt base wp ps rv W) (hw : Below w.heap.size w W) (he : e = .returned (.bool true)) (hb : Below W.heap.size W w') : StepPost base wp ps rv w e w' :=
  ⟨he, ⟨ps, rv, by omega, world_below h hb⟩, Keeps.of_below (hw.trans (hb.mono hw.size)) (fun k h1 h2 => by omega)⟩
theorem rv_cell {base wp : Nat} {ps : List PS} {ro : Option Addr} {rc : Nat} {w : World} (h : WorldAt base wp ps (.slice ro ps.length rc) w) {i : Nat} (hi : i < ps.length) : ∃ g, ro = some ⟨g, 0, none⟩ ∧ g < w.heap.size ∧ w.cell? ⟨g, i, none⟩ = some (.pointer (some ⟨(ps[i]).pb, 0, none⟩)) := by
  have hr := row_of' h.2.1
  obtain ⟨g, h1, h2, h3⟩ := hr.2 (by omega)
  exact ⟨g, h1, h2, h3 i _ (by simp [hi, ptrV])⟩
def FiveAt (w : World) (g : Nat) (a b c d e : Value) : Prop := w.cell? ⟨g, 0, none⟩ = some a ∧ w.cell? ⟨g, 1, none⟩ = some b ∧ w.cell? ⟨g, 2, none⟩ = some c ∧ w.cell? ⟨g, 3, none⟩ = some d ∧ w.cell? ⟨g, 4, none⟩ = some e
theorem five_new (w : World) (a b c d e : Value) (t : TypeId) : FiveAt (w.alloc (.cells #[a, b, c, d, e] t)) w.heap.size a b c d e :=
  ⟨news_five _ _ _ _ _ _ 0 _ rfl, news_five _ _ _ _ _ _ 1 _ rfl, news_five _ _ _ _ _ _ 2 _ rfl, news_five _ _ _ _ _ _ 3 _ rfl, news_five _ _ _ _ _ _ 4 _ rfl⟩
set_option maxHeartbeats 2000000 in
theorem step_none (base wp : Nat) (rv : Value) (kd x y : Int) (s t : ByteArray) (w : World) (h : WorldAt base wp [] rv w) (h4 : 4 < kd) :
    Calls Tryz.prog 10 #[.pointer (some ⟨wp, 0, none⟩), .agg #[.int .i64 kd, .int .i64 x, .int .i64 y, .string s, .string t]] w (StepPost base wp [] rv w) := by
  have hb0 := (Below.refl w.heap.size w).alloc (Nat.le_refl _) (.cells #[.int .i64 kd, .int .i64 x, .int .i64 y, .string s, .string t] 30)
  obtain ⟨ro, rc, rfl, _⟩ := row_of_owns h.2.1
  have HW := hide (world_below h hb0)
  have c0 := world_cell h
  have hwl := world_lt h
  have hwn : ¬ wp = w.heap.size := by omega
  have HB0 := hide hb0
  clear h hb0
  have k1 : decide (kd < 4) = false := by simp; omega
  have k2 : (kd == 4) = false := by simp; omega
  simp only [List.length_nil] at c0
  go_enter Tryz.func10, Tryz.ntmps10
  go_wp2
  go_ret
  exact step_of_below (unhide HW) (unhide HB0) rfl (Below.refl _ _)
set_option maxHeartbeats 4000000 in
set_option maxRecDepth 100000 in
theorem step_pair (base wp : Nat) (ps : List PS) (rv : Value) (kd x y : Int) (s t : ByteArray) (w : World) (h : WorldAt base wp ps rv w) (hpos : 0 < ps.length) (hl : ps.length ≤ 10000000000000) (hbase : base ≤ w.heap.size) (htab : Tab w) (hk5 : 5 ≤ kd) (hk8 : kd ≤ 8) (hx : -9223372036854775808 ≤ x ∧ x ≤ 9223372036854775807) (hy : -9223372036854775808 ≤ y ∧ y ≤ 9223372036854775807) :
    Calls Tryz.prog 10 #[.pointer (some ⟨wp, 0, none⟩), .agg #[.int .i64 kd, .int .i64 x, .int .i64 y, .string s, .string t]] w (StepPost base wp ps rv w) := by
  have hb0 := (Below.refl w.heap.size w).alloc (Nat.le_refl _) (.cells #[.int .i64 kd, .int .i64 x, .int .i64 y, .string s, .string t] 30)
  obtain ⟨ro, rc, rfl, _⟩ := row_of_owns h.2.1
  have HW := hide (world_below h hb0)
  have c0 := world_cell h
  have hwl := world_lt h
  have hwn : ¬ wp = w.heap.size := by omega
  have HB0 := hide hb0
  have hi := pickT_lt x hpos
  have hj := pickT_lt y hpos
  obtain ⟨g, hro, hg, ci⟩ := rv_cell h hi
  obtain ⟨g', hro', _, cj⟩ := rv_cell h hj
  rw [hro] at hro'
  cases hro'
  have hgn : ¬ g = w.heap.size := by omega
  have HPX := hide (fun W => pick_any x ps.length W hpos hl hx.1 hx.2)
  have HPY := hide (fun W => pick_any y ps.length W hpos hl hy.1 hy.2)
  have HPJ : Hid (∀ W, WorldAt base wp ps (.slice ro ps.length rc) W → PairOk W ps[pickT y ps.length]) := hide (fun W hW => hW.2.2.1 _ (List.getElem_mem hj))
  have HBW : Hid (∀ W e w', WorldAt base wp ps (.slice ro ps.length rc) W → Below w.heap.size w W → e = .returned (.bool true) → Below W.heap.size W w' → StepPost base wp ps (.slice ro ps.length rc) w e w') := hide (fun W e w' h1 h2 h3 h4 => step_of_below h1 h2 h3 h4)
  have HTB := hide htab; clear htab
  have HFIN : Hid (∀ W e w', WorldAt base wp ps (.slice ro ps.length rc) W → Below w.heap.size w W → PairPost ps[pickT x ps.length] W e w' → StepPost base wp ps (.slice ro ps.length rc) w e w') := hide (fun W e w' h1 h2 h3 => step_of_pair h1 (by have := h2.size; omega) h2 hi h3)
  have HPK : Hid (∀ W, WorldAt base wp ps (.slice ro ps.length rc) W → PairOk W ps[pickT x ps.length]) := hide (fun W hW => hW.2.2.1 _ (List.getElem_mem hi))
  clear h hb0
  generalize ps[pickT x ps.length] = pi at *
  generalize ps[pickT y ps.length] = pj at *
  generalize pickT x ps.length = i at *
  generalize pickT y ps.length = j at *
  obtain ⟨N, hN⟩ : ∃ N, N = ps.length := ⟨_, rfl⟩
  have hne : ((N : Int) == 0) = false := by simp; omega
  have hi0 : (0 : Int) ≤ i := by omega
  have hi1 : (i : Int) < N := by omega
  have hj0 : (0 : Int) ≤ j := by omega
  have hj1 : (j : Int) < N := by omega
  rw [← hN] at HPX HPY HFIN HPK HPJ HBW HW c0 ⊢
  rw [hro] at HFIN HPK HPJ HBW HW c0 ⊢
  have k1 : decide (kd < 4) = false := by simp; omega
  have k2 : (kd == 4) = false := by simp; omega
  have k3 : decide (11 < kd) = false := by simp; omega
  have HN := hide hN
  clear hN hro
  have HOC : Hid (FiveAt (w.alloc (.cells #[.int .i64 kd, .int .i64 x, .int .i64 y, .string s, .string t] 30)) w.heap.size (.int .i64 kd) (.int .i64 x) (.int .i64 y) (.string s) (.string t)) := hide (five_new _ _ _ _ _ _ _)
  have e0 : (w.alloc (.cells #[.int .i64 kd, .int .i64 x, .int .i64 y, .string s, .string t] 30)).cell? ⟨wp, 0, none⟩ = some (.slice (some ⟨g, 0, none⟩) N rc) := ((unhide HB0).cell (p := ⟨wp, 0, none⟩) hwl).trans c0
  have ei := ((unhide HB0).cell (p := ⟨g, i, none⟩) hg).trans ci
  have ej := ((unhide HB0).cell (p := ⟨g, j, none⟩) hg).trans cj
  clear ci cj c0
  go_enter Tryz.func10, Tryz.ntmps10
  go_upto_region 7 with fail
  generalize w.alloc (.cells #[.int .i64 kd, .int .i64 x, .int .i64 y, .string s, .string t] 30) = wl at *
  obtain ⟨f0, f1, f2, f3, f4⟩ := unhide HOC
  go_quiet ((go_at_call 13; exact Calls.quiet_of_same (unhide HPX _)))
  have E0 := hide e0
  have EJ := hide ej
  have HW2 : Hid (WorldAt base wp ps (.slice (some ⟨g, 0, none⟩) N rc) (wl.drewN nq)) := hide (world_drewN (unhide HW) nq)
  have HB2 : Hid (Below w.heap.size w (wl.drewN nq)) := hide (below_drewN (unhide HB0) nq)
  have HOC2 : Hid (FiveAt (wl.drewN nq) w.heap.size (.int .i64 kd) (.int .i64 x) (.int .i64 y) (.string s) (.string t)) := hide (unhide HOC)
  have E02 : Hid ((wl.drewN nq).cell? ⟨wp, 0, none⟩ = some (.slice (some ⟨g, 0, none⟩) N rc)) := hide e0
  have EJ2 : Hid ((wl.drewN nq).cell? ⟨g, j, none⟩ = some (.pointer (some ⟨pj.pb, 0, none⟩))) := hide ej
  clear e0 ei ej f0 f1 f2 f3 f4 E0 EJ HW HB0 HOC
  generalize wl.drewN nq = w2 at *
  have e0 := unhide E02
  have ej := unhide EJ2
  obtain ⟨f0, f1, f2, f3, f4⟩ := unhide HOC2
  go_upto_region 8 with fail
  go_quiet ((go_at_call 13; exact Calls.quiet_of_same (unhide HPY _)))
  have HW3 : Hid (WorldAt base wp ps (.slice (some ⟨g, 0, none⟩) N rc) (w2.drewN nq)) := hide (world_drewN (unhide HW2) nq)
  have HB3 : Hid (Below w.heap.size w (w2.drewN nq)) := hide (below_drewN (unhide HB2) nq)
  have HOC3 : Hid (FiveAt (w2.drewN nq) w.heap.size (.int .i64 kd) (.int .i64 x) (.int .i64 y) (.string s) (.string t)) := hide (unhide HOC2)
  clear e0 ej f0 f1 f2 f3 f4 E02 EJ2 HW2 HB2 HOC2
  generalize w2.drewN nq = w3 at *
  obtain ⟨f0, f1, f2, f3, f4⟩ := unhide HOC3
  have HPI := hide (unhide HPK _ (unhide HW3))
  have HPJ3 := hide (unhide HPJ _ (unhide HW3))
  clear HPX HPY HPK HPJ k1 k2 k3
  rcases (show kd = 5 ∨ kd = 6 ∨ kd = 7 ∨ kd = 8 by omega) with rfl | rfl | rfl | rfl
  · have HD := hide (pdelivered_any pi s w3 (unhide HPI))
    go_wp2_with fail
    refine (unhide HD).mono ?_
    rintro e w4 hpp
    have HF := hide (unhide HFIN w3 e w4 (unhide HW3) (unhide HB3) hpp)
    obtain ⟨rfl, _⟩ := hpp
    go_wp2
    go_ret
    exact unhide HF
  · have c2 := (unhide HPJ3).cell2
    obtain ⟨uo, uc, hu, hrow⟩ := row_of_owns (unhide HPJ3).log
    rw [hu] at c2
    have hll := (unhide HPJ3).rep.ok.2.2
    have HWR := hide (written_any pj.L uo uc w3 hrow (unhide HPJ3).rep.ok.2.1 (by omega))
    clear hrow hu hll
    generalize bs (logText pj.L) = tx at *
    go_wp2_with fail
    refine (unhide HWR).mono ?_
    rintro e w4 ⟨rfl, hb4⟩
    have HW4 := hide (world_below (unhide HW3) hb4)
    have HB4 := hide ((unhide HB3).trans (hb4.mono (unhide HB3).size))
    have HPI4 := hide ((unhide HPI).kept (Keeps.of_below (S := fun _ => False) hb4 (fun k h1 h2 => by omega)) (fun _ _ e => e))
    have HD := hide (pdelivered_any pi tx w4 (unhide HPI4))
    clear hb4 c2
    go_wp2_with fail
    refine (unhide HD).mono ?_
    rintro e w5 hpp
    have HF := hide (unhide HFIN w4 e w5 (unhide HW4) (unhide HB4) hpp)
    obtain ⟨rfl, _⟩ := hpp
    go_wp2
    go_ret
    exact unhide HF
  · have HD := hide (shows_log pi w3 (unhide HPI) (tab_below (unhide HTB) (unhide HB3)))
    go_wp2_with fail
    refine (unhide HD).mono ?_
    rintro e w4 ⟨rfl, hb4⟩
    have HF := hide (unhide HBW w3 _ w4 (unhide HW3) (unhide HB3) rfl hb4)
    clear hb4
    go_wp2
    go_ret
    exact unhide HF
  · have HD := hide (shows_export pi 8 w3 (unhide HPI) (by decide))
    go_wp2_with fail
    refine (unhide HD).mono ?_
    rintro e w4 ⟨rfl, hb4⟩
    have HF := hide (unhide HBW w3 _ w4 (unhide HW3) (unhide HB3) rfl hb4)
    clear hb4
    go_wp2
    go_ret
    exact unhide HF
end Go.Proofs.YtdcjimlhaklhfaaGreatDoor

namespace Go.Proofs.YtdcjimlhaklhfaaGreatDoor
open Go.RowKit
theorem step_all (base wp : Nat) (ps : List PS) (rv : Value) (kd x y : Int) (s t : ByteArray) (w : World) (h : WorldAt base wp ps rv w) (hl : ps.length ≤ 10000000000000) (hbase : base ≤ w.heap.size) (htab : Tab w) (hk4 : 4 ≤ kd) (hk8 : kd ≤ 8) (hx : -9223372036854775808 ≤ x ∧ x ≤ 9223372036854775807) (hy : -9223372036854775808 ≤ y ∧ y ≤ 9223372036854775807) :
    Calls Tryz.prog 10 #[.pointer (some ⟨wp, 0, none⟩), .agg #[.int .i64 kd, .int .i64 x, .int .i64 y, .string s, .string t]] w (StepPost base wp ps rv w) := by
  by_cases h4 : kd = 4
  · subst h4; exact step_new base wp ps rv x y s t w h hl hbase
  · cases ps with
    | nil => exact step_none base wp rv kd x y s t w h (by omega)
    | cons p ps => exact step_pair base wp (p :: ps) rv kd x y s t w h (by simp) hl hbase htab (by omega) hk8 hx hy
set_option maxHeartbeats 4000000 in
theorem upto_reps (lo hi : Int) (ao : Option Addr) (len cap : Nat) (w : World) (hops : OpsR w ao len) (hlen : len ≤ 10000000000000) (htab : Tab w) (hlh : (lo = 5 ∧ hi = 6) ∨ (lo = 7 ∧ hi = 8)) :
    Calls Tryz.prog 9 #[.slice ao len cap, .int .i64 4, .int .i64 8, .int .i64 lo, .int .i64 hi] w fun e w' => e = .returned (.int .i64 (-1)) ∧ Below w.heap.size w w' := by
  have HO := hide hops; clear hops
  have HTB := hide htab; clear htab
  have HW0 := hide (world_new w _ rfl)
  rcases hlh with ⟨rfl, rfl⟩ | ⟨rfl, rfl⟩
  all_goals
    go_enter Tryz.func9, Tryz.ntmps9
    go_wp2
    go_loopw [12] (fun i wr => ∃ k : Nat, k ≤ len ∧ i = .int .i64 k ∧ Below w.heap.size w wr ∧ Hid (∃ ps rv, ps.length ≤ k ∧ WorldAt w.heap.size w.heap.size ps rv wr)) (fun i _ => len - (intOf i).toNat)
    case atStart => exact ⟨0, Nat.zero_le _, rfl, (Below.refl _ _).alloc (Nat.le_refl _) _, hide ⟨[], _, by simp, unhide HW0⟩⟩
    case round =>
      obtain ⟨k, hk, rfl, hbel, HW⟩ := hrel
      have hsz := hbel.size
      by_cases hlt : k < len
      · obtain ⟨b, off, hao, hb, hcells⟩ := unhide HO (by omega)
        obtain ⟨kd, x, y, s, t, ⟨hx, hy⟩, e0, e1, e2, e3, e4⟩ := hcells k hlt
        clear hcells
        rw [← hbel.cell (p := ⟨b, _, none⟩) hb] at e0 e1 e2 e3 e4
        rw [hao]
        clear hao
        have hB1 := (Below.refl wr.heap.size wr).alloc (Nat.le_refl _) (.cells #[.int .i64 kd, .int .i64 x, .int .i64 y, .string s, .string t] 30)
        have HB1 := hide (hbel.trans (hB1.mono hsz))
        obtain ⟨ps, rv, hpl, hW⟩ := unhide HW
        have HW0' := hide hW
        have HW1 := hide (world_below hW hB1)
        clear hW hB1 HW
        by_cases hin : 4 ≤ kd ∧ kd ≤ 8
        · have HS := hide (step_all w.heap.size w.heap.size ps rv kd x y s t _ (unhide HW1) (by omega) (by simp; omega) (tab_below (unhide HTB) (unhide HB1)) hin.1 hin.2 hx hy)
          clear hx hy
          rcases (show kd = 4 ∨ kd = 5 ∨ kd = 6 ∨ kd = 7 ∨ kd = 8 by omega) with rfl | rfl | rfl | rfl | rfl
          all_goals
            clear hin
            go_wp2_with fail
            refine (unhide HS).mono ?_
            rintro e w2 ⟨rfl, ⟨ps', rv', hpl', hW2⟩, hk2⟩
            have hop := op_stays (unhide HW0') hk2
            have HB2 : Hid (Below w.heap.size w w2) := hide ((unhide HB1).trans (wfoot_below (unhide HW1) (by simp; omega) hk2))
            have HW2 := hide (show ∃ ps rv, ps.length ≤ k + 1 ∧ WorldAt w.heap.size w.heap.size ps rv w2 from ⟨ps', rv', by omega, hW2⟩)
            clear hk2 hW2 e0 e1 e2 e3 e4
            go_wp2
            go_roundw
            case rel => exact ⟨k + 1, by omega, by go_num, unhide HB2, HW2⟩
            case measure => simp [intOf]; omega
        · have HWX := hide (show ∃ ps rv, ps.length ≤ k + 1 ∧ WorldAt w.heap.size w.heap.size ps rv _ from ⟨ps, rv, by omega, unhide HW1⟩)
          clear hx hy
          rcases (show kd < 4 ∨ 8 < kd by omega) with h1 | h1
          case' inl => have kq : decide (kd < 4) = true := by simpa using h1
          case' inr => have kq : decide (kd < 4) = false := by simp; omega
          all_goals
            clear hin
            go_wp2
            go_roundw
            case rel => exact ⟨k + 1, by omega, by go_num, unhide HB1, HWX⟩
            case measure => simp [intOf]; omega
      · go_wp2
        go_ret
        exact ⟨rfl, hbel⟩
set_option maxHeartbeats 1000000 in
theorem delivers_any (ao : Option Addr) (len cap : Nat) (w : World) (hops : OpsR w ao len) (hlen : len ≤ 10000000000000) (htab : Tab w) :
    Calls Tryz.prog 7 #[.slice ao len cap] w fun e w' => e = .returned (.bool true) ∧ Below w.heap.size w w' := by
  have HU := hide (upto_reps 5 6 ao len cap w hops hlen htab (.inl ⟨rfl, rfl⟩))
  clear hops htab
  go_enter Tryz.func7, Tryz.ntmps7
  go_wp2_with fail
  refine (unhide HU).mono ?_
  rintro e w1 ⟨rfl, hb1⟩
  go_wp2
  go_ret
  exact ⟨rfl, hb1⟩
set_option maxHeartbeats 1000000 in
theorem shows_any (ao : Option Addr) (len cap : Nat) (w : World) (hops : OpsR w ao len) (hlen : len ≤ 10000000000000) (htab : Tab w) :
    Calls Tryz.prog 8 #[.slice ao len cap] w fun e w' => e = .returned (.bool true) ∧ Below w.heap.size w w' := by
  have HU := hide (upto_reps 7 8 ao len cap w hops hlen htab (.inr ⟨rfl, rfl⟩))
  clear hops htab
  go_enter Tryz.func8, Tryz.ntmps8
  go_wp2_with fail
  refine (unhide HU).mono ?_
  rintro e w1 ⟨rfl, hb1⟩
  go_wp2
  go_ret
  exact ⟨rfl, hb1⟩
end Go.Proofs.YtdcjimlhaklhfaaGreatDoor
