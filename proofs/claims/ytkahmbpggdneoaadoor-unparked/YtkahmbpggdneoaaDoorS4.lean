import Derived.Test.YtkahmbpggdneoaaDoorS2
namespace Go.Proofs.YtkahmbpggdneoaaDoor
open Go.RowKit
set_option maxHeartbeats 1000000 in
theorem homesCount_any (s t : ByteArray) (w : World) (hs : s.size ≤ 4000) (ht : t.size ≤ 4000) (h1 : ¬ (readNodes (cut (sl s))).length < (cut (sl s)).length) (h2 : ¬ (readNodes (cut (sl t))).length < (cut (sl t)).length) :
    Calls Tryd.prog 28 #[.string s, .string t] w fun e w' => e = .returned (.int .i64 (homesR (readNodes (cut (sl s))) (readNodes (cut (sl t)))).length) ∧ Below w.heap.size w w' := by
  have HN1 := hide (fun W => nodes_any s W hs)
  have HN2 := hide (fun W => nodes_any t W ht)
  have hl1 : (readNodes (cut (sl s))).length ≤ 4000 := by have h3 := readNodes_length (cut (sl s)); have := cut_length_le (sl s); rw [sl_length] at this; omega
  have hl2 : (readNodes (cut (sl t))).length ≤ 4000 := by have h3 := readNodes_length (cut (sl t)); have := cut_length_le (sl t); rw [sl_length] at this; omega
  generalize readNodes (cut (sl s)) = a at *
  generalize readNodes (cut (sl t)) = b at *
  have HH := hide (fun ao bo ca cb W ha hb => homes_any a b ao bo ca cb W ha hb hl1 hl2)
  have hhl := homesR_len a b
  generalize homesR a b = L at *
  go_enter Tryd.func28, Tryd.ntmps28
  go_wp2_with fail
  refine (unhide HN1 _).mono ?_
  rintro e w1 ⟨⟨hno, _⟩ | ⟨_, ao, ca, rfl, hr1, _⟩, hb1⟩
  · exact absurd hno h1
  · have HR1 := hide hr1
    have HB1 := hide hb1
    clear hr1 hb1
    go_wp2_with fail
    refine (unhide HN2 _).mono ?_
    rintro e w2 ⟨⟨hno, _⟩ | ⟨_, bo, cb, rfl, hr2, _⟩, hb2⟩
    · exact absurd hno h2
    · have HR1' := hide ((unhide HR1).below hb2)
      have HR2 := hide hr2
      have HB2 := hide ((unhide HB1).trans (hb2.mono (unhide HB1).size))
      clear hr2 hb2
      go_wp2_with fail
      refine (unhide HH _ _ _ _ _ (unhide HR1') (unhide HR2)).mono ?_
      rintro e w3 ⟨⟨ao', cap', rfl, hr3⟩, hb3⟩
      clear hr3
      go_wp2
      go_ret
      exact ⟨rfl, (unhide HB2).trans (hb3.mono (unhide HB2).size)⟩
end Go.Proofs.YtkahmbpggdneoaaDoor
