import Derived.Test.YtkahmbpggdneoaaDoorCPure2
namespace Go.Proofs.YtkahmbpggdneoaaDoor
open Go.RowKit
/-! A script's text. -/
def stText (s : St) : Str := if s.kind = 45 then 45 :: digs s.node.id ++ [59] else s.kind :: nodeText s.node
def scriptText (ss : List St) : Str := ss.flatMap stText
def StCan (s : St) : Prop := StOk s ∧ (s.kind = 45 → s.node = ⟨s.node.id, 0, []⟩)
theorem home_can {a g : Tr} (hg : TrOk g) {id : Int} (h1 : 1 ≤ id) (h2 : id ≤ 99) {s : St} (h : homeS a g id = some s) : StCan s := by
  refine ⟨(home_ok hg h1 h2 h).1, fun hk => ?_⟩
  rcases home_cases h with ⟨rfl, _⟩ | ⟨n, rfl, _⟩ | ⟨n, _, rfl, _⟩
  · rfl
  · exact absurd hk (by show ¬ ((43 : UInt8) = 45); decide)
  · exact absurd hk (by show ¬ ((61 : UInt8) = 45); decide)
theorem seg_can {g a b : Tr} {ss : List St} (h : Seg g a ss b) (hg : TrOk g) : ∀ s ∈ ss, StCan s := by
  induction h with
  | nil a => simp
  | home h1 h2 hs he _ ih =>
    intro s hm
    rcases List.mem_cons.1 hm with rfl | hm
    · exact home_can hg h1 h2 hs
    · exact ih s hm
  | park h1 h2 hno hs hp he _ ih =>
    intro s hm
    rcases List.mem_cons.1 hm with rfl | hm
    · exact ⟨park_ok h1 h2, fun hk => absurd hk (by show ¬ ((61 : UInt8) = 45); decide)⟩
    · exact ih s hm
def stBody (s : St) : Str := if s.kind = 45 then 45 :: digs s.node.id else s.kind :: ndBody s.node
theorem stText_body (s : St) : stText s = stBody s ++ [59] := by
  unfold stText stBody
  split
  · rfl
  · rw [nodeText_body]; rfl
theorem stBody_no {s : St} (h : StOk s) : ∀ x ∈ stBody s, x ≠ 59 := by
  intro x hx
  unfold stBody at hx
  rcases h with ⟨hk, hn⟩ | ⟨hk, h1, h2⟩
  · have h45 : ¬ s.kind = 45 := by rcases hk with h | h <;> rw [h] <;> decide
    rw [if_neg h45] at hx
    rcases List.mem_cons.1 hx with rfl | hx
    · rcases hk with h | h <;> rw [h] <;> decide
    · exact body_no hn x hx
  · rw [if_pos hk] at hx
    rcases List.mem_cons.1 hx with rfl | hx
    · decide
    · exact (digs_noI (by omega) h2 x hx).1
theorem readStep_text {s : St} (h : StCan s) : readStep (stText s) = some s := by
  have hb : bodyB (stText s) = true := by rw [stText_body]; unfold bodyB; simp
  have hS : bodyS (stText s) = stBody s := by unfold bodyS; rw [if_pos hb, stText_body]; simp
  unfold readStep
  rw [if_pos hb, hS]
  obtain ⟨k, n⟩ := s
  rcases h with ⟨⟨hk, hn⟩ | ⟨hk, h1, h2⟩, hc⟩
  · simp only at hk hn
    have h45 : ¬ k = 45 := by rcases hk with h | h <;> rw [h] <;> decide
    unfold stBody
    rw [if_neg h45]
    show (if k = 43 ∨ k = 61 then (readNode (ndBody n)).map (fun n => (⟨k, n⟩ : St)) else _) = _
    rw [if_pos hk, readNode_body hn]; rfl
  · simp only at hk h1 h2 hc
    subst hk
    unfold stBody
    rw [if_pos rfl]
    show (if (45 : UInt8) = 43 ∨ (45 : UInt8) = 61 then (readNode (digs n.id)).map (fun n => (⟨45, n⟩ : St)) else if (45 : UInt8) = 45 then (if (number (digs n.id) 1 99).2 then some (⟨45, ⟨(number (digs n.id) 1 99).1, 0, []⟩⟩ : St) else none) else none) = _
    rw [if_neg (by decide), if_pos rfl]
    have e : number (digs n.id) 1 99 = (n.id, true) := by
      obtain ⟨m, hm⟩ := Int.eq_ofNat_of_zero_le (show 0 ≤ n.id by omega)
      rw [hm]; exact digs_num1 m (by omega) (by omega)
    rw [e, if_pos rfl, ← hc rfl]
theorem cut_script : ∀ (ss : List St), (∀ s ∈ ss, StOk s) → cut (scriptText ss) = ss.map stText := by
  intro ss
  induction ss with
  | nil => intro _; rfl
  | cons s ss ih =>
    intro h
    unfold scriptText at ih ⊢
    rw [List.flatMap_cons, stText_body, cut_cons (stBody_no (h s (by simp))), ih (fun x hx => h x (by simp [hx])), List.map_cons, stText_body]
theorem readSteps_map : ∀ (ss : List St), (∀ s ∈ ss, StCan s) → readSteps (ss.map stText) = ss := by
  intro ss
  induction ss with
  | nil => intro _; rfl
  | cons s ss ih =>
    intro h
    rw [List.map_cons, readSteps, readStep_text (h s (by simp)), ih (fun x hx => h x (by simp [hx]))]
theorem readSteps_script {ss : List St} (h : ∀ s ∈ ss, StCan s) : readSteps (cut (scriptText ss)) = ss ∧ (cut (scriptText ss)).length = ss.length := by
  rw [cut_script ss (fun s hs => (h s hs).1)]
  exact ⟨readSteps_map ss h, by simp⟩
theorem stText_len {s : St} (h : StOk s) : (stText s).length ≤ 19 := by
  unfold stText
  rcases h with ⟨hk, hn⟩ | ⟨hk, _⟩
  · have h45 : ¬ s.kind = 45 := by rcases hk with h | h <;> rw [h] <;> decide
    rw [if_neg h45]
    have := nodeText_len hn.2.2.2.2
    simp; omega
  · rw [if_pos hk]
    have := digs_len s.node.id
    simp; omega
theorem script_len : ∀ (ss : List St), (∀ s ∈ ss, StOk s) → (scriptText ss).length ≤ 19 * ss.length := by
  intro ss
  induction ss with
  | nil => intro _; simp [scriptText]
  | cons s ss ih =>
    intro h
    have h1 := stText_len (h s (by simp))
    have h2 := ih (fun x hx => h x (by simp [hx]))
    unfold scriptText at h2 ⊢
    rw [List.flatMap_cons, List.length_append, List.length_cons]; omega
theorem make_len {a g : Tr} (ha : Valid a) (hg : Valid g) : (makeT a g).length ≤ 198 := by
  have h1 := seg_come (makeT_seg ha hg) hg.ok
  have h2 := toCome_le a g
  omega
theorem make_text_len {a g : Tr} (ha : Valid a) (hg : Valid g) : (scriptText (makeT a g)).length ≤ 4000 := by
  have h1 := make_len ha hg
  have h2 := script_len (makeT a g) (fun s hs => (seg_can (makeT_seg ha hg) hg.ok s hs).1)
  omega
/-- What Compile answers: the script and the error. -/
def compileE (f t : Str) : Int := if 4000 < f.length ∨ 4000 < t.length then 1 else if (checkT f).1 ≠ 0 then (checkT f).1 else (checkT t).1
def compileT (f t : Str) : Str := if compileE f t = 0 then scriptText (makeT (gather (readNodes (cut f))) (gather (readNodes (cut t)))) else []
theorem compileE_parts {f t : Str} (h : compileE f t = 0) : (checkT f).1 = 0 ∧ (checkT t).1 = 0 ∧ f.length ≤ 4000 ∧ t.length ≤ 4000 := by
  unfold compileE at h
  split at h
  · cases h
  · rename_i hl
    split at h
    · rename_i h2; exact absurd h h2
    · rename_i h2
      exact ⟨Classical.byContradiction h2, h, by omega, by omega⟩
/-- Apply does Compile's script. -/
theorem apply_compile {f t : Str} (h : compileE f t = 0) : applyT f (compileT f t) = (t, 0, 0) := by
  obtain ⟨h1, h2, h3, h4⟩ := compileE_parts h
  have ha := valid_of_check h1
  have hg := valid_of_check h2
  have hseg := makeT_seg ha hg
  have ec : compileT f t = scriptText (makeT (gather (readNodes (cut f))) (gather (readNodes (cut t)))) := by unfold compileT; rw [if_pos h]
  rw [ec]
  obtain ⟨e1, e2⟩ := readSteps_script (seg_can hseg hg.ok)
  have hl := make_text_len ha hg
  obtain ⟨d1, d2⟩ := seg_does hseg 0
  unfold applyT
  rw [if_neg (by omega), if_neg (by simpa using h1), e1, e2, if_neg (by omega), d1, if_neg (by simp), d2, text_check h2]
end Go.Proofs.YtkahmbpggdneoaaDoor
