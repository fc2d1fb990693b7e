import Derived.Test.YtkjancfakplogaaGreatDoorKPure3
namespace Go.Proofs.YtkjancfakplogaaGreatDoor
open Go.RowKit
def otherB (x : Nd) (n : Nd) : Bool := n.id != x.id
def layR (ns : List Nd) (x : Nd) (b : Bool) : List Nd := ns.filter (otherB x) ++ (if b then [x] else [])
def LayInv (ns : List Nd) (x : Nd) (k : Nat) (ns' : List Nd) : Prop := ns' = (ns.take k).filter (otherB x)
theorem layInv_yes {ns : List Nd} {x : Nd} {k : Nat} {ns' : List Nd} (h : LayInv ns x k ns') (hk : k < ns.length) (hq : ((ns[k]).id != x.id) = true) : LayInv ns x (k + 1) (ns' ++ [ns[k]]) := by
  unfold LayInv at *
  rw [List.take_succ_eq_append_getElem hk, List.filter_append, ← h]
  congr 1
  rw [List.filter_cons, if_pos (show otherB x ns[k] = true from hq)]; rfl
theorem layInv_no {ns : List Nd} {x : Nd} {k : Nat} {ns' : List Nd} (h : LayInv ns x k ns') (hk : k < ns.length) (hq : ((ns[k]).id != x.id) = false) : LayInv ns x (k + 1) ns' := by
  unfold LayInv at *
  rw [List.take_succ_eq_append_getElem hk, List.filter_append, ← h]
  rw [List.filter_cons, if_neg (show ¬ otherB x ns[k] = true by unfold otherB; rw [hq]; simp)]; simp
theorem layInv_end {ns : List Nd} {x : Nd} {k : Nat} {ns' : List Nd} (h : LayInv ns x k ns') (hk : ¬ k < ns.length) : layR ns x false = ns' ∧ layR ns x true = ns' ++ [x] := by
  unfold LayInv at h
  rw [List.take_of_length_le (by omega)] at h
  unfold layR; rw [← h]; simp
theorem layInv_len {ns : List Nd} {x : Nd} {k : Nat} {ns' : List Nd} (h : LayInv ns x k ns') : ns'.length ≤ k := by
  unfold LayInv at h; rw [h]
  refine Nat.le_trans (List.length_filter_le _ _) ?_
  rw [List.length_take]; omega
/-! A step, done in a list. -/
def kidAt (ns : List Nd) (id : Int) (i : Nat) : Bool := (ndAt ns i).parent == id
def kidsR (ns : List Nd) (id : Int) : Bool := decide (scan (kidAt ns id) 0 ns.length < ns.length)
def delR (ns : List Nd) (id : Int) : Int := if findR ns id < 0 then 9 else if kidsR ns id then 10 else 0
def putR (ns : List Nd) (x : Nd) : Int := if !folderR ns x.parent then 4 else if (x.parent == x.id || belowR ns x.parent x.id) then 5 else if (takenR ns x.parent x.name != 0 && takenR ns x.parent x.name != x.id) then 6 else 0
def doR (ns : List Nd) (s : St) : Int :=
  if s.kind = 45 then delR ns s.node.id
  else if s.kind = 43 ∧ 0 ≤ findR ns s.node.id then 8
  else if s.kind = 61 ∧ findR ns s.node.id < 0 then 9
  else putR ns s.node
end Go.Proofs.YtkjancfakplogaaGreatDoor
