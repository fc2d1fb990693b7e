import Derived.Test.YtkjancfakplogaaGreatDoorRPure2
namespace Go.Proofs.YtkjancfakplogaaGreatDoor
open Go.RowKit
def idIs (ns : List Nd) (id : Int) (i : Nat) : Bool := (ndAt ns i).id == id
def findN (ns : List Nd) (id : Int) : Nat := scan (idIs ns id) 0 ns.length
def findR (ns : List Nd) (id : Int) : Int := if findN ns id < ns.length then (findN ns id : Int) else -1
def lookR (ns : List Nd) (id : Int) : Option Nd := if findN ns id < ns.length then some (ndAt ns (findN ns id)) else none
def folderR (ns : List Nd) (id : Int) : Bool := id == 0 || (id % 2 == 0 && (lookR ns id).isSome)
def belowF (look : Int → Option Nd) : Nat → Int → Int → Bool
  | 0, _, _ => false
  | f + 1, id, top => match look id with
    | none => false
    | some n => if n.parent = top then true else belowF look f n.parent top
def belowR (ns : List Nd) (id top : Int) : Bool := belowF (lookR ns) (ns.length + 1) id top
def placeIs (ns : List Nd) (parent : Int) (name : Str) (i : Nat) : Bool := ((ndAt ns i).parent == parent) && ((ndAt ns i).name == name)
def takenN (ns : List Nd) (parent : Int) (name : Str) : Nat := scan (placeIs ns parent name) 0 ns.length
def takenR (ns : List Nd) (parent : Int) (name : Str) : Int := if takenN ns parent name < ns.length then (ndAt ns (takenN ns parent name)).id else 0
/-- the rules behind the form -/
def rOrphan (ns : List Nd) (i : Nat) : Bool := !folderR ns (ndAt ns i).parent
def rLooped (ns : List Nd) (i : Nat) : Bool := !belowR ns (ndAt ns i).id 0
def rTwice (ns : List Nd) (i : Nat) : Bool := takenR (ns.take i) (ndAt ns i).parent (ndAt ns i).name != 0
def wrongR (ns : List Nd) : Int × Nat :=
  if scan (unordered ns) 1 ns.length < ns.length then (3, scan (unordered ns) 1 ns.length)
  else if scan (rOrphan ns) 0 ns.length < ns.length then (4, scan (rOrphan ns) 0 ns.length)
  else if scan (rLooped ns) 0 ns.length < ns.length then (5, scan (rLooped ns) 0 ns.length)
  else if scan (rTwice ns) 0 ns.length < ns.length then (6, scan (rTwice ns) 0 ns.length)
  else (0, 0)
def checkR (l : Str) : Int × Nat :=
  if 4000 < l.length then (1, 0) else
  if (readNodes (cut l)).length < (cut l).length then (2, (readNodes (cut l)).length) else
  wrongR (readNodes (cut l))
theorem lookR_none {ns : List Nd} {id : Int} (h : ¬ findN ns id < ns.length) : lookR ns id = none ∧ findR ns id = -1 := by
  unfold lookR findR; rw [if_neg h, if_neg h]; exact ⟨rfl, rfl⟩
theorem lookR_some {ns : List Nd} {id : Int} (h : findN ns id < ns.length) : lookR ns id = some ns[findN ns id] ∧ findR ns id = findN ns id := by
  unfold lookR findR; rw [if_pos h, if_pos h, ndAt_get _ _ h]; exact ⟨rfl, rfl⟩
end Go.Proofs.YtkjancfakplogaaGreatDoor
