import Derived.Test.YtkjancfakplogaaGreatDoorW4
namespace Go.Proofs.YtkjancfakplogaaGreatDoor
open Go.RowKit
/-- A script's steps in memory: five cells each. -/
def OpsAt (w : World) (ao : Option Addr) (len : Nat) : Prop :=
  0 < len → ∃ b off, ao = some ⟨b, off, none⟩ ∧ b < w.heap.size ∧ ∀ i, i < len → ∃ (k x y : Int) (s t : ByteArray),
    w.cell? ⟨b, off + i * 5, none⟩ = some (.int .i64 k) ∧ w.cell? ⟨b, off + i * 5 + 1, none⟩ = some (.int .i64 x) ∧ w.cell? ⟨b, off + i * 5 + 2, none⟩ = some (.int .i64 y) ∧ w.cell? ⟨b, off + i * 5 + 3, none⟩ = some (.string s) ∧ w.cell? ⟨b, off + i * 5 + 4, none⟩ = some (.string t)
end Go.Proofs.YtkjancfakplogaaGreatDoor
