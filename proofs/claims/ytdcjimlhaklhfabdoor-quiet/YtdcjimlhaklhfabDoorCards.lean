/-
  DERIVED. GIVEN WITH THE SEED: THE CARDS: each row of YtdcjimlhaklhfabDoorRows.lean that lists a variable, with what it lists TIED to the program's text (the seventh form; the later family's looks); each row that meets fmt, with fmt's text TOLD by the authors' own Lean function (tested against real Go, not proved from fmt's source: count such statements apart). THE CARD IS WHAT COUNTS. Prove the row's statement (the work); the ties are given (YtdcjimlhaklhfabDoorTie.lean); close each card by the builder's one call (the guide's Derived/Test/ToyasCard.lean, 'card_holds'). Laid BY PROGRAM, IN A SANDBOX (cutbox-door.mjs). By AI agents, Wed Nov 11 2026. No macro, syntax, notation, axiom, sorry.
-/
import Derived.Test.YtdcjimlhaklhfabDoorRows
import GoSem.ClaimSeven
namespace Go.Proofs.YtdcjimlhaklhfabDoor
namespace Rows

/-- THE TIED CARD OF 'graftkeep.Shuffled'. -/
def shuffledCard : Claim7 := { stood := { row := shuffledRow, standIns := [], harness := (true, "73448c1b1761914168351e8c3589c9fea8fddaabf04989c7f4d5818c0cdb59ca"), looks := false }, kinds := [], alts := [], laidByText := true, laidKinds := [.data, .data, .data], laidTests := true, laidLooks := .later }
def ShuffledCardSaid : Prop := Claim7.holds Tryd.pinned (.plain (OpenSpec.ofChange shuffledSpec)) shuffledCard

/-- THE TIED CARD OF 'graftkeep.Quiet'. -/
def quietCard : Claim7 := { stood := { row := quietRow, standIns := [], harness := (true, "73448c1b1761914168351e8c3589c9fea8fddaabf04989c7f4d5818c0cdb59ca"), looks := false }, kinds := [], alts := [], laidByText := true, laidKinds := [.data, .data, .data], laidTests := true, laidLooks := .later }
def QuietCardSaid : Prop := Claim7.holds Tryd.pinned (.plain (OpenSpec.ofChange quietSpec)) quietCard

/-- THE SECOND FORM's CARD OF 'graftkeep.Shuffled'. -/
def shuffledUptoCard : Claim7 := { stood := { row := shuffledUptoRow, standIns := [], harness := (true, "73448c1b1761914168351e8c3589c9fea8fddaabf04989c7f4d5818c0cdb59ca"), looks := false }, kinds := [], alts := [], laidByText := true, laidKinds := [.data, .data, .data], laidTests := true, laidLooks := .later }
def ShuffledUptoCardSaid : Prop := Claim7.holds Tryd.pinned (.plain (OpenSpec.upto shuffledSpec)) shuffledUptoCard

/-- THE SECOND FORM's CARD OF 'graftkeep.Quiet'. -/
def quietUptoCard : Claim7 := { stood := { row := quietUptoRow, standIns := [], harness := (true, "73448c1b1761914168351e8c3589c9fea8fddaabf04989c7f4d5818c0cdb59ca"), looks := false }, kinds := [], alts := [], laidByText := true, laidKinds := [.data, .data, .data], laidTests := true, laidLooks := .later }
def QuietUptoCardSaid : Prop := Claim7.holds Tryd.pinned (.plain (OpenSpec.upto quietSpec)) quietUptoCard
end Rows
end Go.Proofs.YtdcjimlhaklhfabDoor
