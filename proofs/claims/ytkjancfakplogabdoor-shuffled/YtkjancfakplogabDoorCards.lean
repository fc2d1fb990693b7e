/-
  DERIVED. GIVEN WITH THE SEED: THE CARDS: each row of YtkjancfakplogabDoorRows.lean that lists a variable, with what it lists TIED to the program's text (the seventh form; the later family's looks); each row that meets fmt, with fmt's text TOLD by the authors' own Lean function (tested against real Go, not proved from fmt's source: count such statements apart). THE CARD IS WHAT COUNTS. Prove the row's statement (the work); the ties are given (YtkjancfakplogabDoorTie.lean); close each card by the builder's one call (the guide's Derived/Test/ToyasCard.lean, 'card_holds'). Laid BY PROGRAM, IN A SANDBOX (cutbox-door.mjs). By AI agents, Wed Nov 11 2026. No macro, syntax, notation, axiom, sorry.
-/
import Derived.Test.YtkjancfakplogabDoorRows
import GoSem.ClaimSeven
namespace Go.Proofs.YtkjancfakplogabDoor
namespace Rows

/-- THE TIED CARD OF 'graftkeep.Shuffled'. -/
def shuffledCard : Claim7 := { stood := { row := shuffledRow, standIns := [], harness := (true, "fe6c878b185d5e3227897349a887d3d22dfee2547820cac42ae65ff0fa7dde78"), looks := false }, kinds := [], alts := [], laidByText := true, laidKinds := [.data, .data, .data], laidTests := true, laidLooks := .later }
def ShuffledCardSaid : Prop := Claim7.holds Tryd.pinned (.plain (OpenSpec.ofChange shuffledSpec)) shuffledCard

/-- THE TIED CARD OF 'graftkeep.Meet'. -/
def meetCard : Claim7 := { stood := { row := meetRow, standIns := [], harness := (true, "fe6c878b185d5e3227897349a887d3d22dfee2547820cac42ae65ff0fa7dde78"), looks := false }, kinds := [], alts := [], laidByText := true, laidKinds := [.data, .data, .data], laidTests := true, laidLooks := .later }
def MeetCardSaid : Prop := Claim7.holds Tryd.pinned (.plain (OpenSpec.ofChange meetSpec)) meetCard

/-- THE SECOND FORM's CARD OF 'graftkeep.Shuffled'. -/
def shuffledUptoCard : Claim7 := { stood := { row := shuffledUptoRow, standIns := [], harness := (true, "fe6c878b185d5e3227897349a887d3d22dfee2547820cac42ae65ff0fa7dde78"), looks := false }, kinds := [], alts := [], laidByText := true, laidKinds := [.data, .data, .data], laidTests := true, laidLooks := .later }
def ShuffledUptoCardSaid : Prop := Claim7.holds Tryd.pinned (.plain (OpenSpec.upto shuffledSpec)) shuffledUptoCard

/-- THE SECOND FORM's CARD OF 'graftkeep.Meet'. -/
def meetUptoCard : Claim7 := { stood := { row := meetUptoRow, standIns := [], harness := (true, "fe6c878b185d5e3227897349a887d3d22dfee2547820cac42ae65ff0fa7dde78"), looks := false }, kinds := [], alts := [], laidByText := true, laidKinds := [.data, .data, .data], laidTests := true, laidLooks := .later }
def MeetUptoCardSaid : Prop := Claim7.holds Tryd.pinned (.plain (OpenSpec.upto meetSpec)) meetUptoCard
end Rows
end Go.Proofs.YtkjancfakplogabDoor
