/-
  DERIVED. GIVEN WITH THE SEED: THE CARDS: each row of YtdcjimlhaklhfaaDoorRows.lean that lists a variable, with what it lists TIED to the program's text (the seventh form; the later family's looks); each row that meets fmt, with fmt's text TOLD by the authors' own Lean function (tested against real Go, not proved from fmt's source: count such statements apart). THE CARD IS WHAT COUNTS. Prove the row's statement (the work); the ties are given (YtdcjimlhaklhfaaDoorTie.lean); close each card by the builder's one call (the guide's Derived/Test/ToyasCard.lean, 'card_holds'). Laid BY PROGRAM, IN A SANDBOX (cutbox-door.mjs). By AI agents, Wed Nov 11 2026. No macro, syntax, notation, axiom, sorry.
-/
import Derived.Test.YtdcjimlhaklhfaaDoorRows
import GoSem.ClaimSeven
namespace Go.Proofs.YtdcjimlhaklhfaaDoor
namespace Rows

/-- THE TIED CARD OF 'graftkeep.Parts'. -/
def partsCard : Claim7 := { stood := { row := partsRow, standIns := [], harness := (true, "6cde25f75ff27e79a59e5d8c5c3e7a2eb88700155b05e6bc4678032029ccf3fe"), looks := false }, kinds := [], alts := [], laidByText := true, laidKinds := [.data, .data, .data], laidTests := true, laidLooks := .later }
def PartsCardSaid : Prop := Claim7.holds Tryd.pinned (.plain (OpenSpec.ofChange partsSpec)) partsCard

/-- THE TIED CARD OF 'graftlaw.Unparked'. -/
def unparkedCard : Claim7 := { stood := { row := unparkedRow, standIns := [], harness := (true, "6cde25f75ff27e79a59e5d8c5c3e7a2eb88700155b05e6bc4678032029ccf3fe"), looks := false }, kinds := [], alts := [], laidByText := true, laidKinds := [.data, .data, .data], laidTests := true, laidLooks := .later }
def UnparkedCardSaid : Prop := Claim7.holds Tryd.pinned (.plain (OpenSpec.ofChange unparkedSpec)) unparkedCard

/-- THE TIED CARD OF 'graftkeep.Reached'. -/
def reachedCard : Claim7 := { stood := { row := reachedRow, standIns := [], harness := (true, "6cde25f75ff27e79a59e5d8c5c3e7a2eb88700155b05e6bc4678032029ccf3fe"), looks := false }, kinds := [], alts := [], laidByText := true, laidKinds := [.data, .data, .data], laidTests := true, laidLooks := .later }
def ReachedCardSaid : Prop := Claim7.holds Tryd.pinned (.plain (OpenSpec.ofChange reachedSpec)) reachedCard

/-- THE TIED CARD OF 'graftkeep.Whole'. -/
def wholeCard : Claim7 := { stood := { row := wholeRow, standIns := [], harness := (true, "6cde25f75ff27e79a59e5d8c5c3e7a2eb88700155b05e6bc4678032029ccf3fe"), looks := false }, kinds := [], alts := [], laidByText := true, laidKinds := [.data, .data, .data], laidTests := true, laidLooks := .later }
def WholeCardSaid : Prop := Claim7.holds Tryd.pinned (.plain (OpenSpec.ofChange wholeSpec)) wholeCard

/-- THE TIED CARD OF 'graftkeep.Counted'. -/
def countedCard : Claim7 := { stood := { row := countedRow, standIns := [], harness := (true, "6cde25f75ff27e79a59e5d8c5c3e7a2eb88700155b05e6bc4678032029ccf3fe"), looks := false }, kinds := [], alts := [], laidByText := true, laidKinds := [.data, .data, .data], laidTests := true, laidLooks := .later }
def CountedCardSaid : Prop := Claim7.holds Tryd.pinned (.plain (OpenSpec.ofChange countedSpec)) countedCard

/-- THE TIED CARD OF 'graftkeep.Shortest'. -/
def shortestCard : Claim7 := { stood := { row := shortestRow, standIns := [], harness := (true, "6cde25f75ff27e79a59e5d8c5c3e7a2eb88700155b05e6bc4678032029ccf3fe"), looks := false }, kinds := [], alts := [], laidByText := true, laidKinds := [.data, .data, .data], laidTests := true, laidLooks := .later }
def ShortestCardSaid : Prop := Claim7.holds Tryd.pinned (.plain (OpenSpec.ofChange shortestSpec)) shortestCard

/-- THE SECOND FORM's CARD OF 'graftkeep.Parts'. -/
def partsUptoCard : Claim7 := { stood := { row := partsUptoRow, standIns := [], harness := (true, "6cde25f75ff27e79a59e5d8c5c3e7a2eb88700155b05e6bc4678032029ccf3fe"), looks := false }, kinds := [], alts := [], laidByText := true, laidKinds := [.data, .data, .data], laidTests := true, laidLooks := .later }
def PartsUptoCardSaid : Prop := Claim7.holds Tryd.pinned (.plain (OpenSpec.upto partsSpec)) partsUptoCard

/-- THE SECOND FORM's CARD OF 'graftlaw.Unparked'. -/
def unparkedUptoCard : Claim7 := { stood := { row := unparkedUptoRow, standIns := [], harness := (true, "6cde25f75ff27e79a59e5d8c5c3e7a2eb88700155b05e6bc4678032029ccf3fe"), looks := false }, kinds := [], alts := [], laidByText := true, laidKinds := [.data, .data, .data], laidTests := true, laidLooks := .later }
def UnparkedUptoCardSaid : Prop := Claim7.holds Tryd.pinned (.plain (OpenSpec.upto unparkedSpec)) unparkedUptoCard

/-- THE SECOND FORM's CARD OF 'graftkeep.Reached'. -/
def reachedUptoCard : Claim7 := { stood := { row := reachedUptoRow, standIns := [], harness := (true, "6cde25f75ff27e79a59e5d8c5c3e7a2eb88700155b05e6bc4678032029ccf3fe"), looks := false }, kinds := [], alts := [], laidByText := true, laidKinds := [.data, .data, .data], laidTests := true, laidLooks := .later }
def ReachedUptoCardSaid : Prop := Claim7.holds Tryd.pinned (.plain (OpenSpec.upto reachedSpec)) reachedUptoCard

/-- THE SECOND FORM's CARD OF 'graftkeep.Whole'. -/
def wholeUptoCard : Claim7 := { stood := { row := wholeUptoRow, standIns := [], harness := (true, "6cde25f75ff27e79a59e5d8c5c3e7a2eb88700155b05e6bc4678032029ccf3fe"), looks := false }, kinds := [], alts := [], laidByText := true, laidKinds := [.data, .data, .data], laidTests := true, laidLooks := .later }
def WholeUptoCardSaid : Prop := Claim7.holds Tryd.pinned (.plain (OpenSpec.upto wholeSpec)) wholeUptoCard

/-- THE SECOND FORM's CARD OF 'graftkeep.Counted'. -/
def countedUptoCard : Claim7 := { stood := { row := countedUptoRow, standIns := [], harness := (true, "6cde25f75ff27e79a59e5d8c5c3e7a2eb88700155b05e6bc4678032029ccf3fe"), looks := false }, kinds := [], alts := [], laidByText := true, laidKinds := [.data, .data, .data], laidTests := true, laidLooks := .later }
def CountedUptoCardSaid : Prop := Claim7.holds Tryd.pinned (.plain (OpenSpec.upto countedSpec)) countedUptoCard

/-- THE SECOND FORM's CARD OF 'graftkeep.Shortest'. -/
def shortestUptoCard : Claim7 := { stood := { row := shortestUptoRow, standIns := [], harness := (true, "6cde25f75ff27e79a59e5d8c5c3e7a2eb88700155b05e6bc4678032029ccf3fe"), looks := false }, kinds := [], alts := [], laidByText := true, laidKinds := [.data, .data, .data], laidTests := true, laidLooks := .later }
def ShortestUptoCardSaid : Prop := Claim7.holds Tryd.pinned (.plain (OpenSpec.upto shortestSpec)) shortestUptoCard
end Rows
end Go.Proofs.YtdcjimlhaklhfaaDoor
