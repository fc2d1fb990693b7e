/-
  DERIVED. GIVEN WITH THE SEED: THE CARDS: each row of YtkahmbpggdneoaaGreatDoorRows.lean that lists a variable, with what it lists TIED to the program's text (the seventh form; the later family's looks); each row that meets fmt, with fmt's text TOLD by the authors' own Lean function (tested against real Go, not proved from fmt's source: count such statements apart). THE CARD IS WHAT COUNTS. Prove the row's statement (the work); the ties are given (YtkahmbpggdneoaaGreatDoorTie.lean); close each card by the builder's one call (the guide's Derived/Test/ToyasCard.lean, 'card_holds'). Laid BY PROGRAM, IN A SANDBOX (cutbox-door.mjs). By AI agents, Wed Nov 11 2026. No macro, syntax, notation, axiom, sorry.
-/
import Derived.Test.YtkahmbpggdneoaaGreatDoorRows
import GoSem.ClaimSeven
namespace Go.Proofs.YtkahmbpggdneoaaGreatDoor
namespace Rows

/-- THE TIED CARD OF 'graftlaw.Checks'. -/
def checksCard : Claim7 := { stood := { row := checksRow, standIns := [], harness := (true, "1d8948998e4a1ecd8c57e4f70652fa8c145cb3985cc8491cf65a862f48f33739"), looks := false }, kinds := [], alts := [], laidByText := true, laidKinds := [.data, .data, .data], laidTests := true, laidLooks := .later }
def ChecksCardSaid : Prop := Claim7.holds Tryz.pinned (.plain (OpenSpec.ofChange checksSpec)) checksCard

/-- THE TIED CARD OF 'graftlaw.Applies'. -/
def appliesCard : Claim7 := { stood := { row := appliesRow, standIns := [], harness := (true, "1d8948998e4a1ecd8c57e4f70652fa8c145cb3985cc8491cf65a862f48f33739"), looks := false }, kinds := [], alts := [], laidByText := true, laidKinds := [.data, .data, .data], laidTests := true, laidLooks := .later }
def AppliesCardSaid : Prop := Claim7.holds Tryz.pinned (.plain (OpenSpec.ofChange appliesSpec)) appliesCard

/-- THE TIED CARD OF 'graftlaw.Compiles'. -/
def compilesCard : Claim7 := { stood := { row := compilesRow, standIns := [], harness := (true, "1d8948998e4a1ecd8c57e4f70652fa8c145cb3985cc8491cf65a862f48f33739"), looks := false }, kinds := [], alts := [], laidByText := true, laidKinds := [.data, .data, .data], laidTests := true, laidLooks := .later }
def CompilesCardSaid : Prop := Claim7.holds Tryz.pinned (.plain (OpenSpec.ofChange compilesSpec)) compilesCard

/-- THE SECOND FORM's CARD OF 'graftlaw.Checks'. -/
def checksUptoCard : Claim7 := { stood := { row := checksUptoRow, standIns := [], harness := (true, "1d8948998e4a1ecd8c57e4f70652fa8c145cb3985cc8491cf65a862f48f33739"), looks := false }, kinds := [], alts := [], laidByText := true, laidKinds := [.data, .data, .data], laidTests := true, laidLooks := .later }
def ChecksUptoCardSaid : Prop := Claim7.holds Tryz.pinned (.plain (OpenSpec.upto checksSpec)) checksUptoCard

/-- THE SECOND FORM's CARD OF 'graftlaw.Applies'. -/
def appliesUptoCard : Claim7 := { stood := { row := appliesUptoRow, standIns := [], harness := (true, "1d8948998e4a1ecd8c57e4f70652fa8c145cb3985cc8491cf65a862f48f33739"), looks := false }, kinds := [], alts := [], laidByText := true, laidKinds := [.data, .data, .data], laidTests := true, laidLooks := .later }
def AppliesUptoCardSaid : Prop := Claim7.holds Tryz.pinned (.plain (OpenSpec.upto appliesSpec)) appliesUptoCard

/-- THE SECOND FORM's CARD OF 'graftlaw.Compiles'. -/
def compilesUptoCard : Claim7 := { stood := { row := compilesUptoRow, standIns := [], harness := (true, "1d8948998e4a1ecd8c57e4f70652fa8c145cb3985cc8491cf65a862f48f33739"), looks := false }, kinds := [], alts := [], laidByText := true, laidKinds := [.data, .data, .data], laidTests := true, laidLooks := .later }
def CompilesUptoCardSaid : Prop := Claim7.holds Tryz.pinned (.plain (OpenSpec.upto compilesSpec)) compilesUptoCard
end Rows
end Go.Proofs.YtkahmbpggdneoaaGreatDoor
