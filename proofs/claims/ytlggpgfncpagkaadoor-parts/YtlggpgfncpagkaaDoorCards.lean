/-
  DERIVED. GIVEN WITH THE SEED: THE CARDS: each row of YtlggpgfncpagkaaDoorRows.lean that lists a variable, with what it lists TIED to the program's text (the seventh form; the later family's looks); each row that meets fmt, with fmt's text TOLD by the authors' own Lean function (tested against real Go, not proved from fmt's source: count such statements apart). THE CARD IS WHAT COUNTS. Prove the row's statement (the work); the ties are given (YtlggpgfncpagkaaDoorTie.lean); close each card by the builder's one call (the guide's Derived/Test/ToyasCard.lean, 'card_holds'). Laid BY PROGRAM, IN A SANDBOX (cutbox-door.mjs). By AI agents, Wed Nov 11 2026. No macro, syntax, notation, axiom, sorry.
-/
import Derived.Test.YtlggpgfncpagkaaDoorRows
import GoSem.ClaimSeven
namespace Go.Proofs.YtlggpgfncpagkaaDoor
namespace Rows

/-- THE TIED CARD OF 'graftkeep.Parts'. -/
def partsCard : Claim7 := { stood := { row := partsRow, standIns := [], harness := (true, "7ec1f1473e3fd51b714c6e83bde056588ecc7e03692d6dd25b3153d2e1ec03c4"), looks := false }, kinds := [], alts := [], laidByText := true, laidKinds := [.data, .data, .data], laidTests := true, laidLooks := .later }
def PartsCardSaid : Prop := Claim7.holds Tryd.pinned (.plain (OpenSpec.ofChange partsSpec)) partsCard

/-- THE TIED CARD OF 'graftkeep.Shortest'. -/
def shortestCard : Claim7 := { stood := { row := shortestRow, standIns := [], harness := (true, "7ec1f1473e3fd51b714c6e83bde056588ecc7e03692d6dd25b3153d2e1ec03c4"), looks := false }, kinds := [], alts := [], laidByText := true, laidKinds := [.data, .data, .data], laidTests := true, laidLooks := .later }
def ShortestCardSaid : Prop := Claim7.holds Tryd.pinned (.plain (OpenSpec.ofChange shortestSpec)) shortestCard

/-- THE SECOND FORM's CARD OF 'graftkeep.Parts'. -/
def partsUptoCard : Claim7 := { stood := { row := partsUptoRow, standIns := [], harness := (true, "7ec1f1473e3fd51b714c6e83bde056588ecc7e03692d6dd25b3153d2e1ec03c4"), looks := false }, kinds := [], alts := [], laidByText := true, laidKinds := [.data, .data, .data], laidTests := true, laidLooks := .later }
def PartsUptoCardSaid : Prop := Claim7.holds Tryd.pinned (.plain (OpenSpec.upto partsSpec)) partsUptoCard

/-- THE SECOND FORM's CARD OF 'graftkeep.Shortest'. -/
def shortestUptoCard : Claim7 := { stood := { row := shortestUptoRow, standIns := [], harness := (true, "7ec1f1473e3fd51b714c6e83bde056588ecc7e03692d6dd25b3153d2e1ec03c4"), looks := false }, kinds := [], alts := [], laidByText := true, laidKinds := [.data, .data, .data], laidTests := true, laidLooks := .later }
def ShortestUptoCardSaid : Prop := Claim7.holds Tryd.pinned (.plain (OpenSpec.upto shortestSpec)) shortestUptoCard
end Rows
end Go.Proofs.YtlggpgfncpagkaaDoor
