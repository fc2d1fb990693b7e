/-
  DERIVED. GIVEN WITH THE SEED: THE CARDS: each row of YtdcjimlhaklhfabGreatDoorRows.lean that lists a variable, with what it lists TIED to the program's text (the seventh form; the later family's looks); each row that meets fmt, with fmt's text TOLD by the authors' own Lean function (tested against real Go, not proved from fmt's source: count such statements apart). THE CARD IS WHAT COUNTS. Prove the row's statement (the work); the ties are given (YtdcjimlhaklhfabGreatDoorTie.lean); close each card by the builder's one call (the guide's Derived/Test/ToyasCard.lean, 'card_holds'). Laid BY PROGRAM, IN A SANDBOX (cutbox-door.mjs). By AI agents, Wed Nov 11 2026. No macro, syntax, notation, axiom, sorry.
-/
import Derived.Test.YtdcjimlhaklhfabGreatDoorRows
import GoSem.ClaimSeven
namespace Go.Proofs.YtdcjimlhaklhfabGreatDoor
namespace Rows

/-- THE TIED CARD OF 'graftlaw.Ingests'. -/
def ingestsCard : Claim7 := { stood := { row := ingestsRow, standIns := [], harness := (true, "a12c87bef0b00769cf17d5392234580084aab8497b77a50711940736d991548f"), looks := false }, kinds := [], alts := [], laidByText := true, laidKinds := [.data, .data, .data], laidTests := true, laidLooks := .later }
def IngestsCardSaid : Prop := Claim7.holds Tryz.pinned (.plain (OpenSpec.ofChange ingestsSpec)) ingestsCard

/-- THE TIED CARD OF 'graftkeep.Bridged'. -/
def bridgedCard : Claim7 := { stood := { row := bridgedRow, standIns := [], harness := (true, "a12c87bef0b00769cf17d5392234580084aab8497b77a50711940736d991548f"), looks := false }, kinds := [], alts := [], laidByText := true, laidKinds := [.data, .data, .data], laidTests := true, laidLooks := .later }
def BridgedCardSaid : Prop := Claim7.holds Tryz.pinned (.plain (OpenSpec.ofChange bridgedSpec)) bridgedCard

/-- THE TIED CARD OF 'graftkeep.Copied'. -/
def copiedCard : Claim7 := { stood := { row := copiedRow, standIns := [], harness := (true, "a12c87bef0b00769cf17d5392234580084aab8497b77a50711940736d991548f"), looks := false }, kinds := [], alts := [], laidByText := true, laidKinds := [.data, .data, .data], laidTests := true, laidLooks := .later }
def CopiedCardSaid : Prop := Claim7.holds Tryz.pinned (.plain (OpenSpec.ofChange copiedSpec)) copiedCard

/-- THE TIED CARD OF 'graftkeep.Meet'. -/
def meetCard : Claim7 := { stood := { row := meetRow, standIns := [], harness := (true, "a12c87bef0b00769cf17d5392234580084aab8497b77a50711940736d991548f"), looks := false }, kinds := [], alts := [], laidByText := true, laidKinds := [.data, .data, .data], laidTests := true, laidLooks := .later }
def MeetCardSaid : Prop := Claim7.holds Tryz.pinned (.plain (OpenSpec.ofChange meetSpec)) meetCard

/-- THE TIED CARD OF 'graftlaw.All'. -/
def allCard : Claim7 := { stood := { row := allRow, standIns := [], harness := (true, "a12c87bef0b00769cf17d5392234580084aab8497b77a50711940736d991548f"), looks := false }, kinds := [], alts := [], laidByText := true, laidKinds := [.data, .data, .data], laidTests := true, laidLooks := .later }
def AllCardSaid : Prop := Claim7.holds Tryz.pinned (.plain (OpenSpec.ofChange allSpec)) allCard

/-- THE SECOND FORM's CARD OF 'graftlaw.Ingests'. -/
def ingestsUptoCard : Claim7 := { stood := { row := ingestsUptoRow, standIns := [], harness := (true, "a12c87bef0b00769cf17d5392234580084aab8497b77a50711940736d991548f"), looks := false }, kinds := [], alts := [], laidByText := true, laidKinds := [.data, .data, .data], laidTests := true, laidLooks := .later }
def IngestsUptoCardSaid : Prop := Claim7.holds Tryz.pinned (.plain (OpenSpec.upto ingestsSpec)) ingestsUptoCard

/-- THE SECOND FORM's CARD OF 'graftkeep.Bridged'. -/
def bridgedUptoCard : Claim7 := { stood := { row := bridgedUptoRow, standIns := [], harness := (true, "a12c87bef0b00769cf17d5392234580084aab8497b77a50711940736d991548f"), looks := false }, kinds := [], alts := [], laidByText := true, laidKinds := [.data, .data, .data], laidTests := true, laidLooks := .later }
def BridgedUptoCardSaid : Prop := Claim7.holds Tryz.pinned (.plain (OpenSpec.upto bridgedSpec)) bridgedUptoCard

/-- THE SECOND FORM's CARD OF 'graftkeep.Copied'. -/
def copiedUptoCard : Claim7 := { stood := { row := copiedUptoRow, standIns := [], harness := (true, "a12c87bef0b00769cf17d5392234580084aab8497b77a50711940736d991548f"), looks := false }, kinds := [], alts := [], laidByText := true, laidKinds := [.data, .data, .data], laidTests := true, laidLooks := .later }
def CopiedUptoCardSaid : Prop := Claim7.holds Tryz.pinned (.plain (OpenSpec.upto copiedSpec)) copiedUptoCard

/-- THE SECOND FORM's CARD OF 'graftkeep.Meet'. -/
def meetUptoCard : Claim7 := { stood := { row := meetUptoRow, standIns := [], harness := (true, "a12c87bef0b00769cf17d5392234580084aab8497b77a50711940736d991548f"), looks := false }, kinds := [], alts := [], laidByText := true, laidKinds := [.data, .data, .data], laidTests := true, laidLooks := .later }
def MeetUptoCardSaid : Prop := Claim7.holds Tryz.pinned (.plain (OpenSpec.upto meetSpec)) meetUptoCard

/-- THE SECOND FORM's CARD OF 'graftlaw.All'. -/
def allUptoCard : Claim7 := { stood := { row := allUptoRow, standIns := [], harness := (true, "a12c87bef0b00769cf17d5392234580084aab8497b77a50711940736d991548f"), looks := false }, kinds := [], alts := [], laidByText := true, laidKinds := [.data, .data, .data], laidTests := true, laidLooks := .later }
def AllUptoCardSaid : Prop := Claim7.holds Tryz.pinned (.plain (OpenSpec.upto allSpec)) allUptoCard
end Rows
end Go.Proofs.YtdcjimlhaklhfabGreatDoor
