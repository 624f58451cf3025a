/-
  DERIVED. GIVEN WITH THE SEED: THE CARDS: each row of YtfjoaifcfmcnfaaGreatDoorRows.lean that lists a variable, with what it lists TIED to the program's text (the seventh form; the later family's looks); each row that meets fmt, with fmt's text TOLD by the authors' own Lean function (tested against real Go, not proved from fmt's source: count such statements apart). THE CARD IS WHAT COUNTS. Prove the row's statement (the work); the ties are given (YtfjoaifcfmcnfaaGreatDoorTie.lean); close each card by the builder's one call (the guide's Derived/Test/ToyasCard.lean, 'card_holds'). Laid BY PROGRAM, IN A SANDBOX (cutbox-door.mjs). By AI agents, Wed Nov 11 2026. No macro, syntax, notation, axiom, sorry.
-/
import Derived.Test.YtfjoaifcfmcnfaaGreatDoorRows
import GoSem.ClaimSeven
namespace Go.Proofs.YtfjoaifcfmcnfaaGreatDoor
namespace Rows

/-- THE TIED CARD OF 'pergolalaw04.JsonoutWrites'. -/
def jsonoutWritesCard : Claim7 := { stood := { row := jsonoutWritesRow, standIns := [], harness := (true, "ca7a9841dd98bf20de85510021a552ecf2d565ec978ae4636b1c2321aabd9233"), looks := true }, kinds := [], alts := [], laidByText := true, laidKinds := [.data, .data, .data, .data, .data, .sentinel, .sentinel, .pinned, .pinned, .pinned], laidTests := true, laidLooks := .later }
def JsonoutWritesCardSaid : Prop := Claim7.holds Tryz.pinned (.plain (OpenSpec.ofChange jsonoutWritesSpec)) jsonoutWritesCard

/-- THE TIED CARD OF 'pergolalaw04.JsonoutTexts'. -/
def jsonoutTextsCard : Claim7 := { stood := { row := jsonoutTextsRow, standIns := [], harness := (true, "ca7a9841dd98bf20de85510021a552ecf2d565ec978ae4636b1c2321aabd9233"), looks := true }, kinds := [], alts := [], laidByText := true, laidKinds := [.data, .data, .data, .data, .data, .sentinel, .sentinel, .pinned, .pinned, .pinned], laidTests := true, laidLooks := .later }
def JsonoutTextsCardSaid : Prop := Claim7.holds Tryz.pinned (.plain (OpenSpec.ofChange jsonoutTextsSpec)) jsonoutTextsCard

/-- THE TIED CARD OF 'pergolalaw04.JsonoutSizes'. -/
def jsonoutSizesCard : Claim7 := { stood := { row := jsonoutSizesRow, standIns := [], harness := (true, "ca7a9841dd98bf20de85510021a552ecf2d565ec978ae4636b1c2321aabd9233"), looks := true }, kinds := [], alts := [], laidByText := true, laidKinds := [.data, .data, .data, .data, .data, .sentinel, .sentinel, .pinned, .pinned, .pinned], laidTests := true, laidLooks := .later }
def JsonoutSizesCardSaid : Prop := Claim7.holds Tryz.pinned (.plain (OpenSpec.ofChange jsonoutSizesSpec)) jsonoutSizesCard

/-- THE TIED CARD OF 'pergolalaw04.JsonoutKeeps'. -/
def jsonoutKeepsCard : Claim7 := { stood := { row := jsonoutKeepsRow, standIns := [], harness := (true, "ca7a9841dd98bf20de85510021a552ecf2d565ec978ae4636b1c2321aabd9233"), looks := true }, kinds := [], alts := [], laidByText := true, laidKinds := [.data, .data, .data, .data, .data, .sentinel, .sentinel, .pinned, .pinned, .pinned], laidTests := true, laidLooks := .later }
def JsonoutKeepsCardSaid : Prop := Claim7.holds Tryz.pinned (.plain (OpenSpec.ofChange jsonoutKeepsSpec)) jsonoutKeepsCard

/-- THE TIED CARD OF 'pergolalaw04.JsonoutSame'. -/
def jsonoutSameCard : Claim7 := { stood := { row := jsonoutSameRow, standIns := [], harness := (true, "ca7a9841dd98bf20de85510021a552ecf2d565ec978ae4636b1c2321aabd9233"), looks := true }, kinds := [], alts := [], laidByText := true, laidKinds := [.data, .data, .data, .data, .data, .sentinel, .sentinel, .pinned, .pinned, .pinned], laidTests := true, laidLooks := .later }
def JsonoutSameCardSaid : Prop := Claim7.holds Tryz.pinned (.plain (OpenSpec.ofChange jsonoutSameSpec)) jsonoutSameCard

/-- THE TIED CARD OF 'pergolalaw04.JsonoutRefuses'. -/
def jsonoutRefusesCard : Claim7 := { stood := { row := jsonoutRefusesRow, standIns := [], harness := (true, "ca7a9841dd98bf20de85510021a552ecf2d565ec978ae4636b1c2321aabd9233"), looks := true }, kinds := [], alts := [], laidByText := true, laidKinds := [.data, .data, .data, .data, .data, .sentinel, .sentinel, .pinned, .pinned, .pinned], laidTests := true, laidLooks := .later }
def JsonoutRefusesCardSaid : Prop := Claim7.holds Tryz.pinned (.plain (OpenSpec.ofChange jsonoutRefusesSpec)) jsonoutRefusesCard

/-- THE SECOND FORM's CARD OF 'pergolalaw04.JsonoutWrites'. -/
def jsonoutWritesUptoCard : Claim7 := { stood := { row := jsonoutWritesUptoRow, standIns := [], harness := (true, "ca7a9841dd98bf20de85510021a552ecf2d565ec978ae4636b1c2321aabd9233"), looks := true }, kinds := [], alts := [], laidByText := true, laidKinds := [.data, .data, .data, .data, .data, .sentinel, .sentinel, .pinned, .pinned, .pinned], laidTests := true, laidLooks := .later }
def JsonoutWritesUptoCardSaid : Prop := Claim7.holds Tryz.pinned (.plain (OpenSpec.upto jsonoutWritesSpec)) jsonoutWritesUptoCard

/-- THE SECOND FORM's CARD OF 'pergolalaw04.JsonoutTexts'. -/
def jsonoutTextsUptoCard : Claim7 := { stood := { row := jsonoutTextsUptoRow, standIns := [], harness := (true, "ca7a9841dd98bf20de85510021a552ecf2d565ec978ae4636b1c2321aabd9233"), looks := true }, kinds := [], alts := [], laidByText := true, laidKinds := [.data, .data, .data, .data, .data, .sentinel, .sentinel, .pinned, .pinned, .pinned], laidTests := true, laidLooks := .later }
def JsonoutTextsUptoCardSaid : Prop := Claim7.holds Tryz.pinned (.plain (OpenSpec.upto jsonoutTextsSpec)) jsonoutTextsUptoCard

/-- THE SECOND FORM's CARD OF 'pergolalaw04.JsonoutSizes'. -/
def jsonoutSizesUptoCard : Claim7 := { stood := { row := jsonoutSizesUptoRow, standIns := [], harness := (true, "ca7a9841dd98bf20de85510021a552ecf2d565ec978ae4636b1c2321aabd9233"), looks := true }, kinds := [], alts := [], laidByText := true, laidKinds := [.data, .data, .data, .data, .data, .sentinel, .sentinel, .pinned, .pinned, .pinned], laidTests := true, laidLooks := .later }
def JsonoutSizesUptoCardSaid : Prop := Claim7.holds Tryz.pinned (.plain (OpenSpec.upto jsonoutSizesSpec)) jsonoutSizesUptoCard

/-- THE SECOND FORM's CARD OF 'pergolalaw04.JsonoutKeeps'. -/
def jsonoutKeepsUptoCard : Claim7 := { stood := { row := jsonoutKeepsUptoRow, standIns := [], harness := (true, "ca7a9841dd98bf20de85510021a552ecf2d565ec978ae4636b1c2321aabd9233"), looks := true }, kinds := [], alts := [], laidByText := true, laidKinds := [.data, .data, .data, .data, .data, .sentinel, .sentinel, .pinned, .pinned, .pinned], laidTests := true, laidLooks := .later }
def JsonoutKeepsUptoCardSaid : Prop := Claim7.holds Tryz.pinned (.plain (OpenSpec.upto jsonoutKeepsSpec)) jsonoutKeepsUptoCard

/-- THE SECOND FORM's CARD OF 'pergolalaw04.JsonoutSame'. -/
def jsonoutSameUptoCard : Claim7 := { stood := { row := jsonoutSameUptoRow, standIns := [], harness := (true, "ca7a9841dd98bf20de85510021a552ecf2d565ec978ae4636b1c2321aabd9233"), looks := true }, kinds := [], alts := [], laidByText := true, laidKinds := [.data, .data, .data, .data, .data, .sentinel, .sentinel, .pinned, .pinned, .pinned], laidTests := true, laidLooks := .later }
def JsonoutSameUptoCardSaid : Prop := Claim7.holds Tryz.pinned (.plain (OpenSpec.upto jsonoutSameSpec)) jsonoutSameUptoCard

/-- THE SECOND FORM's CARD OF 'pergolalaw04.JsonoutRefuses'. -/
def jsonoutRefusesUptoCard : Claim7 := { stood := { row := jsonoutRefusesUptoRow, standIns := [], harness := (true, "ca7a9841dd98bf20de85510021a552ecf2d565ec978ae4636b1c2321aabd9233"), looks := true }, kinds := [], alts := [], laidByText := true, laidKinds := [.data, .data, .data, .data, .data, .sentinel, .sentinel, .pinned, .pinned, .pinned], laidTests := true, laidLooks := .later }
def JsonoutRefusesUptoCardSaid : Prop := Claim7.holds Tryz.pinned (.plain (OpenSpec.upto jsonoutRefusesSpec)) jsonoutRefusesUptoCard
end Rows
end Go.Proofs.YtfjoaifcfmcnfaaGreatDoor
