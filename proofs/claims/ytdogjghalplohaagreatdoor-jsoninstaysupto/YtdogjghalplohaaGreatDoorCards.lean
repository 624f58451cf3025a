/-
  DERIVED. GIVEN WITH THE SEED: THE CARDS: each row of YtdogjghalplohaaGreatDoorRows.lean that lists a variable, with what it lists TIED to the program's text (the seventh form; the later family's looks); each row that meets fmt, with fmt's text TOLD by the authors' own Lean function (tested against real Go, not proved from fmt's source: count such statements apart). THE CARD IS WHAT COUNTS. Prove the row's statement (the work); the ties are given (YtdogjghalplohaaGreatDoorTie.lean); close each card by the builder's one call (the guide's Derived/Test/ToyasCard.lean, 'card_holds'). Laid BY PROGRAM, IN A SANDBOX (cutbox-door.mjs). By AI agents, Wed Nov 11 2026. No macro, syntax, notation, axiom, sorry.
-/
import Derived.Test.YtdogjghalplohaaGreatDoorRows
import GoSem.ClaimSeven
namespace Go.Proofs.YtdogjghalplohaaGreatDoor
namespace Rows

/-- THE TIED CARD OF 'pergolalaw05.JsoninWrites'. -/
def jsoninWritesCard : Claim7 := { stood := { row := jsoninWritesRow, standIns := [], harness := (true, "47dcc59d5ee82a034eb99bc5e54172414f7bf9e47044b5e065f1a980ee9f8596"), looks := true }, kinds := [], alts := [], laidByText := true, laidKinds := [.data, .data, .widerDeep, .widerDeep, .data, .data, .data, .data, .data, .data, .sentinel, .sentinel, .pinned, .pinned, .pinned], laidTests := true, laidLooks := .later }
def JsoninWritesCardSaid : Prop := Claim7.holds Tryz.pinned (.plain (OpenSpec.ofChange jsoninWritesSpec)) jsoninWritesCard

/-- THE TIED CARD OF 'pergolalaw05.JsoninShifts'. -/
def jsoninShiftsCard : Claim7 := { stood := { row := jsoninShiftsRow, standIns := [], harness := (true, "47dcc59d5ee82a034eb99bc5e54172414f7bf9e47044b5e065f1a980ee9f8596"), looks := true }, kinds := [], alts := [], laidByText := true, laidKinds := [.data, .data, .widerDeep, .widerDeep, .data, .data, .data, .data, .data, .data, .sentinel, .sentinel, .pinned, .pinned, .pinned], laidTests := true, laidLooks := .later }
def JsoninShiftsCardSaid : Prop := Claim7.holds Tryz.pinned (.plain (OpenSpec.ofChange jsoninShiftsSpec)) jsoninShiftsCard

/-- THE TIED CARD OF 'pergolalaw05.JsoninStays'. -/
def jsoninStaysCard : Claim7 := { stood := { row := jsoninStaysRow, standIns := [], harness := (true, "47dcc59d5ee82a034eb99bc5e54172414f7bf9e47044b5e065f1a980ee9f8596"), looks := true }, kinds := [], alts := [], laidByText := true, laidKinds := [.data, .data, .widerDeep, .widerDeep, .data, .data, .data, .data, .data, .data, .sentinel, .sentinel, .pinned, .pinned, .pinned], laidTests := true, laidLooks := .later }
def JsoninStaysCardSaid : Prop := Claim7.holds Tryz.pinned (.plain (OpenSpec.ofChange jsoninStaysSpec)) jsoninStaysCard

/-- THE TIED CARD OF 'pergolalaw05.JsoninDepths'. -/
def jsoninDepthsCard : Claim7 := { stood := { row := jsoninDepthsRow, standIns := [], harness := (true, "47dcc59d5ee82a034eb99bc5e54172414f7bf9e47044b5e065f1a980ee9f8596"), looks := true }, kinds := [], alts := [], laidByText := true, laidKinds := [.data, .data, .widerDeep, .widerDeep, .data, .data, .data, .data, .data, .data, .sentinel, .sentinel, .pinned, .pinned, .pinned], laidTests := true, laidLooks := .later }
def JsoninDepthsCardSaid : Prop := Claim7.holds Tryz.pinned (.plain (OpenSpec.ofChange jsoninDepthsSpec)) jsoninDepthsCard

/-- THE TIED CARD OF 'pergolalaw05.JsoninTexts'. -/
def jsoninTextsCard : Claim7 := { stood := { row := jsoninTextsRow, standIns := [], harness := (true, "47dcc59d5ee82a034eb99bc5e54172414f7bf9e47044b5e065f1a980ee9f8596"), looks := true }, kinds := [], alts := [], laidByText := true, laidKinds := [.data, .data, .widerDeep, .widerDeep, .data, .data, .data, .data, .data, .data, .sentinel, .sentinel, .pinned, .pinned, .pinned], laidTests := true, laidLooks := .later }
def JsoninTextsCardSaid : Prop := Claim7.holds Tryz.pinned (.plain (OpenSpec.ofChange jsoninTextsSpec)) jsoninTextsCard

/-- THE TIED CARD OF 'pergolalaw05.JsoninNumbers'. -/
def jsoninNumbersCard : Claim7 := { stood := { row := jsoninNumbersRow, standIns := [], harness := (true, "47dcc59d5ee82a034eb99bc5e54172414f7bf9e47044b5e065f1a980ee9f8596"), looks := true }, kinds := [], alts := [], laidByText := true, laidKinds := [.data, .data, .widerDeep, .widerDeep, .data, .data, .data, .data, .data, .data, .sentinel, .sentinel, .pinned, .pinned, .pinned], laidTests := true, laidLooks := .later }
def JsoninNumbersCardSaid : Prop := Claim7.holds Tryz.pinned (.plain (OpenSpec.ofChange jsoninNumbersSpec)) jsoninNumbersCard

/-- THE SECOND FORM's CARD OF 'pergolalaw05.JsoninWrites'. -/
def jsoninWritesUptoCard : Claim7 := { stood := { row := jsoninWritesUptoRow, standIns := [], harness := (true, "47dcc59d5ee82a034eb99bc5e54172414f7bf9e47044b5e065f1a980ee9f8596"), looks := true }, kinds := [], alts := [], laidByText := true, laidKinds := [.data, .data, .widerDeep, .widerDeep, .data, .data, .data, .data, .data, .data, .sentinel, .sentinel, .pinned, .pinned, .pinned], laidTests := true, laidLooks := .later }
def JsoninWritesUptoCardSaid : Prop := Claim7.holds Tryz.pinned (.plain (OpenSpec.upto jsoninWritesSpec)) jsoninWritesUptoCard

/-- THE SECOND FORM's CARD OF 'pergolalaw05.JsoninShifts'. -/
def jsoninShiftsUptoCard : Claim7 := { stood := { row := jsoninShiftsUptoRow, standIns := [], harness := (true, "47dcc59d5ee82a034eb99bc5e54172414f7bf9e47044b5e065f1a980ee9f8596"), looks := true }, kinds := [], alts := [], laidByText := true, laidKinds := [.data, .data, .widerDeep, .widerDeep, .data, .data, .data, .data, .data, .data, .sentinel, .sentinel, .pinned, .pinned, .pinned], laidTests := true, laidLooks := .later }
def JsoninShiftsUptoCardSaid : Prop := Claim7.holds Tryz.pinned (.plain (OpenSpec.upto jsoninShiftsSpec)) jsoninShiftsUptoCard

/-- THE SECOND FORM's CARD OF 'pergolalaw05.JsoninStays'. -/
def jsoninStaysUptoCard : Claim7 := { stood := { row := jsoninStaysUptoRow, standIns := [], harness := (true, "47dcc59d5ee82a034eb99bc5e54172414f7bf9e47044b5e065f1a980ee9f8596"), looks := true }, kinds := [], alts := [], laidByText := true, laidKinds := [.data, .data, .widerDeep, .widerDeep, .data, .data, .data, .data, .data, .data, .sentinel, .sentinel, .pinned, .pinned, .pinned], laidTests := true, laidLooks := .later }
def JsoninStaysUptoCardSaid : Prop := Claim7.holds Tryz.pinned (.plain (OpenSpec.upto jsoninStaysSpec)) jsoninStaysUptoCard

/-- THE SECOND FORM's CARD OF 'pergolalaw05.JsoninDepths'. -/
def jsoninDepthsUptoCard : Claim7 := { stood := { row := jsoninDepthsUptoRow, standIns := [], harness := (true, "47dcc59d5ee82a034eb99bc5e54172414f7bf9e47044b5e065f1a980ee9f8596"), looks := true }, kinds := [], alts := [], laidByText := true, laidKinds := [.data, .data, .widerDeep, .widerDeep, .data, .data, .data, .data, .data, .data, .sentinel, .sentinel, .pinned, .pinned, .pinned], laidTests := true, laidLooks := .later }
def JsoninDepthsUptoCardSaid : Prop := Claim7.holds Tryz.pinned (.plain (OpenSpec.upto jsoninDepthsSpec)) jsoninDepthsUptoCard

/-- THE SECOND FORM's CARD OF 'pergolalaw05.JsoninTexts'. -/
def jsoninTextsUptoCard : Claim7 := { stood := { row := jsoninTextsUptoRow, standIns := [], harness := (true, "47dcc59d5ee82a034eb99bc5e54172414f7bf9e47044b5e065f1a980ee9f8596"), looks := true }, kinds := [], alts := [], laidByText := true, laidKinds := [.data, .data, .widerDeep, .widerDeep, .data, .data, .data, .data, .data, .data, .sentinel, .sentinel, .pinned, .pinned, .pinned], laidTests := true, laidLooks := .later }
def JsoninTextsUptoCardSaid : Prop := Claim7.holds Tryz.pinned (.plain (OpenSpec.upto jsoninTextsSpec)) jsoninTextsUptoCard

/-- THE SECOND FORM's CARD OF 'pergolalaw05.JsoninNumbers'. -/
def jsoninNumbersUptoCard : Claim7 := { stood := { row := jsoninNumbersUptoRow, standIns := [], harness := (true, "47dcc59d5ee82a034eb99bc5e54172414f7bf9e47044b5e065f1a980ee9f8596"), looks := true }, kinds := [], alts := [], laidByText := true, laidKinds := [.data, .data, .widerDeep, .widerDeep, .data, .data, .data, .data, .data, .data, .sentinel, .sentinel, .pinned, .pinned, .pinned], laidTests := true, laidLooks := .later }
def JsoninNumbersUptoCardSaid : Prop := Claim7.holds Tryz.pinned (.plain (OpenSpec.upto jsoninNumbersSpec)) jsoninNumbersUptoCard
end Rows
end Go.Proofs.YtdogjghalplohaaGreatDoor
