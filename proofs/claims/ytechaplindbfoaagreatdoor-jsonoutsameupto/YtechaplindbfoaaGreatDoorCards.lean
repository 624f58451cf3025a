/-
  DERIVED. GIVEN WITH THE SEED: THE CARDS: each row of YtechaplindbfoaaGreatDoorRows.lean that lists a variable, with what it lists TIED to the program's text (the seventh form; the later family's looks); each row that meets fmt, with fmt's text TOLD by the authors' own Lean function (tested against real Go, not proved from fmt's source: count such statements apart). THE CARD IS WHAT COUNTS. Prove the row's statement (the work); the ties are given (YtechaplindbfoaaGreatDoorTie.lean); close each card by the builder's one call (the guide's Derived/Test/ToyasCard.lean, 'card_holds'). Laid BY PROGRAM, IN A SANDBOX (cutbox-door.mjs). By AI agents, Wed Nov 11 2026. No macro, syntax, notation, axiom, sorry.
-/
import Derived.Test.YtechaplindbfoaaGreatDoorRows
import GoSem.ClaimSeven
namespace Go.Proofs.YtechaplindbfoaaGreatDoor
namespace Rows

/-- THE TIED CARD OF 'pergolalaw04.JsonoutWrites'. -/
def jsonoutWritesCard : Claim7 := { stood := { row := jsonoutWritesRow, standIns := [], harness := (true, "9359d67af70ee925722d289a71569a04ff9a4c253762dbbc57c21eb5a07a1b12"), looks := true }, kinds := [], alts := [], laidByText := true, laidKinds := [.data, .data, .data, .data, .data, .sentinel, .sentinel, .pinned, .pinned, .pinned], laidTests := true, laidLooks := .later }
def JsonoutWritesCardSaid : Prop := Claim7.holds Tryz.pinned (.plain (OpenSpec.ofChange jsonoutWritesSpec)) jsonoutWritesCard

/-- THE TIED CARD OF 'pergolalaw04.JsonoutSizes'. -/
def jsonoutSizesCard : Claim7 := { stood := { row := jsonoutSizesRow, standIns := [], harness := (true, "9359d67af70ee925722d289a71569a04ff9a4c253762dbbc57c21eb5a07a1b12"), looks := true }, kinds := [], alts := [], laidByText := true, laidKinds := [.data, .data, .data, .data, .data, .sentinel, .sentinel, .pinned, .pinned, .pinned], laidTests := true, laidLooks := .later }
def JsonoutSizesCardSaid : Prop := Claim7.holds Tryz.pinned (.plain (OpenSpec.ofChange jsonoutSizesSpec)) jsonoutSizesCard

/-- THE TIED CARD OF 'pergolalaw04.JsonoutSame'. -/
def jsonoutSameCard : Claim7 := { stood := { row := jsonoutSameRow, standIns := [], harness := (true, "9359d67af70ee925722d289a71569a04ff9a4c253762dbbc57c21eb5a07a1b12"), looks := true }, kinds := [], alts := [], laidByText := true, laidKinds := [.data, .data, .data, .data, .data, .sentinel, .sentinel, .pinned, .pinned, .pinned], laidTests := true, laidLooks := .later }
def JsonoutSameCardSaid : Prop := Claim7.holds Tryz.pinned (.plain (OpenSpec.ofChange jsonoutSameSpec)) jsonoutSameCard

/-- THE TIED CARD OF 'pergolalaw04.JsonoutRefuses'. -/
def jsonoutRefusesCard : Claim7 := { stood := { row := jsonoutRefusesRow, standIns := [], harness := (true, "9359d67af70ee925722d289a71569a04ff9a4c253762dbbc57c21eb5a07a1b12"), looks := true }, kinds := [], alts := [], laidByText := true, laidKinds := [.data, .data, .data, .data, .data, .sentinel, .sentinel, .pinned, .pinned, .pinned], laidTests := true, laidLooks := .later }
def JsonoutRefusesCardSaid : Prop := Claim7.holds Tryz.pinned (.plain (OpenSpec.ofChange jsonoutRefusesSpec)) jsonoutRefusesCard

/-- THE TIED CARD OF 'pergolalaw04.JsonoutBuilds'. -/
def jsonoutBuildsCard : Claim7 := { stood := { row := jsonoutBuildsRow, standIns := [], harness := (true, "9359d67af70ee925722d289a71569a04ff9a4c253762dbbc57c21eb5a07a1b12"), looks := true }, kinds := [], alts := [], laidByText := true, laidKinds := [.data, .data, .data, .data, .data, .sentinel, .sentinel, .pinned, .pinned, .pinned], laidTests := true, laidLooks := .later }
def JsonoutBuildsCardSaid : Prop := Claim7.holds Tryz.pinned (.plain (OpenSpec.ofChange jsonoutBuildsSpec)) jsonoutBuildsCard

/-- THE TIED CARD OF 'pergolalaw04.JsonoutPasses'. -/
def jsonoutPassesCard : Claim7 := { stood := { row := jsonoutPassesRow, standIns := [], harness := (true, "9359d67af70ee925722d289a71569a04ff9a4c253762dbbc57c21eb5a07a1b12"), looks := true }, kinds := [], alts := [], laidByText := true, laidKinds := [.data, .data, .data, .data, .data, .sentinel, .sentinel, .pinned, .pinned, .pinned], laidTests := true, laidLooks := .later }
def JsonoutPassesCardSaid : Prop := Claim7.holds Tryz.pinned (.plain (OpenSpec.ofChange jsonoutPassesSpec)) jsonoutPassesCard

/-- THE SECOND FORM's CARD OF 'pergolalaw04.JsonoutWrites'. -/
def jsonoutWritesUptoCard : Claim7 := { stood := { row := jsonoutWritesUptoRow, standIns := [], harness := (true, "9359d67af70ee925722d289a71569a04ff9a4c253762dbbc57c21eb5a07a1b12"), looks := true }, kinds := [], alts := [], laidByText := true, laidKinds := [.data, .data, .data, .data, .data, .sentinel, .sentinel, .pinned, .pinned, .pinned], laidTests := true, laidLooks := .later }
def JsonoutWritesUptoCardSaid : Prop := Claim7.holds Tryz.pinned (.plain (OpenSpec.upto jsonoutWritesSpec)) jsonoutWritesUptoCard

/-- THE SECOND FORM's CARD OF 'pergolalaw04.JsonoutSizes'. -/
def jsonoutSizesUptoCard : Claim7 := { stood := { row := jsonoutSizesUptoRow, standIns := [], harness := (true, "9359d67af70ee925722d289a71569a04ff9a4c253762dbbc57c21eb5a07a1b12"), looks := true }, kinds := [], alts := [], laidByText := true, laidKinds := [.data, .data, .data, .data, .data, .sentinel, .sentinel, .pinned, .pinned, .pinned], laidTests := true, laidLooks := .later }
def JsonoutSizesUptoCardSaid : Prop := Claim7.holds Tryz.pinned (.plain (OpenSpec.upto jsonoutSizesSpec)) jsonoutSizesUptoCard

/-- THE SECOND FORM's CARD OF 'pergolalaw04.JsonoutSame'. -/
def jsonoutSameUptoCard : Claim7 := { stood := { row := jsonoutSameUptoRow, standIns := [], harness := (true, "9359d67af70ee925722d289a71569a04ff9a4c253762dbbc57c21eb5a07a1b12"), looks := true }, kinds := [], alts := [], laidByText := true, laidKinds := [.data, .data, .data, .data, .data, .sentinel, .sentinel, .pinned, .pinned, .pinned], laidTests := true, laidLooks := .later }
def JsonoutSameUptoCardSaid : Prop := Claim7.holds Tryz.pinned (.plain (OpenSpec.upto jsonoutSameSpec)) jsonoutSameUptoCard

/-- THE SECOND FORM's CARD OF 'pergolalaw04.JsonoutRefuses'. -/
def jsonoutRefusesUptoCard : Claim7 := { stood := { row := jsonoutRefusesUptoRow, standIns := [], harness := (true, "9359d67af70ee925722d289a71569a04ff9a4c253762dbbc57c21eb5a07a1b12"), looks := true }, kinds := [], alts := [], laidByText := true, laidKinds := [.data, .data, .data, .data, .data, .sentinel, .sentinel, .pinned, .pinned, .pinned], laidTests := true, laidLooks := .later }
def JsonoutRefusesUptoCardSaid : Prop := Claim7.holds Tryz.pinned (.plain (OpenSpec.upto jsonoutRefusesSpec)) jsonoutRefusesUptoCard

/-- THE SECOND FORM's CARD OF 'pergolalaw04.JsonoutBuilds'. -/
def jsonoutBuildsUptoCard : Claim7 := { stood := { row := jsonoutBuildsUptoRow, standIns := [], harness := (true, "9359d67af70ee925722d289a71569a04ff9a4c253762dbbc57c21eb5a07a1b12"), looks := true }, kinds := [], alts := [], laidByText := true, laidKinds := [.data, .data, .data, .data, .data, .sentinel, .sentinel, .pinned, .pinned, .pinned], laidTests := true, laidLooks := .later }
def JsonoutBuildsUptoCardSaid : Prop := Claim7.holds Tryz.pinned (.plain (OpenSpec.upto jsonoutBuildsSpec)) jsonoutBuildsUptoCard

/-- THE SECOND FORM's CARD OF 'pergolalaw04.JsonoutPasses'. -/
def jsonoutPassesUptoCard : Claim7 := { stood := { row := jsonoutPassesUptoRow, standIns := [], harness := (true, "9359d67af70ee925722d289a71569a04ff9a4c253762dbbc57c21eb5a07a1b12"), looks := true }, kinds := [], alts := [], laidByText := true, laidKinds := [.data, .data, .data, .data, .data, .sentinel, .sentinel, .pinned, .pinned, .pinned], laidTests := true, laidLooks := .later }
def JsonoutPassesUptoCardSaid : Prop := Claim7.holds Tryz.pinned (.plain (OpenSpec.upto jsonoutPassesSpec)) jsonoutPassesUptoCard
end Rows
end Go.Proofs.YtechaplindbfoaaGreatDoor
