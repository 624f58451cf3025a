/-
  DERIVED. GIVEN WITH THE SEED: THE CARDS: each row of YtfjoaifcfmcnfabGreatDoorRows.lean that lists a variable, with what it lists TIED to the program's text (the seventh form; the later family's looks); each row that meets fmt, with fmt's text TOLD by the authors' own Lean function (tested against real Go, not proved from fmt's source: count such statements apart). THE CARD IS WHAT COUNTS. Prove the row's statement (the work); the ties are given (YtfjoaifcfmcnfabGreatDoorTie.lean); close each card by the builder's one call (the guide's Derived/Test/ToyasCard.lean, 'card_holds'). Laid BY PROGRAM, IN A SANDBOX (cutbox-door.mjs). By AI agents, Wed Nov 11 2026. No macro, syntax, notation, axiom, sorry.
-/
import Derived.Test.YtfjoaifcfmcnfabGreatDoorRows
import GoSem.ClaimSeven
namespace Go.Proofs.YtfjoaifcfmcnfabGreatDoor
namespace Rows

/-- THE TIED CARD OF 'pergolalaw04.JsonoutBuilds'. -/
def jsonoutBuildsCard : Claim7 := { stood := { row := jsonoutBuildsRow, standIns := [], harness := (true, "be0694b6daed76f6c8ae0a22af543c1eae78451c3640619844ca3724c15ce56a"), looks := true }, kinds := [], alts := [], laidByText := true, laidKinds := [.data, .data, .data, .data, .data, .sentinel, .sentinel, .pinned, .pinned, .pinned], laidTests := true, laidLooks := .later }
def JsonoutBuildsCardSaid : Prop := Claim7.holds Tryz.pinned (.plain (OpenSpec.ofChange jsonoutBuildsSpec)) jsonoutBuildsCard

/-- THE TIED CARD OF 'pergolalaw04.JsonoutSplices'. -/
def jsonoutSplicesCard : Claim7 := { stood := { row := jsonoutSplicesRow, standIns := [], harness := (true, "be0694b6daed76f6c8ae0a22af543c1eae78451c3640619844ca3724c15ce56a"), looks := true }, kinds := [], alts := [], laidByText := true, laidKinds := [.data, .data, .data, .data, .data, .sentinel, .sentinel, .pinned, .pinned, .pinned], laidTests := true, laidLooks := .later }
def JsonoutSplicesCardSaid : Prop := Claim7.holds Tryz.pinned (.plain (OpenSpec.ofChange jsonoutSplicesSpec)) jsonoutSplicesCard

/-- THE TIED CARD OF 'pergolalaw04.JsonoutReads'. -/
def jsonoutReadsCard : Claim7 := { stood := { row := jsonoutReadsRow, standIns := [], harness := (true, "be0694b6daed76f6c8ae0a22af543c1eae78451c3640619844ca3724c15ce56a"), looks := true }, kinds := [], alts := [], laidByText := true, laidKinds := [.data, .data, .data, .data, .data, .sentinel, .sentinel, .pinned, .pinned, .pinned], laidTests := true, laidLooks := .later }
def JsonoutReadsCardSaid : Prop := Claim7.holds Tryz.pinned (.plain (OpenSpec.ofChange jsonoutReadsSpec)) jsonoutReadsCard

/-- THE TIED CARD OF 'pergolalaw04.JsonoutPasses'. -/
def jsonoutPassesCard : Claim7 := { stood := { row := jsonoutPassesRow, standIns := [], harness := (true, "be0694b6daed76f6c8ae0a22af543c1eae78451c3640619844ca3724c15ce56a"), looks := true }, kinds := [], alts := [], laidByText := true, laidKinds := [.data, .data, .data, .data, .data, .sentinel, .sentinel, .pinned, .pinned, .pinned], laidTests := true, laidLooks := .later }
def JsonoutPassesCardSaid : Prop := Claim7.holds Tryz.pinned (.plain (OpenSpec.ofChange jsonoutPassesSpec)) jsonoutPassesCard

/-- THE SECOND FORM's CARD OF 'pergolalaw04.JsonoutBuilds'. -/
def jsonoutBuildsUptoCard : Claim7 := { stood := { row := jsonoutBuildsUptoRow, standIns := [], harness := (true, "be0694b6daed76f6c8ae0a22af543c1eae78451c3640619844ca3724c15ce56a"), looks := true }, kinds := [], alts := [], laidByText := true, laidKinds := [.data, .data, .data, .data, .data, .sentinel, .sentinel, .pinned, .pinned, .pinned], laidTests := true, laidLooks := .later }
def JsonoutBuildsUptoCardSaid : Prop := Claim7.holds Tryz.pinned (.plain (OpenSpec.upto jsonoutBuildsSpec)) jsonoutBuildsUptoCard

/-- THE SECOND FORM's CARD OF 'pergolalaw04.JsonoutSplices'. -/
def jsonoutSplicesUptoCard : Claim7 := { stood := { row := jsonoutSplicesUptoRow, standIns := [], harness := (true, "be0694b6daed76f6c8ae0a22af543c1eae78451c3640619844ca3724c15ce56a"), looks := true }, kinds := [], alts := [], laidByText := true, laidKinds := [.data, .data, .data, .data, .data, .sentinel, .sentinel, .pinned, .pinned, .pinned], laidTests := true, laidLooks := .later }
def JsonoutSplicesUptoCardSaid : Prop := Claim7.holds Tryz.pinned (.plain (OpenSpec.upto jsonoutSplicesSpec)) jsonoutSplicesUptoCard

/-- THE SECOND FORM's CARD OF 'pergolalaw04.JsonoutReads'. -/
def jsonoutReadsUptoCard : Claim7 := { stood := { row := jsonoutReadsUptoRow, standIns := [], harness := (true, "be0694b6daed76f6c8ae0a22af543c1eae78451c3640619844ca3724c15ce56a"), looks := true }, kinds := [], alts := [], laidByText := true, laidKinds := [.data, .data, .data, .data, .data, .sentinel, .sentinel, .pinned, .pinned, .pinned], laidTests := true, laidLooks := .later }
def JsonoutReadsUptoCardSaid : Prop := Claim7.holds Tryz.pinned (.plain (OpenSpec.upto jsonoutReadsSpec)) jsonoutReadsUptoCard

/-- THE SECOND FORM's CARD OF 'pergolalaw04.JsonoutPasses'. -/
def jsonoutPassesUptoCard : Claim7 := { stood := { row := jsonoutPassesUptoRow, standIns := [], harness := (true, "be0694b6daed76f6c8ae0a22af543c1eae78451c3640619844ca3724c15ce56a"), looks := true }, kinds := [], alts := [], laidByText := true, laidKinds := [.data, .data, .data, .data, .data, .sentinel, .sentinel, .pinned, .pinned, .pinned], laidTests := true, laidLooks := .later }
def JsonoutPassesUptoCardSaid : Prop := Claim7.holds Tryz.pinned (.plain (OpenSpec.upto jsonoutPassesSpec)) jsonoutPassesUptoCard
end Rows
end Go.Proofs.YtfjoaifcfmcnfabGreatDoor
