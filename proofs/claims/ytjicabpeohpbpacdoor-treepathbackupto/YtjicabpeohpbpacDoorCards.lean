/-
  DERIVED. GIVEN WITH THE SEED: THE CARDS: each row of YtjicabpeohpbpacDoorRows.lean that lists a variable, with what it lists TIED to the program's text (the seventh form; the later family's looks); each row that meets fmt, with fmt's text TOLD by the authors' own Lean function (tested against real Go, not proved from fmt's source: count such statements apart). THE CARD IS WHAT COUNTS. Prove the row's statement (the work); the ties are given (YtjicabpeohpbpacDoorTie.lean); close each card by the builder's one call (the guide's Derived/Test/ToyasCard.lean, 'card_holds'). Laid BY PROGRAM, IN A SANDBOX (cutbox-door.mjs). By AI agents, Wed Nov 11 2026. No macro, syntax, notation, axiom, sorry.
-/
import Derived.Test.YtjicabpeohpbpacDoorRows
import GoSem.ClaimSeven
namespace Go.Proofs.YtjicabpeohpbpacDoor
namespace Rows

/-- THE TIED CARD OF 'pergolalaw03.TreePathBack'. -/
def treePathBackCard : Claim7 := { stood := { row := treePathBackRow, standIns := [], harness := (true, "12bb0b9181298c1326d0d1d7481c15803eddfb30fc214f5e37a5882b97132efd"), looks := true }, kinds := [], alts := [], laidByText := true, laidKinds := [.data, .data, .data, .data, .sentinel, .sentinel, .pinned], laidTests := true, laidLooks := .later }
def TreePathBackCardSaid : Prop := Claim7.holds Tryd.pinned (.plain (OpenSpec.ofChange treePathBackSpec)) treePathBackCard

/-- THE TIED CARD OF 'pergolalaw03.TreeOrderLaws'. -/
def treeOrderLawsCard : Claim7 := { stood := { row := treeOrderLawsRow, standIns := [], harness := (true, "12bb0b9181298c1326d0d1d7481c15803eddfb30fc214f5e37a5882b97132efd"), looks := true }, kinds := [], alts := [], laidByText := true, laidKinds := [.data, .data, .data], laidTests := true, laidLooks := .later }
def TreeOrderLawsCardSaid : Prop := Claim7.holds Tryd.pinned (.plain (OpenSpec.ofChange treeOrderLawsSpec)) treeOrderLawsCard

/-- THE TIED CARD OF 'pergolalaw03.TreeFresh'. -/
def treeFreshCard : Claim7 := { stood := { row := treeFreshRow, standIns := [], harness := (true, "12bb0b9181298c1326d0d1d7481c15803eddfb30fc214f5e37a5882b97132efd"), looks := true }, kinds := [], alts := [], laidByText := true, laidKinds := [.data, .data, .data], laidTests := true, laidLooks := .later }
def TreeFreshCardSaid : Prop := Claim7.holds Tryd.pinned (.plain (OpenSpec.ofChange treeFreshSpec)) treeFreshCard

/-- THE SECOND FORM's CARD OF 'pergolalaw03.TreePathBack'. -/
def treePathBackUptoCard : Claim7 := { stood := { row := treePathBackUptoRow, standIns := [], harness := (true, "12bb0b9181298c1326d0d1d7481c15803eddfb30fc214f5e37a5882b97132efd"), looks := true }, kinds := [], alts := [], laidByText := true, laidKinds := [.data, .data, .data, .data, .sentinel, .sentinel, .pinned], laidTests := true, laidLooks := .later }
def TreePathBackUptoCardSaid : Prop := Claim7.holds Tryd.pinned (.plain (OpenSpec.upto treePathBackSpec)) treePathBackUptoCard

/-- THE SECOND FORM's CARD OF 'pergolalaw03.TreeOrderLaws'. -/
def treeOrderLawsUptoCard : Claim7 := { stood := { row := treeOrderLawsUptoRow, standIns := [], harness := (true, "12bb0b9181298c1326d0d1d7481c15803eddfb30fc214f5e37a5882b97132efd"), looks := true }, kinds := [], alts := [], laidByText := true, laidKinds := [.data, .data, .data], laidTests := true, laidLooks := .later }
def TreeOrderLawsUptoCardSaid : Prop := Claim7.holds Tryd.pinned (.plain (OpenSpec.upto treeOrderLawsSpec)) treeOrderLawsUptoCard

/-- THE SECOND FORM's CARD OF 'pergolalaw03.TreeFresh'. -/
def treeFreshUptoCard : Claim7 := { stood := { row := treeFreshUptoRow, standIns := [], harness := (true, "12bb0b9181298c1326d0d1d7481c15803eddfb30fc214f5e37a5882b97132efd"), looks := true }, kinds := [], alts := [], laidByText := true, laidKinds := [.data, .data, .data], laidTests := true, laidLooks := .later }
def TreeFreshUptoCardSaid : Prop := Claim7.holds Tryd.pinned (.plain (OpenSpec.upto treeFreshSpec)) treeFreshUptoCard
end Rows
end Go.Proofs.YtjicabpeohpbpacDoor
