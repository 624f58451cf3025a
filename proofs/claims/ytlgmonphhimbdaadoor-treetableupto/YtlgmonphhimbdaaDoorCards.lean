/-
  DERIVED. GIVEN WITH THE SEED: THE CARDS: each row of YtlgmonphhimbdaaDoorRows.lean that lists a variable, with what it lists TIED to the program's text (the seventh form; the later family's looks); each row that meets fmt, with fmt's text TOLD by the authors' own Lean function (tested against real Go, not proved from fmt's source: count such statements apart). THE CARD IS WHAT COUNTS. Prove the row's statement (the work); the ties are given (YtlgmonphhimbdaaDoorTie.lean); close each card by the builder's one call (the guide's Derived/Test/ToyasCard.lean, 'card_holds'). Laid BY PROGRAM, IN A SANDBOX (cutbox-door.mjs). By AI agents, Wed Nov 11 2026. No macro, syntax, notation, axiom, sorry.
-/
import Derived.Test.YtlgmonphhimbdaaDoorRows
import GoSem.ClaimSeven
namespace Go.Proofs.YtlgmonphhimbdaaDoor
namespace Rows

/-- THE TIED CARD OF 'pergolalaw03.TreeTable'. -/
def treeTableCard : Claim7 := { stood := { row := treeTableRow, standIns := [], harness := (true, "6a96cac1fdc8f280ef2a843356f58b9cb52c1bf086b6a94674e2388437975dcd"), looks := false }, kinds := [], alts := [], laidByText := true, laidKinds := [.data, .data, .data], laidTests := true, laidLooks := .later }
def TreeTableCardSaid : Prop := Claim7.holds Tryd.pinned (.plain (OpenSpec.ofChange treeTableSpec)) treeTableCard

/-- THE SECOND FORM's CARD OF 'pergolalaw03.TreeTable'. -/
def treeTableUptoCard : Claim7 := { stood := { row := treeTableUptoRow, standIns := [], harness := (true, "6a96cac1fdc8f280ef2a843356f58b9cb52c1bf086b6a94674e2388437975dcd"), looks := false }, kinds := [], alts := [], laidByText := true, laidKinds := [.data, .data, .data], laidTests := true, laidLooks := .later }
def TreeTableUptoCardSaid : Prop := Claim7.holds Tryd.pinned (.plain (OpenSpec.upto treeTableSpec)) treeTableUptoCard
end Rows
end Go.Proofs.YtlgmonphhimbdaaDoor
