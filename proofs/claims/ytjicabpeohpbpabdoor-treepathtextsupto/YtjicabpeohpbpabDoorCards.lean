/-
  DERIVED. GIVEN WITH THE SEED: THE CARDS: each row of YtjicabpeohpbpabDoorRows.lean that lists a variable, with what it lists TIED to the program's text (the seventh form; the later family's looks); each row that meets fmt, with fmt's text TOLD by the authors' own Lean function (tested against real Go, not proved from fmt's source: count such statements apart). THE CARD IS WHAT COUNTS. Prove the row's statement (the work); the ties are given (YtjicabpeohpbpabDoorTie.lean); close each card by the builder's one call (the guide's Derived/Test/ToyasCard.lean, 'card_holds'). Laid BY PROGRAM, IN A SANDBOX (cutbox-door.mjs). By AI agents, Wed Nov 11 2026. No macro, syntax, notation, axiom, sorry.
-/
import Derived.Test.YtjicabpeohpbpabDoorRows
import GoSem.ClaimSeven
namespace Go.Proofs.YtjicabpeohpbpabDoor
namespace Rows

/-- THE TIED CARD OF 'pergolalaw03.TreePathTexts'. -/
def treePathTextsCard : Claim7 := { stood := { row := treePathTextsRow, standIns := [], harness := (true, "281cc3055d634c27fd80df572b58d52908f878785f7fe6f099a9c3297e2d35d9"), looks := true }, kinds := [], alts := [], laidByText := true, laidKinds := [.data, .data, .data, .data, .sentinel, .sentinel, .pinned], laidTests := true, laidLooks := .later }
def TreePathTextsCardSaid : Prop := Claim7.holds Tryd.pinned (.plain (OpenSpec.ofChange treePathTextsSpec)) treePathTextsCard

/-- THE SECOND FORM's CARD OF 'pergolalaw03.TreePathTexts'. -/
def treePathTextsUptoCard : Claim7 := { stood := { row := treePathTextsUptoRow, standIns := [], harness := (true, "281cc3055d634c27fd80df572b58d52908f878785f7fe6f099a9c3297e2d35d9"), looks := true }, kinds := [], alts := [], laidByText := true, laidKinds := [.data, .data, .data, .data, .sentinel, .sentinel, .pinned], laidTests := true, laidLooks := .later }
def TreePathTextsUptoCardSaid : Prop := Claim7.holds Tryd.pinned (.plain (OpenSpec.upto treePathTextsSpec)) treePathTextsUptoCard
end Rows
end Go.Proofs.YtjicabpeohpbpabDoor
