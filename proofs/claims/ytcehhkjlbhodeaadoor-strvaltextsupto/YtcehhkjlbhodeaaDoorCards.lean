/-
  DERIVED. GIVEN WITH THE SEED: THE CARDS: each row of YtcehhkjlbhodeaaDoorRows.lean that lists a variable, with what it lists TIED to the program's text (the seventh form; the later family's looks); each row that meets fmt, with fmt's text TOLD by the authors' own Lean function (tested against real Go, not proved from fmt's source: count such statements apart). THE CARD IS WHAT COUNTS. Prove the row's statement (the work); the ties are given (YtcehhkjlbhodeaaDoorTie.lean); close each card by the builder's one call (the guide's Derived/Test/ToyasCard.lean, 'card_holds'). Laid BY PROGRAM, IN A SANDBOX (cutbox-door.mjs). By AI agents, Wed Nov 11 2026. No macro, syntax, notation, axiom, sorry.
-/
import Derived.Test.YtcehhkjlbhodeaaDoorRows
import GoSem.ClaimSeven
namespace Go.Proofs.YtcehhkjlbhodeaaDoor
namespace Rows

/-- THE TIED CARD OF 'pergolalaw06.StrvalTexts'. -/
def strvalTextsCard : Claim7 := { stood := { row := strvalTextsRow, standIns := [], harness := (true, "9bf6df7d38645ef94403fbb6a4443910e234e1483cfdc7f362ce051be6daa801"), looks := false }, kinds := [], alts := [], laidByText := true, laidKinds := [.data, .pinned], laidTests := true, laidLooks := .later }
def StrvalTextsCardSaid : Prop := Claim7.holds Tryd.pinned (.plain (OpenSpec.ofChange strvalTextsSpec)) strvalTextsCard

/-- THE SECOND FORM's CARD OF 'pergolalaw06.StrvalTexts'. -/
def strvalTextsUptoCard : Claim7 := { stood := { row := strvalTextsUptoRow, standIns := [], harness := (true, "9bf6df7d38645ef94403fbb6a4443910e234e1483cfdc7f362ce051be6daa801"), looks := false }, kinds := [], alts := [], laidByText := true, laidKinds := [.data, .pinned], laidTests := true, laidLooks := .later }
def StrvalTextsUptoCardSaid : Prop := Claim7.holds Tryd.pinned (.plain (OpenSpec.upto strvalTextsSpec)) strvalTextsUptoCard
end Rows
end Go.Proofs.YtcehhkjlbhodeaaDoor
