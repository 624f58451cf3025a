/-
  No cell of these rows narrows 'for every input' (looked for: loops, veiled, ifaces, maps, wideKeys, modest, calm, conditions, laid).
  DERIVED. THE GIVEN ROWS OF THIS SEAT. 4 by the template 'for every input the law returns true; each argument reads behind the call as it read before'; 0 by the template 'total and deterministic' (their statements: YtidkdnlbecompacTotals.lean).
  GIVEN WITH THE SEED: the statements are not yours to turn. If you find one false, say at which input.
  Laid BY PROGRAM, IN A SANDBOX (cutbox-rows.mjs): the forced cells as the released guide's own fill.sh prints them over the translation 18e3fce109adf096… (all of the seat's roots in one cut). By AI agents, Wed Nov 11 2026. No macro, syntax, notation, axiom, sorry.
-/
import Derived.Test.YtidkdnlbecompacChecked
import GoSem.Claim
import GoSem.ClaimJoined
import GoSem.ClaimMapViews
import Derived.JoinedTies
import Derived.KernelRfl
namespace Go.Proofs.Ytidkdnlbecompac
/- THE CELL 'sum', in the pinned program and in every row, IS THE sha256 OF THE DUMP (.gsa) THAT YtidkdnlbecompacProg.lean LOADS. Nothing in Lean hashes anything: it is a label: what it is worth is what the hold of that sum in a sandbox is worth. -/
noncomputable def Try.pinned : Pinned := { name := "ytidkdnlbecompac", sum := "18e3fce109adf0964e31b599d9713c4ca0e989bbaf722014cc5f63f1c3229c79", checked := Try.checked }
namespace Rows
def none {H : Type} : Left H := { results := [], args := [] }

/-- 'pergolalaw01.UtfKeeps': WHATEVER THE INPUT: true; the input reads as it did. -/
def utfKeepsSpec : ChangeSpec := { name := "utfKeeps", fn := fun _ => fun
  | [d1, d2] => { results := [.lit (.bool true)], args := [d1, d2] }
  | _ => none }
def utfKeepsRow : OpenClaim := { program := "ytidkdnlbecompac", sum := "18e3fce109adf0964e31b599d9713c4ca0e989bbaf722014cc5f63f1c3229c79", func := "pergola/pergolalaw01.UtfKeeps", spec := "utfKeeps", apart := false }
def UtfKeepsSaid : Prop := utfKeepsRow.holds Try.pinned (OpenSpec.ofChange utfKeepsSpec)

/-- ITS FALSE NEIGHBOUR: 'it returns false'. Refute it at one input. -/
def utfKeepsWrong : ChangeSpec := { name := "utfKeeps", fn := fun _ => fun
  | [d1, d2] => { results := [.lit (.bool false)], args := [d1, d2] }
  | _ => none }
def UtfKeepsWrongFalsely : Prop := utfKeepsRow.holds Try.pinned (OpenSpec.ofChange utfKeepsWrong)

/-- 'pergolalaw01.UtfFresh': WHATEVER THE INPUT: true; the input reads as it did. -/
def utfFreshSpec : ChangeSpec := { name := "utfFresh", fn := fun _ => fun
  | [d1, d2] => { results := [.lit (.bool true)], args := [d1, d2] }
  | _ => none }
def utfFreshRow : OpenClaim := { program := "ytidkdnlbecompac", sum := "18e3fce109adf0964e31b599d9713c4ca0e989bbaf722014cc5f63f1c3229c79", func := "pergola/pergolalaw01.UtfFresh", spec := "utfFresh", apart := false }
def UtfFreshSaid : Prop := utfFreshRow.holds Try.pinned (OpenSpec.ofChange utfFreshSpec)

/-- ITS FALSE NEIGHBOUR: 'it returns false'. Refute it at one input. -/
def utfFreshWrong : ChangeSpec := { name := "utfFresh", fn := fun _ => fun
  | [d1, d2] => { results := [.lit (.bool false)], args := [d1, d2] }
  | _ => none }
def UtfFreshWrongFalsely : Prop := utfFreshRow.holds Try.pinned (OpenSpec.ofChange utfFreshWrong)

/-- 'pergolalaw01.UtfSpots': WHATEVER THE INPUT: true; the input reads as it did. -/
def utfSpotsSpec : ChangeSpec := { name := "utfSpots", fn := fun _ => fun
  | [d1, d2] => { results := [.lit (.bool true)], args := [d1, d2] }
  | _ => none }
def utfSpotsRow : OpenClaim := { program := "ytidkdnlbecompac", sum := "18e3fce109adf0964e31b599d9713c4ca0e989bbaf722014cc5f63f1c3229c79", func := "pergola/pergolalaw01.UtfSpots", spec := "utfSpots", apart := false }
def UtfSpotsSaid : Prop := utfSpotsRow.holds Try.pinned (OpenSpec.ofChange utfSpotsSpec)

/-- ITS FALSE NEIGHBOUR: 'it returns false'. Refute it at one input. -/
def utfSpotsWrong : ChangeSpec := { name := "utfSpots", fn := fun _ => fun
  | [d1, d2] => { results := [.lit (.bool false)], args := [d1, d2] }
  | _ => none }
def UtfSpotsWrongFalsely : Prop := utfSpotsRow.holds Try.pinned (OpenSpec.ofChange utfSpotsWrong)

/-- 'pergolatop.WholeNames': WHATEVER THE INPUT: true; the input reads as it did. -/
def wholeNamesSpec : ChangeSpec := { name := "wholeNames", fn := fun _ => fun
  | [] => { results := [.lit (.bool true)], args := [] }
  | _ => none }
def wholeNamesRow : OpenClaim := { program := "ytidkdnlbecompac", sum := "18e3fce109adf0964e31b599d9713c4ca0e989bbaf722014cc5f63f1c3229c79", func := "pergola/pergolatop.WholeNames", spec := "wholeNames", apart := false }
def WholeNamesSaid : Prop := wholeNamesRow.holds Try.pinned (OpenSpec.ofChange wholeNamesSpec)

/-- ITS FALSE NEIGHBOUR: 'it returns false'. Refute it at one input. -/
def wholeNamesWrong : ChangeSpec := { name := "wholeNames", fn := fun _ => fun
  | [] => { results := [.lit (.bool false)], args := [] }
  | _ => none }
def WholeNamesWrongFalsely : Prop := wholeNamesRow.holds Try.pinned (OpenSpec.ofChange wholeNamesWrong)

/- THE SECOND FORM. 'bulk': how many values and letters a reading holds, each counted each time it is reached (what is shared counts as often as it is met; a slice's spare places count too). A statement '..UptoSaid' is the law's where the arguments, and the package variables that the reading takes, are together of bulk at most 1048576: NARROWER than '..Said'. Prove '..Said' where nothing that the law and all that it calls make is longer than what came in: it says more and counts as full. Else prove '..UptoSaid'. A law counts once. -/
mutual
def uptoBulk {H : Type} : DataW H → Nat
  | .lit (.string bytes) => bytes.length + 1
  | .lit _ => 1
  | .nil => 1
  | .ptr d => uptoBulk d + 1
  | .slice elems spare => uptoBulkAll elems + uptoBulkAll spare + 1
  | .agg parts => uptoBulkAll parts + 1
  | .iface _ d => uptoBulk d + 1
  | .map entries => uptoBulkEntries entries + 1
  | .held _ => 1
def uptoBulkAll {H : Type} : List (DataW H) → Nat
  | [] => 0
  | d :: r => uptoBulk d + uptoBulkAll r
def uptoBulkEntries {H : Type} : List (Lit × DataW H) → Nat
  | [] => 0
  | x :: r => uptoBulkEntry x + uptoBulkEntries r
def uptoBulkEntry {H : Type} : Lit × DataW H → Nat
  | (.string bytes, d) => bytes.length + uptoBulk d + 1
  | (_, d) => uptoBulk d + 1
 end
def uptoSmall : (H : Type) → List (DataW H) → Bool := fun _ ds => decide (uptoBulkAll ds ≤ 1048576)
def OpenSpec.upto (s : _root_.Go.ChangeSpec) : _root_.Go.OpenSpec := { _root_.Go.OpenSpec.ofChange s with cond := some uptoSmall }

/-- 'pergolalaw01.UtfKeeps', WHERE WHAT IT READS IS OF BULK AT MOST 1048576: true; the input reads as it did. -/
def utfKeepsUptoRow : OpenClaim := { program := "ytidkdnlbecompac", sum := "18e3fce109adf0964e31b599d9713c4ca0e989bbaf722014cc5f63f1c3229c79", func := "pergola/pergolalaw01.UtfKeeps", spec := "utfKeeps", apart := false, narrowed := true }
def UtfKeepsUptoSaid : Prop := utfKeepsUptoRow.holds Try.pinned (OpenSpec.upto utfKeepsSpec)

/-- 'pergolalaw01.UtfFresh', WHERE WHAT IT READS IS OF BULK AT MOST 1048576: true; the input reads as it did. -/
def utfFreshUptoRow : OpenClaim := { program := "ytidkdnlbecompac", sum := "18e3fce109adf0964e31b599d9713c4ca0e989bbaf722014cc5f63f1c3229c79", func := "pergola/pergolalaw01.UtfFresh", spec := "utfFresh", apart := false, narrowed := true }
def UtfFreshUptoSaid : Prop := utfFreshUptoRow.holds Try.pinned (OpenSpec.upto utfFreshSpec)

/-- 'pergolalaw01.UtfSpots', WHERE WHAT IT READS IS OF BULK AT MOST 1048576: true; the input reads as it did. -/
def utfSpotsUptoRow : OpenClaim := { program := "ytidkdnlbecompac", sum := "18e3fce109adf0964e31b599d9713c4ca0e989bbaf722014cc5f63f1c3229c79", func := "pergola/pergolalaw01.UtfSpots", spec := "utfSpots", apart := false, narrowed := true }
def UtfSpotsUptoSaid : Prop := utfSpotsUptoRow.holds Try.pinned (OpenSpec.upto utfSpotsSpec)

/-- 'pergolatop.WholeNames', WHERE WHAT IT READS IS OF BULK AT MOST 1048576: true; the input reads as it did. -/
def wholeNamesUptoRow : OpenClaim := { program := "ytidkdnlbecompac", sum := "18e3fce109adf0964e31b599d9713c4ca0e989bbaf722014cc5f63f1c3229c79", func := "pergola/pergolatop.WholeNames", spec := "wholeNames", apart := false, narrowed := true }
def WholeNamesUptoSaid : Prop := wholeNamesUptoRow.holds Try.pinned (OpenSpec.upto wholeNamesSpec)

end Rows
end Go.Proofs.Ytidkdnlbecompac
