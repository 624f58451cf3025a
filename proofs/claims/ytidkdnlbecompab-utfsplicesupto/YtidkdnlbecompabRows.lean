/-
  No cell of these rows narrows 'for every input' (looked for: loops, veiled, ifaces, maps, wideKeys, modest, calm, conditions, laid).
  DERIVED. THE GIVEN ROWS OF THIS SEAT. 6 by the template 'for every input the law returns true; each argument reads behind the call as it read before'; 0 by the template 'total and deterministic' (their statements: YtidkdnlbecompabTotals.lean).
  GIVEN WITH THE SEED: the statements are not yours to turn. If you find one false, say at which input.
  Laid BY PROGRAM, IN A SANDBOX (cutbox-rows.mjs): the forced cells as the released guide's own fill.sh prints them over the translation 3ebefbbc8843569a… (all of the seat's roots in one cut). By AI agents, Wed Nov 11 2026. No macro, syntax, notation, axiom, sorry.
-/
import Derived.Test.YtidkdnlbecompabChecked
import GoSem.Claim
import GoSem.ClaimJoined
import GoSem.ClaimMapViews
import Derived.JoinedTies
import Derived.KernelRfl
namespace Go.Proofs.Ytidkdnlbecompab
/- THE CELL 'sum', in the pinned program and in every row, IS THE sha256 OF THE DUMP (.gsa) THAT YtidkdnlbecompabProg.lean LOADS. Nothing in Lean hashes anything: it is a label: what it is worth is what the hold of that sum in a sandbox is worth. -/
noncomputable def Try.pinned : Pinned := { name := "ytidkdnlbecompab", sum := "3ebefbbc8843569a1c7262c686f1f21d6d8ebbbee2602a731e3bc6a921ff25f0", checked := Try.checked }
namespace Rows
def none {H : Type} : Left H := { results := [], args := [] }

/-- 'pergolalaw01.UtfBack': WHATEVER THE INPUT: true; the input reads as it did. -/
def utfBackSpec : ChangeSpec := { name := "utfBack", fn := fun _ => fun
  | [d] => { results := [.lit (.bool true)], args := [d] }
  | _ => none }
def utfBackRow : OpenClaim := { program := "ytidkdnlbecompab", sum := "3ebefbbc8843569a1c7262c686f1f21d6d8ebbbee2602a731e3bc6a921ff25f0", func := "pergola/pergolalaw01.UtfBack", spec := "utfBack", apart := false }
def UtfBackSaid : Prop := utfBackRow.holds Try.pinned (OpenSpec.ofChange utfBackSpec)

/-- ITS FALSE NEIGHBOUR: 'it returns false'. Refute it at one input. -/
def utfBackWrong : ChangeSpec := { name := "utfBack", fn := fun _ => fun
  | [d] => { results := [.lit (.bool false)], args := [d] }
  | _ => none }
def UtfBackWrongFalsely : Prop := utfBackRow.holds Try.pinned (OpenSpec.ofChange utfBackWrong)

/-- 'pergolalaw01.UtfThere': WHATEVER THE INPUT: true; the input reads as it did. -/
def utfThereSpec : ChangeSpec := { name := "utfThere", fn := fun _ => fun
  | [d] => { results := [.lit (.bool true)], args := [d] }
  | _ => none }
def utfThereRow : OpenClaim := { program := "ytidkdnlbecompab", sum := "3ebefbbc8843569a1c7262c686f1f21d6d8ebbbee2602a731e3bc6a921ff25f0", func := "pergola/pergolalaw01.UtfThere", spec := "utfThere", apart := false }
def UtfThereSaid : Prop := utfThereRow.holds Try.pinned (OpenSpec.ofChange utfThereSpec)

/-- ITS FALSE NEIGHBOUR: 'it returns false'. Refute it at one input. -/
def utfThereWrong : ChangeSpec := { name := "utfThere", fn := fun _ => fun
  | [d] => { results := [.lit (.bool false)], args := [d] }
  | _ => none }
def UtfThereWrongFalsely : Prop := utfThereRow.holds Try.pinned (OpenSpec.ofChange utfThereWrong)

/-- 'pergolalaw01.UtfJoined': WHATEVER THE INPUT: true; the input reads as it did. -/
def utfJoinedSpec : ChangeSpec := { name := "utfJoined", fn := fun _ => fun
  | [d1, d2] => { results := [.lit (.bool true)], args := [d1, d2] }
  | _ => none }
def utfJoinedRow : OpenClaim := { program := "ytidkdnlbecompab", sum := "3ebefbbc8843569a1c7262c686f1f21d6d8ebbbee2602a731e3bc6a921ff25f0", func := "pergola/pergolalaw01.UtfJoined", spec := "utfJoined", apart := false }
def UtfJoinedSaid : Prop := utfJoinedRow.holds Try.pinned (OpenSpec.ofChange utfJoinedSpec)

/-- ITS FALSE NEIGHBOUR: 'it returns false'. Refute it at one input. -/
def utfJoinedWrong : ChangeSpec := { name := "utfJoined", fn := fun _ => fun
  | [d1, d2] => { results := [.lit (.bool false)], args := [d1, d2] }
  | _ => none }
def UtfJoinedWrongFalsely : Prop := utfJoinedRow.holds Try.pinned (OpenSpec.ofChange utfJoinedWrong)

/-- 'pergolalaw01.UtfPairs': WHATEVER THE INPUT: true; the input reads as it did. -/
def utfPairsSpec : ChangeSpec := { name := "utfPairs", fn := fun _ => fun
  | [d] => { results := [.lit (.bool true)], args := [d] }
  | _ => none }
def utfPairsRow : OpenClaim := { program := "ytidkdnlbecompab", sum := "3ebefbbc8843569a1c7262c686f1f21d6d8ebbbee2602a731e3bc6a921ff25f0", func := "pergola/pergolalaw01.UtfPairs", spec := "utfPairs", apart := false }
def UtfPairsSaid : Prop := utfPairsRow.holds Try.pinned (OpenSpec.ofChange utfPairsSpec)

/-- ITS FALSE NEIGHBOUR: 'it returns false'. Refute it at one input. -/
def utfPairsWrong : ChangeSpec := { name := "utfPairs", fn := fun _ => fun
  | [d] => { results := [.lit (.bool false)], args := [d] }
  | _ => none }
def UtfPairsWrongFalsely : Prop := utfPairsRow.holds Try.pinned (OpenSpec.ofChange utfPairsWrong)

/-- 'pergolalaw01.UtfGrid': WHATEVER THE INPUT: true; the input reads as it did. -/
def utfGridSpec : ChangeSpec := { name := "utfGrid", fn := fun _ => fun
  | [d] => { results := [.lit (.bool true)], args := [d] }
  | _ => none }
def utfGridRow : OpenClaim := { program := "ytidkdnlbecompab", sum := "3ebefbbc8843569a1c7262c686f1f21d6d8ebbbee2602a731e3bc6a921ff25f0", func := "pergola/pergolalaw01.UtfGrid", spec := "utfGrid", apart := false }
def UtfGridSaid : Prop := utfGridRow.holds Try.pinned (OpenSpec.ofChange utfGridSpec)

/-- ITS FALSE NEIGHBOUR: 'it returns false'. Refute it at one input. -/
def utfGridWrong : ChangeSpec := { name := "utfGrid", fn := fun _ => fun
  | [d] => { results := [.lit (.bool false)], args := [d] }
  | _ => none }
def UtfGridWrongFalsely : Prop := utfGridRow.holds Try.pinned (OpenSpec.ofChange utfGridWrong)

/-- 'pergolalaw01.UtfSplices': WHATEVER THE INPUT: true; the input reads as it did. -/
def utfSplicesSpec : ChangeSpec := { name := "utfSplices", fn := fun _ => fun
  | [d1, d2] => { results := [.lit (.bool true)], args := [d1, d2] }
  | _ => none }
def utfSplicesRow : OpenClaim := { program := "ytidkdnlbecompab", sum := "3ebefbbc8843569a1c7262c686f1f21d6d8ebbbee2602a731e3bc6a921ff25f0", func := "pergola/pergolalaw01.UtfSplices", spec := "utfSplices", apart := false }
def UtfSplicesSaid : Prop := utfSplicesRow.holds Try.pinned (OpenSpec.ofChange utfSplicesSpec)

/-- ITS FALSE NEIGHBOUR: 'it returns false'. Refute it at one input. -/
def utfSplicesWrong : ChangeSpec := { name := "utfSplices", fn := fun _ => fun
  | [d1, d2] => { results := [.lit (.bool false)], args := [d1, d2] }
  | _ => none }
def UtfSplicesWrongFalsely : Prop := utfSplicesRow.holds Try.pinned (OpenSpec.ofChange utfSplicesWrong)

/- THE SECOND FORM. 'bulk': how many values and letters a reading holds, each counted each time it is reached (what is shared counts as often as it is met; a slice's spare places count too). A statement '..UptoSaid' is the law's where the arguments, and the package variables that the reading takes, are together of bulk at most 1048576: NARROWER than '..Said'. Prove '..Said' where nothing that the law and all that it calls make is longer than what came in: it says more and counts as full. Else prove '..UptoSaid'. A law counts once. -/
mutual
def uptoBulk {H : Type} : DataW H → Nat
  | .lit (.string bytes) => bytes.length + 1
  | .lit _ => 1
  | .nil => 1
  | .ptr d => uptoBulk d + 1
  | .slice elems spare => uptoBulkAll elems + uptoBulkAll spare + 1
  | .agg parts => uptoBulkAll parts + 1
  | .iface _ d => uptoBulk d + 1
  | .map entries => uptoBulkEntries entries + 1
  | .held _ => 1
def uptoBulkAll {H : Type} : List (DataW H) → Nat
  | [] => 0
  | d :: r => uptoBulk d + uptoBulkAll r
def uptoBulkEntries {H : Type} : List (Lit × DataW H) → Nat
  | [] => 0
  | x :: r => uptoBulkEntry x + uptoBulkEntries r
def uptoBulkEntry {H : Type} : Lit × DataW H → Nat
  | (.string bytes, d) => bytes.length + uptoBulk d + 1
  | (_, d) => uptoBulk d + 1
 end
def uptoSmall : (H : Type) → List (DataW H) → Bool := fun _ ds => decide (uptoBulkAll ds ≤ 1048576)
def OpenSpec.upto (s : _root_.Go.ChangeSpec) : _root_.Go.OpenSpec := { _root_.Go.OpenSpec.ofChange s with cond := some uptoSmall }

/-- 'pergolalaw01.UtfBack', WHERE WHAT IT READS IS OF BULK AT MOST 1048576: true; the input reads as it did. -/
def utfBackUptoRow : OpenClaim := { program := "ytidkdnlbecompab", sum := "3ebefbbc8843569a1c7262c686f1f21d6d8ebbbee2602a731e3bc6a921ff25f0", func := "pergola/pergolalaw01.UtfBack", spec := "utfBack", apart := false, narrowed := true }
def UtfBackUptoSaid : Prop := utfBackUptoRow.holds Try.pinned (OpenSpec.upto utfBackSpec)

/-- 'pergolalaw01.UtfThere', WHERE WHAT IT READS IS OF BULK AT MOST 1048576: true; the input reads as it did. -/
def utfThereUptoRow : OpenClaim := { program := "ytidkdnlbecompab", sum := "3ebefbbc8843569a1c7262c686f1f21d6d8ebbbee2602a731e3bc6a921ff25f0", func := "pergola/pergolalaw01.UtfThere", spec := "utfThere", apart := false, narrowed := true }
def UtfThereUptoSaid : Prop := utfThereUptoRow.holds Try.pinned (OpenSpec.upto utfThereSpec)

/-- 'pergolalaw01.UtfJoined', WHERE WHAT IT READS IS OF BULK AT MOST 1048576: true; the input reads as it did. -/
def utfJoinedUptoRow : OpenClaim := { program := "ytidkdnlbecompab", sum := "3ebefbbc8843569a1c7262c686f1f21d6d8ebbbee2602a731e3bc6a921ff25f0", func := "pergola/pergolalaw01.UtfJoined", spec := "utfJoined", apart := false, narrowed := true }
def UtfJoinedUptoSaid : Prop := utfJoinedUptoRow.holds Try.pinned (OpenSpec.upto utfJoinedSpec)

/-- 'pergolalaw01.UtfPairs', WHERE WHAT IT READS IS OF BULK AT MOST 1048576: true; the input reads as it did. -/
def utfPairsUptoRow : OpenClaim := { program := "ytidkdnlbecompab", sum := "3ebefbbc8843569a1c7262c686f1f21d6d8ebbbee2602a731e3bc6a921ff25f0", func := "pergola/pergolalaw01.UtfPairs", spec := "utfPairs", apart := false, narrowed := true }
def UtfPairsUptoSaid : Prop := utfPairsUptoRow.holds Try.pinned (OpenSpec.upto utfPairsSpec)

/-- 'pergolalaw01.UtfGrid', WHERE WHAT IT READS IS OF BULK AT MOST 1048576: true; the input reads as it did. -/
def utfGridUptoRow : OpenClaim := { program := "ytidkdnlbecompab", sum := "3ebefbbc8843569a1c7262c686f1f21d6d8ebbbee2602a731e3bc6a921ff25f0", func := "pergola/pergolalaw01.UtfGrid", spec := "utfGrid", apart := false, narrowed := true }
def UtfGridUptoSaid : Prop := utfGridUptoRow.holds Try.pinned (OpenSpec.upto utfGridSpec)

/-- 'pergolalaw01.UtfSplices', WHERE WHAT IT READS IS OF BULK AT MOST 1048576: true; the input reads as it did. -/
def utfSplicesUptoRow : OpenClaim := { program := "ytidkdnlbecompab", sum := "3ebefbbc8843569a1c7262c686f1f21d6d8ebbbee2602a731e3bc6a921ff25f0", func := "pergola/pergolalaw01.UtfSplices", spec := "utfSplices", apart := false, narrowed := true }
def UtfSplicesUptoSaid : Prop := utfSplicesUptoRow.holds Try.pinned (OpenSpec.upto utfSplicesSpec)

end Rows
end Go.Proofs.Ytidkdnlbecompab
