/-
  No cell of these rows narrows 'for every input' (looked for: loops, veiled, ifaces, maps, wideKeys, modest, calm, conditions, laid).
  DERIVED. THE GIVEN ROWS OF THIS SEAT. 4 by the template 'for every input the law returns true; each argument reads behind the call as it read before'; 0 by the template 'total and deterministic' (their statements: YtcebeajjpcbgcaaGreatTotals.lean).
  GIVEN WITH THE SEED: the statements are not yours to turn. If you find one false, say at which input.
  Laid BY PROGRAM, IN A SANDBOX (cutbox-rows.mjs): the forced cells as the released guide's own fill.sh prints them over the translation 34a198fae2cc885c… (all of the seat's roots in one cut). By AI agents, Wed Nov 11 2026. No macro, syntax, notation, axiom, sorry.
-/
import Derived.Test.YtcebeajjpcbgcaaGreatChecked
import GoSem.Claim
import GoSem.ClaimJoined
import GoSem.ClaimMapViews
import Derived.JoinedTies
import Derived.KernelRfl
namespace Go.Proofs.YtcebeajjpcbgcaaGreat
/- THE CELL 'sum', in the pinned program and in every row, IS THE sha256 OF THE DUMP (.gsa) THAT YtcebeajjpcbgcaaGreatProg.lean LOADS. Nothing in Lean hashes anything: it is a label: what it is worth is what the hold of that sum in a sandbox is worth. -/
noncomputable def Tryz.pinned : Pinned := { name := "ytcebeajjpcbgcaagreat", sum := "34a198fae2cc885c93ea9553f60c5143c3fc49beafd180d82e65875303b4fef5", checked := Tryz.checked }
namespace Rows
def none {H : Type} : Left H := { results := [], args := [] }

/-- 'pergolalaw09.QuerySpaced': WHATEVER THE INPUT: true; the input reads as it did. -/
def querySpacedSpec : ChangeSpec := { name := "querySpaced", fn := fun _ => fun
  | [d1, d2, d3] => { results := [.lit (.bool true)], args := [d1, d2, d3] }
  | _ => none }
def querySpacedRow : OpenClaim := { program := "ytcebeajjpcbgcaagreat", sum := "34a198fae2cc885c93ea9553f60c5143c3fc49beafd180d82e65875303b4fef5", func := "pergola/pergolalaw09.QuerySpaced", spec := "querySpaced", inPlace := ["internal/bytealg.IndexByteString", "internal/bytealg.IndexString"], unfollowed := true, recurses := true, named := ["internal/bytealg.MaxLen"], apart := false }
def QuerySpacedSaid : Prop := querySpacedRow.holds Tryz.pinned (OpenSpec.ofChange querySpacedSpec)

/-- ITS FALSE NEIGHBOUR: 'it returns false'. Refute it at one input. -/
def querySpacedWrong : ChangeSpec := { name := "querySpaced", fn := fun _ => fun
  | [d1, d2, d3] => { results := [.lit (.bool false)], args := [d1, d2, d3] }
  | _ => none }
def QuerySpacedWrongFalsely : Prop := querySpacedRow.holds Tryz.pinned (OpenSpec.ofChange querySpacedWrong)

/-- 'pergolalaw09.QueryJoined': WHATEVER THE INPUT: true; the input reads as it did. -/
def queryJoinedSpec : ChangeSpec := { name := "queryJoined", fn := fun _ => fun
  | [d1, d2, d3] => { results := [.lit (.bool true)], args := [d1, d2, d3] }
  | _ => none }
def queryJoinedRow : OpenClaim := { program := "ytcebeajjpcbgcaagreat", sum := "34a198fae2cc885c93ea9553f60c5143c3fc49beafd180d82e65875303b4fef5", func := "pergola/pergolalaw09.QueryJoined", spec := "queryJoined", inPlace := ["internal/bytealg.IndexByteString", "internal/bytealg.IndexString"], unfollowed := true, recurses := true, named := ["internal/bytealg.MaxLen"], apart := false }
def QueryJoinedSaid : Prop := queryJoinedRow.holds Tryz.pinned (OpenSpec.ofChange queryJoinedSpec)

/-- ITS FALSE NEIGHBOUR: 'it returns false'. Refute it at one input. -/
def queryJoinedWrong : ChangeSpec := { name := "queryJoined", fn := fun _ => fun
  | [d1, d2, d3] => { results := [.lit (.bool false)], args := [d1, d2, d3] }
  | _ => none }
def QueryJoinedWrongFalsely : Prop := queryJoinedRow.holds Tryz.pinned (OpenSpec.ofChange queryJoinedWrong)

/-- 'pergolalaw09.QueryNested': WHATEVER THE INPUT: true; the input reads as it did. -/
def queryNestedSpec : ChangeSpec := { name := "queryNested", fn := fun _ => fun
  | [d1, d2] => { results := [.lit (.bool true)], args := [d1, d2] }
  | _ => none }
def queryNestedRow : OpenClaim := { program := "ytcebeajjpcbgcaagreat", sum := "34a198fae2cc885c93ea9553f60c5143c3fc49beafd180d82e65875303b4fef5", func := "pergola/pergolalaw09.QueryNested", spec := "queryNested", inPlace := ["internal/bytealg.IndexByteString", "internal/bytealg.IndexString"], unfollowed := true, recurses := true, named := ["internal/bytealg.MaxLen"], apart := false }
def QueryNestedSaid : Prop := queryNestedRow.holds Tryz.pinned (OpenSpec.ofChange queryNestedSpec)

/-- ITS FALSE NEIGHBOUR: 'it returns false'. Refute it at one input. -/
def queryNestedWrong : ChangeSpec := { name := "queryNested", fn := fun _ => fun
  | [d1, d2] => { results := [.lit (.bool false)], args := [d1, d2] }
  | _ => none }
def QueryNestedWrongFalsely : Prop := queryNestedRow.holds Tryz.pinned (OpenSpec.ofChange queryNestedWrong)

/-- 'pergolalaw09.QueryDepth': WHATEVER THE INPUT: true; the input reads as it did. -/
def queryDepthSpec : ChangeSpec := { name := "queryDepth", fn := fun _ => fun
  | [d1, d2] => { results := [.lit (.bool true)], args := [d1, d2] }
  | _ => none }
def queryDepthRow : OpenClaim := { program := "ytcebeajjpcbgcaagreat", sum := "34a198fae2cc885c93ea9553f60c5143c3fc49beafd180d82e65875303b4fef5", func := "pergola/pergolalaw09.QueryDepth", spec := "queryDepth", inPlace := ["internal/bytealg.IndexByteString", "internal/bytealg.IndexString"], unfollowed := true, recurses := true, named := ["internal/bytealg.MaxLen"], apart := false }
def QueryDepthSaid : Prop := queryDepthRow.holds Tryz.pinned (OpenSpec.ofChange queryDepthSpec)

/-- ITS FALSE NEIGHBOUR: 'it returns false'. Refute it at one input. -/
def queryDepthWrong : ChangeSpec := { name := "queryDepth", fn := fun _ => fun
  | [d1, d2] => { results := [.lit (.bool false)], args := [d1, d2] }
  | _ => none }
def QueryDepthWrongFalsely : Prop := queryDepthRow.holds Tryz.pinned (OpenSpec.ofChange queryDepthWrong)

/- THE SECOND FORM. 'bulk': how many values and letters a reading holds, each counted each time it is reached (what is shared counts as often as it is met; a slice's spare places count too). A statement '..UptoSaid' is the law's where the arguments, and the package variables that the reading takes, are together of bulk at most 1048576: NARROWER than '..Said'. Prove '..Said' where nothing that the law and all that it calls make is longer than what came in: it says more and counts as full. Else prove '..UptoSaid'. A law counts once. -/
mutual
def uptoBulk {H : Type} : DataW H → Nat
  | .lit (.string bytes) => bytes.length + 1
  | .lit _ => 1
  | .nil => 1
  | .ptr d => uptoBulk d + 1
  | .slice elems spare => uptoBulkAll elems + uptoBulkAll spare + 1
  | .agg parts => uptoBulkAll parts + 1
  | .iface _ d => uptoBulk d + 1
  | .map entries => uptoBulkEntries entries + 1
  | .held _ => 1
def uptoBulkAll {H : Type} : List (DataW H) → Nat
  | [] => 0
  | d :: r => uptoBulk d + uptoBulkAll r
def uptoBulkEntries {H : Type} : List (Lit × DataW H) → Nat
  | [] => 0
  | x :: r => uptoBulkEntry x + uptoBulkEntries r
def uptoBulkEntry {H : Type} : Lit × DataW H → Nat
  | (.string bytes, d) => bytes.length + uptoBulk d + 1
  | (_, d) => uptoBulk d + 1
 end
def uptoSmall : (H : Type) → List (DataW H) → Bool := fun _ ds => decide (uptoBulkAll ds ≤ 1048576)
def OpenSpec.upto (s : _root_.Go.ChangeSpec) : _root_.Go.OpenSpec := { _root_.Go.OpenSpec.ofChange s with cond := some uptoSmall }

/-- 'pergolalaw09.QuerySpaced', WHERE WHAT IT READS IS OF BULK AT MOST 1048576: true; the input reads as it did. -/
def querySpacedUptoRow : OpenClaim := { program := "ytcebeajjpcbgcaagreat", sum := "34a198fae2cc885c93ea9553f60c5143c3fc49beafd180d82e65875303b4fef5", func := "pergola/pergolalaw09.QuerySpaced", spec := "querySpaced", inPlace := ["internal/bytealg.IndexByteString", "internal/bytealg.IndexString"], unfollowed := true, recurses := true, named := ["internal/bytealg.MaxLen"], apart := false, narrowed := true }
def QuerySpacedUptoSaid : Prop := querySpacedUptoRow.holds Tryz.pinned (OpenSpec.upto querySpacedSpec)

/-- 'pergolalaw09.QueryJoined', WHERE WHAT IT READS IS OF BULK AT MOST 1048576: true; the input reads as it did. -/
def queryJoinedUptoRow : OpenClaim := { program := "ytcebeajjpcbgcaagreat", sum := "34a198fae2cc885c93ea9553f60c5143c3fc49beafd180d82e65875303b4fef5", func := "pergola/pergolalaw09.QueryJoined", spec := "queryJoined", inPlace := ["internal/bytealg.IndexByteString", "internal/bytealg.IndexString"], unfollowed := true, recurses := true, named := ["internal/bytealg.MaxLen"], apart := false, narrowed := true }
def QueryJoinedUptoSaid : Prop := queryJoinedUptoRow.holds Tryz.pinned (OpenSpec.upto queryJoinedSpec)

/-- 'pergolalaw09.QueryNested', WHERE WHAT IT READS IS OF BULK AT MOST 1048576: true; the input reads as it did. -/
def queryNestedUptoRow : OpenClaim := { program := "ytcebeajjpcbgcaagreat", sum := "34a198fae2cc885c93ea9553f60c5143c3fc49beafd180d82e65875303b4fef5", func := "pergola/pergolalaw09.QueryNested", spec := "queryNested", inPlace := ["internal/bytealg.IndexByteString", "internal/bytealg.IndexString"], unfollowed := true, recurses := true, named := ["internal/bytealg.MaxLen"], apart := false, narrowed := true }
def QueryNestedUptoSaid : Prop := queryNestedUptoRow.holds Tryz.pinned (OpenSpec.upto queryNestedSpec)

/-- 'pergolalaw09.QueryDepth', WHERE WHAT IT READS IS OF BULK AT MOST 1048576: true; the input reads as it did. -/
def queryDepthUptoRow : OpenClaim := { program := "ytcebeajjpcbgcaagreat", sum := "34a198fae2cc885c93ea9553f60c5143c3fc49beafd180d82e65875303b4fef5", func := "pergola/pergolalaw09.QueryDepth", spec := "queryDepth", inPlace := ["internal/bytealg.IndexByteString", "internal/bytealg.IndexString"], unfollowed := true, recurses := true, named := ["internal/bytealg.MaxLen"], apart := false, narrowed := true }
def QueryDepthUptoSaid : Prop := queryDepthUptoRow.holds Tryz.pinned (OpenSpec.upto queryDepthSpec)

end Rows
end Go.Proofs.YtcebeajjpcbgcaaGreat
