/-
  NARROWER THAN 'FOR EVERY INPUT', by the rows' own cells (each row's printed sentence says how): TreeEqual: loops · TreeSameTurns: loops · TreeCounts: loops · TreeSound: loops · TreeSetGet: loops.
  DERIVED. THE GIVEN ROWS OF THIS SEAT. 5 by the template 'for every input the law returns true; each argument reads behind the call as it read before'; 0 by the template 'total and deterministic' (their statements: YtiblkdedbimggaaTotals.lean).
  GIVEN WITH THE SEED: the statements are not yours to turn. If you find one false, say at which input.
  Laid BY PROGRAM, IN A SANDBOX (cutbox-rows.mjs): the forced cells as the released guide's own fill.sh prints them over the translation 1c2790ab01421b0b… (all of the seat's roots in one cut). By AI agents, Wed Nov 11 2026. No macro, syntax, notation, axiom, sorry.
-/
import Derived.Test.YtiblkdedbimggaaChecked
import GoSem.Claim
import GoSem.ClaimJoined
import GoSem.ClaimMapViews
import Derived.JoinedTies
import Derived.KernelRfl
namespace Go.Proofs.Ytiblkdedbimggaa
/- THE CELL 'sum', in the pinned program and in every row, IS THE sha256 OF THE DUMP (.gsa) THAT YtiblkdedbimggaaProg.lean LOADS. Nothing in Lean hashes anything: it is a label: what it is worth is what the hold of that sum in a sandbox is worth. -/
noncomputable def Try.pinned : Pinned := { name := "ytiblkdedbimggaa", sum := "1c2790ab01421b0bc1e94c2892fe6f74e2782e3f75ac91e857b5ad9ec4f72451", checked := Try.checked }
namespace Rows
def none {H : Type} : Left H := { results := [], args := [] }

/-- 'pergolalaw03.TreeEqual': WHATEVER THE INPUT: true; the input reads as it did. -/
def treeEqualSpec : ChangeSpec := { name := "treeEqual", fn := fun _ => fun
  | [d1, d2] => { results := [.lit (.bool true)], args := [d1, d2] }
  | _ => none }
def treeEqualRow : OpenClaim := { program := "ytiblkdedbimggaa", sum := "1c2790ab01421b0bc1e94c2892fe6f74e2782e3f75ac91e857b5ad9ec4f72451", func := "pergola/pergolalaw03.TreeEqual", spec := "treeEqual", inPlace := ["math.Float64bits", "internal/bytealg.abigen_runtime_cmpstring"], unfollowed := true, recurses := true, loops := true, apart := false }
def TreeEqualSaid : Prop := treeEqualRow.holds Try.pinned (OpenSpec.ofChange treeEqualSpec)

/-- ITS FALSE NEIGHBOUR: 'it returns false'. Refute it at one input. -/
def treeEqualWrong : ChangeSpec := { name := "treeEqual", fn := fun _ => fun
  | [d1, d2] => { results := [.lit (.bool false)], args := [d1, d2] }
  | _ => none }
def TreeEqualWrongFalsely : Prop := treeEqualRow.holds Try.pinned (OpenSpec.ofChange treeEqualWrong)

/-- 'pergolalaw03.TreeSameTurns': WHATEVER THE INPUT: true; the input reads as it did. -/
def treeSameTurnsSpec : ChangeSpec := { name := "treeSameTurns", fn := fun _ => fun
  | [d1, d2] => { results := [.lit (.bool true)], args := [d1, d2] }
  | _ => none }
def treeSameTurnsRow : OpenClaim := { program := "ytiblkdedbimggaa", sum := "1c2790ab01421b0bc1e94c2892fe6f74e2782e3f75ac91e857b5ad9ec4f72451", func := "pergola/pergolalaw03.TreeSameTurns", spec := "treeSameTurns", inPlace := ["math.Float64bits", "internal/bytealg.abigen_runtime_cmpstring"], unfollowed := true, recurses := true, loops := true, apart := false }
def TreeSameTurnsSaid : Prop := treeSameTurnsRow.holds Try.pinned (OpenSpec.ofChange treeSameTurnsSpec)

/-- ITS FALSE NEIGHBOUR: 'it returns false'. Refute it at one input. -/
def treeSameTurnsWrong : ChangeSpec := { name := "treeSameTurns", fn := fun _ => fun
  | [d1, d2] => { results := [.lit (.bool false)], args := [d1, d2] }
  | _ => none }
def TreeSameTurnsWrongFalsely : Prop := treeSameTurnsRow.holds Try.pinned (OpenSpec.ofChange treeSameTurnsWrong)

/-- 'pergolalaw03.TreeCounts': WHATEVER THE INPUT: true; the input reads as it did. -/
def treeCountsSpec : ChangeSpec := { name := "treeCounts", fn := fun _ => fun
  | [d] => { results := [.lit (.bool true)], args := [d] }
  | _ => none }
def treeCountsRow : OpenClaim := { program := "ytiblkdedbimggaa", sum := "1c2790ab01421b0bc1e94c2892fe6f74e2782e3f75ac91e857b5ad9ec4f72451", func := "pergola/pergolalaw03.TreeCounts", spec := "treeCounts", inPlace := ["math.Float64bits", "internal/bytealg.abigen_runtime_cmpstring"], unfollowed := true, recurses := true, loops := true, apart := false }
def TreeCountsSaid : Prop := treeCountsRow.holds Try.pinned (OpenSpec.ofChange treeCountsSpec)

/-- ITS FALSE NEIGHBOUR: 'it returns false'. Refute it at one input. -/
def treeCountsWrong : ChangeSpec := { name := "treeCounts", fn := fun _ => fun
  | [d] => { results := [.lit (.bool false)], args := [d] }
  | _ => none }
def TreeCountsWrongFalsely : Prop := treeCountsRow.holds Try.pinned (OpenSpec.ofChange treeCountsWrong)

/-- 'pergolalaw03.TreeSound': WHATEVER THE INPUT: true; the input reads as it did. -/
def treeSoundSpec : ChangeSpec := { name := "treeSound", fn := fun _ => fun
  | [d] => { results := [.lit (.bool true)], args := [d] }
  | _ => none }
def treeSoundRow : OpenClaim := { program := "ytiblkdedbimggaa", sum := "1c2790ab01421b0bc1e94c2892fe6f74e2782e3f75ac91e857b5ad9ec4f72451", func := "pergola/pergolalaw03.TreeSound", spec := "treeSound", inPlace := ["math.Float64bits", "math.Float64frombits"], unfollowed := true, recurses := true, loops := true, apart := false }
def TreeSoundSaid : Prop := treeSoundRow.holds Try.pinned (OpenSpec.ofChange treeSoundSpec)

/-- ITS FALSE NEIGHBOUR: 'it returns false'. Refute it at one input. -/
def treeSoundWrong : ChangeSpec := { name := "treeSound", fn := fun _ => fun
  | [d] => { results := [.lit (.bool false)], args := [d] }
  | _ => none }
def TreeSoundWrongFalsely : Prop := treeSoundRow.holds Try.pinned (OpenSpec.ofChange treeSoundWrong)

/-- 'pergolalaw03.TreeSetGet': WHATEVER THE INPUT: true; the input reads as it did. -/
def treeSetGetSpec : ChangeSpec := { name := "treeSetGet", fn := fun _ => fun
  | [d1, d2, d3, d4] => { results := [.lit (.bool true)], args := [d1, d2, d3, d4] }
  | _ => none }
def treeSetGetRow : OpenClaim := { program := "ytiblkdedbimggaa", sum := "1c2790ab01421b0bc1e94c2892fe6f74e2782e3f75ac91e857b5ad9ec4f72451", func := "pergola/pergolalaw03.TreeSetGet", spec := "treeSetGet", inPlace := ["math.Float64bits", "internal/bytealg.abigen_runtime_cmpstring"], unfollowed := true, recurses := true, loops := true, apart := false }
def TreeSetGetSaid : Prop := treeSetGetRow.holds Try.pinned (OpenSpec.ofChange treeSetGetSpec)

/-- ITS FALSE NEIGHBOUR: 'it returns false'. Refute it at one input. -/
def treeSetGetWrong : ChangeSpec := { name := "treeSetGet", fn := fun _ => fun
  | [d1, d2, d3, d4] => { results := [.lit (.bool false)], args := [d1, d2, d3, d4] }
  | _ => none }
def TreeSetGetWrongFalsely : Prop := treeSetGetRow.holds Try.pinned (OpenSpec.ofChange treeSetGetWrong)

/- THE SECOND FORM. 'bulk': how many values and letters a reading holds, each counted each time it is reached (what is shared counts as often as it is met; a slice's spare places count too). A statement '..UptoSaid' is the law's where the arguments, and the package variables that the reading takes, are together of bulk at most 1048576: NARROWER than '..Said'. Prove '..Said' where nothing that the law and all that it calls make is longer than what came in: it says more and counts as full. Else prove '..UptoSaid'. A law counts once. -/
mutual
def uptoBulk {H : Type} : DataW H → Nat
  | .lit (.string bytes) => bytes.length + 1
  | .lit _ => 1
  | .nil => 1
  | .ptr d => uptoBulk d + 1
  | .slice elems spare => uptoBulkAll elems + uptoBulkAll spare + 1
  | .agg parts => uptoBulkAll parts + 1
  | .iface _ d => uptoBulk d + 1
  | .map entries => uptoBulkEntries entries + 1
  | .held _ => 1
def uptoBulkAll {H : Type} : List (DataW H) → Nat
  | [] => 0
  | d :: r => uptoBulk d + uptoBulkAll r
def uptoBulkEntries {H : Type} : List (Lit × DataW H) → Nat
  | [] => 0
  | x :: r => uptoBulkEntry x + uptoBulkEntries r
def uptoBulkEntry {H : Type} : Lit × DataW H → Nat
  | (.string bytes, d) => bytes.length + uptoBulk d + 1
  | (_, d) => uptoBulk d + 1
 end
def uptoSmall : (H : Type) → List (DataW H) → Bool := fun _ ds => decide (uptoBulkAll ds ≤ 1048576)
def OpenSpec.upto (s : _root_.Go.ChangeSpec) : _root_.Go.OpenSpec := { _root_.Go.OpenSpec.ofChange s with cond := some uptoSmall }

/-- 'pergolalaw03.TreeEqual', WHERE WHAT IT READS IS OF BULK AT MOST 1048576: true; the input reads as it did. -/
def treeEqualUptoRow : OpenClaim := { program := "ytiblkdedbimggaa", sum := "1c2790ab01421b0bc1e94c2892fe6f74e2782e3f75ac91e857b5ad9ec4f72451", func := "pergola/pergolalaw03.TreeEqual", spec := "treeEqual", inPlace := ["math.Float64bits", "internal/bytealg.abigen_runtime_cmpstring"], unfollowed := true, recurses := true, loops := true, apart := false, narrowed := true }
def TreeEqualUptoSaid : Prop := treeEqualUptoRow.holds Try.pinned (OpenSpec.upto treeEqualSpec)

/-- 'pergolalaw03.TreeSameTurns', WHERE WHAT IT READS IS OF BULK AT MOST 1048576: true; the input reads as it did. -/
def treeSameTurnsUptoRow : OpenClaim := { program := "ytiblkdedbimggaa", sum := "1c2790ab01421b0bc1e94c2892fe6f74e2782e3f75ac91e857b5ad9ec4f72451", func := "pergola/pergolalaw03.TreeSameTurns", spec := "treeSameTurns", inPlace := ["math.Float64bits", "internal/bytealg.abigen_runtime_cmpstring"], unfollowed := true, recurses := true, loops := true, apart := false, narrowed := true }
def TreeSameTurnsUptoSaid : Prop := treeSameTurnsUptoRow.holds Try.pinned (OpenSpec.upto treeSameTurnsSpec)

/-- 'pergolalaw03.TreeCounts', WHERE WHAT IT READS IS OF BULK AT MOST 1048576: true; the input reads as it did. -/
def treeCountsUptoRow : OpenClaim := { program := "ytiblkdedbimggaa", sum := "1c2790ab01421b0bc1e94c2892fe6f74e2782e3f75ac91e857b5ad9ec4f72451", func := "pergola/pergolalaw03.TreeCounts", spec := "treeCounts", inPlace := ["math.Float64bits", "internal/bytealg.abigen_runtime_cmpstring"], unfollowed := true, recurses := true, loops := true, apart := false, narrowed := true }
def TreeCountsUptoSaid : Prop := treeCountsUptoRow.holds Try.pinned (OpenSpec.upto treeCountsSpec)

/-- 'pergolalaw03.TreeSound', WHERE WHAT IT READS IS OF BULK AT MOST 1048576: true; the input reads as it did. -/
def treeSoundUptoRow : OpenClaim := { program := "ytiblkdedbimggaa", sum := "1c2790ab01421b0bc1e94c2892fe6f74e2782e3f75ac91e857b5ad9ec4f72451", func := "pergola/pergolalaw03.TreeSound", spec := "treeSound", inPlace := ["math.Float64bits", "math.Float64frombits"], unfollowed := true, recurses := true, loops := true, apart := false, narrowed := true }
def TreeSoundUptoSaid : Prop := treeSoundUptoRow.holds Try.pinned (OpenSpec.upto treeSoundSpec)

/-- 'pergolalaw03.TreeSetGet', WHERE WHAT IT READS IS OF BULK AT MOST 1048576: true; the input reads as it did. -/
def treeSetGetUptoRow : OpenClaim := { program := "ytiblkdedbimggaa", sum := "1c2790ab01421b0bc1e94c2892fe6f74e2782e3f75ac91e857b5ad9ec4f72451", func := "pergola/pergolalaw03.TreeSetGet", spec := "treeSetGet", inPlace := ["math.Float64bits", "internal/bytealg.abigen_runtime_cmpstring"], unfollowed := true, recurses := true, loops := true, apart := false, narrowed := true }
def TreeSetGetUptoSaid : Prop := treeSetGetUptoRow.holds Try.pinned (OpenSpec.upto treeSetGetSpec)

end Rows
end Go.Proofs.Ytiblkdedbimggaa
