/-
  NARROWER THAN 'FOR EVERY INPUT', by the rows' own cells (each row's printed sentence says how): TreeSound: loops · TreeWalks: loops · TreeWalkGets: loops.
  DERIVED. THE GIVEN ROWS OF THIS SEAT. 5 by the template 'for every input the law returns true; each argument reads behind the call as it read before'; 0 by the template 'total and deterministic' (their statements: YthpcpminikmcbaaTotals.lean).
  GIVEN WITH THE SEED: the statements are not yours to turn. If you find one false, say at which input.
  Laid BY PROGRAM, IN A SANDBOX (cutbox-rows.mjs): the forced cells as the released guide's own fill.sh prints them over the translation 8210570b063377a9… (all of the seat's roots in one cut). By AI agents, Wed Nov 11 2026. No macro, syntax, notation, axiom, sorry.
-/
import Derived.Test.YthpcpminikmcbaaChecked
import GoSem.Claim
import GoSem.ClaimJoined
import GoSem.ClaimMapViews
import Derived.JoinedTies
import Derived.KernelRfl
namespace Go.Proofs.Ythpcpminikmcbaa
/- THE CELL 'sum', in the pinned program and in every row, IS THE sha256 OF THE DUMP (.gsa) THAT YthpcpminikmcbaaProg.lean LOADS. Nothing in Lean hashes anything: it is a label: what it is worth is what the hold of that sum in a sandbox is worth. -/
noncomputable def Try.pinned : Pinned := { name := "ythpcpminikmcbaa", sum := "8210570b063377a95e40116f7a98e22ee83d7489914e855d8aefe752f07610d1", checked := Try.checked }
namespace Rows
def none {H : Type} : Left H := { results := [], args := [] }

/-- 'pergolalaw03.TreeSound': WHATEVER THE INPUT: true; the input reads as it did. -/
def treeSoundSpec : ChangeSpec := { name := "treeSound", fn := fun _ => fun
  | [d] => { results := [.lit (.bool true)], args := [d] }
  | _ => none }
def treeSoundRow : OpenClaim := { program := "ythpcpminikmcbaa", sum := "8210570b063377a95e40116f7a98e22ee83d7489914e855d8aefe752f07610d1", func := "pergola/pergolalaw03.TreeSound", spec := "treeSound", inPlace := ["math.Float64bits", "math.Float64frombits"], unfollowed := true, recurses := true, loops := true, apart := false }
def TreeSoundSaid : Prop := treeSoundRow.holds Try.pinned (OpenSpec.ofChange treeSoundSpec)

/-- ITS FALSE NEIGHBOUR: 'it returns false'. Refute it at one input. -/
def treeSoundWrong : ChangeSpec := { name := "treeSound", fn := fun _ => fun
  | [d] => { results := [.lit (.bool false)], args := [d] }
  | _ => none }
def TreeSoundWrongFalsely : Prop := treeSoundRow.holds Try.pinned (OpenSpec.ofChange treeSoundWrong)

/-- 'pergolalaw03.TreeWalks': WHATEVER THE INPUT: true; the input reads as it did. -/
def treeWalksSpec : ChangeSpec := { name := "treeWalks", fn := fun _ => fun
  | [d1, d2] => { results := [.lit (.bool true)], args := [d1, d2] }
  | _ => none }
def treeWalksRow : OpenClaim := { program := "ythpcpminikmcbaa", sum := "8210570b063377a95e40116f7a98e22ee83d7489914e855d8aefe752f07610d1", func := "pergola/pergolalaw03.TreeWalks", spec := "treeWalks", inPlace := ["math.Float64bits", "internal/bytealg.abigen_runtime_cmpstring"], unfollowed := true, recurses := true, loops := true, apart := false }
def TreeWalksSaid : Prop := treeWalksRow.holds Try.pinned (OpenSpec.ofChange treeWalksSpec)

/-- ITS FALSE NEIGHBOUR: 'it returns false'. Refute it at one input. -/
def treeWalksWrong : ChangeSpec := { name := "treeWalks", fn := fun _ => fun
  | [d1, d2] => { results := [.lit (.bool false)], args := [d1, d2] }
  | _ => none }
def TreeWalksWrongFalsely : Prop := treeWalksRow.holds Try.pinned (OpenSpec.ofChange treeWalksWrong)

/-- 'pergolalaw03.TreeWalkGets': WHATEVER THE INPUT: true; the input reads as it did. -/
def treeWalkGetsSpec : ChangeSpec := { name := "treeWalkGets", fn := fun _ => fun
  | [d] => { results := [.lit (.bool true)], args := [d] }
  | _ => none }
def treeWalkGetsRow : OpenClaim := { program := "ythpcpminikmcbaa", sum := "8210570b063377a95e40116f7a98e22ee83d7489914e855d8aefe752f07610d1", func := "pergola/pergolalaw03.TreeWalkGets", spec := "treeWalkGets", inPlace := ["math.Float64bits", "internal/bytealg.abigen_runtime_cmpstring", "math.Float64frombits"], unfollowed := true, recurses := true, loops := true, apart := false }
def TreeWalkGetsSaid : Prop := treeWalkGetsRow.holds Try.pinned (OpenSpec.ofChange treeWalkGetsSpec)

/-- ITS FALSE NEIGHBOUR: 'it returns false'. Refute it at one input. -/
def treeWalkGetsWrong : ChangeSpec := { name := "treeWalkGets", fn := fun _ => fun
  | [d] => { results := [.lit (.bool false)], args := [d] }
  | _ => none }
def TreeWalkGetsWrongFalsely : Prop := treeWalkGetsRow.holds Try.pinned (OpenSpec.ofChange treeWalkGetsWrong)

/-- 'pergolalaw03.TreeFaults': WHATEVER THE INPUT: true; the input reads as it did. -/
def treeFaultsSpec : ChangeSpec := { name := "treeFaults", fn := fun _ => fun
  | [d1, d2, d3] => { results := [.lit (.bool true)], args := [d1, d2, d3] }
  | _ => none }
def treeFaultsRow : OpenClaim := { program := "ythpcpminikmcbaa", sum := "8210570b063377a95e40116f7a98e22ee83d7489914e855d8aefe752f07610d1", func := "pergola/pergolalaw03.TreeFaults", spec := "treeFaults", inPlace := ["internal/bytealg.abigen_runtime_cmpstring"], unfollowed := true, recurses := true, apart := false }
def TreeFaultsSaid : Prop := treeFaultsRow.holds Try.pinned (OpenSpec.ofChange treeFaultsSpec)

/-- ITS FALSE NEIGHBOUR: 'it returns false'. Refute it at one input. -/
def treeFaultsWrong : ChangeSpec := { name := "treeFaults", fn := fun _ => fun
  | [d1, d2, d3] => { results := [.lit (.bool false)], args := [d1, d2, d3] }
  | _ => none }
def TreeFaultsWrongFalsely : Prop := treeFaultsRow.holds Try.pinned (OpenSpec.ofChange treeFaultsWrong)

/-- 'pergolalaw03.TreeFaultsLaws': WHATEVER THE INPUT: true; the input reads as it did. -/
def treeFaultsLawsSpec : ChangeSpec := { name := "treeFaultsLaws", fn := fun _ => fun
  | [d1, d2] => { results := [.lit (.bool true)], args := [d1, d2] }
  | _ => none }
def treeFaultsLawsRow : OpenClaim := { program := "ythpcpminikmcbaa", sum := "8210570b063377a95e40116f7a98e22ee83d7489914e855d8aefe752f07610d1", func := "pergola/pergolalaw03.TreeFaultsLaws", spec := "treeFaultsLaws", inPlace := ["internal/bytealg.abigen_runtime_cmpstring"], unfollowed := true, recurses := true, apart := false }
def TreeFaultsLawsSaid : Prop := treeFaultsLawsRow.holds Try.pinned (OpenSpec.ofChange treeFaultsLawsSpec)

/-- ITS FALSE NEIGHBOUR: 'it returns false'. Refute it at one input. -/
def treeFaultsLawsWrong : ChangeSpec := { name := "treeFaultsLaws", fn := fun _ => fun
  | [d1, d2] => { results := [.lit (.bool false)], args := [d1, d2] }
  | _ => none }
def TreeFaultsLawsWrongFalsely : Prop := treeFaultsLawsRow.holds Try.pinned (OpenSpec.ofChange treeFaultsLawsWrong)

/- THE SECOND FORM. 'bulk': how many values and letters a reading holds, each counted each time it is reached (what is shared counts as often as it is met; a slice's spare places count too). A statement '..UptoSaid' is the law's where the arguments, and the package variables that the reading takes, are together of bulk at most 1048576: NARROWER than '..Said'. Prove '..Said' where nothing that the law and all that it calls make is longer than what came in: it says more and counts as full. Else prove '..UptoSaid'. A law counts once. -/
mutual
def uptoBulk {H : Type} : DataW H → Nat
  | .lit (.string bytes) => bytes.length + 1
  | .lit _ => 1
  | .nil => 1
  | .ptr d => uptoBulk d + 1
  | .slice elems spare => uptoBulkAll elems + uptoBulkAll spare + 1
  | .agg parts => uptoBulkAll parts + 1
  | .iface _ d => uptoBulk d + 1
  | .map entries => uptoBulkEntries entries + 1
  | .held _ => 1
def uptoBulkAll {H : Type} : List (DataW H) → Nat
  | [] => 0
  | d :: r => uptoBulk d + uptoBulkAll r
def uptoBulkEntries {H : Type} : List (Lit × DataW H) → Nat
  | [] => 0
  | x :: r => uptoBulkEntry x + uptoBulkEntries r
def uptoBulkEntry {H : Type} : Lit × DataW H → Nat
  | (.string bytes, d) => bytes.length + uptoBulk d + 1
  | (_, d) => uptoBulk d + 1
 end
def uptoSmall : (H : Type) → List (DataW H) → Bool := fun _ ds => decide (uptoBulkAll ds ≤ 1048576)
def OpenSpec.upto (s : _root_.Go.ChangeSpec) : _root_.Go.OpenSpec := { _root_.Go.OpenSpec.ofChange s with cond := some uptoSmall }

/-- 'pergolalaw03.TreeSound', WHERE WHAT IT READS IS OF BULK AT MOST 1048576: true; the input reads as it did. -/
def treeSoundUptoRow : OpenClaim := { program := "ythpcpminikmcbaa", sum := "8210570b063377a95e40116f7a98e22ee83d7489914e855d8aefe752f07610d1", func := "pergola/pergolalaw03.TreeSound", spec := "treeSound", inPlace := ["math.Float64bits", "math.Float64frombits"], unfollowed := true, recurses := true, loops := true, apart := false, narrowed := true }
def TreeSoundUptoSaid : Prop := treeSoundUptoRow.holds Try.pinned (OpenSpec.upto treeSoundSpec)

/-- 'pergolalaw03.TreeWalks', WHERE WHAT IT READS IS OF BULK AT MOST 1048576: true; the input reads as it did. -/
def treeWalksUptoRow : OpenClaim := { program := "ythpcpminikmcbaa", sum := "8210570b063377a95e40116f7a98e22ee83d7489914e855d8aefe752f07610d1", func := "pergola/pergolalaw03.TreeWalks", spec := "treeWalks", inPlace := ["math.Float64bits", "internal/bytealg.abigen_runtime_cmpstring"], unfollowed := true, recurses := true, loops := true, apart := false, narrowed := true }
def TreeWalksUptoSaid : Prop := treeWalksUptoRow.holds Try.pinned (OpenSpec.upto treeWalksSpec)

/-- 'pergolalaw03.TreeWalkGets', WHERE WHAT IT READS IS OF BULK AT MOST 1048576: true; the input reads as it did. -/
def treeWalkGetsUptoRow : OpenClaim := { program := "ythpcpminikmcbaa", sum := "8210570b063377a95e40116f7a98e22ee83d7489914e855d8aefe752f07610d1", func := "pergola/pergolalaw03.TreeWalkGets", spec := "treeWalkGets", inPlace := ["math.Float64bits", "internal/bytealg.abigen_runtime_cmpstring", "math.Float64frombits"], unfollowed := true, recurses := true, loops := true, apart := false, narrowed := true }
def TreeWalkGetsUptoSaid : Prop := treeWalkGetsUptoRow.holds Try.pinned (OpenSpec.upto treeWalkGetsSpec)

/-- 'pergolalaw03.TreeFaults', WHERE WHAT IT READS IS OF BULK AT MOST 1048576: true; the input reads as it did. -/
def treeFaultsUptoRow : OpenClaim := { program := "ythpcpminikmcbaa", sum := "8210570b063377a95e40116f7a98e22ee83d7489914e855d8aefe752f07610d1", func := "pergola/pergolalaw03.TreeFaults", spec := "treeFaults", inPlace := ["internal/bytealg.abigen_runtime_cmpstring"], unfollowed := true, recurses := true, apart := false, narrowed := true }
def TreeFaultsUptoSaid : Prop := treeFaultsUptoRow.holds Try.pinned (OpenSpec.upto treeFaultsSpec)

/-- 'pergolalaw03.TreeFaultsLaws', WHERE WHAT IT READS IS OF BULK AT MOST 1048576: true; the input reads as it did. -/
def treeFaultsLawsUptoRow : OpenClaim := { program := "ythpcpminikmcbaa", sum := "8210570b063377a95e40116f7a98e22ee83d7489914e855d8aefe752f07610d1", func := "pergola/pergolalaw03.TreeFaultsLaws", spec := "treeFaultsLaws", inPlace := ["internal/bytealg.abigen_runtime_cmpstring"], unfollowed := true, recurses := true, apart := false, narrowed := true }
def TreeFaultsLawsUptoSaid : Prop := treeFaultsLawsUptoRow.holds Try.pinned (OpenSpec.upto treeFaultsLawsSpec)

end Rows
end Go.Proofs.Ythpcpminikmcbaa
