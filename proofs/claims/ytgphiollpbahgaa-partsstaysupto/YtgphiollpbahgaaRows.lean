/-
  No cell of these rows narrows 'for every input' (looked for: loops, veiled, ifaces, maps, wideKeys, modest, calm, conditions, laid).
  DERIVED. THE GIVEN ROWS OF THIS SEAT. 2 by the template 'for every input the law returns true; each argument reads behind the call as it read before'; 0 by the template 'total and deterministic' (their statements: YtgphiollpbahgaaTotals.lean).
  GIVEN WITH THE SEED: the statements are not yours to turn. If you find one false, say at which input.
  Laid BY PROGRAM, IN A SANDBOX (cutbox-rows.mjs): the forced cells as the released guide's own fill.sh prints them over the translation 4eac0e54ebf52e6a… (all of the seat's roots in one cut). By AI agents, Wed Nov 11 2026. No macro, syntax, notation, axiom, sorry.
-/
import Derived.Test.YtgphiollpbahgaaChecked
import GoSem.Claim
import GoSem.ClaimJoined
import GoSem.ClaimMapViews
import Derived.JoinedTies
import Derived.KernelRfl
namespace Go.Proofs.Ytgphiollpbahgaa
/- THE CELL 'sum', in the pinned program and in every row, IS THE sha256 OF THE DUMP (.gsa) THAT YtgphiollpbahgaaProg.lean LOADS. Nothing in Lean hashes anything: it is a label: what it is worth is what the hold of that sum in a sandbox is worth. -/
noncomputable def Try.pinned : Pinned := { name := "ytgphiollpbahgaa", sum := "4eac0e54ebf52e6a8aff92ebe65c4407e58dd9bceb1fdfbcf341dc37c1886a3c", checked := Try.checked }
namespace Rows
def none {H : Type} : Left H := { results := [], args := [] }

/-- 'pergolalaw08.PartsConstant': WHATEVER THE INPUT: true; the input reads as it did. -/
def partsConstantSpec : ChangeSpec := { name := "partsConstant", fn := fun _ => fun
  | [d1, d2] => { results := [.lit (.bool true)], args := [d1, d2] }
  | _ => none }
def partsConstantRow : OpenClaim := { program := "ytgphiollpbahgaa", sum := "4eac0e54ebf52e6a8aff92ebe65c4407e58dd9bceb1fdfbcf341dc37c1886a3c", func := "pergola/pergolalaw08.PartsConstant", spec := "partsConstant", inPlace := ["internal/bytealg.IndexByteString", "internal/bytealg.IndexString"], unfollowed := true, recurses := true, named := ["internal/bytealg.MaxLen"], apart := false }
def PartsConstantSaid : Prop := partsConstantRow.holds Try.pinned (OpenSpec.ofChange partsConstantSpec)

/-- ITS FALSE NEIGHBOUR: 'it returns false'. Refute it at one input. -/
def partsConstantWrong : ChangeSpec := { name := "partsConstant", fn := fun _ => fun
  | [d1, d2] => { results := [.lit (.bool false)], args := [d1, d2] }
  | _ => none }
def PartsConstantWrongFalsely : Prop := partsConstantRow.holds Try.pinned (OpenSpec.ofChange partsConstantWrong)

/-- 'pergolalaw08.PartsStays': WHATEVER THE INPUT: true; the input reads as it did. -/
def partsStaysSpec : ChangeSpec := { name := "partsStays", fn := fun _ => fun
  | [d1, d2] => { results := [.lit (.bool true)], args := [d1, d2] }
  | _ => none }
def partsStaysRow : OpenClaim := { program := "ytgphiollpbahgaa", sum := "4eac0e54ebf52e6a8aff92ebe65c4407e58dd9bceb1fdfbcf341dc37c1886a3c", func := "pergola/pergolalaw08.PartsStays", spec := "partsStays", inPlace := ["internal/bytealg.IndexByteString", "internal/bytealg.IndexString"], unfollowed := true, recurses := true, named := ["internal/bytealg.MaxLen"], apart := false }
def PartsStaysSaid : Prop := partsStaysRow.holds Try.pinned (OpenSpec.ofChange partsStaysSpec)

/-- ITS FALSE NEIGHBOUR: 'it returns false'. Refute it at one input. -/
def partsStaysWrong : ChangeSpec := { name := "partsStays", fn := fun _ => fun
  | [d1, d2] => { results := [.lit (.bool false)], args := [d1, d2] }
  | _ => none }
def PartsStaysWrongFalsely : Prop := partsStaysRow.holds Try.pinned (OpenSpec.ofChange partsStaysWrong)

/- THE SECOND FORM. 'bulk': how many values and letters a reading holds, each counted each time it is reached (what is shared counts as often as it is met; a slice's spare places count too). A statement '..UptoSaid' is the law's where the arguments, and the package variables that the reading takes, are together of bulk at most 1048576: NARROWER than '..Said'. Prove '..Said' where nothing that the law and all that it calls make is longer than what came in: it says more and counts as full. Else prove '..UptoSaid'. A law counts once. -/
mutual
def uptoBulk {H : Type} : DataW H → Nat
  | .lit (.string bytes) => bytes.length + 1
  | .lit _ => 1
  | .nil => 1
  | .ptr d => uptoBulk d + 1
  | .slice elems spare => uptoBulkAll elems + uptoBulkAll spare + 1
  | .agg parts => uptoBulkAll parts + 1
  | .iface _ d => uptoBulk d + 1
  | .map entries => uptoBulkEntries entries + 1
  | .held _ => 1
def uptoBulkAll {H : Type} : List (DataW H) → Nat
  | [] => 0
  | d :: r => uptoBulk d + uptoBulkAll r
def uptoBulkEntries {H : Type} : List (Lit × DataW H) → Nat
  | [] => 0
  | x :: r => uptoBulkEntry x + uptoBulkEntries r
def uptoBulkEntry {H : Type} : Lit × DataW H → Nat
  | (.string bytes, d) => bytes.length + uptoBulk d + 1
  | (_, d) => uptoBulk d + 1
 end
def uptoSmall : (H : Type) → List (DataW H) → Bool := fun _ ds => decide (uptoBulkAll ds ≤ 1048576)
def OpenSpec.upto (s : _root_.Go.ChangeSpec) : _root_.Go.OpenSpec := { _root_.Go.OpenSpec.ofChange s with cond := some uptoSmall }

/-- 'pergolalaw08.PartsConstant', WHERE WHAT IT READS IS OF BULK AT MOST 1048576: true; the input reads as it did. -/
def partsConstantUptoRow : OpenClaim := { program := "ytgphiollpbahgaa", sum := "4eac0e54ebf52e6a8aff92ebe65c4407e58dd9bceb1fdfbcf341dc37c1886a3c", func := "pergola/pergolalaw08.PartsConstant", spec := "partsConstant", inPlace := ["internal/bytealg.IndexByteString", "internal/bytealg.IndexString"], unfollowed := true, recurses := true, named := ["internal/bytealg.MaxLen"], apart := false, narrowed := true }
def PartsConstantUptoSaid : Prop := partsConstantUptoRow.holds Try.pinned (OpenSpec.upto partsConstantSpec)

/-- 'pergolalaw08.PartsStays', WHERE WHAT IT READS IS OF BULK AT MOST 1048576: true; the input reads as it did. -/
def partsStaysUptoRow : OpenClaim := { program := "ytgphiollpbahgaa", sum := "4eac0e54ebf52e6a8aff92ebe65c4407e58dd9bceb1fdfbcf341dc37c1886a3c", func := "pergola/pergolalaw08.PartsStays", spec := "partsStays", inPlace := ["internal/bytealg.IndexByteString", "internal/bytealg.IndexString"], unfollowed := true, recurses := true, named := ["internal/bytealg.MaxLen"], apart := false, narrowed := true }
def PartsStaysUptoSaid : Prop := partsStaysUptoRow.holds Try.pinned (OpenSpec.upto partsStaysSpec)

end Rows
end Go.Proofs.Ytgphiollpbahgaa
