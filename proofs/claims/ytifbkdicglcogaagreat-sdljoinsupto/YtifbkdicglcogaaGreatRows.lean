/-
  No cell of these rows narrows 'for every input' (looked for: loops, veiled, ifaces, maps, wideKeys, modest, calm, conditions, laid).
  DERIVED. THE GIVEN ROWS OF THIS SEAT. 5 by the template 'for every input the law returns true; each argument reads behind the call as it read before'; 0 by the template 'total and deterministic' (their statements: YtifbkdicglcogaaGreatTotals.lean).
  GIVEN WITH THE SEED: the statements are not yours to turn. If you find one false, say at which input.
  Laid BY PROGRAM, IN A SANDBOX (cutbox-rows.mjs): the forced cells as the released guide's own fill.sh prints them over the translation ce92f011bd594109… (all of the seat's roots in one cut). By AI agents, Wed Nov 11 2026. No macro, syntax, notation, axiom, sorry.
-/
import Derived.Test.YtifbkdicglcogaaGreatChecked
import GoSem.Claim
import GoSem.ClaimJoined
import GoSem.ClaimMapViews
import Derived.JoinedTies
import Derived.KernelRfl
namespace Go.Proofs.YtifbkdicglcogaaGreat
/- THE CELL 'sum', in the pinned program and in every row, IS THE sha256 OF THE DUMP (.gsa) THAT YtifbkdicglcogaaGreatProg.lean LOADS. Nothing in Lean hashes anything: it is a label: what it is worth is what the hold of that sum in a sandbox is worth. -/
noncomputable def Tryz.pinned : Pinned := { name := "ytifbkdicglcogaagreat", sum := "ce92f011bd594109eb00e7e3e47f8d3db9cebdd9f4aed314ac9f67d8e23ddee8", checked := Tryz.checked }
namespace Rows
def none {H : Type} : Left H := { results := [], args := [] }

/-- 'pergolalaw10.SdlFirst': WHATEVER THE INPUT: true; the input reads as it did. -/
def sdlFirstSpec : ChangeSpec := { name := "sdlFirst", fn := fun _ => fun
  | [d1, d2, d3] => { results := [.lit (.bool true)], args := [d1, d2, d3] }
  | _ => none }
def sdlFirstRow : OpenClaim := { program := "ytifbkdicglcogaagreat", sum := "ce92f011bd594109eb00e7e3e47f8d3db9cebdd9f4aed314ac9f67d8e23ddee8", func := "pergola/pergolalaw10.SdlFirst", spec := "sdlFirst", inPlace := ["internal/bytealg.IndexByteString", "internal/bytealg.IndexString"], unfollowed := true, recurses := true, named := ["internal/bytealg.MaxLen"], apart := false }
def SdlFirstSaid : Prop := sdlFirstRow.holds Tryz.pinned (OpenSpec.ofChange sdlFirstSpec)

/-- ITS FALSE NEIGHBOUR: 'it returns false'. Refute it at one input. -/
def sdlFirstWrong : ChangeSpec := { name := "sdlFirst", fn := fun _ => fun
  | [d1, d2, d3] => { results := [.lit (.bool false)], args := [d1, d2, d3] }
  | _ => none }
def SdlFirstWrongFalsely : Prop := sdlFirstRow.holds Tryz.pinned (OpenSpec.ofChange sdlFirstWrong)

/-- 'pergolalaw10.SdlDepths': WHATEVER THE INPUT: true; the input reads as it did. -/
def sdlDepthsSpec : ChangeSpec := { name := "sdlDepths", fn := fun _ => fun
  | [d1, d2] => { results := [.lit (.bool true)], args := [d1, d2] }
  | _ => none }
def sdlDepthsRow : OpenClaim := { program := "ytifbkdicglcogaagreat", sum := "ce92f011bd594109eb00e7e3e47f8d3db9cebdd9f4aed314ac9f67d8e23ddee8", func := "pergola/pergolalaw10.SdlDepths", spec := "sdlDepths", inPlace := ["internal/bytealg.IndexByteString", "internal/bytealg.IndexString"], unfollowed := true, recurses := true, named := ["internal/bytealg.MaxLen"], apart := false }
def SdlDepthsSaid : Prop := sdlDepthsRow.holds Tryz.pinned (OpenSpec.ofChange sdlDepthsSpec)

/-- ITS FALSE NEIGHBOUR: 'it returns false'. Refute it at one input. -/
def sdlDepthsWrong : ChangeSpec := { name := "sdlDepths", fn := fun _ => fun
  | [d1, d2] => { results := [.lit (.bool false)], args := [d1, d2] }
  | _ => none }
def SdlDepthsWrongFalsely : Prop := sdlDepthsRow.holds Tryz.pinned (OpenSpec.ofChange sdlDepthsWrong)

/-- 'pergolalaw10.SdlJoins': WHATEVER THE INPUT: true; the input reads as it did. -/
def sdlJoinsSpec : ChangeSpec := { name := "sdlJoins", fn := fun _ => fun
  | [d1, d2] => { results := [.lit (.bool true)], args := [d1, d2] }
  | _ => none }
def sdlJoinsRow : OpenClaim := { program := "ytifbkdicglcogaagreat", sum := "ce92f011bd594109eb00e7e3e47f8d3db9cebdd9f4aed314ac9f67d8e23ddee8", func := "pergola/pergolalaw10.SdlJoins", spec := "sdlJoins", inPlace := ["internal/bytealg.IndexByteString", "internal/bytealg.IndexString"], unfollowed := true, recurses := true, named := ["internal/bytealg.MaxLen"], apart := false }
def SdlJoinsSaid : Prop := sdlJoinsRow.holds Tryz.pinned (OpenSpec.ofChange sdlJoinsSpec)

/-- ITS FALSE NEIGHBOUR: 'it returns false'. Refute it at one input. -/
def sdlJoinsWrong : ChangeSpec := { name := "sdlJoins", fn := fun _ => fun
  | [d1, d2] => { results := [.lit (.bool false)], args := [d1, d2] }
  | _ => none }
def SdlJoinsWrongFalsely : Prop := sdlJoinsRow.holds Tryz.pinned (OpenSpec.ofChange sdlJoinsWrong)

/-- 'pergolalaw10.SdlGaps': WHATEVER THE INPUT: true; the input reads as it did. -/
def sdlGapsSpec : ChangeSpec := { name := "sdlGaps", fn := fun _ => fun
  | [d1, d2, d3] => { results := [.lit (.bool true)], args := [d1, d2, d3] }
  | _ => none }
def sdlGapsRow : OpenClaim := { program := "ytifbkdicglcogaagreat", sum := "ce92f011bd594109eb00e7e3e47f8d3db9cebdd9f4aed314ac9f67d8e23ddee8", func := "pergola/pergolalaw10.SdlGaps", spec := "sdlGaps", inPlace := ["internal/bytealg.IndexByteString", "internal/bytealg.IndexString"], unfollowed := true, recurses := true, named := ["internal/bytealg.MaxLen"], apart := false }
def SdlGapsSaid : Prop := sdlGapsRow.holds Tryz.pinned (OpenSpec.ofChange sdlGapsSpec)

/-- ITS FALSE NEIGHBOUR: 'it returns false'. Refute it at one input. -/
def sdlGapsWrong : ChangeSpec := { name := "sdlGaps", fn := fun _ => fun
  | [d1, d2, d3] => { results := [.lit (.bool false)], args := [d1, d2, d3] }
  | _ => none }
def SdlGapsWrongFalsely : Prop := sdlGapsRow.holds Tryz.pinned (OpenSpec.ofChange sdlGapsWrong)

/-- 'pergolalaw10.SdlPlaces': WHATEVER THE INPUT: true; the input reads as it did. -/
def sdlPlacesSpec : ChangeSpec := { name := "sdlPlaces", fn := fun _ => fun
  | [d] => { results := [.lit (.bool true)], args := [d] }
  | _ => none }
def sdlPlacesRow : OpenClaim := { program := "ytifbkdicglcogaagreat", sum := "ce92f011bd594109eb00e7e3e47f8d3db9cebdd9f4aed314ac9f67d8e23ddee8", func := "pergola/pergolalaw10.SdlPlaces", spec := "sdlPlaces", inPlace := ["internal/bytealg.IndexByteString", "internal/bytealg.IndexString"], unfollowed := true, recurses := true, named := ["internal/bytealg.MaxLen"], apart := false }
def SdlPlacesSaid : Prop := sdlPlacesRow.holds Tryz.pinned (OpenSpec.ofChange sdlPlacesSpec)

/-- ITS FALSE NEIGHBOUR: 'it returns false'. Refute it at one input. -/
def sdlPlacesWrong : ChangeSpec := { name := "sdlPlaces", fn := fun _ => fun
  | [d] => { results := [.lit (.bool false)], args := [d] }
  | _ => none }
def SdlPlacesWrongFalsely : Prop := sdlPlacesRow.holds Tryz.pinned (OpenSpec.ofChange sdlPlacesWrong)

/- THE SECOND FORM. 'bulk': how many values and letters a reading holds, each counted each time it is reached (what is shared counts as often as it is met; a slice's spare places count too). A statement '..UptoSaid' is the law's where the arguments, and the package variables that the reading takes, are together of bulk at most 1048576: NARROWER than '..Said'. Prove '..Said' where nothing that the law and all that it calls make is longer than what came in: it says more and counts as full. Else prove '..UptoSaid'. A law counts once. -/
mutual
def uptoBulk {H : Type} : DataW H → Nat
  | .lit (.string bytes) => bytes.length + 1
  | .lit _ => 1
  | .nil => 1
  | .ptr d => uptoBulk d + 1
  | .slice elems spare => uptoBulkAll elems + uptoBulkAll spare + 1
  | .agg parts => uptoBulkAll parts + 1
  | .iface _ d => uptoBulk d + 1
  | .map entries => uptoBulkEntries entries + 1
  | .held _ => 1
def uptoBulkAll {H : Type} : List (DataW H) → Nat
  | [] => 0
  | d :: r => uptoBulk d + uptoBulkAll r
def uptoBulkEntries {H : Type} : List (Lit × DataW H) → Nat
  | [] => 0
  | x :: r => uptoBulkEntry x + uptoBulkEntries r
def uptoBulkEntry {H : Type} : Lit × DataW H → Nat
  | (.string bytes, d) => bytes.length + uptoBulk d + 1
  | (_, d) => uptoBulk d + 1
 end
def uptoSmall : (H : Type) → List (DataW H) → Bool := fun _ ds => decide (uptoBulkAll ds ≤ 1048576)
def OpenSpec.upto (s : _root_.Go.ChangeSpec) : _root_.Go.OpenSpec := { _root_.Go.OpenSpec.ofChange s with cond := some uptoSmall }

/-- 'pergolalaw10.SdlFirst', WHERE WHAT IT READS IS OF BULK AT MOST 1048576: true; the input reads as it did. -/
def sdlFirstUptoRow : OpenClaim := { program := "ytifbkdicglcogaagreat", sum := "ce92f011bd594109eb00e7e3e47f8d3db9cebdd9f4aed314ac9f67d8e23ddee8", func := "pergola/pergolalaw10.SdlFirst", spec := "sdlFirst", inPlace := ["internal/bytealg.IndexByteString", "internal/bytealg.IndexString"], unfollowed := true, recurses := true, named := ["internal/bytealg.MaxLen"], apart := false, narrowed := true }
def SdlFirstUptoSaid : Prop := sdlFirstUptoRow.holds Tryz.pinned (OpenSpec.upto sdlFirstSpec)

/-- 'pergolalaw10.SdlDepths', WHERE WHAT IT READS IS OF BULK AT MOST 1048576: true; the input reads as it did. -/
def sdlDepthsUptoRow : OpenClaim := { program := "ytifbkdicglcogaagreat", sum := "ce92f011bd594109eb00e7e3e47f8d3db9cebdd9f4aed314ac9f67d8e23ddee8", func := "pergola/pergolalaw10.SdlDepths", spec := "sdlDepths", inPlace := ["internal/bytealg.IndexByteString", "internal/bytealg.IndexString"], unfollowed := true, recurses := true, named := ["internal/bytealg.MaxLen"], apart := false, narrowed := true }
def SdlDepthsUptoSaid : Prop := sdlDepthsUptoRow.holds Tryz.pinned (OpenSpec.upto sdlDepthsSpec)

/-- 'pergolalaw10.SdlJoins', WHERE WHAT IT READS IS OF BULK AT MOST 1048576: true; the input reads as it did. -/
def sdlJoinsUptoRow : OpenClaim := { program := "ytifbkdicglcogaagreat", sum := "ce92f011bd594109eb00e7e3e47f8d3db9cebdd9f4aed314ac9f67d8e23ddee8", func := "pergola/pergolalaw10.SdlJoins", spec := "sdlJoins", inPlace := ["internal/bytealg.IndexByteString", "internal/bytealg.IndexString"], unfollowed := true, recurses := true, named := ["internal/bytealg.MaxLen"], apart := false, narrowed := true }
def SdlJoinsUptoSaid : Prop := sdlJoinsUptoRow.holds Tryz.pinned (OpenSpec.upto sdlJoinsSpec)

/-- 'pergolalaw10.SdlGaps', WHERE WHAT IT READS IS OF BULK AT MOST 1048576: true; the input reads as it did. -/
def sdlGapsUptoRow : OpenClaim := { program := "ytifbkdicglcogaagreat", sum := "ce92f011bd594109eb00e7e3e47f8d3db9cebdd9f4aed314ac9f67d8e23ddee8", func := "pergola/pergolalaw10.SdlGaps", spec := "sdlGaps", inPlace := ["internal/bytealg.IndexByteString", "internal/bytealg.IndexString"], unfollowed := true, recurses := true, named := ["internal/bytealg.MaxLen"], apart := false, narrowed := true }
def SdlGapsUptoSaid : Prop := sdlGapsUptoRow.holds Tryz.pinned (OpenSpec.upto sdlGapsSpec)

/-- 'pergolalaw10.SdlPlaces', WHERE WHAT IT READS IS OF BULK AT MOST 1048576: true; the input reads as it did. -/
def sdlPlacesUptoRow : OpenClaim := { program := "ytifbkdicglcogaagreat", sum := "ce92f011bd594109eb00e7e3e47f8d3db9cebdd9f4aed314ac9f67d8e23ddee8", func := "pergola/pergolalaw10.SdlPlaces", spec := "sdlPlaces", inPlace := ["internal/bytealg.IndexByteString", "internal/bytealg.IndexString"], unfollowed := true, recurses := true, named := ["internal/bytealg.MaxLen"], apart := false, narrowed := true }
def SdlPlacesUptoSaid : Prop := sdlPlacesUptoRow.holds Tryz.pinned (OpenSpec.upto sdlPlacesSpec)

end Rows
end Go.Proofs.YtifbkdicglcogaaGreat
