import Derived.Test.YtdogjghalplohaaGreatDoorJv34
import Derived.Test.YtdogjghalplohaaGreatDoorJv35
import Derived.Test.YtdogjghalplohaaGreatDoorRows
import Derived.Test.YtdogjghalplohaaGreatDoorJst1
import Derived.WalkKit
import Derived.ProofKit
import Derived.OpenShut
import Derived.ShutString
import Derived.Below
import Derived.Outline
import Derived.Laws.Pointers
import Derived.Lib.Bytealg
import Derived.Laws.Externs
import Derived.Laws.Rows
import Derived.Laws.StructEq
import Derived.Deep.RegionHeld3
import Derived.Deep.QuietTactic
namespace Go.Proofs.YtdogjghalplohaaGreatDoor.vl
open Go.ChangeShapes Go.WideShapes Go.ChangeAt Go.RowKit
set_option linter.unusedVariables false
set_option linter.unusedSimpArgs false
def z0:Vl:=.mk 0 false 0 0 { data:=#[] } { data:=#[] } .nil .nil
end Go.Proofs.YtdogjghalplohaaGreatDoor.vl
namespace Go.Proofs.YtdogjghalplohaaGreatDoor.vl
open Go.ChangeShapes Go.WideShapes Go.ChangeAt Go.RowKit
set_option linter.unusedVariables false
set_option linter.unusedSimpArgs false
structure Vars (w0:World) (kd:Int) (bb:Bool) (ni:Int) (f:Nat) (tx ty:ByteArray) (ai:Option Addr) (nI ci:Nat) (af:Option Addr) (nf cf:Nat) (s6 s7:Value) (w:World):Prop where
 x6:w.cell? ⟨w0.heap.size,6,none⟩ = some (.slice ai nI ci)
 x7:w.cell? ⟨w0.heap.size,7,none⟩ = some (.slice af nf cf)
 res:w.there (w0.heap.size + 1) 0 8
 row:w.rangeAt (w0.heap.size + 1 + 1) 0 [.int .i64 kd,.bool bb,.int .i64 ni,.float .f64 f,.string tx,.string ty,s6,s7]
 may:w.there (w0.heap.size + 1 + 1) 0 8
 bel:Below w0.heap.size w0 w
 siz:w0.heap.size + 3 ≤ w.heap.size
end Go.Proofs.YtdogjghalplohaaGreatDoor.vl
