import Derived.Test.YtdogjghalplohaaGreatDoorJs34
import Derived.Test.YtdogjghalplohaaGreatDoorJs35
namespace Go.Proofs.YtdogjghalplohaaGreatDoor.vl
open Go.ChangeShapes Go.WideShapes Go.ChangeAt Go.RowKit
set_option linter.unusedVariables false
section
variable {H:Type} {enc:TypeId × Value → H} {w:World} {base:Nat} {held:Bool}
theorem trod_float {P:Program} {spare:Nat → Bool} {fuel:Nat} {t:TypeId} {cs:List Value} {x:DataW H × List MemPlace} {k:FloatKind} (ht:P.underlying t = some (.float k)) (h:DataW.trod enc P w base spare held fuel t cs = some x):∃ n,cs = [.float k n] ∧ x = (.lit (.float k n),[]) ∧ (Lit.float k n).wf = true:=by
 cases fuel with
 | zero => simp [DataW.trod] at h
 | succ n =>
  unfold DataW.trod at h
  rw [ht] at h
  split at h <;> simp_all
end
end Go.Proofs.YtdogjghalplohaaGreatDoor.vl
