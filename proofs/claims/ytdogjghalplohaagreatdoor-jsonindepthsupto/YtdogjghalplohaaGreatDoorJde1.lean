import Derived.Test.YtdogjghalplohaaGreatDoorJs34
import Derived.Test.YtdogjghalplohaaGreatDoorJs35
namespace Go.Proofs.YtdogjghalplohaaGreatDoor.vl
open Go.ChangeShapes Go.WideShapes Go.ChangeAt Go.RowKit
set_option linter.unusedVariables false
section
variable {H:Type} {enc:TypeId × Value → H} {w:World} {base:Nat} {held:Bool}
theorem trod_float {P:Program} {spare:Nat → Bool} {fuel:Nat} {t:TypeId} {cs:List Value} {x:DataW H × List MemPlace} {k:FloatKind} (ht:P.underlying t = some (.float k)) (h:DataW.trod enc P w base spare held fuel t cs = some x):∃ n,cs = [.float k n] ∧ x = (.lit (.float k n),[]) ∧ (Lit.float k n).wf = true:=by
 cases fuel with
 | zero => simp [DataW.trod] at h
 | succ n =>
  unfold DataW.trod at h
  rw [ht] at h
  split at h <;> simp_all
theorem row_of {a:Addr} {n:Nat} {cs:List Value} (h:w.cells? base a n = some cs) (hs:a.spot = none):cs.length = n ∧ Row8 w a.block a.off cs:=by
 obtain ⟨_,hl,hc⟩:=World.cells?_some h
 refine ⟨hl,fun i u hu => ?_⟩
 have hi:i < n:=by rw [← hl];exact (List.getElem?_eq_some_iff.1 hu).1
 have:=(hc i hi).trans hu
 obtain ⟨b,off,spot⟩:=a
 simp only at hs
 subst hs
 rw [Addr.add_lit] at this
 exact this
end
end Go.Proofs.YtdogjghalplohaaGreatDoor.vl
