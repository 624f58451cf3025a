import Derived.Test.YtdogjghalplohaaGreatDoorJv34
import Derived.Test.YtdogjghalplohaaGreatDoorJv35
import Derived.Deep.QuietTactic
import Derived.BigQuiet
import Derived.Outline
import Derived.WalkSmall
import Derived.Laws.BytesArg
import Derived.Laws.RangeAny
import Derived.Laws.IdiomStrings
namespace Go.Proofs.YtdogjghalplohaaGreatDoor.mem
open Go.ChangeShapes Go.WideShapes Go.ChangeAt Go.RowKit
open ints (hide unhide)
set_option linter.unusedVariables false
theorem getD_ext {xs ys:List Int} (h:xs.length = ys.length) (e:∀ j,j < xs.length → xs.getD j 0 = ys.getD j 0):xs = ys:=by
 refine List.ext_getElem h fun i h1 h2 => ?_
 have:=e i h1
 simpa [List.getD_eq_getElem?_getD,h1,h2] using this
end Go.Proofs.YtdogjghalplohaaGreatDoor.mem
namespace Go.Proofs.YtdogjghalplohaaGreatDoor.mem
open Go.ChangeShapes Go.WideShapes Go.ChangeAt Go.RowKit
open ints (hide unhide)
set_option linter.unusedVariables false
theorem decF_stop:∀ (f:Nat) (l:List Int),l.length ≤ f → (oneL (l.drop (decF f l).2)).2 = 0
 | 0,l,h => by
  have:l = []:=List.eq_nil_of_length_eq_zero (by omega)
  subst this;rfl
 | f + 1,l,h => by
  by_cases h0:(oneL l).2 = 0
  ·rw [decF_end _ _ h0];simpa using h0
  ·rw [decF_go f l h0]
   have:=decF_stop f (l.drop (oneL l).2) (by simp;omega)
   rw [List.drop_drop] at this
   exact this
end Go.Proofs.YtdogjghalplohaaGreatDoor.mem
namespace Go.Proofs.YtdogjghalplohaaGreatDoor.mem
open Go.ChangeShapes Go.WideShapes Go.ChangeAt Go.RowKit
open ints (hide unhide)
set_option linter.unusedVariables false
theorem bytesZ_str (zs:List Int) (h:Byt zs):bytesZ (strOfNums zs) = zs:=by
 unfold bytesZ
 rw [strOfNums_data,List.map_map]
 conv => rhs;rw [← List.map_id zs]
 apply List.map_congr_left
 intro z hz
 have:=h z hz
 simp
 omega
end Go.Proofs.YtdogjghalplohaaGreatDoor.mem
namespace Go.Proofs.YtdogjghalplohaaGreatDoor.vl
open Go.ChangeShapes Go.WideShapes Go.ChangeAt Go.RowKit
set_option linter.unusedVariables false
section
variable {H:Type} {enc:TypeId × Value → H} {w:World} {base:Nat} {held:Bool}
theorem trod_float {P:Program} {spare:Nat → Bool} {fuel:Nat} {t:TypeId} {cs:List Value} {x:DataW H × List MemPlace} {k:FloatKind} (ht:P.underlying t = some (.float k)) (h:DataW.trod enc P w base spare held fuel t cs = some x):∃ n,cs = [.float k n] ∧ x = (.lit (.float k n),[]) ∧ (Lit.float k n).wf = true:=by
 cases fuel with
 | zero => simp [DataW.trod] at h
 | succ n =>
  unfold DataW.trod at h
  rw [ht] at h
  split at h <;> simp_all
theorem row_of {a:Addr} {n:Nat} {cs:List Value} (h:w.cells? base a n = some cs) (hs:a.spot = none):cs.length = n ∧ Row8 w a.block a.off cs:=by
 obtain ⟨_,hl,hc⟩:=World.cells?_some h
 refine ⟨hl,fun i u hu => ?_⟩
 have hi:i < n:=by rw [← hl];exact (List.getElem?_eq_some_iff.1 hu).1
 have:=(hc i hi).trans hu
 obtain ⟨b,off,spot⟩:=a
 simp only at hs
 subst hs
 rw [Addr.add_lit] at this
 exact this
end
end Go.Proofs.YtdogjghalplohaaGreatDoor.vl
