import Derived.Test.YtdogjghalplohaaGreatDoorJs34
import Derived.Test.YtdogjghalplohaaGreatDoorJs35
import Derived.Deep.QuietTactic
import Derived.BigQuiet
import Derived.Outline
import Derived.WalkSmall
import Derived.Laws.BytesArg
import Derived.Laws.RangeAny
import Derived.Laws.IdiomStrings
namespace Go.Proofs.YtdogjghalplohaaGreatDoor.mem
open Go.ChangeShapes Go.WideShapes Go.ChangeAt Go.RowKit
open ints (hide unhide)
set_option linter.unusedVariables false
theorem own_below {w w':World} {base:Nat} {e:TypeId} {size:Nat} {v:Value} {n:Nat} {xs:List Value} (h:w.ownsRow base e size v n xs) (hb:Below w.heap.size w w'):w'.ownsRow base e size v n xs:=by
 obtain ⟨h1,h2⟩:=h
 refine ⟨h1,?_⟩
 rcases h2 with h2 | ⟨g,cap,cur,hv,hg,hh,r⟩
 ·exact .inl h2
 ·have hl:g < w.heap.size:=by rcases Nat.lt_or_ge g w.heap.size with h | h;exact h;rw [Array.getElem?_eq_none h] at hh;cases hh
  exact .inr ⟨g,cap,cur,hv,hg,(hb.block g hl).trans hh,r⟩
theorem getD_ext {xs ys:List Int} (h:xs.length = ys.length) (e:∀ j,j < xs.length → xs.getD j 0 = ys.getD j 0):xs = ys:=by
 refine List.ext_getElem h fun i h1 h2 => ?_
 have:=e i h1
 simpa [List.getD_eq_getElem?_getD,h1,h2] using this
end Go.Proofs.YtdogjghalplohaaGreatDoor.mem
namespace Go.Proofs.YtdogjghalplohaaGreatDoor.mem
open Go.ChangeShapes Go.WideShapes Go.ChangeAt Go.RowKit
open ints (hide unhide)
set_option linter.unusedVariables false
theorem bytesZ_str (zs:List Int) (h:Byt zs):bytesZ (strOfNums zs) = zs:=by
 unfold bytesZ
 rw [strOfNums_data,List.map_map]
 conv => rhs;rw [← List.map_id zs]
 apply List.map_congr_left
 intro z hz
 have:=h z hz
 simp
 omega
end Go.Proofs.YtdogjghalplohaaGreatDoor.mem
namespace Go.Proofs.YtdogjghalplohaaGreatDoor.vl
open Go.ChangeShapes Go.WideShapes Go.ChangeAt Go.RowKit
set_option linter.unusedVariables false
section
variable {H:Type} {enc:TypeId × Value → H} {w:World} {base:Nat} {held:Bool}
theorem trod_float {P:Program} {spare:Nat → Bool} {fuel:Nat} {t:TypeId} {cs:List Value} {x:DataW H × List MemPlace} {k:FloatKind} (ht:P.underlying t = some (.float k)) (h:DataW.trod enc P w base spare held fuel t cs = some x):∃ n,cs = [.float k n] ∧ x = (.lit (.float k n),[]) ∧ (Lit.float k n).wf = true:=by
 cases fuel with
 | zero => simp [DataW.trod] at h
 | succ n =>
  unfold DataW.trod at h
  rw [ht] at h
  split at h <;> simp_all
end
end Go.Proofs.YtdogjghalplohaaGreatDoor.vl
