import Derived.Test.YtdogjghalplohaaGreatDoorJv34
import Derived.Test.YtdogjghalplohaaGreatDoorJv35
import Derived.Test.YtdogjghalplohaaGreatDoorJst5
import Derived.Test.YtdogjghalplohaaGreatDoorJst1
import Derived.Maps.OwnSet
import Derived.Maps.Views
import Derived.StringKeys
import Derived.Lib.AppendStr
import Derived.Lib.Builder
import Derived.Shelf.Abstract
namespace Go.Proofs.YtdogjghalplohaaGreatDoor.mem
open Go.ChangeShapes Go.WideShapes Go.ChangeAt Go.RowKit
set_option linter.unusedVariables false
theorem decF_app:∀ (zs:List Int) (f:Nat) (r:List Int),zs.all scB = true → decF (zs.length + f) (zs.flatMap putB ++ r) = (zs ++ (decF f r).1,(zs.flatMap putB).length + (decF f r).2)
 | [],f,r,_ => by simp
 | c :: zs,f,r,h => by
  simp only [List.all_cons,Bool.and_eq_true] at h
  have hc:=(scB_iff c).1 h.1
  have hpl:=putB_len c
  rw [List.flatMap_cons,List.append_assoc]
  have e:(c :: zs).length + f = (zs.length + f) + 1:=by simp;omega
  have ho:=one_put c hc (zs.flatMap putB ++ r)
  rw [e,decF_go _ _ (by rw [ho];simp only;omega),ho]
  simp only
  rw [List.drop_left' rfl,decF_app zs f r h.2]
  simp [Nat.add_assoc]
theorem decF_fuel:∀ (f g:Nat) (l:List Int),l.length ≤ f → l.length ≤ g → decF f l = decF g l
 | 0,g,l,hf,_ => by
  have:l = []:=List.eq_nil_of_length_eq_zero (by omega)
  subst this
  rw [decF_end g _ rfl]
  rfl
 | f + 1,0,l,_,hg => by
  have:l = []:=List.eq_nil_of_length_eq_zero (by omega)
  subst this
  rw [decF_end (f + 1) _ rfl]
  rfl
 | f + 1,g + 1,l,hf,hg => by
  by_cases h:(oneL l).2 = 0
  ·rw [decF_end _ _ h,decF_end _ _ h]
  ·rw [decF_go _ _ h,decF_go _ _ h,decF_fuel f g (l.drop (oneL l).2) (by simp;omega) (by simp;omega)]
theorem decZ_app (zs r:List Int) (h:zs.all scB = true):decZ (zs.flatMap putB ++ r) = (zs ++ (decZ r).1,(zs.flatMap putB).length + (decZ r).2):=by
 unfold decZ
 have hge:=flat_ge zs
 rw [decF_fuel _ (zs.length + (zs.flatMap putB ++ r).length) _ (Nat.le_refl _) (by omega),decF_app zs _ r h]
 rw [decF_fuel (zs.flatMap putB ++ r).length r.length r (by simp) (Nat.le_refl _)]
theorem decZ_flat (zs:List Int) (h:zs.all scB = true):decZ (zs.flatMap putB) = (zs,(zs.flatMap putB).length):=by
 have:=decZ_app zs [] h
 simpa [decZ,decF] using this
end Go.Proofs.YtdogjghalplohaaGreatDoor.mem
namespace Go.Proofs.YtdogjghalplohaaGreatDoor.jsn
open Go.ChangeShapes Go.WideShapes Go.ChangeAt Go.RowKit
open mem vl Go.Maps
open ints (hide unhide)
set_option linter.unusedVariables false
theorem bytesZ_app (a b:ByteArray):bytesZ (a ++ b) = bytesZ a ++ bytesZ b:=by simp [bytesZ]
theorem cln_of_flat (s:ByteArray) (zs:List Int) (h:zs.all scB = true) (hs:bytesZ s = zs.flatMap putB):cln s = true:=by
 unfold cln
 rw [hs,decZ_flat zs h,← hs,bytesZ_len]
 simp
end Go.Proofs.YtdogjghalplohaaGreatDoor.jsn
