import Derived.Test.YtdogjghalplohaaGreatDoorJs34
import Derived.Test.YtdogjghalplohaaGreatDoorJs35
import Derived.Test.YtdogjghalplohaaGreatDoorJtx4
import Derived.Test.YtdogjghalplohaaGreatDoorJtx1
namespace Go.Proofs.YtdogjghalplohaaGreatDoor.jin
open mem
open vl (Vl Vls Fls)
set_option linter.unusedVariables false
set_option linter.unusedSimpArgs false
theorem runF_sh (P l:List Int):∀ (m k e:Nat) (st f:Int),m + k = l.length → runF (P ++ l) m st (P.length + e) f (P.length + k) = (P.length + (runF l m st e f k).1,P.length + (runF l m st e f k).2.1,(runF l m st e f k).2.2)
 | 0,k,e,st,f,h => by
  rw [runF,runF,List.length_append]
 | m + 1,k,e,st,f,h => by
  rw [runF,runF]
  simp only [getD_sh,Nat.add_assoc]
  split
  ·rfl
  ·split
   ·exact runF_sh P l m (k + 1) (k + 1) _ _ (by omega)
   ·exact runF_sh P l m (k + 1) e _ _ (by omega)
theorem pfx_sh (P l:List Int) (p:Nat) (hp:p ≤ l.length):pfx (P ++ l) (P.length + p) = (P.length + (pfx l p).1,P.length + (pfx l p).2.1,(pfx l p).2.2):=by
 rw [← pfx_run l p hp,← pfx_run (P ++ l) (P.length + p) (by rw [List.length_append];omega)]
 unfold run
 rw [show (P ++ l).length - (P.length + p) = l.length - p by rw [List.length_append];omega]
 exact runF_sh P l _ p p 0 0 (by omega)
end Go.Proofs.YtdogjghalplohaaGreatDoor.jin
