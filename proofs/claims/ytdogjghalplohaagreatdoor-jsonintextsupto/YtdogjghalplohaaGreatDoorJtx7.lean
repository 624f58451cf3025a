import Derived.Test.YtdogjghalplohaaGreatDoorJs34
import Derived.Test.YtdogjghalplohaaGreatDoorJs35
import Derived.Test.YtdogjghalplohaaGreatDoorJtx5
import Derived.Test.YtdogjghalplohaaGreatDoorJtx6
import Derived.Test.YtdogjghalplohaaGreatDoorJtx1
namespace Go.Proofs.YtdogjghalplohaaGreatDoor.jin
open mem
open vl (Vl Vls Fls)
set_option linter.unusedVariables false
set_option linter.unusedSimpArgs false
def Dd (c:Int):Prop:=∀ st,stepZ st c < 0
theorem runF_dead {l X:List Int} {c:Int} (hc:Dd c):∀ (m k e:Nat) (st f:Int),m + k = l.length → runF (l ++ c :: X) (m + (X.length + 1)) st e f k = runF l m st e f k
 | 0,k,e,st,f,h => by
  have hk:k = l.length:=by omega
  subst hk
  have:(l ++ c :: X).getD l.length 0 = c:=by rw [List.getD_eq_getElem?_getD,List.getElem?_append_right (Nat.le_refl _)];simp
  rw [show 0 + (X.length + 1) = X.length + 1 by omega,runF,runF,this,if_pos (hc _)]
 | m + 1,k,e,st,f,h => by
  rw [show m + 1 + (X.length + 1) = (m + (X.length + 1)) + 1 by omega,runF,runF,getD_ext (by omega)]
  split
  ·rfl
  ·split
   ·exact runF_dead hc m (k + 1) (k + 1) _ _ (by omega)
   ·exact runF_dead hc m (k + 1) e _ _ (by omega)
theorem pfx_dead {l X:List Int} {c:Int} (hc:Dd c) (p:Nat) (hp:p ≤ l.length):pfx (l ++ c :: X) p = pfx l p:=by
 rw [← pfx_run l p hp,← pfx_run (l ++ c :: X) p (by rw [List.length_append];omega)]
 unfold run
 rw [show (l ++ c :: X).length - p = (l.length - p) + (X.length + 1) by rw [List.length_append,List.length_cons];omega]
 exact runF_dead hc _ _ _ _ _ (by omega)
section
variable {P Z X L:List Int} {c:Int} {room p1:Nat} {v:Vl}
end
theorem blE_head {c:Int} {Y:List Int} (hc:blB c = false):blE (c :: Y) 0 = 0:=blE_no (by simp) (by simpa using hc)
section
variable {W Z:List Int} {room p1:Nat} {v:Vl}
end
end Go.Proofs.YtdogjghalplohaaGreatDoor.jin
