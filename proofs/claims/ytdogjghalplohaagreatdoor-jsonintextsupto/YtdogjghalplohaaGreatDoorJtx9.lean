import Derived.Test.YtdogjghalplohaaGreatDoorJs34
import Derived.Test.YtdogjghalplohaaGreatDoorJs35
import Derived.Test.YtdogjghalplohaaGreatDoorJtx7
import Derived.Test.YtdogjghalplohaaGreatDoorJtx8
import Derived.Test.YtdogjghalplohaaGreatDoorJtx1
namespace Go.Proofs.YtdogjghalplohaaGreatDoor.jin
open Go.ChangeShapes Go.WideShapes Go.ChangeAt Go.RowKit
open mem
open vl (Vl Vls Fls)
open fto (bytZ)
set_option linter.unusedVariables false
set_option linter.unusedSimpArgs false
theorem dd_all {c:Int} (h:c < 43 ∨ c = 44 ∨ c = 47 ∨ (58 ≤ c ∧ c ≠ 69 ∧ c ≠ 101)):Dd c:=by
 intro st
 have hd:digB c = false:=by unfold digB;simp;omega
 unfold stepZ
 rw [hd]
 simp only [Bool.false_eq_true,false_and,if_false]
 (repeat' split) <;> omega
def Nt (Y:List Int):Prop:=∀ p,p ≤ Y.length → (pfx Y p).2.2 ≠ 0 → (pfx Y p).1 - p ≤ 1050000
theorem nt_few {Z:List Int} (h:Z.length ≤ 1050000):Nt Z:=fun p hp hf => by
 obtain ⟨-,h2,h3,-,-,-,-,-⟩:=pfx_ok Z p hp
 omega
theorem pfx_dd {Y:List Int} {c:Int} (hc:Dd c):pfx (c :: Y) 0 = (0,0,0):=by
 rw [← pfx_run (c :: Y) 0 (Nat.zero_le _)]
 unfold run
 rw [show (c :: Y).length - 0 = Y.length + 1 by simp,runF,if_pos (by simpa using hc 0)]
theorem nt_cons {Y:List Int} {c:Int} (hc:Dd c) (h:Nt Y):Nt (c :: Y):=fun p hp hf => by
 cases p with
 | zero => rw [pfx_dd hc] at hf;exact absurd rfl hf
 | succ p =>
  have hp':p ≤ Y.length:=by simpa using hp
  have e:=pfx_sh [c] Y p hp'
  rw [show [c] ++ Y = c :: Y by rfl,show ([c]:List Int).length + p = p + 1 by simp;omega] at e
  rw [e] at hf ⊢
  have:=h p hp' hf
  simp only [List.length_singleton]
  omega
theorem nt_app {Z X:List Int} {c:Int} (hc:Dd c) (hz:Nt Z) (h:Nt (c :: X)):Nt (Z ++ c :: X):=fun p hp hf => by
 by_cases hq:p ≤ Z.length
 ·rw [pfx_dead hc p hq] at hf ⊢
  exact hz p hq hf
 ·obtain ⟨q,rfl⟩:∃ q,p = Z.length + q:=⟨p - Z.length,by omega⟩
  have hq':q ≤ (c :: X).length:=by rw [List.length_append] at hp;omega
  rw [pfx_sh Z (c :: X) q hq'] at hf ⊢
  have:=h q hq' hf
  simp only
  omega
theorem nt_nil:Nt []:=nt_few (by simp)
theorem nt_all {Y:List Int} {n:Nat} (hn:Y.length = n) (h:Nt Y):∀ p,p < n → (pfx Y p).2.2 ≠ 0 → (pfx Y p).1 - p ≤ 1050000:=fun p hp hf => h p (by omega) hf
end Go.Proofs.YtdogjghalplohaaGreatDoor.jin
