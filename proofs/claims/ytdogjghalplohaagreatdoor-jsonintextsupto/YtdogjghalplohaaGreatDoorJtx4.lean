import Derived.Test.YtdogjghalplohaaGreatDoorJs34
import Derived.Test.YtdogjghalplohaaGreatDoorJs35
import Derived.Test.YtdogjghalplohaaGreatDoorJtx1
namespace Go.Proofs.YtdogjghalplohaaGreatDoor.jin
open mem
open vl (Vl Vls Fls)
open ints (hexV)
set_option linter.unusedVariables false
set_option linter.unusedSimpArgs false
def sh {α:Type} (k:Nat):Except (Nat × Int) (α × Nat) → Except (Nat × Int) (α × Nat)
 | .ok (v,p) => .ok (v,k + p)
 | .error (p,e) => .error (k + p,e)
def sh1 {α:Type} (k:Nat):Except (Nat × Int) α → Except (Nat × Int) α
 | .ok v => .ok v
 | .error (p,e) => .error (k + p,e)
section
variable (P Z:List Int) (q:Nat)
theorem getD_sh:(P ++ Z).getD (P.length + q) 0 = Z.getD q 0:=by
 rw [List.getD_eq_getElem?_getD,List.getD_eq_getElem?_getD,List.getElem?_append_right (by omega)]
 congr 2
 omega
theorem lt_sh:(P.length + q < (P ++ Z).length) = (q < Z.length):=by
 rw [List.length_append]
 exact propext ⟨fun h => by omega,fun h => by omega⟩
theorem drop_sh:(P ++ Z).drop (P.length + q) = Z.drop q:=by
 rw [List.drop_append,List.drop_of_length_le (by omega),List.nil_append]
 congr 1
 omega
theorem plE_sh:plE (P ++ Z) (P.length + q) = P.length + plE Z q:=by
 unfold plE
 rw [drop_sh]
 omega
theorem pcZ_sh (p:Nat):pcZ (P ++ Z) (P.length + q) (P.length + p) = pcZ Z q p:=by
 unfold pcZ
 rw [drop_sh]
 congr 1
 omega
theorem digF_sh (s:Bool):∀ (k:Nat) (n:Int),digF (P ++ Z) s (P.length + q) k n = sh1 P.length (digF Z s q k n)
 | 0,n => by rw [digF,digF];rfl
 | k + 1,n => by
  rw [digF,digF]
  simp only [Nat.add_assoc,getD_sh,lt_sh]
  split
  ·split
   ·rfl
   ·have:=digF_sh s k (n * 16 + hexV (Z.getD (q + (3 - k)) 0))
    exact this
  ·rfl
theorem cdF_sh:cdF (P ++ Z) (P.length + q) = sh P.length (cdF Z q):=by
 unfold cdF
 simp only [Nat.add_assoc,getD_sh,lt_sh,digF_sh]
 cases h1:digF Z false q 4 0 with
 | error b => obtain ⟨p,e⟩:=b;rfl
 | ok f =>
  simp only [sh1]
  split
  ·rfl
  ·split
   ·split
    ·cases h2:digF Z true (q + 6) 4 0 with
     | error b => obtain ⟨p,e⟩:=b;rfl
     | ok s => rfl
    ·rfl
   ·rfl
theorem esF_sh:esF (P ++ Z) (P.length + q) = sh P.length (esF Z q):=by
 unfold esF
 simp only [Nat.add_assoc,getD_sh,lt_sh,cdF_sh]
 repeat (first | rfl | split)
theorem plR_sh:plR (P ++ Z) (P.length + q) = sh P.length (plR Z q):=by
 unfold plR
 simp only [plE_sh,pcZ_sh]
 split
 ·rfl
 ·simp only [sh,Nat.add_assoc]
theorem txG_sh:∀ (f q:Nat) (acc:List Int),txG (P ++ Z) f (P.length + q) acc = sh P.length (txG Z f q acc)
 | 0,q,acc => by rw [txG,txG];rfl
 | f + 1,q,acc => by
  rw [txG,txG,plR_sh]
  cases h1:plR Z q with
  | error b => obtain ⟨p,e⟩:=b;rfl
  | ok b =>
   obtain ⟨s,p⟩:=b
   simp only [sh,getD_sh,lt_sh,Nat.add_assoc,esF_sh]
   split
   ·split
    ·rfl
    ·split
     ·cases h2:esF Z (p + 1) with
      | error b => obtain ⟨p,e⟩:=b;rfl
      | ok b =>
       obtain ⟨r,q'⟩:=b
       simp only [sh,exB]
       exact txG_sh f q' _
     ·rfl
   ·rfl
end
end Go.Proofs.YtdogjghalplohaaGreatDoor.jin
