import Derived.Test.YtdogjghalplohaaGreatDoorJs34
import Derived.Test.YtdogjghalplohaaGreatDoorJs35
import Derived.Test.YtdogjghalplohaaGreatDoorJtx5
namespace Go.Proofs.YtdogjghalplohaaGreatDoor.jin
open mem
open vl (Vl Vls Fls)
open ints (hexV)
set_option linter.unusedVariables false
set_option linter.unusedSimpArgs false
section
variable {W Z:List Int}
theorem getD_ext {q:Nat} (h:q < Z.length):(Z ++ W).getD q 0 = Z.getD q 0:=by
 rw [List.getD_eq_getElem?_getD,List.getD_eq_getElem?_getD,List.getElem?_append_left h]
theorem len_ext {q:Nat} (h:q < Z.length):q < (Z ++ W).length:=by rw [List.length_append];omega
theorem digF_ext {s:Bool} {q:Nat}:∀ {k:Nat} {n v:Int},digF Z s q k n = .ok v → digF (Z ++ W) s q k n = .ok v
 | 0,n,v,h => by rw [digF] at h ⊢;exact h
 | k + 1,n,v,h => by
  rw [digF] at h ⊢
  split at h
  case isFalse => cases h
  rename_i g
  rw [if_pos (len_ext g),getD_ext g]
  split at h
  ·cases h
  rename_i g2
  rw [if_neg g2]
  exact digF_ext h
theorem cdF_ext {q:Nat} {r:Int × Nat} (h:cdF Z q = .ok r):cdF (Z ++ W) q = .ok r:=by
 unfold cdF at h ⊢
 cases h1:digF Z false q 4 0 with
 | error b => rw [h1] at h;cases h
 | ok f =>
  rw [h1] at h
  rw [digF_ext h1]
  simp only at h ⊢
  split at h
  ·rename_i g;rw [if_pos g];exact h
  rename_i g
  rw [if_neg g]
  split at h
  case isFalse => cases h
  rename_i g2
  rw [if_pos ⟨len_ext g2.1,by rw [getD_ext g2.1];exact g2.2⟩]
  split at h
  case isFalse => cases h
  rename_i g3
  rw [if_pos ⟨len_ext g3.1,by rw [getD_ext g3.1];exact g3.2⟩]
  cases h2:digF Z true (q + 6) 4 0 with
  | error b => rw [h2] at h;cases h
  | ok s => rw [h2] at h;rw [digF_ext h2];exact h
theorem esF_ext {q:Nat} {r:Int × Nat} (h:esF Z q = .ok r):esF (Z ++ W) q = .ok r:=by
 unfold esF at h ⊢
 split at h
 case isFalse => cases h
 rename_i g
 rw [if_pos (len_ext g),getD_ext g]
 split at h
 ·rename_i g1;rw [if_pos g1];exact h
 rename_i g1
 rw [if_neg g1]
 split at h
 ·rename_i g1;rw [if_pos g1];exact h
 rename_i g1
 rw [if_neg g1]
 split at h
 ·rename_i g1;rw [if_pos g1];exact h
 rename_i g1
 rw [if_neg g1]
 split at h
 ·rename_i g1;rw [if_pos g1];exact h
 rename_i g1
 rw [if_neg g1]
 split at h
 ·rename_i g1;rw [if_pos g1];exact h
 rename_i g1
 rw [if_neg g1]
 split at h
 ·rename_i g1;rw [if_pos g1];exact h
 rename_i g1
 rw [if_neg g1]
 split at h
 ·rename_i g1;rw [if_pos g1];exact cdF_ext h
 ·cases h
variable {σ:Type} {shut:Int}
end
end Go.Proofs.YtdogjghalplohaaGreatDoor.jin
