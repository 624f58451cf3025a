import Derived.Test.YtdogjghalplohaaGreatDoorJs13
namespace Go.Proofs.YtdogjghalplohaaGreatDoor.mem
set_option linter.unusedVariables false
def rne (X D:Nat):Nat:=if D < 2 * (X % D) ∨ (2 * (X % D) = D ∧ X / D % 2 = 1) then X / D + 1 else X / D
theorem or_one (F:Nat):F ||| 1 = F / 2 * 2 + 1:=by
 have h:=Nat.or_mod_two_eq_one (a:=F) (b:=1)
 have h1:(F ||| 1) % 2 = 1:=by
  rw [Nat.or_mod_two_eq_one];right;rfl
 have h2:(F ||| 1) / 2 = F / 2:=by
  rw [Nat.or_div_two]
  simp
 omega
theorem un_parts (X W:Nat):un X W / 2 = X / W / 2 ∧ (un X W % 2 = 1 ↔ (X / W % 2 = 1 ∨ X % W ≠ 0)):=by
 unfold un
 by_cases h:X % W = 0
 ·rw [if_pos h,Nat.or_zero]
  exact ⟨rfl,by omega⟩
 ·rw [if_neg h,or_one]
  exact ⟨by omega,by omega⟩
theorem un_round (X W:Nat) (hW:0 < W):(un X W + 1 + un X W / 4 % 2) / 4 = rne X (4 * W):=by
 obtain ⟨h1,h2⟩:=un_parts X W
 have hdm:=Nat.div_add_mod X W
 have hml:=Nat.mod_lt X hW
 generalize un X W = u at *
 obtain ⟨F,hF⟩:∃ F,F = X / W:=⟨_,rfl⟩
 obtain ⟨r,hr⟩:∃ r,r = X % W:=⟨_,rfl⟩
 rw [← hF] at h1 h2 hdm
 rw [← hr] at h2 hdm hml
 have hq:X / (4 * W) = F / 4:=by rw [Nat.mul_comm,← Nat.div_div_eq_div_mul,← hF]
 have hm:X % (4 * W) = F % 4 * W + r:=by
  have e:X = W * (4 * (F / 4) + F % 4) + r:=by rw [Nat.div_add_mod];omega
  have e2:X = 4 * W * (F / 4) + (F % 4 * W + r):=by
   rw [e,Nat.mul_add,← Nat.mul_assoc,Nat.mul_comm W 4,Nat.mul_comm W (F % 4)];omega
  rw [e2,Nat.mul_add_mod]
  refine Nat.mod_eq_of_lt ?_
  have h4:F % 4 < 4:=Nat.mod_lt _ (by decide)
  have:=Nat.mul_le_mul_right W (show F % 4 ≤ 3 by omega)
  omega
 unfold rne
 rw [hq,hm]
 clear hq hm hF hr hdm
 have h4:F % 4 < 4:=Nat.mod_lt _ (by decide)
 rcases (show F % 4 = 0 ∨ F % 4 = 1 ∨ F % 4 = 2 ∨ F % 4 = 3 by omega) with c | c | c | c
 ·rw [c,Nat.zero_mul,Nat.zero_add,if_neg (by omega)]
  by_cases hr0:r = 0 <;> omega
 ·rw [c,Nat.one_mul,if_neg (by omega)]
  omega
 ·rw [c]
  by_cases hr0:r = 0
  ·by_cases ho:F / 4 % 2 = 1
   ·rw [if_pos (by omega)];omega
   ·rw [if_neg (by omega)];omega
  ·rw [if_pos (by omega)];omega
 ·rw [c,if_pos (by omega)];omega
theorem un_half (X W:Nat) (hW:0 < W):(un X W / 2) ||| (un X W % 2) = un X (2 * W):=by
 obtain ⟨h1,h2⟩:=un_parts X W
 have hdm:=Nat.div_add_mod X W
 have hml:=Nat.mod_lt X hW
 have hq:X / (2 * W) = X / W / 2:=by rw [Nat.mul_comm,← Nat.div_div_eq_div_mul]
 have hm:X % (2 * W) = X / W % 2 * W + X % W:=by
  generalize hF:X / W = F at *
  generalize hr:X % W = r at *
  have e2:X = 2 * W * (F / 2) + (F % 2 * W + r):=by
   have:F = 2 * (F / 2) + F % 2:=(Nat.div_add_mod F 2).symm
   rw [← hdm]
   conv => lhs;rw [this,Nat.mul_add,← Nat.mul_assoc,Nat.mul_comm W 2,Nat.mul_comm W (F % 2)]
   omega
  rw [e2,Nat.mul_add_mod]
  refine Nat.mod_eq_of_lt ?_
  have:=Nat.mul_le_mul_right W (show F % 2 ≤ 1 by omega)
  omega
 conv => rhs;unfold un
 rw [hq,hm,h1]
 by_cases hs:X / W % 2 = 1 ∨ X % W ≠ 0
 ·rw [h2.2 hs,if_neg]
  rcases hs with hs | hs
  ·rw [hs];omega
  ·omega
 ·have:un X W % 2 = 0:=by
   have:¬ un X W % 2 = 1:=fun e => hs (h2.1 e)
   omega
  rw [this,if_pos]
  have:X / W % 2 = 0:=by omega
  rw [this];omega
theorem rung_of {P Bn X D k q:Nat} (hD:0 < D) (hBn:0 < Bn) (hid:P * D = X * Bn * 2 ^ k) (hq:q = X / D) (hm:mantR (q + k * b52) = q) (he:exR (q + k * b52) = k) (hb:q % 2 = (q + k * b52) % 2) :
  Lo P Bn (q + k * b52) ∧ roundR P Bn (q + k * b52) = rne X D + k * b52:=by
 have hdm:=Nat.div_add_mod X D
 have hml:=Nat.mod_lt X hD
 rw [← hq] at hdm
 have hv:vR (q + k * b52) = q * 2 ^ k:=by unfold vR;rw [hm,he]
 have hkp:=Nat.two_pow_pos k
 have hCp:0 < Bn * 2 ^ k:=Nat.mul_pos hBn hkp
 have hid2:P * D = X * (Bn * 2 ^ k):=by rw [hid,Nat.mul_assoc]
 have e1:Bn * (q * 2 ^ k) = q * (Bn * 2 ^ k):=by rw [← Nat.mul_assoc,Nat.mul_comm Bn q,Nat.mul_assoc]
 have e2:Bn * (q * 2 ^ k + 2 ^ k) = (q + 1) * (Bn * 2 ^ k):=by rw [Nat.mul_add,e1,Nat.add_mul,Nat.one_mul]
 have e3:Bn * (2 * (q * 2 ^ k) + 2 ^ k) = (2 * q + 1) * (Bn * 2 ^ k):=by
  rw [Nat.mul_add,Nat.add_mul,Nat.one_mul,Nat.mul_assoc 2 q,← e1]
  rw [← Nat.mul_assoc,Nat.mul_comm Bn 2,Nat.mul_assoc]
 generalize Bn * 2 ^ k = C at *
 have hXq:X = D * q + X % D:=by omega
 constructor
 ·unfold Lo
  rw [vR_succ,hv,he,e1,e2]
  constructor
  ·have:q * C * D ≤ P * D:=by
    rw [hid2,Nat.mul_right_comm]
    refine Nat.mul_le_mul_right _ ?_
    rw [Nat.mul_comm];omega
   exact Nat.le_of_mul_le_mul_right this hD
  ·have:P * D < (q + 1) * C * D:=by
    rw [hid2,Nat.mul_right_comm]
    refine Nat.mul_lt_mul_of_pos_right ?_ hCp
    rw [Nat.add_mul,Nat.one_mul,Nat.mul_comm];omega
   exact Nat.lt_of_mul_lt_mul_right this
 ·unfold roundR rne
  rw [hv,he,e3,← hb,← hq]
  have k1:(2 * q + 1) * C < 2 * P ↔ D < 2 * (X % D):=by
   have a1:(2 * q + 1) * C < 2 * P ↔ (2 * q + 1) * C * D < 2 * P * D:=(Nat.mul_lt_mul_right hD).symm
   have a2:2 * P * D = 2 * X * C:=by rw [Nat.mul_assoc,hid2,Nat.mul_assoc]
   have a3:(2 * q + 1) * C * D = (2 * q + 1) * D * C:=Nat.mul_right_comm _ _ _
   rw [a1,a2,a3,Nat.mul_lt_mul_right hCp,Nat.add_mul,Nat.one_mul,Nat.mul_assoc,Nat.mul_comm q D]
   omega
  have k2:2 * P = (2 * q + 1) * C ↔ 2 * (X % D) = D:=by
   have a1:2 * P = (2 * q + 1) * C ↔ 2 * P * D = (2 * q + 1) * C * D:=(Nat.mul_right_cancel_iff hD).symm
   have a2:2 * P * D = 2 * X * C:=by rw [Nat.mul_assoc,hid2,Nat.mul_assoc]
   have a3:(2 * q + 1) * C * D = (2 * q + 1) * D * C:=Nat.mul_right_comm _ _ _
   rw [a1,a2,a3,Nat.mul_right_cancel_iff hCp,Nat.add_mul,Nat.one_mul,Nat.mul_assoc,Nat.mul_comm q D]
   omega
  simp only [k1,k2]
  split <;> omega
end Go.Proofs.YtdogjghalplohaaGreatDoor.mem
namespace Go.Proofs.YtdogjghalplohaaGreatDoor.mem
set_option linter.unusedVariables false
def midR (r:Nat):Nat:=2 * vR r + 2 ^ exR r
def InR (P B a:Nat):Prop:=(B * midR (a - 1) < 2 * P ∨ (B * midR (a - 1) = 2 * P ∧ a % 2 = 0)) ∧ (2 * P < B * midR a ∨ (2 * P = B * midR a ∧ a % 2 = 0))
end Go.Proofs.YtdogjghalplohaaGreatDoor.mem
