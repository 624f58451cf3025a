import Derived.Test.YtdogjghalplohaaGreatDoorJs15
import GoSem.PinnedTables
import Derived.Test.YtdogjghalplohaaGreatDoorJs14
import Derived.Test.YtdogjghalplohaaGreatDoorJs13
import Derived.Lib.ItoaLen
import Derived.Lib.AppendIntMem
namespace Go.Proofs.YtdogjghalplohaaGreatDoor.mem
set_option linter.unusedVariables false
def lpZ (p:Int):Int:=p * 108853 / 32768
def eA (p:Int):Nat:=if 0 ≤ p then 5 ^ p.toNat * 2 ^ (p + 127 - lpZ p).toNat else 2 ^ (p + 127 - lpZ p).toNat
def eB (p:Int):Nat:=if 0 ≤ p then 2 ^ (-(p + 127 - lpZ p)).toNat else 5 ^ (-p).toNat
def rowT (p:Int) (t:Nat × Nat):Bool:=
 decide (t.1 < q64) && decide (t.2 < q64) && decide (t.2 ≤ t.1 * q64) && decide (eA p ≤ (t.1 * q64 - t.2) * eB p) && decide ((t.1 * q64 - t.2) * eB p < eA p + eB p) && decide (0 < eB p)
def rowP (p:Int) (n:Nat × Nat × Nat × Nat):Bool:=okN (eA p) (q64 * q64 * eB p * 2 ^ 8) (eB p) (q64 - 1) 9223372036854775808 n
def chkT (k:Nat):Bool:=(List.range 58).all fun i => rowT ((58 * k + i:Nat) - 348) (_root_.Go.Pinned.pow10Rows.getD (58 * k + i) (0,0))
def chkP (k:Nat) (l:List (Nat × Nat × Nat × Nat)):Bool:=(List.range 58).all fun i => rowP ((58 * k + i:Nat) - 348) (l.getD i (0,0,0,0))
theorem okT0:chkT 0 = true:=by decide +kernel
theorem okP0:chkP 0 nbP0 = true:=by decide +kernel
theorem okT1:chkT 1 = true:=by decide +kernel
theorem okP1:chkP 1 nbP1 = true:=by decide +kernel
theorem okT2:chkT 2 = true:=by decide +kernel
theorem okP2:chkP 2 nbP2 = true:=by decide +kernel
theorem okT3:chkT 3 = true:=by decide +kernel
theorem okP3:chkP 3 nbP3 = true:=by decide +kernel
theorem okT4:chkT 4 = true:=by decide +kernel
theorem okP4:chkP 4 nbP4 = true:=by decide +kernel
theorem okT5:chkT 5 = true:=by decide +kernel
theorem okP5:chkP 5 nbP5 = true:=by decide +kernel
theorem okT6:chkT 6 = true:=by decide +kernel
theorem okP6:chkP 6 nbP6 = true:=by decide +kernel
theorem okT7:chkT 7 = true:=by decide +kernel
theorem okP7:chkP 7 nbP7 = true:=by decide +kernel
theorem okT8:chkT 8 = true:=by decide +kernel
theorem okP8:chkP 8 nbP8 = true:=by decide +kernel
theorem okT9:chkT 9 = true:=by decide +kernel
theorem okP9:chkP 9 nbP9 = true:=by decide +kernel
theorem okT10:chkT 10 = true:=by decide +kernel
theorem okP10:chkP 10 nbP10 = true:=by decide +kernel
theorem okT11:chkT 11 = true:=by decide +kernel
theorem okP11:chkP 11 nbP11 = true:=by decide +kernel
theorem at_chunk {f:Nat → Bool} (h:(List.range 58).all f = true) {i:Nat} (hi:i < 58):f i = true:=List.all_eq_true.1 h i (List.mem_range.2 hi)
theorem tab_ok (p:Int) (h0:-348 ≤ p) (h1:p ≤ 347):rowT p (_root_.Go.Pinned.pow10Rows.getD (p + 348).toNat (0,0)) = true:=by
 obtain ⟨j,hj⟩:∃ j,j = (p + 348).toNat:=⟨_,rfl⟩
 have hp:p = (j:Int) - 348:=by omega
 have hk:chkT (j / 58) = true:=by
  have:j / 58 < 12:=by omega
  generalize j / 58 = k at *
  match k,this with
  | 0,_ => exact okT0
  | 1,_ => exact okT1
  | 2,_ => exact okT2
  | 3,_ => exact okT3
  | 4,_ => exact okT4
  | 5,_ => exact okT5
  | 6,_ => exact okT6
  | 7,_ => exact okT7
  | 8,_ => exact okT8
  | 9,_ => exact okT9
  | 10,_ => exact okT10
  | 11,_ => exact okT11
 have:=at_chunk hk (i:=j % 58) (Nat.mod_lt _ (by decide))
 rw [Nat.div_add_mod,← hp] at this
 rw [← hj]
 exact this
theorem nbP_ok (p:Int) (h0:-348 ≤ p) (h1:p ≤ 347):∃ n,rowP p n = true:=by
 obtain ⟨j,hj⟩:∃ j,j = (p + 348).toNat:=⟨_,rfl⟩
 have hp:p = (j:Int) - 348:=by omega
 have hk:∃ l,chkP (j / 58) l = true:=by
  have:j / 58 < 12:=by omega
  generalize j / 58 = k at *
  match k,this with
  | 0,_ => exact ⟨_,okP0⟩
  | 1,_ => exact ⟨_,okP1⟩
  | 2,_ => exact ⟨_,okP2⟩
  | 3,_ => exact ⟨_,okP3⟩
  | 4,_ => exact ⟨_,okP4⟩
  | 5,_ => exact ⟨_,okP5⟩
  | 6,_ => exact ⟨_,okP6⟩
  | 7,_ => exact ⟨_,okP7⟩
  | 8,_ => exact ⟨_,okP8⟩
  | 9,_ => exact ⟨_,okP9⟩
  | 10,_ => exact ⟨_,okP10⟩
  | 11,_ => exact ⟨_,okP11⟩
 obtain ⟨l,hl⟩:=hk
 have:=at_chunk hl (i:=j % 58) (Nat.mod_lt _ (by decide))
 rw [Nat.div_add_mod,← hp] at this
 exact ⟨_,this⟩
def tabH (p:Int):Nat:=(_root_.Go.Pinned.pow10Rows.getD (p + 348).toNat (0,0)).1
def tabL (p:Int):Nat:=(_root_.Go.Pinned.pow10Rows.getD (p + 348).toNat (0,0)).2
theorem wide_s {a m c0 c1:Nat} {s0 s:Nat} (hs:s0 ≤ s) {X W:Nat} (h:∀ y:Nat,X = y * (W * 2 ^ s0) ∨ y * (W * 2 ^ s0) + c0 < X ∨ X + c1 ≤ y * (W * 2 ^ s0)) (y:Nat):X = y * (W * 2 ^ s) ∨ y * (W * 2 ^ s) + c0 < X ∨ X + c1 ≤ y * (W * 2 ^ s):=by
 have e:y * (W * 2 ^ s) = y * 2 ^ (s - s0) * (W * 2 ^ s0):=by
  rw [show s = s0 + (s - s0) by omega,Nat.pow_add,show s0 + (s - s0) - s0 = s - s0 by omega]
  rw [← Nat.mul_assoc W,← Nat.mul_assoc y]
  exact Nat.mul_right_comm _ _ _
 rw [e]
 exact h _
theorem uscale_read (p:Int) (h0:-348 ≤ p) (h1:p ≤ 347) (x s:Nat) (hx0:9223372036854775808 ≤ x) (hx:x < q64) (hs:8 ≤ s) :
  us x (tabH p) (tabL p) s = un (x * eA p) (q64 * q64 * eB p * 2 ^ s):=by
 have ht:=tab_ok p h0 h1
 unfold rowT at ht
 simp only [Bool.and_eq_true,decide_eq_true_eq] at ht
 obtain ⟨⟨⟨⟨⟨t1,t2⟩,t3⟩,t4⟩,t5⟩,t6⟩:=ht
 obtain ⟨n,hn⟩:=nbP_ok p h0 h1
 refine us_eq hx t1 t2 t3 t6 t4 t5 (fun y => ?_)
 have:=wide_s (a:=0) (m:=0) hs (fun y => nt_ok t6 hn x hx0 (by omega) (by omega) y) y
 omega
end Go.Proofs.YtdogjghalplohaaGreatDoor.mem
namespace Go.Proofs.YtdogjghalplohaaGreatDoor.mem
set_option linter.unusedVariables false
def rowR (p:Int):Bool:=decide (2 ^ 127 * eB p ≤ eA p) && decide (eA p * 1000 ≤ 999 * (q64 * q64 * eB p))
def chkR (k:Nat):Bool:=(List.range 58).all fun i => rowR ((58 * k + i:Nat) - 348)
theorem okR0:chkR 0 = true:=by decide +kernel
theorem okR1:chkR 1 = true:=by decide +kernel
theorem okR2:chkR 2 = true:=by decide +kernel
theorem okR3:chkR 3 = true:=by decide +kernel
theorem okR4:chkR 4 = true:=by decide +kernel
theorem okR5:chkR 5 = true:=by decide +kernel
theorem okR6:chkR 6 = true:=by decide +kernel
theorem okR7:chkR 7 = true:=by decide +kernel
theorem okR8:chkR 8 = true:=by decide +kernel
theorem okR9:chkR 9 = true:=by decide +kernel
theorem okR10:chkR 10 = true:=by decide +kernel
theorem okR11:chkR 11 = true:=by decide +kernel
theorem row_range (p:Int) (h0:-348 ≤ p) (h1:p ≤ 347):2 ^ 127 * eB p ≤ eA p ∧ eA p * 1000 ≤ 999 * (q64 * q64 * eB p):=by
 obtain ⟨j,hj⟩:∃ j,j = (p + 348).toNat:=⟨_,rfl⟩
 have hp:p = (j:Int) - 348:=by omega
 have hk:chkR (j / 58) = true:=by
  have:j / 58 < 12:=by omega
  generalize j / 58 = k at *
  match k,this with
  | 0,_ => exact okR0
  | 1,_ => exact okR1
  | 2,_ => exact okR2
  | 3,_ => exact okR3
  | 4,_ => exact okR4
  | 5,_ => exact okR5
  | 6,_ => exact okR6
  | 7,_ => exact okR7
  | 8,_ => exact okR8
  | 9,_ => exact okR9
  | 10,_ => exact okR10
  | 11,_ => exact okR11
 have:=at_chunk hk (i:=j % 58) (Nat.mod_lt _ (by decide))
 rw [Nat.div_add_mod,← hp] at this
 unfold rowR at this
 simpa using this
theorem base_pow (p:Int) (i j:Nat) (h:(j:Int) - i = 127 - lpZ p):eA p * 10 ^ (-p).toNat * 2 ^ i = eB p * 10 ^ p.toNat * 2 ^ j:=by
 unfold eA eB
 by_cases hp:0 ≤ p
 ·rw [if_pos hp,if_pos hp,show (-p).toNat = 0 by omega,Nat.pow_zero,Nat.mul_one,show (10:Nat) = 5 * 2 from rfl,Nat.mul_pow]
  have e1:5 ^ p.toNat * 2 ^ (p + 127 - lpZ p).toNat * 2 ^ i = 5 ^ p.toNat * 2 ^ ((p + 127 - lpZ p).toNat + i):=by rw [Nat.mul_assoc,← Nat.pow_add]
  have e2:2 ^ (-(p + 127 - lpZ p)).toNat * (5 ^ p.toNat * 2 ^ p.toNat) * 2 ^ j = 5 ^ p.toNat * 2 ^ ((-(p + 127 - lpZ p)).toNat + p.toNat + j):=by
   rw [← Nat.mul_assoc,Nat.mul_comm (2 ^ (-(p + 127 - lpZ p)).toNat),Nat.mul_assoc,Nat.mul_assoc,← Nat.pow_add,← Nat.pow_add,Nat.add_assoc]
  rw [e1,e2,show (p + 127 - lpZ p).toNat + i = (-(p + 127 - lpZ p)).toNat + p.toNat + j by omega]
 ·have hl:lpZ p ≤ p:=by unfold lpZ;omega
  rw [if_neg hp,if_neg hp,show p.toNat = 0 by omega,Nat.pow_zero,Nat.mul_one,show (10:Nat) = 5 * 2 from rfl,Nat.mul_pow]
  have e1:2 ^ (p + 127 - lpZ p).toNat * (5 ^ (-p).toNat * 2 ^ (-p).toNat) * 2 ^ i = 5 ^ (-p).toNat * 2 ^ ((p + 127 - lpZ p).toNat + (-p).toNat + i):=by
   rw [← Nat.mul_assoc,Nat.mul_comm (2 ^ (p + 127 - lpZ p).toNat),Nat.mul_assoc,Nat.mul_assoc,← Nat.pow_add,← Nat.pow_add,Nat.add_assoc]
  rw [e1,show (p + 127 - lpZ p).toNat + (-p).toNat + i = j by omega]
theorem prs_id (d b s k c:Nat) (p e:Int) (hb:b ≤ 64) (hs:(s:Int) = 61 - b - e - lpZ p) (hk:(k:Int) = 1074 - e + c) :
  d * 10 ^ p.toNat * k74 * (4 * 2 ^ c * (q64 * q64 * eB p * 2 ^ s)) = d * 2 ^ (64 - b) * eA p * 10 ^ (-p).toNat * 2 ^ k:=by
 have h:=base_pow p (64 - b + k) (52 + e22 + 2 + c + 128 + s) (by rw [e22_eq];omega)
 have e1:d * 2 ^ (64 - b) * eA p * 10 ^ (-p).toNat * 2 ^ k = d * (eA p * 10 ^ (-p).toNat * 2 ^ (64 - b + k)):=by
  rw [Nat.pow_add]
  generalize 2 ^ (64 - b) = A1
  generalize 2 ^ k = A2
  generalize eA p = A3
  generalize 10 ^ (-p).toNat = A4
  rw [Nat.mul_assoc d A1,Nat.mul_assoc d,Nat.mul_assoc d]
  congr 1
  rw [Nat.mul_comm A1 A3,Nat.mul_assoc A3 A1,Nat.mul_assoc A3,Nat.mul_assoc A3,Nat.mul_comm A1 A4,Nat.mul_assoc A4]
 have e2:d * 10 ^ p.toNat * k74 * (4 * 2 ^ c * (q64 * q64 * eB p * 2 ^ s)) = d * (eB p * 10 ^ p.toNat * 2 ^ (52 + e22 + 2 + c + 128 + s)):=by
  have e3:2 ^ (52 + e22 + 2 + c + 128 + s) = k74 * 4 * 2 ^ c * (q64 * q64) * 2 ^ s:=by
   rw [Nat.pow_add,Nat.pow_add,Nat.pow_add,Nat.pow_add,show 2 ^ (52 + e22) = k74 from rfl,show (2:Nat) ^ 2 = 4 from rfl,show (2:Nat) ^ 128 = q64 * q64 from rfl]
  rw [e3]
  generalize k74 = A1
  generalize 2 ^ c = A2
  generalize q64 * q64 = A3
  generalize 2 ^ s = A4
  generalize eB p = A5
  generalize 10 ^ p.toNat = A6
  rw [Nat.mul_assoc d,Nat.mul_assoc d]
  congr 1
  rw [Nat.mul_comm A5 A6,Nat.mul_assoc A6,Nat.mul_assoc A6]
  congr 1
  rw [Nat.mul_comm A3 A5]
  simp only [Nat.mul_assoc,Nat.mul_left_comm]
 rw [e1,e2,h]
end Go.Proofs.YtdogjghalplohaaGreatDoor.mem
namespace Go.Proofs.YtdogjghalplohaaGreatDoor.mem
set_option linter.unusedVariables false
end Go.Proofs.YtdogjghalplohaaGreatDoor.mem
namespace Go.Proofs.YtdogjghalplohaaGreatDoor.mem
set_option linter.unusedVariables false
theorem mant_of {q k:Nat} (h:q < b53) (h2:b52 ≤ q ∨ k = 0):mantR (q + k * b52) = q ∧ exR (q + k * b52) = k ∧ q % 2 = (q + k * b52) % 2:=by
 unfold mantR exR
 unfold b52 b53 at *
 rcases h2 with h2 | h2
 ·rw [if_neg (by omega)]
  refine ⟨by omega,by omega,by omega⟩
 ·subst h2
  split <;> refine ⟨by omega,by omega,by omega⟩
theorem rne_bd {X D:Nat} (hD:0 < D) {M:Nat} (h:X < M * D) (h2:2 * X + D < 2 * (M * D)):rne X D < M:=by
 have hdm:=Nat.div_add_mod X D
 have hml:=Nat.mod_lt X hD
 have hq:X / D < M:=Nat.div_lt_of_lt_mul (by rw [Nat.mul_comm];exact h)
 unfold rne
 split
 ·rename_i hc
  by_cases e:X / D + 1 = M
  ·exfalso
   have:M * D = D * (X / D) + D:=by rw [← e,Nat.add_mul,Nat.one_mul,Nat.mul_comm]
   omega
  ·omega
 ·exact hq
theorem prs_core {P Bn X W k:Nat} (hW:0 < W) (hBn:0 < Bn) (hid:P * (4 * W) = X * Bn * 2 ^ k)
  (hr:(4 * b52 * W ≤ X ∧ X * 1000 < 999 * (16 * b52 * W)) ∨ (k = 0 ∧ X * 1000 < 999 * (8 * b52 * W))) :
  ∃ lo,Lo P Bn lo ∧
   (un X W < 4 * b53 - 2 → roundR P Bn lo = (un X W + 1 + un X W / 4 % 2) / 4 + k * b52 ∧ (un X W + 1 + un X W / 4 % 2) / 4 < b53 ∧ (b52 ≤ (un X W + 1 + un X W / 4 % 2) / 4 ∨ k = 0)) ∧
   (4 * b53 - 2 ≤ un X W → roundR P Bn lo = (((un X W / 2) ||| (un X W % 2)) + 1 + ((un X W / 2) ||| (un X W % 2)) / 4 % 2) / 4 + (k + 1) * b52 ∧ b52 ≤ (((un X W / 2) ||| (un X W % 2)) + 1 + ((un X W / 2) ||| (un X W % 2)) / 4 % 2) / 4 ∧ (((un X W / 2) ||| (un X W % 2)) + 1 + ((un X W / 2) ||| (un X W % 2)) / 4 % 2) / 4 < b53):=by
 obtain ⟨h1,h2⟩:=un_parts X W
 rw [un_half X W hW,un_round X W hW,un_round X (2 * W) (by omega)]
 have e8:4 * (2 * W) = 8 * W:=by omega
 rw [e8]
 have hid1:P * (8 * W) = X * Bn * 2 ^ (k + 1):=by
  rw [Nat.pow_succ,← Nat.mul_assoc (X * Bn),← hid,Nat.mul_assoc P]
  congr 1
  omega
 have hdm:=Nat.div_add_mod X W
 have hml:=Nat.mod_lt X hW
 obtain ⟨F,hF⟩:∃ F,F = X / W:=⟨_,rfl⟩
 have hq4:X / (4 * W) = F / 4:=by rw [Nat.mul_comm,← Nat.div_div_eq_div_mul,← hF]
 have hq8:X / (8 * W) = F / 8:=by rw [Nat.mul_comm,← Nat.div_div_eq_div_mul,← hF]
 rw [← hF] at h1 h2 hdm
 have hFX:W * F ≤ X:=by omega
 by_cases hu:un X W < 4 * b53 - 2
 ·-- not halved
  have hF2:F < 4 * b53 - 2:=by unfold b53 at *;omega
  have hXl:X < (4 * b53 - 2) * W:=by
   have:W * (F + 1) ≤ W * (4 * b53 - 2):=Nat.mul_le_mul_left _ hF2
   rw [Nat.mul_add,Nat.mul_one] at this
   rw [Nat.mul_comm _ W]
   omega
  have hq:X / (4 * W) < b53:=by rw [hq4];unfold b53 at *;omega
  have hlow:b52 ≤ X / (4 * W) ∨ k = 0:=by
   rcases hr with ⟨hr,_⟩ | ⟨hr,_⟩
   ·left
    refine (Nat.le_div_iff_mul_le (by omega)).2 ?_
    rw [← Nat.mul_assoc,Nat.mul_comm b52 4];exact hr
   ·right;exact hr
  obtain ⟨m1,m2,m3⟩:=mant_of hq hlow
  obtain ⟨l1,l2⟩:=rung_of (by omega) hBn hid rfl m1 m2 m3
  refine ⟨_,l1,fun _ => ⟨l2,?_,?_⟩,fun h => absurd h (by omega)⟩
  ·refine rne_bd (by omega) ?_ ?_
   ·unfold b53 at *;omega
   ·unfold b53 at *;omega
  ·rcases hlow with hl | hl
   ·left
    refine Nat.le_trans hl ?_
    unfold rne
    split <;> omega
   ·right;exact hl
 ·have hF2:4 * b53 - 2 ≤ F:=by unfold b53 at *;omega
  have hXl:(4 * b53 - 2) * W ≤ X:=by
   have:W * (4 * b53 - 2) ≤ W * F:=Nat.mul_le_mul_left _ hF2
   rw [Nat.mul_comm _ W]
   omega
  have hr2:X * 1000 < 999 * (16 * b52 * W) ∧ 4 * b52 * W ≤ X:=by
   rcases hr with ⟨hr,hr2⟩ | ⟨_,hr⟩
   ·exact ⟨hr2,hr⟩
   ·exfalso
    unfold b52 b53 at *
    omega
  obtain ⟨hr3,hr4⟩:=hr2
  have hup:rne X (8 * W) < b53:=by
   refine rne_bd (by omega) ?_ ?_
   ·unfold b52 b53 at *;omega
   ·unfold b52 b53 at *;omega
  by_cases hF3:4 * b53 ≤ F
  ·have hXl3:4 * b53 * W ≤ X:=by
    have:W * (4 * b53) ≤ W * F:=Nat.mul_le_mul_left _ hF3
    rw [Nat.mul_comm _ W]
    omega
   have hq:X / (8 * W) < b53:=Nat.div_lt_of_lt_mul (by unfold b52 b53 at *;omega)
   have hlow:b52 ≤ X / (8 * W):=by rw [hq8];unfold b52 b53 at *;omega
   obtain ⟨m1,m2,m3⟩:=mant_of (k:=k + 1) hq (Or.inl hlow)
   obtain ⟨l1,l2⟩:=rung_of (by omega) hBn hid1 rfl m1 m2 m3
   refine ⟨_,l1,fun h => absurd h hu,fun _ => ⟨l2,?_,hup⟩⟩
   refine Nat.le_trans hlow ?_
   unfold rne
   split <;> omega
  ·have hqe:X / (4 * W) = b53 - 1:=by rw [hq4];unfold b53 at *;omega
   have hq8e:X / (8 * W) = b52 - 1:=by rw [hq8];unfold b52 b53 at *;omega
   obtain ⟨m1,m2,m3⟩:=mant_of (q:=X / (4 * W)) (k:=k) (by rw [hqe];unfold b53;omega) (Or.inl (by rw [hqe];unfold b52 b53;omega))
   obtain ⟨l1,l2⟩:=rung_of (by omega) hBn hid rfl m1 m2 m3
   have r4:rne X (4 * W) = b53:=by
    have hd4:=Nat.div_add_mod X (4 * W)
    unfold rne
    rw [hqe] at hd4 ⊢
    rw [if_pos]
    ·unfold b53;omega
    ·have:4 * W * (b53 - 1) = (4 * b53 - 4) * W:=by
      unfold b53;omega
     rw [this] at hd4
     by_cases hx:4 * W < 2 * (X % (4 * W))
     ·left;exact hx
     ·right
      constructor
      ·unfold b53 at *;omega
      ·unfold b53;decide
   have r8:rne X (8 * W) = b52:=by
    have hd8:=Nat.div_add_mod X (8 * W)
    unfold rne
    rw [hq8e] at hd8 ⊢
    rw [if_pos]
    ·unfold b52;omega
    ·left
     unfold b52 b53 at *
     omega
   refine ⟨_,l1,fun h => absurd h hu,fun _ => ⟨?_,?_,hup⟩⟩
   ·rw [l2,r4,r8];unfold b52 b53;omega
   ·rw [r8];exact Nat.le_refl _
theorem prs_rng (p:Int) (h0:-348 ≤ p) (h1:p ≤ 347) (x s:Nat) (hx0:9223372036854775808 ≤ x) (hx:x < q64) :
  (s = 8 → 4 * b52 * (q64 * q64 * eB p * 2 ^ s) ≤ x * eA p ∧ x * eA p * 1000 < 999 * (16 * b52 * (q64 * q64 * eB p * 2 ^ s))) ∧ (9 ≤ s → x * eA p * 1000 < 999 * (8 * b52 * (q64 * q64 * eB p * 2 ^ s))) ∧ (64 ≤ s → x * eA p * 1000 < 999 * (q64 * q64 * eB p * 2 ^ s)):=by
 obtain ⟨r1,r2⟩:=row_range p h0 h1
 have hBp:0 < eB p:=by
  unfold eB
  split
  ·exact Nat.two_pow_pos _
  ·exact Nat.pow_pos (by decide)
 generalize eA p = A at *
 generalize eB p = B at *
 have hup:x * A * 1000 < 999 * (q64 * (q64 * q64 * B)):=by
  have a1:x * A * 1000 ≤ x * (999 * (q64 * q64 * B)):=by
   rw [Nat.mul_assoc];exact Nat.mul_le_mul_left _ r2
  have a2:x * (999 * (q64 * q64 * B)) < q64 * (999 * (q64 * q64 * B)):=by
   refine Nat.mul_lt_mul_of_pos_right hx ?_
   unfold q64
   omega
  have a3:q64 * (999 * (q64 * q64 * B)) = 999 * (q64 * (q64 * q64 * B)):=Nat.mul_left_comm _ _ _
  omega
 have grow:∀ s0,s0 ≤ s → q64 * q64 * B * 2 ^ s0 ≤ q64 * q64 * B * 2 ^ s:=fun s0 h => Nat.mul_le_mul_left _ (Nat.pow_le_pow_right (by decide) h)
 refine ⟨fun h => ?_,fun h => ?_,fun h => ?_⟩
 ·subst h
  have a1:9223372036854775808 * (2 ^ 127 * B) ≤ x * A:=Nat.mul_le_mul hx0 r1
  constructor
  ·refine Nat.le_trans ?_ a1
   unfold b52 q64
   omega
  ·refine Nat.lt_of_lt_of_le hup ?_
   unfold b52 q64
   omega
 ·refine Nat.lt_of_lt_of_le hup ?_
  have g:=grow 9 h
  generalize q64 * q64 * B * 2 ^ s = W at *
  unfold b52
  unfold q64 at *
  omega
 ·refine Nat.lt_of_lt_of_le hup ?_
  have g:=grow 64 h
  generalize q64 * q64 * B * 2 ^ s = W at *
  unfold q64 at *
  omega
theorem prs_ok (d b s k:Nat) (p e:Int) (h0:-348 ≤ p) (h1:p ≤ 347) (hb:b ≤ 64) (hx0:9223372036854775808 ≤ d * 2 ^ (64 - b)) (hx:d * 2 ^ (64 - b) < q64)
  (he:e = min 1074 (53 - b - lpZ p)) (hs:(s:Int) = 61 - b - e - lpZ p) (hk:(k:Int) = 1074 - e) (u:Nat) (hu:u = un (d * 2 ^ (64 - b) * eA p) (q64 * q64 * eB p * 2 ^ s)) :
  ∃ lo,Lo (d * 10 ^ p.toNat * k74) (10 ^ (-p).toNat) lo ∧
   (u < 4 * b53 - 2 → roundR (d * 10 ^ p.toNat * k74) (10 ^ (-p).toNat) lo = (u + 1 + u / 4 % 2) / 4 + k * b52 ∧ (u + 1 + u / 4 % 2) / 4 < b53 ∧ (b52 ≤ (u + 1 + u / 4 % 2) / 4 ∨ k = 0)) ∧
   (4 * b53 - 2 ≤ u → roundR (d * 10 ^ p.toNat * k74) (10 ^ (-p).toNat) lo = (((u / 2) ||| (u % 2)) + 1 + ((u / 2) ||| (u % 2)) / 4 % 2) / 4 + (k + 1) * b52 ∧ b52 ≤ (((u / 2) ||| (u % 2)) + 1 + ((u / 2) ||| (u % 2)) / 4 % 2) / 4 ∧ (((u / 2) ||| (u % 2)) + 1 + ((u / 2) ||| (u % 2)) / 4 % 2) / 4 < b53) ∧
   (64 ≤ s → roundR (d * 10 ^ p.toNat * k74) (10 ^ (-p).toNat) lo = 0):=by
 subst hu
 obtain ⟨g1,g2,g3⟩:=prs_rng p h0 h1 (d * 2 ^ (64 - b)) s hx0 hx
 have hBp:0 < eB p:=by
  unfold eB
  split
  ·exact Nat.two_pow_pos _
  ·exact Nat.pow_pos (by decide)
 have hid:=prs_id d b s k 0 p e hb hs (by omega)
 rw [Nat.pow_zero,Nat.mul_one] at hid
 have hW:0 < q64 * q64 * eB p * 2 ^ s:=Nat.mul_pos (Nat.mul_pos (by decide) hBp) (Nat.two_pow_pos _)
 have hTen:0 < 10 ^ (-p).toNat:=Nat.pow_pos (by decide)
 have hcase:s = 8 ∨ (9 ≤ s ∧ k = 0):=by
  by_cases h:(53:Int) - b - lpZ p ≤ 1074
  ·left;omega
  ·right;omega
 have hr:(4 * b52 * (q64 * q64 * eB p * 2 ^ s) ≤ d * 2 ^ (64 - b) * eA p ∧ d * 2 ^ (64 - b) * eA p * 1000 < 999 * (16 * b52 * (q64 * q64 * eB p * 2 ^ s))) ∨ (k = 0 ∧ d * 2 ^ (64 - b) * eA p * 1000 < 999 * (8 * b52 * (q64 * q64 * eB p * 2 ^ s))):=by
  rcases hcase with h | ⟨h,hk0⟩
  ·left;exact g1 h
  ·right;exact ⟨hk0,g2 h⟩
 generalize d * 2 ^ (64 - b) * eA p = X at *
 generalize q64 * q64 * eB p * 2 ^ s = W at *
 generalize d * 10 ^ p.toNat * k74 = P at *
 generalize 10 ^ (-p).toNat = Bn at *
 obtain ⟨lo,l1,l2,l3⟩:=prs_core hW hTen hid hr
 refine ⟨lo,l1,l2,l3,fun h64 => ?_⟩
 have g:=g3 h64
 have hk0:k = 0:=by omega
 have hXW:X < W:=by omega
 have hun:un X W ≤ 1:=by
  obtain ⟨p1,_⟩:=un_parts X W
  rw [Nat.div_eq_of_lt hXW] at p1
  omega
 have hlt:un X W < 4 * b53 - 2:=by unfold b53;omega
 rw [(l2 hlt).1,hk0]
 omega
end Go.Proofs.YtdogjghalplohaaGreatDoor.mem
namespace Go.Proofs.YtdogjghalplohaaGreatDoor.mem
set_option linter.unusedVariables false
end Go.Proofs.YtdogjghalplohaaGreatDoor.mem
namespace Go.Proofs.YtdogjghalplohaaGreatDoor.mem
set_option linter.unusedVariables false
end Go.Proofs.YtdogjghalplohaaGreatDoor.mem
namespace Go.Proofs.YtdogjghalplohaaGreatDoor.mem
set_option linter.unusedVariables false
theorem tab_hi (p:Int) (h0:-348 ≤ p) (h1:p ≤ 347):9223372036854775808 ≤ tabH p ∧ tabH p < q64 ∧ tabL p < q64:=by
 have ht:=tab_ok p h0 h1
 unfold rowT at ht
 simp only [Bool.and_eq_true,decide_eq_true_eq] at ht
 obtain ⟨⟨⟨⟨⟨t1,t2⟩,t3⟩,t4⟩,t5⟩,t6⟩:=ht
 refine ⟨?_,t1,t2⟩
 have hr:=(row_range p h0 h1).1
 have h2:2 ^ 127 * eB p ≤ (tabH p * q64 - tabL p) * eB p:=Nat.le_trans hr t4
 have h3:2 ^ 127 ≤ tabH p * q64 - tabL p:=Nat.le_of_mul_le_mul_right h2 t6
 have h4:(170141183460469231731687303715884105728:Nat) ≤ tabH p * q64:=by
  have:(2:Nat) ^ 127 = 170141183460469231731687303715884105728:=by decide
  omega
 unfold q64 at h4
 omega
structure ShF (a s t:Nat) (p:Int) (Xv W dmin dmax r:Nat):Prop where
 xv:Xv = mantR a * 2 ^ s * eA p
 wv:W = q64 * q64 * eB p * 2 ^ t
 tv:(t:Int) = 1071 + s - exR a - lpZ p
 pv:-348 ≤ p ∧ p ≤ 347
 wp:0 < W
 q0:1 ≤ Xv / (4 * W)
 q17:Xv / (4 * W) < 100000000000000000
 lo:dmin ≤ Xv / (4 * W) + 1
 hi:Xv / (4 * W) ≤ dmax
 re:r = rne Xv (4 * W)
 d0:0 < dmin
 ne:dmin ≤ dmax
 wd:dmax < dmin + 10
 pk:¬ dmin ≤ dmax / 10 * 10 → dmin < dmax → dmin ≤ r ∧ r ≤ dmax
 sm:dmin ≤ dmax / 10 * 10 → Xv / (4 * W) < 10 → dmax / 10 * 10 = r
 cin:∀ c,0 < c → (InR (c * 10 ^ (-p).toNat * k74) (10 ^ p.toNat) a ↔ dmin ≤ c ∧ c ≤ dmax)
def chD (dmin dmax r:Nat):Nat:=if dmin ≤ dmax / 10 * 10 then dmax / 10 else if dmin < dmax then r else dmin
end Go.Proofs.YtdogjghalplohaaGreatDoor.mem
namespace Go.Proofs.YtdogjghalplohaaGreatDoor.fto
open Go.ChangeShapes Go.WideShapes Go.ChangeAt Go.RowKit
open mem
open ints (hide unhide)
set_option linter.unusedVariables false
end Go.Proofs.YtdogjghalplohaaGreatDoor.fto
namespace Go.Proofs.YtdogjghalplohaaGreatDoor.fto
open Go.ChangeShapes Go.WideShapes Go.ChangeAt Go.RowKit
open mem Go.Sort
open ints (hide unhide)
set_option linter.unusedVariables false
theorem bitLen_at {x k:Nat} (h0:2 ^ k ≤ x) (h1:x < 2 ^ (k + 1)) (h2:x < 18446744073709551616):Lib.bitLen x = k + 1:=by
 rw [Lib.bitLen_shift k x h0 h2]
 have:x / 2 ^ k = 1:=by
  have e:2 ^ (k + 1) = 2 ^ k * 2:=Nat.pow_succ _ _
  refine Nat.div_eq_of_lt_le (by omega) (by omega)
 rw [this]
 rfl
structure Fw (w:World):Prop where
 pt:PT w
 g:15 < w.heap.size
 tab : Lib.TabBelow Tryz.prog w.heap.size w "internal/strconv.uint64pow10" .u64 Lib.pow10Tab
theorem PT.below {w W:World} (h:PT w) (hg:15 < w.heap.size) (hb:Below w.heap.size w W):PT W:=fun i hi => ⟨(hb.cell (p:=⟨15,2 * i,none⟩) hg).trans (h i hi).1,(hb.cell (p:=⟨15,2 * i + 1,none⟩) hg).trans (h i hi).2⟩
theorem Fw.below {w W:World} (h:Fw w) (hb:Below w.heap.size w W):Fw W:=⟨h.pt.below h.g hb,Nat.lt_of_lt_of_le h.g hb.size,fun W' hW => h.tab W' (hb.trans (hW.mono hb.size))⟩
end Go.Proofs.YtdogjghalplohaaGreatDoor.fto
