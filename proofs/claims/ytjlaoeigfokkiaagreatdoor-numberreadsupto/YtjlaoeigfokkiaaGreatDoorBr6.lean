import Derived.Test.YtjlaoeigfokkiaaGreatDoorBr5
import GoSem.PinnedTables
import Derived.Test.YtjlaoeigfokkiaaGreatDoorBr4
namespace Go.Proofs.YtjlaoeigfokkiaaGreatDoor.mem
set_option linter.unusedVariables false
def lpZ (p:Int):Int:=p * 108853 / 32768
def eA (p:Int):Nat:=if 0 ≤ p then 5 ^ p.toNat * 2 ^ (p + 127 - lpZ p).toNat else 2 ^ (p + 127 - lpZ p).toNat
def eB (p:Int):Nat:=if 0 ≤ p then 2 ^ (-(p + 127 - lpZ p)).toNat else 5 ^ (-p).toNat
def rowT (p:Int) (t:Nat × Nat):Bool:=
 decide (t.1 < q64) && decide (t.2 < q64) && decide (t.2 ≤ t.1 * q64) && decide (eA p ≤ (t.1 * q64 - t.2) * eB p) && decide ((t.1 * q64 - t.2) * eB p < eA p + eB p) && decide (0 < eB p)
def rowP (p:Int) (n:Nat × Nat × Nat × Nat):Bool:=okN (eA p) (q64 * q64 * eB p * 2 ^ 8) (eB p) (q64 - 1) 9223372036854775808 n
def rowF (p:Int) (n:Nat × Nat × Nat × Nat):Bool:=okN (512 * eA p) (q64 * q64 * eB p * 2 ^ 5) (eB p) 36028797018963967 1 n
def chkT (k:Nat):Bool:=(List.range 58).all fun i => rowT ((58 * k + i:Nat) - 348) (_root_.Go.Pinned.pow10Rows.getD (58 * k + i) (0,0))
def chkP (k:Nat) (l:List (Nat × Nat × Nat × Nat)):Bool:=(List.range 58).all fun i => rowP ((58 * k + i:Nat) - 348) (l.getD i (0,0,0,0))
def chkF (k:Nat) (l:List (Nat × Nat × Nat × Nat)):Bool:=(List.range 58).all fun i => rowF ((58 * k + i:Nat) - 348) (l.getD i (0,0,0,0))
theorem okT0:chkT 0 = true:=by decide +kernel
theorem okP0:chkP 0 nbP0 = true:=by decide +kernel
theorem okF0:chkF 0 nbF0 = true:=by decide +kernel
theorem okT1:chkT 1 = true:=by decide +kernel
theorem okP1:chkP 1 nbP1 = true:=by decide +kernel
theorem okF1:chkF 1 nbF1 = true:=by decide +kernel
theorem okT2:chkT 2 = true:=by decide +kernel
theorem okP2:chkP 2 nbP2 = true:=by decide +kernel
theorem okF2:chkF 2 nbF2 = true:=by decide +kernel
theorem okT3:chkT 3 = true:=by decide +kernel
theorem okP3:chkP 3 nbP3 = true:=by decide +kernel
theorem okF3:chkF 3 nbF3 = true:=by decide +kernel
theorem okT4:chkT 4 = true:=by decide +kernel
theorem okP4:chkP 4 nbP4 = true:=by decide +kernel
theorem okF4:chkF 4 nbF4 = true:=by decide +kernel
theorem okT5:chkT 5 = true:=by decide +kernel
theorem okP5:chkP 5 nbP5 = true:=by decide +kernel
theorem okF5:chkF 5 nbF5 = true:=by decide +kernel
theorem okT6:chkT 6 = true:=by decide +kernel
theorem okP6:chkP 6 nbP6 = true:=by decide +kernel
theorem okF6:chkF 6 nbF6 = true:=by decide +kernel
theorem okT7:chkT 7 = true:=by decide +kernel
theorem okP7:chkP 7 nbP7 = true:=by decide +kernel
theorem okF7:chkF 7 nbF7 = true:=by decide +kernel
theorem okT8:chkT 8 = true:=by decide +kernel
theorem okP8:chkP 8 nbP8 = true:=by decide +kernel
theorem okF8:chkF 8 nbF8 = true:=by decide +kernel
theorem okT9:chkT 9 = true:=by decide +kernel
theorem okP9:chkP 9 nbP9 = true:=by decide +kernel
theorem okF9:chkF 9 nbF9 = true:=by decide +kernel
theorem okT10:chkT 10 = true:=by decide +kernel
theorem okP10:chkP 10 nbP10 = true:=by decide +kernel
theorem okF10:chkF 10 nbF10 = true:=by decide +kernel
theorem okT11:chkT 11 = true:=by decide +kernel
theorem okP11:chkP 11 nbP11 = true:=by decide +kernel
theorem okF11:chkF 11 nbF11 = true:=by decide +kernel
theorem at_chunk {f:Nat → Bool} (h:(List.range 58).all f = true) {i:Nat} (hi:i < 58):f i = true:=List.all_eq_true.1 h i (List.mem_range.2 hi)
theorem tab_ok (p:Int) (h0:-348 ≤ p) (h1:p ≤ 347):rowT p (_root_.Go.Pinned.pow10Rows.getD (p + 348).toNat (0,0)) = true:=by
 obtain ⟨j,hj⟩:∃ j,j = (p + 348).toNat:=⟨_,rfl⟩
 have hp:p = (j:Int) - 348:=by omega
 have hk:chkT (j / 58) = true:=by
  have:j / 58 < 12:=by omega
  generalize j / 58 = k at *
  match k,this with
  | 0,_ => exact okT0
  | 1,_ => exact okT1
  | 2,_ => exact okT2
  | 3,_ => exact okT3
  | 4,_ => exact okT4
  | 5,_ => exact okT5
  | 6,_ => exact okT6
  | 7,_ => exact okT7
  | 8,_ => exact okT8
  | 9,_ => exact okT9
  | 10,_ => exact okT10
  | 11,_ => exact okT11
 have:=at_chunk hk (i:=j % 58) (Nat.mod_lt _ (by decide))
 rw [Nat.div_add_mod,← hp] at this
 rw [← hj]
 exact this
theorem nbP_ok (p:Int) (h0:-348 ≤ p) (h1:p ≤ 347):∃ n,rowP p n = true:=by
 obtain ⟨j,hj⟩:∃ j,j = (p + 348).toNat:=⟨_,rfl⟩
 have hp:p = (j:Int) - 348:=by omega
 have hk:∃ l,chkP (j / 58) l = true:=by
  have:j / 58 < 12:=by omega
  generalize j / 58 = k at *
  match k,this with
  | 0,_ => exact ⟨_,okP0⟩
  | 1,_ => exact ⟨_,okP1⟩
  | 2,_ => exact ⟨_,okP2⟩
  | 3,_ => exact ⟨_,okP3⟩
  | 4,_ => exact ⟨_,okP4⟩
  | 5,_ => exact ⟨_,okP5⟩
  | 6,_ => exact ⟨_,okP6⟩
  | 7,_ => exact ⟨_,okP7⟩
  | 8,_ => exact ⟨_,okP8⟩
  | 9,_ => exact ⟨_,okP9⟩
  | 10,_ => exact ⟨_,okP10⟩
  | 11,_ => exact ⟨_,okP11⟩
 obtain ⟨l,hl⟩:=hk
 have:=at_chunk hl (i:=j % 58) (Nat.mod_lt _ (by decide))
 rw [Nat.div_add_mod,← hp] at this
 exact ⟨_,this⟩
theorem nbF_ok (p:Int) (h0:-348 ≤ p) (h1:p ≤ 347):∃ n,rowF p n = true:=by
 obtain ⟨j,hj⟩:∃ j,j = (p + 348).toNat:=⟨_,rfl⟩
 have hp:p = (j:Int) - 348:=by omega
 have hk:∃ l,chkF (j / 58) l = true:=by
  have:j / 58 < 12:=by omega
  generalize j / 58 = k at *
  match k,this with
  | 0,_ => exact ⟨_,okF0⟩
  | 1,_ => exact ⟨_,okF1⟩
  | 2,_ => exact ⟨_,okF2⟩
  | 3,_ => exact ⟨_,okF3⟩
  | 4,_ => exact ⟨_,okF4⟩
  | 5,_ => exact ⟨_,okF5⟩
  | 6,_ => exact ⟨_,okF6⟩
  | 7,_ => exact ⟨_,okF7⟩
  | 8,_ => exact ⟨_,okF8⟩
  | 9,_ => exact ⟨_,okF9⟩
  | 10,_ => exact ⟨_,okF10⟩
  | 11,_ => exact ⟨_,okF11⟩
 obtain ⟨l,hl⟩:=hk
 have:=at_chunk hl (i:=j % 58) (Nat.mod_lt _ (by decide))
 rw [Nat.div_add_mod,← hp] at this
 exact ⟨_,this⟩
def tabH (p:Int):Nat:=(_root_.Go.Pinned.pow10Rows.getD (p + 348).toNat (0,0)).1
def tabL (p:Int):Nat:=(_root_.Go.Pinned.pow10Rows.getD (p + 348).toNat (0,0)).2
theorem wide_s {a m c0 c1:Nat} {s0 s:Nat} (hs:s0 ≤ s) {X W:Nat} (h:∀ y:Nat,X = y * (W * 2 ^ s0) ∨ y * (W * 2 ^ s0) + c0 < X ∨ X + c1 ≤ y * (W * 2 ^ s0)) (y:Nat):X = y * (W * 2 ^ s) ∨ y * (W * 2 ^ s) + c0 < X ∨ X + c1 ≤ y * (W * 2 ^ s):=by
 have e:y * (W * 2 ^ s) = y * 2 ^ (s - s0) * (W * 2 ^ s0):=by
  rw [show s = s0 + (s - s0) by omega,Nat.pow_add,show s0 + (s - s0) - s0 = s - s0 by omega]
  rw [← Nat.mul_assoc W,← Nat.mul_assoc y]
  exact Nat.mul_right_comm _ _ _
 rw [e]
 exact h _
theorem uscale_read (p:Int) (h0:-348 ≤ p) (h1:p ≤ 347) (x s:Nat) (hx0:9223372036854775808 ≤ x) (hx:x < q64) (hs:8 ≤ s) :
  us x (tabH p) (tabL p) s = un (x * eA p) (q64 * q64 * eB p * 2 ^ s):=by
 have ht:=tab_ok p h0 h1
 unfold rowT at ht
 simp only [Bool.and_eq_true,decide_eq_true_eq] at ht
 obtain ⟨⟨⟨⟨⟨t1,t2⟩,t3⟩,t4⟩,t5⟩,t6⟩:=ht
 obtain ⟨n,hn⟩:=nbP_ok p h0 h1
 refine us_eq hx t1 t2 t3 t6 t4 t5 (fun y => ?_)
 have:=wide_s (a:=0) (m:=0) hs (fun y => nt_ok t6 hn x hx0 (by omega) (by omega) y) y
 omega
theorem uscale_write (p:Int) (h0:-348 ≤ p) (h1:p ≤ 347) (x s:Nat) (hx0:0 < x) (hx:x < 36028797018963968) (hs:5 ≤ s) :
  us (512 * x) (tabH p) (tabL p) s = un (512 * x * eA p) (q64 * q64 * eB p * 2 ^ s):=by
 have ht:=tab_ok p h0 h1
 unfold rowT at ht
 simp only [Bool.and_eq_true,decide_eq_true_eq] at ht
 obtain ⟨⟨⟨⟨⟨t1,t2⟩,t3⟩,t4⟩,t5⟩,t6⟩:=ht
 obtain ⟨n,hn⟩:=nbF_ok p h0 h1
 refine us_eq (by unfold q64;omega) t1 t2 t3 t6 t4 t5 (fun y => ?_)
 have e:512 * x * eA p = x * (512 * eA p):=by rw [Nat.mul_comm 512,Nat.mul_assoc]
 rw [e]
 have:=wide_s (a:=0) (m:=0) hs (fun y => nt_ok t6 hn x (by omega) hx0 (by omega) y) y
 omega
end Go.Proofs.YtjlaoeigfokkiaaGreatDoor.mem
namespace Go.Proofs.YtjlaoeigfokkiaaGreatDoor.mem
set_option linter.unusedVariables false
def rowR (p:Int):Bool:=decide (2 ^ 127 * eB p ≤ eA p) && decide (eA p * 1000 ≤ 999 * (q64 * q64 * eB p))
def chkR (k:Nat):Bool:=(List.range 58).all fun i => rowR ((58 * k + i:Nat) - 348)
theorem okR0:chkR 0 = true:=by decide +kernel
theorem okR1:chkR 1 = true:=by decide +kernel
theorem okR2:chkR 2 = true:=by decide +kernel
theorem okR3:chkR 3 = true:=by decide +kernel
theorem okR4:chkR 4 = true:=by decide +kernel
theorem okR5:chkR 5 = true:=by decide +kernel
theorem okR6:chkR 6 = true:=by decide +kernel
theorem okR7:chkR 7 = true:=by decide +kernel
theorem okR8:chkR 8 = true:=by decide +kernel
theorem okR9:chkR 9 = true:=by decide +kernel
theorem okR10:chkR 10 = true:=by decide +kernel
theorem okR11:chkR 11 = true:=by decide +kernel
theorem row_range (p:Int) (h0:-348 ≤ p) (h1:p ≤ 347):2 ^ 127 * eB p ≤ eA p ∧ eA p * 1000 ≤ 999 * (q64 * q64 * eB p):=by
 obtain ⟨j,hj⟩:∃ j,j = (p + 348).toNat:=⟨_,rfl⟩
 have hp:p = (j:Int) - 348:=by omega
 have hk:chkR (j / 58) = true:=by
  have:j / 58 < 12:=by omega
  generalize j / 58 = k at *
  match k,this with
  | 0,_ => exact okR0
  | 1,_ => exact okR1
  | 2,_ => exact okR2
  | 3,_ => exact okR3
  | 4,_ => exact okR4
  | 5,_ => exact okR5
  | 6,_ => exact okR6
  | 7,_ => exact okR7
  | 8,_ => exact okR8
  | 9,_ => exact okR9
  | 10,_ => exact okR10
  | 11,_ => exact okR11
 have:=at_chunk hk (i:=j % 58) (Nat.mod_lt _ (by decide))
 rw [Nat.div_add_mod,← hp] at this
 unfold rowR at this
 simpa using this
theorem base_pow (p:Int) (i j:Nat) (h:(j:Int) - i = 127 - lpZ p):eA p * 10 ^ (-p).toNat * 2 ^ i = eB p * 10 ^ p.toNat * 2 ^ j:=by
 unfold eA eB
 by_cases hp:0 ≤ p
 ·rw [if_pos hp,if_pos hp,show (-p).toNat = 0 by omega,Nat.pow_zero,Nat.mul_one,show (10:Nat) = 5 * 2 from rfl,Nat.mul_pow]
  have e1:5 ^ p.toNat * 2 ^ (p + 127 - lpZ p).toNat * 2 ^ i = 5 ^ p.toNat * 2 ^ ((p + 127 - lpZ p).toNat + i):=by rw [Nat.mul_assoc,← Nat.pow_add]
  have e2:2 ^ (-(p + 127 - lpZ p)).toNat * (5 ^ p.toNat * 2 ^ p.toNat) * 2 ^ j = 5 ^ p.toNat * 2 ^ ((-(p + 127 - lpZ p)).toNat + p.toNat + j):=by
   rw [← Nat.mul_assoc,Nat.mul_comm (2 ^ (-(p + 127 - lpZ p)).toNat),Nat.mul_assoc,Nat.mul_assoc,← Nat.pow_add,← Nat.pow_add,Nat.add_assoc]
  rw [e1,e2,show (p + 127 - lpZ p).toNat + i = (-(p + 127 - lpZ p)).toNat + p.toNat + j by omega]
 ·have hl:lpZ p ≤ p:=by unfold lpZ;omega
  rw [if_neg hp,if_neg hp,show p.toNat = 0 by omega,Nat.pow_zero,Nat.mul_one,show (10:Nat) = 5 * 2 from rfl,Nat.mul_pow]
  have e1:2 ^ (p + 127 - lpZ p).toNat * (5 ^ (-p).toNat * 2 ^ (-p).toNat) * 2 ^ i = 5 ^ (-p).toNat * 2 ^ ((p + 127 - lpZ p).toNat + (-p).toNat + i):=by
   rw [← Nat.mul_assoc,Nat.mul_comm (2 ^ (p + 127 - lpZ p).toNat),Nat.mul_assoc,Nat.mul_assoc,← Nat.pow_add,← Nat.pow_add,Nat.add_assoc]
  rw [e1,show (p + 127 - lpZ p).toNat + (-p).toNat + i = j by omega]
theorem prs_id (d b s k c:Nat) (p e:Int) (hb:b ≤ 64) (hs:(s:Int) = 61 - b - e - lpZ p) (hk:(k:Int) = 1074 - e + c) :
  d * 10 ^ p.toNat * k74 * (4 * 2 ^ c * (q64 * q64 * eB p * 2 ^ s)) = d * 2 ^ (64 - b) * eA p * 10 ^ (-p).toNat * 2 ^ k:=by
 have h:=base_pow p (64 - b + k) (52 + e22 + 2 + c + 128 + s) (by rw [e22_eq];omega)
 have e1:d * 2 ^ (64 - b) * eA p * 10 ^ (-p).toNat * 2 ^ k = d * (eA p * 10 ^ (-p).toNat * 2 ^ (64 - b + k)):=by
  rw [Nat.pow_add]
  generalize 2 ^ (64 - b) = A1
  generalize 2 ^ k = A2
  generalize eA p = A3
  generalize 10 ^ (-p).toNat = A4
  rw [Nat.mul_assoc d A1,Nat.mul_assoc d,Nat.mul_assoc d]
  congr 1
  rw [Nat.mul_comm A1 A3,Nat.mul_assoc A3 A1,Nat.mul_assoc A3,Nat.mul_assoc A3,Nat.mul_comm A1 A4,Nat.mul_assoc A4]
 have e2:d * 10 ^ p.toNat * k74 * (4 * 2 ^ c * (q64 * q64 * eB p * 2 ^ s)) = d * (eB p * 10 ^ p.toNat * 2 ^ (52 + e22 + 2 + c + 128 + s)):=by
  have e3:2 ^ (52 + e22 + 2 + c + 128 + s) = k74 * 4 * 2 ^ c * (q64 * q64) * 2 ^ s:=by
   rw [Nat.pow_add,Nat.pow_add,Nat.pow_add,Nat.pow_add,show 2 ^ (52 + e22) = k74 from rfl,show (2:Nat) ^ 2 = 4 from rfl,show (2:Nat) ^ 128 = q64 * q64 from rfl]
  rw [e3]
  generalize k74 = A1
  generalize 2 ^ c = A2
  generalize q64 * q64 = A3
  generalize 2 ^ s = A4
  generalize eB p = A5
  generalize 10 ^ p.toNat = A6
  rw [Nat.mul_assoc d,Nat.mul_assoc d]
  congr 1
  rw [Nat.mul_comm A5 A6,Nat.mul_assoc A6,Nat.mul_assoc A6]
  congr 1
  rw [Nat.mul_comm A3 A5]
  simp only [Nat.mul_assoc,Nat.mul_left_comm]
 rw [e1,e2,h]
end Go.Proofs.YtjlaoeigfokkiaaGreatDoor.mem
namespace Go.Proofs.YtjlaoeigfokkiaaGreatDoor.mem
set_option linter.unusedVariables false
theorem eB_pos (p:Int):0 < eB p:=by
 unfold eB
 split
 ·exact Nat.two_pow_pos _
 ·exact Nat.pow_pos (by decide)
theorem cmp_of {X V Y Z a b:Nat} (hY:0 < Y) (hZ:0 < Z) (h1:X * Y = a * Z) (h2:V * Y = b * Z):(X < V ↔ a < b) ∧ (X = V ↔ a = b):=by
 constructor
 ·rw [← Nat.mul_lt_mul_right hY,h1,h2,Nat.mul_lt_mul_right hZ]
 ·rw [← Nat.mul_right_cancel_iff hY,h1,h2,Nat.mul_right_cancel_iff hZ]
theorem sho_cmp (p:Int) (M x s t k c:Nat) (hs:1 ≤ s) (hx:x * 2 ^ k = M * 2 ^ (s - 1)) (ht:(t:Int) = 1071 + s - k - lpZ p) :
  (x * eA p < c * (4 * (q64 * q64 * eB p * 2 ^ t)) ↔ 10 ^ p.toNat * M < 2 * (c * 10 ^ (-p).toNat * k74)) ∧ (x * eA p = c * (4 * (q64 * q64 * eB p * 2 ^ t)) ↔ 10 ^ p.toNat * M = 2 * (c * 10 ^ (-p).toNat * k74)):=by
 obtain ⟨i,hi⟩:∃ i,i = (lpZ p - 127).toNat:=⟨_,rfl⟩
 obtain ⟨j,hj⟩:∃ j,j = (127 - lpZ p).toNat:=⟨_,rfl⟩
 have hb:=base_pow p i j (by omega)
 have hC:0 < 10 ^ (-p).toNat:=Nat.pow_pos (by decide)
 refine cmp_of (Y:=10 ^ (-p).toNat * 2 ^ i * 2 ^ k) (Z:=eB p * (2 ^ (s - 1) * 2 ^ j)) (Nat.mul_pos (Nat.mul_pos hC (Nat.two_pow_pos _)) (Nat.two_pow_pos _)) (Nat.mul_pos (eB_pos p) (Nat.mul_pos (Nat.two_pow_pos _) (Nat.two_pow_pos _))) ?_ ?_
 ·have e1:x * eA p * (10 ^ (-p).toNat * 2 ^ i * 2 ^ k) = (x * 2 ^ k) * (eA p * 10 ^ (-p).toNat * 2 ^ i):=by
   generalize eA p = A1
   generalize 10 ^ (-p).toNat = A2
   generalize 2 ^ i = A3
   generalize 2 ^ k = A4
   ac_rfl
  rw [e1,hb,hx]
  generalize eB p = A1
  generalize 10 ^ p.toNat = A2
  generalize 2 ^ j = A3
  generalize 2 ^ (s - 1) = A4
  ac_rfl
 ·have e3:4 * (q64 * q64) * 2 ^ t * 2 ^ i * 2 ^ k = 2 * k74 * (2 ^ (s - 1) * 2 ^ j):=by
   have a1:4 * (q64 * q64) * 2 ^ t * 2 ^ i * 2 ^ k = 2 ^ (130 + t + i + k):=by
    rw [Nat.pow_add,Nat.pow_add,Nat.pow_add,show (2:Nat) ^ 130 = 4 * (q64 * q64) from rfl]
   have a2:2 * k74 * (2 ^ (s - 1) * 2 ^ j) = 2 ^ (1 + (52 + e22) + (s - 1 + j)):=by
    rw [Nat.pow_add,Nat.pow_add 2 1,Nat.pow_add 2 (s - 1),show 2 ^ (52 + e22) = k74 from rfl,show (2:Nat) ^ 1 = 2 from rfl]
   rw [a1,a2,show 130 + t + i + k = 1 + (52 + e22) + (s - 1 + j) by rw [e22_eq];omega]
  have e1:c * (4 * (q64 * q64 * eB p * 2 ^ t)) * (10 ^ (-p).toNat * 2 ^ i * 2 ^ k) = c * 10 ^ (-p).toNat * eB p * (4 * (q64 * q64) * 2 ^ t * 2 ^ i * 2 ^ k):=by
   generalize eB p = A1
   generalize 10 ^ (-p).toNat = A2
   generalize 2 ^ i = A3
   generalize 2 ^ k = A4
   generalize 2 ^ t = A5
   generalize q64 * q64 = A6
   ac_rfl
  rw [e1,e3]
  generalize eB p = A1
  generalize 10 ^ (-p).toNat = A2
  generalize 2 ^ j = A3
  generalize 2 ^ (s - 1) = A4
  generalize k74 = A5
  ac_rfl
theorem sho_in (p:Int) (a x0 x1 s t k c:Nat) (hs:1 ≤ s) (hc:0 < c) (hx1p:0 < x1) (hx0:x0 * 2 ^ k = midR (a - 1) * 2 ^ (s - 1)) (hx1:x1 * 2 ^ k = midR a * 2 ^ (s - 1)) (ht:(t:Int) = 1071 + s - k - lpZ p) (hA:0 < eA p) :
  InR (c * 10 ^ (-p).toNat * k74) (10 ^ p.toNat) a ↔ (un (x0 * eA p) (q64 * q64 * eB p * 2 ^ t) + a % 2 + 3) / 4 ≤ c ∧ c ≤ (un (x1 * eA p) (q64 * q64 * eB p * 2 ^ t) - a % 2) / 4:=by
 obtain ⟨l1,l2⟩:=sho_cmp p (midR (a - 1)) x0 s t k c hs hx0 ht
 obtain ⟨g1,g2⟩:=sho_cmp p (midR a) x1 s t k c hs hx1 ht
 have hW:0 < q64 * q64 * eB p * 2 ^ t:=Nat.mul_pos (Nat.mul_pos (by decide) (eB_pos p)) (Nat.two_pow_pos _)
 have hX1:0 < x1 * eA p:=Nat.mul_pos hx1p hA
 unfold InR
 rw [← l1,← l2]
 have hg:2 * (c * 10 ^ (-p).toNat * k74) < 10 ^ p.toNat * midR a ↔ c * (4 * (q64 * q64 * eB p * 2 ^ t)) < x1 * eA p:=by
  omega
 rw [hg,eq_comm (a:=2 * (c * 10 ^ (-p).toNat * k74)),← g2]
 generalize x1 * eA p = X1 at *
 generalize x0 * eA p = X0 at *
 generalize q64 * q64 * eB p * 2 ^ t = W at *
 have c1:=un_ceil X0 W c hW
 have c2:=un_ceil_odd X0 W c hW
 have f1:=un_floor X1 W c hW
 have f2:=un_floor_odd X1 W c hW hX1
 generalize c * (4 * W) = V at *
 rcases (show a % 2 = 0 ∨ a % 2 = 1 by omega) with h | h
 ·rw [h];simp only [Nat.add_zero,Nat.sub_zero]
  rw [c1,f1]
  clear hg l1 l2 g1 g2 c1 c2 f1 f2
  constructor
  ·rintro ⟨a1,a2⟩
   exact ⟨by omega,by omega⟩
  ·rintro ⟨a1,a2⟩
   refine ⟨?_,?_⟩
   ·rcases Nat.lt_or_eq_of_le a1 with a1 | a1
    ·exact Or.inl a1
    ·exact Or.inr ⟨a1,trivial⟩
   ·rcases Nat.lt_or_eq_of_le a2 with a2 | a2
    ·exact Or.inl a2
    ·exact Or.inr ⟨a2.symm,trivial⟩
 ·rw [h,c2,f2]
  clear hg l1 l2 g1 g2 c1 c2 f1 f2
  constructor
  ·rintro ⟨a1 | ⟨_,a1⟩,a2 | ⟨_,a2⟩⟩
   ·exact ⟨a1,Or.inr a2⟩
   all_goals exact absurd ‹1 = 0› (by decide)
  ·rintro ⟨a1,a2⟩
   exact ⟨Or.inl a1,Or.inl (by omega)⟩
end Go.Proofs.YtjlaoeigfokkiaaGreatDoor.mem
namespace Go.Proofs.YtjlaoeigfokkiaaGreatDoor.mem
set_option linter.unusedVariables false
def lgZ (E:Int):Int:=E * 78913 / 262144
def skZ (E:Int):Int:=(E * 631305 - 261663) / 2097152
def pG (k:Nat):Int:=- lgZ ((k:Int) - 1074)
def pS (k:Nat):Int:=- skZ ((k:Int) - 1074)
def rowG (k:Nat):Bool:=
 decide (-348 ≤ pG k) && decide (pG k ≤ 347) && decide (10 ^ (-(pG k)).toNat * k74 ≤ 2 ^ k * 10 ^ (pG k).toNat) && decide (2 ^ k * 10 ^ (pG k).toNat < 10 * (10 ^ (-(pG k)).toNat * k74))
 && (decide (10 ^ (-(pG k)).toNat * k74 < 2 ^ k * 10 ^ (pG k).toNat) || decide (pG k = 0)) && decide ((5:Int) ≤ 1082 - k - lpZ (pG k)) && decide (1082 - k - lpZ (pG k) ≤ (11:Int))
def tS (k:Nat):Nat:=(1082 - (k:Int) - lpZ (pS k)).toNat
def wS (k:Nat):Nat:=q64 * q64 * eB (pS k) * 2 ^ tS k
def minS (k:Nat):Nat:=(un (((4 * b52 - 1) * 512) * eA (pS k)) (wS k) + 3) / 4
def maxS (k:Nat):Nat:=un (((2 * b52 + 1) * 1024) * eA (pS k)) (wS k) / 4
def midS (k:Nat):Nat:=(un ((b52 * 2048) * eA (pS k)) (wS k) + 1 + un ((b52 * 2048) * eA (pS k)) (wS k) / 4 % 2) / 4
def rowS (k:Nat):Bool:=
 decide (-348 ≤ pS k) && decide (pS k ≤ 347) && decide ((5:Int) ≤ 1082 - k - lpZ (pS k)) && decide (1082 - k - lpZ (pS k) ≤ (63:Int))
 && decide (0 < minS k) && decide (minS k ≤ maxS k) && decide (maxS k < minS k + 10) && (decide (minS k ≤ maxS k / 10 * 10) || decide (minS k = maxS k) || (decide (minS k ≤ midS k) && decide (midS k ≤ maxS k)))
theorem okG:(List.range 2046).all rowG = true:=by decide +kernel
theorem okS:(List.range 2046).all rowS = true:=by decide +kernel
end Go.Proofs.YtjlaoeigfokkiaaGreatDoor.mem
namespace Go.Proofs.YtjlaoeigfokkiaaGreatDoor.mem
set_option linter.unusedVariables false
theorem mant_of {q k:Nat} (h:q < b53) (h2:b52 ≤ q ∨ k = 0):mantR (q + k * b52) = q ∧ exR (q + k * b52) = k ∧ q % 2 = (q + k * b52) % 2:=by
 unfold mantR exR
 unfold b52 b53 at *
 rcases h2 with h2 | h2
 ·rw [if_neg (by omega)]
  refine ⟨by omega,by omega,by omega⟩
 ·subst h2
  split <;> refine ⟨by omega,by omega,by omega⟩
theorem rne_bd {X D:Nat} (hD:0 < D) {M:Nat} (h:X < M * D) (h2:2 * X + D < 2 * (M * D)):rne X D < M:=by
 have hdm:=Nat.div_add_mod X D
 have hml:=Nat.mod_lt X hD
 have hq:X / D < M:=Nat.div_lt_of_lt_mul (by rw [Nat.mul_comm];exact h)
 unfold rne
 split
 ·rename_i hc
  by_cases e:X / D + 1 = M
  ·exfalso
   have:M * D = D * (X / D) + D:=by rw [← e,Nat.add_mul,Nat.one_mul,Nat.mul_comm]
   omega
  ·omega
 ·exact hq
theorem prs_core {P Bn X W k:Nat} (hW:0 < W) (hBn:0 < Bn) (hid:P * (4 * W) = X * Bn * 2 ^ k)
  (hr:(4 * b52 * W ≤ X ∧ X * 1000 < 999 * (16 * b52 * W)) ∨ (k = 0 ∧ X * 1000 < 999 * (8 * b52 * W))) :
  ∃ lo,Lo P Bn lo ∧
   (un X W < 4 * b53 - 2 → roundR P Bn lo = (un X W + 1 + un X W / 4 % 2) / 4 + k * b52 ∧ (un X W + 1 + un X W / 4 % 2) / 4 < b53 ∧ (b52 ≤ (un X W + 1 + un X W / 4 % 2) / 4 ∨ k = 0)) ∧
   (4 * b53 - 2 ≤ un X W → roundR P Bn lo = (((un X W / 2) ||| (un X W % 2)) + 1 + ((un X W / 2) ||| (un X W % 2)) / 4 % 2) / 4 + (k + 1) * b52 ∧ b52 ≤ (((un X W / 2) ||| (un X W % 2)) + 1 + ((un X W / 2) ||| (un X W % 2)) / 4 % 2) / 4 ∧ (((un X W / 2) ||| (un X W % 2)) + 1 + ((un X W / 2) ||| (un X W % 2)) / 4 % 2) / 4 < b53):=by
 obtain ⟨h1,h2⟩:=un_parts X W
 rw [un_half X W hW,un_round X W hW,un_round X (2 * W) (by omega)]
 have e8:4 * (2 * W) = 8 * W:=by omega
 rw [e8]
 have hid1:P * (8 * W) = X * Bn * 2 ^ (k + 1):=by
  rw [Nat.pow_succ,← Nat.mul_assoc (X * Bn),← hid,Nat.mul_assoc P]
  congr 1
  omega
 have hdm:=Nat.div_add_mod X W
 have hml:=Nat.mod_lt X hW
 obtain ⟨F,hF⟩:∃ F,F = X / W:=⟨_,rfl⟩
 have hq4:X / (4 * W) = F / 4:=by rw [Nat.mul_comm,← Nat.div_div_eq_div_mul,← hF]
 have hq8:X / (8 * W) = F / 8:=by rw [Nat.mul_comm,← Nat.div_div_eq_div_mul,← hF]
 rw [← hF] at h1 h2 hdm
 have hFX:W * F ≤ X:=by omega
 by_cases hu:un X W < 4 * b53 - 2
 ·-- not halved
  have hF2:F < 4 * b53 - 2:=by unfold b53 at *;omega
  have hXl:X < (4 * b53 - 2) * W:=by
   have:W * (F + 1) ≤ W * (4 * b53 - 2):=Nat.mul_le_mul_left _ hF2
   rw [Nat.mul_add,Nat.mul_one] at this
   rw [Nat.mul_comm _ W]
   omega
  have hq:X / (4 * W) < b53:=by rw [hq4];unfold b53 at *;omega
  have hlow:b52 ≤ X / (4 * W) ∨ k = 0:=by
   rcases hr with ⟨hr,_⟩ | ⟨hr,_⟩
   ·left
    refine (Nat.le_div_iff_mul_le (by omega)).2 ?_
    rw [← Nat.mul_assoc,Nat.mul_comm b52 4];exact hr
   ·right;exact hr
  obtain ⟨m1,m2,m3⟩:=mant_of hq hlow
  obtain ⟨l1,l2⟩:=rung_of (by omega) hBn hid rfl m1 m2 m3
  refine ⟨_,l1,fun _ => ⟨l2,?_,?_⟩,fun h => absurd h (by omega)⟩
  ·refine rne_bd (by omega) ?_ ?_
   ·unfold b53 at *;omega
   ·unfold b53 at *;omega
  ·rcases hlow with hl | hl
   ·left
    refine Nat.le_trans hl ?_
    unfold rne
    split <;> omega
   ·right;exact hl
 ·have hF2:4 * b53 - 2 ≤ F:=by unfold b53 at *;omega
  have hXl:(4 * b53 - 2) * W ≤ X:=by
   have:W * (4 * b53 - 2) ≤ W * F:=Nat.mul_le_mul_left _ hF2
   rw [Nat.mul_comm _ W]
   omega
  have hr2:X * 1000 < 999 * (16 * b52 * W) ∧ 4 * b52 * W ≤ X:=by
   rcases hr with ⟨hr,hr2⟩ | ⟨_,hr⟩
   ·exact ⟨hr2,hr⟩
   ·exfalso
    unfold b52 b53 at *
    omega
  obtain ⟨hr3,hr4⟩:=hr2
  have hup:rne X (8 * W) < b53:=by
   refine rne_bd (by omega) ?_ ?_
   ·unfold b52 b53 at *;omega
   ·unfold b52 b53 at *;omega
  by_cases hF3:4 * b53 ≤ F
  ·have hXl3:4 * b53 * W ≤ X:=by
    have:W * (4 * b53) ≤ W * F:=Nat.mul_le_mul_left _ hF3
    rw [Nat.mul_comm _ W]
    omega
   have hq:X / (8 * W) < b53:=Nat.div_lt_of_lt_mul (by unfold b52 b53 at *;omega)
   have hlow:b52 ≤ X / (8 * W):=by rw [hq8];unfold b52 b53 at *;omega
   obtain ⟨m1,m2,m3⟩:=mant_of (k:=k + 1) hq (Or.inl hlow)
   obtain ⟨l1,l2⟩:=rung_of (by omega) hBn hid1 rfl m1 m2 m3
   refine ⟨_,l1,fun h => absurd h hu,fun _ => ⟨l2,?_,hup⟩⟩
   refine Nat.le_trans hlow ?_
   unfold rne
   split <;> omega
  ·have hqe:X / (4 * W) = b53 - 1:=by rw [hq4];unfold b53 at *;omega
   have hq8e:X / (8 * W) = b52 - 1:=by rw [hq8];unfold b52 b53 at *;omega
   obtain ⟨m1,m2,m3⟩:=mant_of (q:=X / (4 * W)) (k:=k) (by rw [hqe];unfold b53;omega) (Or.inl (by rw [hqe];unfold b52 b53;omega))
   obtain ⟨l1,l2⟩:=rung_of (by omega) hBn hid rfl m1 m2 m3
   have r4:rne X (4 * W) = b53:=by
    have hd4:=Nat.div_add_mod X (4 * W)
    unfold rne
    rw [hqe] at hd4 ⊢
    rw [if_pos]
    ·unfold b53;omega
    ·have:4 * W * (b53 - 1) = (4 * b53 - 4) * W:=by
      unfold b53;omega
     rw [this] at hd4
     by_cases hx:4 * W < 2 * (X % (4 * W))
     ·left;exact hx
     ·right
      constructor
      ·unfold b53 at *;omega
      ·unfold b53;decide
   have r8:rne X (8 * W) = b52:=by
    have hd8:=Nat.div_add_mod X (8 * W)
    unfold rne
    rw [hq8e] at hd8 ⊢
    rw [if_pos]
    ·unfold b52;omega
    ·left
     unfold b52 b53 at *
     omega
   refine ⟨_,l1,fun h => absurd h hu,fun _ => ⟨?_,?_,hup⟩⟩
   ·rw [l2,r4,r8];unfold b52 b53;omega
   ·rw [r8];exact Nat.le_refl _
theorem prs_rng (p:Int) (h0:-348 ≤ p) (h1:p ≤ 347) (x s:Nat) (hx0:9223372036854775808 ≤ x) (hx:x < q64) :
  (s = 8 → 4 * b52 * (q64 * q64 * eB p * 2 ^ s) ≤ x * eA p ∧ x * eA p * 1000 < 999 * (16 * b52 * (q64 * q64 * eB p * 2 ^ s))) ∧ (9 ≤ s → x * eA p * 1000 < 999 * (8 * b52 * (q64 * q64 * eB p * 2 ^ s))) ∧ (64 ≤ s → x * eA p * 1000 < 999 * (q64 * q64 * eB p * 2 ^ s)):=by
 obtain ⟨r1,r2⟩:=row_range p h0 h1
 have hBp:0 < eB p:=by
  unfold eB
  split
  ·exact Nat.two_pow_pos _
  ·exact Nat.pow_pos (by decide)
 generalize eA p = A at *
 generalize eB p = B at *
 have hup:x * A * 1000 < 999 * (q64 * (q64 * q64 * B)):=by
  have a1:x * A * 1000 ≤ x * (999 * (q64 * q64 * B)):=by
   rw [Nat.mul_assoc];exact Nat.mul_le_mul_left _ r2
  have a2:x * (999 * (q64 * q64 * B)) < q64 * (999 * (q64 * q64 * B)):=by
   refine Nat.mul_lt_mul_of_pos_right hx ?_
   unfold q64
   omega
  have a3:q64 * (999 * (q64 * q64 * B)) = 999 * (q64 * (q64 * q64 * B)):=Nat.mul_left_comm _ _ _
  omega
 have grow:∀ s0,s0 ≤ s → q64 * q64 * B * 2 ^ s0 ≤ q64 * q64 * B * 2 ^ s:=fun s0 h => Nat.mul_le_mul_left _ (Nat.pow_le_pow_right (by decide) h)
 refine ⟨fun h => ?_,fun h => ?_,fun h => ?_⟩
 ·subst h
  have a1:9223372036854775808 * (2 ^ 127 * B) ≤ x * A:=Nat.mul_le_mul hx0 r1
  constructor
  ·refine Nat.le_trans ?_ a1
   unfold b52 q64
   omega
  ·refine Nat.lt_of_lt_of_le hup ?_
   unfold b52 q64
   omega
 ·refine Nat.lt_of_lt_of_le hup ?_
  have g:=grow 9 h
  generalize q64 * q64 * B * 2 ^ s = W at *
  unfold b52
  unfold q64 at *
  omega
 ·refine Nat.lt_of_lt_of_le hup ?_
  have g:=grow 64 h
  generalize q64 * q64 * B * 2 ^ s = W at *
  unfold q64 at *
  omega
theorem prs_ok (d b s k:Nat) (p e:Int) (h0:-348 ≤ p) (h1:p ≤ 347) (hb:b ≤ 64) (hx0:9223372036854775808 ≤ d * 2 ^ (64 - b)) (hx:d * 2 ^ (64 - b) < q64)
  (he:e = min 1074 (53 - b - lpZ p)) (hs:(s:Int) = 61 - b - e - lpZ p) (hk:(k:Int) = 1074 - e) (u:Nat) (hu:u = un (d * 2 ^ (64 - b) * eA p) (q64 * q64 * eB p * 2 ^ s)) :
  ∃ lo,Lo (d * 10 ^ p.toNat * k74) (10 ^ (-p).toNat) lo ∧
   (u < 4 * b53 - 2 → roundR (d * 10 ^ p.toNat * k74) (10 ^ (-p).toNat) lo = (u + 1 + u / 4 % 2) / 4 + k * b52 ∧ (u + 1 + u / 4 % 2) / 4 < b53 ∧ (b52 ≤ (u + 1 + u / 4 % 2) / 4 ∨ k = 0)) ∧
   (4 * b53 - 2 ≤ u → roundR (d * 10 ^ p.toNat * k74) (10 ^ (-p).toNat) lo = (((u / 2) ||| (u % 2)) + 1 + ((u / 2) ||| (u % 2)) / 4 % 2) / 4 + (k + 1) * b52 ∧ b52 ≤ (((u / 2) ||| (u % 2)) + 1 + ((u / 2) ||| (u % 2)) / 4 % 2) / 4 ∧ (((u / 2) ||| (u % 2)) + 1 + ((u / 2) ||| (u % 2)) / 4 % 2) / 4 < b53) ∧
   (64 ≤ s → roundR (d * 10 ^ p.toNat * k74) (10 ^ (-p).toNat) lo = 0):=by
 subst hu
 obtain ⟨g1,g2,g3⟩:=prs_rng p h0 h1 (d * 2 ^ (64 - b)) s hx0 hx
 have hBp:0 < eB p:=by
  unfold eB
  split
  ·exact Nat.two_pow_pos _
  ·exact Nat.pow_pos (by decide)
 have hid:=prs_id d b s k 0 p e hb hs (by omega)
 rw [Nat.pow_zero,Nat.mul_one] at hid
 have hW:0 < q64 * q64 * eB p * 2 ^ s:=Nat.mul_pos (Nat.mul_pos (by decide) hBp) (Nat.two_pow_pos _)
 have hTen:0 < 10 ^ (-p).toNat:=Nat.pow_pos (by decide)
 have hcase:s = 8 ∨ (9 ≤ s ∧ k = 0):=by
  by_cases h:(53:Int) - b - lpZ p ≤ 1074
  ·left;omega
  ·right;omega
 have hr:(4 * b52 * (q64 * q64 * eB p * 2 ^ s) ≤ d * 2 ^ (64 - b) * eA p ∧ d * 2 ^ (64 - b) * eA p * 1000 < 999 * (16 * b52 * (q64 * q64 * eB p * 2 ^ s))) ∨ (k = 0 ∧ d * 2 ^ (64 - b) * eA p * 1000 < 999 * (8 * b52 * (q64 * q64 * eB p * 2 ^ s))):=by
  rcases hcase with h | ⟨h,hk0⟩
  ·left;exact g1 h
  ·right;exact ⟨hk0,g2 h⟩
 generalize d * 2 ^ (64 - b) * eA p = X at *
 generalize q64 * q64 * eB p * 2 ^ s = W at *
 generalize d * 10 ^ p.toNat * k74 = P at *
 generalize 10 ^ (-p).toNat = Bn at *
 obtain ⟨lo,l1,l2,l3⟩:=prs_core hW hTen hid hr
 refine ⟨lo,l1,l2,l3,fun h64 => ?_⟩
 have g:=g3 h64
 have hk0:k = 0:=by omega
 have hXW:X < W:=by omega
 have hun:un X W ≤ 1:=by
  obtain ⟨p1,_⟩:=un_parts X W
  rw [Nat.div_eq_of_lt hXW] at p1
  omega
 have hlt:un X W < 4 * b53 - 2:=by unfold b53;omega
 rw [(l2 hlt).1,hk0]
 omega
end Go.Proofs.YtjlaoeigfokkiaaGreatDoor.mem
namespace Go.Proofs.YtjlaoeigfokkiaaGreatDoor.mem
set_option linter.unusedVariables false
theorem row_g {k:Nat} (hk:k < 2046):(-348 ≤ pG k ∧ pG k ≤ 347) ∧ 10 ^ (-(pG k)).toNat * k74 ≤ 2 ^ k * 10 ^ (pG k).toNat ∧ 2 ^ k * 10 ^ (pG k).toNat < 10 * (10 ^ (-(pG k)).toNat * k74) ∧ (5:Int) ≤ 1082 - k - lpZ (pG k) ∧ 1082 - k - lpZ (pG k) ≤ (11:Int):=by
 have h:=List.all_eq_true.1 okG k (List.mem_range.2 hk)
 unfold rowG at h
 simp only [Bool.and_eq_true,decide_eq_true_eq] at h
 obtain ⟨⟨⟨⟨⟨⟨h1,h2⟩,h3⟩,h4⟩,_⟩,h5⟩,h6⟩:=h
 exact ⟨⟨h1,h2⟩,h3,h4,h5,h6⟩
theorem row_s {k:Nat} (hk:k < 2046):(-348 ≤ pS k ∧ pS k ≤ 347) ∧ ((5:Int) ≤ 1082 - k - lpZ (pS k) ∧ 1082 - k - lpZ (pS k) ≤ (63:Int)) ∧ 0 < minS k ∧ minS k ≤ maxS k ∧ maxS k < minS k + 10 ∧ (minS k ≤ maxS k / 10 * 10 ∨ minS k = maxS k ∨ (minS k ≤ midS k ∧ midS k ≤ maxS k)):=by
 have h:=List.all_eq_true.1 okS k (List.mem_range.2 hk)
 unfold rowS at h
 simp only [Bool.and_eq_true,Bool.or_eq_true,decide_eq_true_eq] at h
 obtain ⟨⟨⟨⟨⟨⟨⟨h1,h2⟩,h3⟩,h4⟩,h5⟩,h6⟩,h7⟩,h8⟩:=h
 refine ⟨⟨h1,h2⟩,⟨h3,h4⟩,h5,h6,h7,?_⟩
 rcases h8 with (h8 | h8) | h8
 ·exact Or.inl h8
 ·exact Or.inr (Or.inl h8)
 ·exact Or.inr (Or.inr h8)
theorem rne_near (X D:Nat) (hD:0 < D):2 * (rne X D * D) ≤ 2 * X + D ∧ 2 * X ≤ 2 * (rne X D * D) + D:=by
 have hdm:=Nat.div_add_mod X D
 have hml:=Nat.mod_lt X hD
 have e1:(X / D + 1) * D = D * (X / D) + D:=by rw [Nat.add_mul,Nat.one_mul,Nat.mul_comm]
 have e2:X / D * D = D * (X / D):=Nat.mul_comm _ _
 unfold rne
 split
 ·rw [e1];omega
 ·rw [e2];omega
theorem rne_mul (m D:Nat) (hD:0 < D):rne (m * D) D = m:=by
 unfold rne
 rw [Nat.mul_mod_left,Nat.mul_div_cancel _ hD,if_neg (by omega)]
theorem un_pos {X W:Nat} (hX:0 < X):0 < un X W:=by
 obtain ⟨h1,h2⟩:=un_parts X W
 by_cases h:un X W = 0
 ·exfalso
  have hn:¬ (X / W % 2 = 1 ∨ X % W ≠ 0):=fun h' => by have:=h2.2 h';omega
  have a1:X / W = 0:=by omega
  have a2:X % W = 0:=by omega
  have:=Nat.div_add_mod X W
  rw [a1,a2] at this
  omega
 ·omega
theorem sho_mid {Xv U h W o mant:Nat} (hW:0 < W) (hm:0 < mant) (ho:o < 2) (hU:U = 2 * h) (hXv:Xv = mant * U) (hlo:4 * W ≤ U) (hhi:U < 10 * (4 * W)) :
  0 < (un (Xv - h) W + o + 3) / 4 ∧ (un (Xv + h) W - o) / 4 < (un (Xv - h) W + o + 3) / 4 + 10 ∧ (un (Xv - h) W + o + 3) / 4 ≤ (un Xv W + 1 + un Xv W / 4 % 2) / 4 ∧ (un Xv W + 1 + un Xv W / 4 % 2) / 4 ≤ (un (Xv + h) W - o) / 4:=by
 have hUX:U ≤ Xv:=by rw [hXv];exact Nat.le_mul_of_pos_left _ hm
 have hh:0 < h:=by omega
 have F1:∀ c,Xv - h < c * (4 * W) → (un (Xv - h) W + o + 3) / 4 ≤ c:=by
  intro c hc
  have:=(un_ceil_odd (Xv - h) W c hW).2 hc
  omega
 have F2:∀ c,c * (4 * W) < Xv + h → c ≤ (un (Xv + h) W - o) / 4:=by
  intro c hc
  have:=(un_floor_odd (Xv + h) W c hW (by omega)).2 (Or.inr hc)
  omega
 have F3:∀ c,(un (Xv - h) W + o + 3) / 4 ≤ c → Xv - h ≤ c * (4 * W):=by
  intro c hc
  exact (un_ceil (Xv - h) W c hW).1 (by omega)
 have F4:∀ c,c ≤ (un (Xv + h) W - o) / 4 → c * (4 * W) ≤ Xv + h:=by
  intro c hc
  exact (un_floor (Xv + h) W c hW).1 (by omega)
 refine ⟨?_,?_,?_,?_⟩
 ·have:=un_pos (X:=Xv - h) (W:=W) (by omega)
  omega
 ·have a1:=F3 _ (Nat.le_refl _)
  have a2:=F4 _ (Nat.le_refl _)
  generalize (un (Xv - h) W + o + 3) / 4 = d0 at *
  generalize (un (Xv + h) W - o) / 4 = d1 at *
  have:d1 * (4 * W) < (d0 + 10) * (4 * W):=by
   rw [Nat.add_mul d0 10];omega
  exact Nat.lt_of_mul_lt_mul_right this
 ·rw [un_round Xv W hW]
  refine F1 _ ?_
  by_cases e:U = 4 * W
  ·rw [hXv,e,rne_mul _ _ (by omega),← e,← hXv];omega
  ·have:=(rne_near Xv (4 * W) (by omega)).2
   omega
 ·rw [un_round Xv W hW]
  refine F2 _ ?_
  by_cases e:U = 4 * W
  ·rw [hXv,e,rne_mul _ _ (by omega),← e,← hXv];omega
  ·have:=(rne_near Xv (4 * W) (by omega)).1
   omega
theorem mid_pre {a:Nat} (ha:0 < a):midR (a - 1) + 2 ^ exR (a - 1) = 2 * vR a:=by
 have h:=vR_succ (a - 1)
 rw [Nat.sub_add_cancel ha] at h
 unfold midR
 omega
end Go.Proofs.YtjlaoeigfokkiaaGreatDoor.mem
namespace Go.Proofs.YtjlaoeigfokkiaaGreatDoor.mem
set_option linter.unusedVariables false
theorem mant_rng {a:Nat} (ha:0 < a) (hai:a < infR):0 < mantR a ∧ mantR a < b53 ∧ exR a < 2046 ∧ mantR a % 2 = a % 2:=by
 unfold mantR exR
 unfold b52 b53 infR at *
 split <;> refine ⟨by omega,by omega,by omega,by omega⟩
theorem ex_pre {a:Nat} (ha:0 < a):(¬ (mantR a = b52 ∧ 0 < exR a) → exR (a - 1) = exR a) ∧ (mantR a = b52 ∧ 0 < exR a → exR (a - 1) + 1 = exR a ∧ a % 2 = 0):=by
 unfold mantR exR
 unfold b52 at *
 split
 ·refine ⟨fun h => by omega,fun h => by omega⟩
 ·refine ⟨fun h => by omega,fun h => by omega⟩
theorem eA_pos {p:Int} (h0:-348 ≤ p) (h1:p ≤ 347):0 < eA p:=by
 have:=(row_range p h0 h1).1
 have h2:0 < 2 ^ 127 * eB p:=Nat.mul_pos (by decide) (eB_pos p)
 omega
theorem s_rng {a s:Nat} (h0:0 < mantR a) (h1:mantR a < b53) (hs0:9223372036854775808 ≤ mantR a * 2 ^ s) (hs1:mantR a * 2 ^ s < q64):11 ≤ s ∧ s < 64:=by
 constructor
 ·by_cases h:s ≤ 10
  ·exfalso
   have a1:2 ^ s ≤ 2 ^ 10:=Nat.pow_le_pow_right (by decide) h
   have a2:mantR a * 2 ^ s ≤ mantR a * 2 ^ 10:=Nat.mul_le_mul_left _ a1
   unfold b53 at h1
   omega
  ·omega
 ·by_cases h:64 ≤ s
  ·exfalso
   have a1:2 ^ 64 ≤ 2 ^ s:=Nat.pow_le_pow_right (by decide) h
   have a2:1 * 2 ^ s ≤ mantR a * 2 ^ s:=Nat.mul_le_mul_right _ h0
   unfold q64 at hs1
   omega
  ·omega
theorem sho_sym (a s t:Nat) (p:Int) (ha:0 < a) (hai:a < infR) (hs0:9223372036854775808 ≤ mantR a * 2 ^ s) (hs1:mantR a * 2 ^ s < q64) (hsk:¬ (mantR a = b52 ∧ 0 < exR a)) (hp:p = pG (exR a)) (ht:t = (1071 + s - exR a - lpZ p).toNat)
  {dmin dmax r W:Nat} (hW:W = q64 * q64 * eB p * 2 ^ t) (hmin:dmin = (un ((mantR a * 2 ^ s - 2 ^ (s - 1)) * eA p) W + a % 2 + 3) / 4) (hmax:dmax = (un ((mantR a * 2 ^ s + 2 ^ (s - 1)) * eA p) W - a % 2) / 4)
  (hr:r = (un (mantR a * 2 ^ s * eA p) W + 1 + un (mantR a * 2 ^ s * eA p) W / 4 % 2) / 4) :
  (-348 ≤ p ∧ p ≤ 347) ∧ ((t:Int) = 1071 + s - exR a - lpZ p ∧ 5 ≤ t ∧ t < 64) ∧ 0 < dmin ∧ dmin ≤ dmax ∧ dmax < dmin + 10 ∧ (dmin ≤ r ∧ r ≤ dmax) ∧ r = rne (mantR a * 2 ^ s * eA p) (4 * W) ∧ ∀ c,0 < c → (InR (c * 10 ^ (-p).toNat * k74) (10 ^ p.toNat) a ↔ dmin ≤ c ∧ c ≤ dmax):=by
 obtain ⟨m0,m1,hk,hodd⟩:=mant_rng ha hai
 obtain ⟨hs11,hs64⟩:=s_rng m0 m1 hs0 hs1
 obtain ⟨hp2,g1,g2,g3,g4⟩:=row_g hk
 rw [← hp] at hp2 g1 g2 g3 g4
 have htI:(t:Int) = 1071 + s - exR a - lpZ p:=by omega
 have hWp:0 < W:=by rw [hW];exact Nat.mul_pos (Nat.mul_pos (by decide) (eB_pos p)) (Nat.two_pow_pos _)
 have hA:=eA_pos hp2.1 hp2.2
 have hs2:2 ^ s = 2 * 2 ^ (s - 1):=by
  rw [← Nat.pow_succ'];congr 1;omega
 have hex:=(ex_pre ha).1 hsk
 have hmp:=mid_pre ha
 rw [hex] at hmp
 have hv:vR a = mantR a * 2 ^ exR a:=rfl
 have hkp:=Nat.two_pow_pos (exR a)
 have hx0:(mantR a * 2 ^ s - 2 ^ (s - 1)) * 2 ^ exR a = midR (a - 1) * 2 ^ (s - 1):=by
  have e1:midR (a - 1) = (2 * mantR a - 1) * 2 ^ exR a:=by
   rw [Nat.sub_mul,Nat.one_mul,Nat.mul_assoc,← hv];omega
  have e2:mantR a * 2 ^ s - 2 ^ (s - 1) = (2 * mantR a - 1) * 2 ^ (s - 1):=by
   rw [hs2,Nat.sub_mul,Nat.one_mul,Nat.mul_left_comm,Nat.mul_assoc]
  rw [e1,e2];exact Nat.mul_right_comm _ _ _
 have hx1:(mantR a * 2 ^ s + 2 ^ (s - 1)) * 2 ^ exR a = midR a * 2 ^ (s - 1):=by
  have e1:midR a = (2 * mantR a + 1) * 2 ^ exR a:=by
   unfold midR
   rw [Nat.add_mul,Nat.one_mul,Nat.mul_assoc,← hv]
  have e2:mantR a * 2 ^ s + 2 ^ (s - 1) = (2 * mantR a + 1) * 2 ^ (s - 1):=by
   rw [hs2,Nat.add_mul,Nat.one_mul,Nat.mul_left_comm,Nat.mul_assoc]
  rw [e1,e2];exact Nat.mul_right_comm _ _ _
 have hxu:2 ^ s * 2 ^ exR a = (2 * 2 ^ exR a) * 2 ^ (s - 1):=by rw [hs2];exact Nat.mul_right_comm _ _ _
 obtain ⟨w1,w2⟩:=sho_cmp p (2 * 2 ^ exR a) (2 ^ s) s t (exR a) 1 (by omega) hxu htI
 obtain ⟨w3,_⟩:=sho_cmp p (2 * 2 ^ exR a) (2 ^ s) s t (exR a) 10 (by omega) hxu htI
 rw [← hW,Nat.one_mul,Nat.one_mul] at w1
 rw [← hW] at w3
 have hlo:4 * W ≤ 2 ^ s * eA p:=by
  refine Nat.le_of_not_lt fun h => ?_
  have:=w1.1 h
  rw [Nat.mul_left_comm,Nat.mul_comm (10 ^ p.toNat)] at this
  omega
 have hhi:2 ^ s * eA p < 10 * (4 * W):=by
  refine w3.2 ?_
  rw [Nat.mul_left_comm,Nat.mul_comm (10 ^ p.toNat),Nat.mul_assoc 10]
  omega
 have hmid:=sho_mid (Xv:=mantR a * 2 ^ s * eA p) (U:=2 ^ s * eA p) (h:=2 ^ (s - 1) * eA p) (W:=W) (o:=a % 2) (mant:=mantR a) hWp m0 (Nat.mod_lt _ (by decide)) (by rw [hs2,Nat.mul_assoc]) (Nat.mul_assoc _ _ _) hlo hhi
 rw [← Nat.sub_mul,← Nat.add_mul,← hmin,← hmax,← hr] at hmid
 obtain ⟨q1,q2,q3,q4⟩:=hmid
 refine ⟨hp2,⟨htI,by omega,by omega⟩,q1,by omega,q2,⟨q3,q4⟩,by rw [hr,un_round _ _ hWp],fun c hc => ?_⟩
 have:=sho_in p a (mantR a * 2 ^ s - 2 ^ (s - 1)) (mantR a * 2 ^ s + 2 ^ (s - 1)) s t (exR a) c (by omega) hc (Nat.add_pos_right _ (Nat.two_pow_pos _)) hx0 hx1 htI hA
 rw [← hW,← hmin,← hmax] at this
 exact this
theorem sho_skew (a t:Nat) (p:Int) (ha:0 < a) (hai:a < infR) (hsk:mantR a = b52 ∧ 0 < exR a) (hp:p = pS (exR a)) (ht:t = (1082 - exR a - lpZ p).toNat)
  {dmin dmax r W:Nat} (hW:W = q64 * q64 * eB p * 2 ^ t) (hmin:dmin = (un ((mantR a * 2048 - 512) * eA p) W + a % 2 + 3) / 4) (hmax:dmax = (un ((mantR a * 2048 + 1024) * eA p) W - a % 2) / 4)
  (hr:r = (un (mantR a * 2048 * eA p) W + 1 + un (mantR a * 2048 * eA p) W / 4 % 2) / 4) :
  (-348 ≤ p ∧ p ≤ 347) ∧ ((t:Int) = 1082 - exR a - lpZ p ∧ 5 ≤ t ∧ t < 64) ∧ 0 < dmin ∧ dmin ≤ dmax ∧ dmax < dmin + 10 ∧ (¬ dmin ≤ dmax / 10 * 10 → dmin < dmax → dmin ≤ r ∧ r ≤ dmax) ∧ r = rne (mantR a * 2048 * eA p) (4 * W) ∧ ∀ c,0 < c → (InR (c * 10 ^ (-p).toNat * k74) (10 ^ p.toNat) a ↔ dmin ≤ c ∧ c ≤ dmax):=by
 obtain ⟨m0,m1,hk,hodd⟩:=mant_rng ha hai
 obtain ⟨hp2,⟨g3,g4⟩,g5,g6,g7,g8⟩:=row_s hk
 have hev:=((ex_pre ha).2 hsk).2
 have hex:=((ex_pre ha).2 hsk).1
 obtain ⟨hm,hk0⟩:=hsk
 have htS:tS (exR a) = t:=by unfold tS;rw [ht,hp]
 have hWS:wS (exR a) = W:=by unfold wS;rw [htS,hW,hp]
 have e0:mantR a * 2048 - 512 = (4 * b52 - 1) * 512:=by rw [hm];rfl
 have e1:mantR a * 2048 + 1024 = (2 * b52 + 1) * 1024:=by rw [hm];rfl
 have d0:minS (exR a) = dmin:=by unfold minS;rw [hWS,hmin,hev,e0,hp]
 have d1:maxS (exR a) = dmax:=by unfold maxS;rw [hWS,hmax,hev,e1,hp,Nat.sub_zero]
 have d2:midS (exR a) = r:=by unfold midS;rw [hWS,hr,hm,hp]
 rw [d0] at g5
 rw [d0,d1] at g6 g7
 rw [d0,d1,d2] at g8
 rw [← hp] at hp2 g3 g4
 have htI:(t:Int) = 1071 + (11:Nat) - exR a - lpZ p:=by omega
 have hWp:0 < W:=by rw [hW];exact Nat.mul_pos (Nat.mul_pos (by decide) (eB_pos p)) (Nat.two_pow_pos _)
 have hA:=eA_pos hp2.1 hp2.2
 have hmp:=mid_pre ha
 have hv:vR a = mantR a * 2 ^ exR a:=rfl
 have h2:2 ^ exR a = 2 * 2 ^ exR (a - 1):=by rw [← Nat.pow_succ',← hex]
 have hx0:(mantR a * 2048 - 512) * 2 ^ exR a = midR (a - 1) * 2 ^ (11 - 1):=by
  rw [hv,h2,hm] at hmp
  rw [e0,h2]
  unfold b52 at *
  omega
 have hx1:(mantR a * 2048 + 1024) * 2 ^ exR a = midR a * 2 ^ (11 - 1):=by
  unfold midR
  rw [e1,hv,hm]
  unfold b52
  omega
 refine ⟨hp2,⟨by omega,by omega,by omega⟩,g5,g6,g7,fun h1 h3 => ?_,by rw [hr,un_round _ _ hWp],fun c hc => ?_⟩
 ·rcases g8 with h | h | h
  ·exact absurd h h1
  ·omega
  ·exact h
 have:=sho_in p a (mantR a * 2048 - 512) (mantR a * 2048 + 1024) 11 t (exR a) c (by omega) hc (by omega) hx0 hx1 htI hA
 rw [← hW,← hmin,← hmax] at this
 exact this
end Go.Proofs.YtjlaoeigfokkiaaGreatDoor.mem
