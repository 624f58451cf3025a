import Derived.Test.YtdogjghalplohaaGreatDoorJs13
import Derived.Test.YtdogjghalplohaaGreatDoorJs20
import Derived.Laws.Cover2
import Derived.Test.YtdogjghalplohaaGreatDoorJs19
import Derived.Test.YtdogjghalplohaaGreatDoorJs12
import Derived.Test.YtdogjghalplohaaGreatDoorJs5
namespace Go.Proofs.YtdogjghalplohaaGreatDoor.fto
open Go.ChangeShapes Go.WideShapes Go.ChangeAt Go.RowKit
open mem
open ints (hide unhide)
set_option linter.unusedVariables false
def T10 (w:World):Prop:=∃ (b off c:Nat),w.cell? ⟨12,0,none⟩ = some (.slice (some ⟨b,off,none⟩) 23 c) ∧ b < w.heap.size ∧ 12 < w.heap.size ∧ ∀ i r,tens[i]? = some r → w.cell? ⟨b,off + i,none⟩ = some (.float .f64 r)
theorem T10.below {w W:World} (h:T10 w) (hb:Below w.heap.size w W):T10 W:=by
 obtain ⟨b,off,c,h1,h2,h3,h4⟩:=h
 exact ⟨b,off,c,(hb.cell (p:=⟨12,0,none⟩) h3).trans h1,Nat.lt_of_lt_of_le h2 hb.size,Nat.lt_of_lt_of_le h3 hb.size,fun i r hi => (hb.cell (p:=⟨b,off + i,none⟩) h2).trans (h4 i r hi)⟩
theorem word_S (ng:Bool) (r S:Nat) (hS:S = if ng then 9223372036854775808 else 0):Ieee.double.word ng r = S + r:=by
 have hs:Ieee.double.signWeight = 9223372036854775808:=by rfl
 unfold Ieee.Format.word
 rw [hS,hs]
 cases ng <;> simp
def Exa (G:Nat) (e:Ending):Prop:=∃ (G':Nat) (ok:Bool),e = .returned (.tuple #[.float .f64 G',.bool ok]) ∧ (ok = true → G' = G)
theorem run_fmul (x y r:Nat) (h:Ieee.double.mul x y = some r) (t:TypeId) (w:World):(binOp .mul t (.float .f64 x) (.float .f64 y)).run Tryz.prog w = .ok (.float .f64 r) w:=by
 have h':FloatKind.f64.format.mul x y = some r:=h
 simp [binOp,Op.floatArith,h']
theorem run_fdiv (x y r:Nat) (h:Ieee.double.div x y = some r) (t:TypeId) (w:World):(binOp .quo t (.float .f64 x) (.float .f64 y)).run Tryz.prog w = .ok (.float .f64 r) w:=by
 have h':FloatKind.f64.format.div x y = some r:=h
 simp [binOp,Op.floatArith,h']
theorem ex_mul (d:Nat) (p:Int) (ng:Bool) (w:World) (F G T:Nat) (b off c:Nat) (hd:d < 4503599627370496) (hp:1 ≤ p ∧ p ≤ 22) (hi:w.cell? ⟨9,0,none⟩ = some (.int .u64 52))
  (hg:w.cell? ⟨12,0,none⟩ = some (.slice (some ⟨b,off,none⟩) 23 c)) (hT:w.cell? ⟨b,off + p.toNat,none⟩ = some (.float .f64 T))
  (hf:floatOfInt .f64 (d:Int) = loN d) (hneg:ng = true → (Op.unary UnOp.neg (Value.float FloatKind.f64 (loN d))).run Tryz.prog w = .ok (.float .f64 F) w) (hpos:ng = false → loN d = F)
  (hm:(binOp .mul 25 (.float .f64 F) (.float .f64 T)).run Tryz.prog w = .ok (.float .f64 G) w) (g1 g2:Bool) (hg1:(FloatKind.f64.format.order F 4831355200913801216 == some .gt) = g1) (hg2:(FloatKind.f64.format.order F 14054727237768577024 == some .lt) = g2) :
  Calls Tryz.prog 185 #[.int .u64 d,.int .i64 p,.bool ng] w fun e w' => Exa G e ∧ w' = w:=by
 have i1:(d:Int) / 4503599627370496 = 0:=by omega
 have i2:(p == 0) = false:=by rw [beq_eq_false_iff_ne];omega
 have j1:(0:Int) < p:=by omega
 have j3:p ≤ 37:=by omega
 have j4:¬ (22:Int) < p:=by omega
 have j5:p < 23:=by omega
 have j6:0 ≤ p:=by omega
 cases ng
 ·have e:=hpos rfl
  rw [e] at hf
  clear hpos hneg
  cases g1
  ·cases g2
   all_goals
    go_enter Tryz.func185,Tryz.ntmps185
    go_wp2
    go_ret2
    first
     | exact ⟨⟨_,_,rfl,fun _ => rfl⟩,rfl⟩
     | exact ⟨⟨_,_,rfl,fun h => by simp at h⟩,rfl⟩
  ·go_enter Tryz.func185,Tryz.ntmps185
   go_wp2
   go_ret2
   exact ⟨⟨_,_,rfl,fun h => by simp at h⟩,rfl⟩
 ·have hneg:=hneg rfl
  generalize loN d = f0 at *
  clear hpos
  cases g1
  ·cases g2
   all_goals
    go_enter Tryz.func185,Tryz.ntmps185
    go_wp2
    go_ret2
    first
     | exact ⟨⟨_,_,rfl,fun _ => rfl⟩,rfl⟩
     | exact ⟨⟨_,_,rfl,fun h => by simp at h⟩,rfl⟩
  ·go_enter Tryz.func185,Tryz.ntmps185
   go_wp2
   go_ret2
   exact ⟨⟨_,_,rfl,fun h => by simp at h⟩,rfl⟩
theorem ex_mul2 (d:Nat) (p:Int) (ng:Bool) (w:World) (F F2 G T T2:Nat) (b off c:Nat) (hd:d < 4503599627370496) (hp:23 ≤ p ∧ p ≤ 37) (hi:w.cell? ⟨9,0,none⟩ = some (.int .u64 52))
  (hg:w.cell? ⟨12,0,none⟩ = some (.slice (some ⟨b,off,none⟩) 23 c)) (hT:w.cell? ⟨b,off + (p - 22).toNat,none⟩ = some (.float .f64 T)) (hT2:w.cell? ⟨b,off + 22,none⟩ = some (.float .f64 T2))
  (hf:floatOfInt .f64 (d:Int) = loN d) (hneg:ng = true → (Op.unary UnOp.neg (Value.float FloatKind.f64 (loN d))).run Tryz.prog w = .ok (.float .f64 F) w) (hpos:ng = false → loN d = F)
  (hm:(binOp .mul 25 (.float .f64 F) (.float .f64 T)).run Tryz.prog w = .ok (.float .f64 F2) w) (g1 g2:Bool) (hg1:(FloatKind.f64.format.order F2 4831355200913801216 == some .gt) = g1) (hg2:(FloatKind.f64.format.order F2 14054727237768577024 == some .lt) = g2)
  (hm2:g1 = false → g2 = false → (binOp .mul 25 (.float .f64 F2) (.float .f64 T2)).run Tryz.prog w = .ok (.float .f64 G) w) :
  Calls Tryz.prog 185 #[.int .u64 d,.int .i64 p,.bool ng] w fun e w' => Exa G e ∧ w' = w:=by
 have i1:(d:Int) / 4503599627370496 = 0:=by omega
 have i2:(p == 0) = false:=by rw [beq_eq_false_iff_ne];omega
 have j1:(0:Int) < p:=by omega
 have j3:p ≤ 37:=by omega
 have j4:(22:Int) < p:=by omega
 have j5:p - 22 < 23:=by omega
 have j6:0 ≤ p - 22:=by omega
 cases ng
 ·have e:=hpos rfl
  rw [e] at hf
  clear hpos hneg
  cases g1
  ·cases g2
   ·have hm2:=hm2 rfl rfl
    go_enter Tryz.func185,Tryz.ntmps185
    go_wp2
    go_ret2
    exact ⟨⟨_,_,rfl,fun _ => rfl⟩,rfl⟩
   ·clear hm2
    go_enter Tryz.func185,Tryz.ntmps185
    go_wp2
    go_ret2
    exact ⟨⟨_,_,rfl,fun h => by simp at h⟩,rfl⟩
  ·clear hm2
   go_enter Tryz.func185,Tryz.ntmps185
   go_wp2
   go_ret2
   exact ⟨⟨_,_,rfl,fun h => by simp at h⟩,rfl⟩
 ·have hneg:=hneg rfl
  generalize loN d = f0 at *
  clear hpos
  cases g1
  ·cases g2
   ·have hm2:=hm2 rfl rfl
    go_enter Tryz.func185,Tryz.ntmps185
    go_wp2
    go_ret2
    exact ⟨⟨_,_,rfl,fun _ => rfl⟩,rfl⟩
   ·clear hm2
    go_enter Tryz.func185,Tryz.ntmps185
    go_wp2
    go_ret2
    exact ⟨⟨_,_,rfl,fun h => by simp at h⟩,rfl⟩
  ·clear hm2
   go_enter Tryz.func185,Tryz.ntmps185
   go_wp2
   go_ret2
   exact ⟨⟨_,_,rfl,fun h => by simp at h⟩,rfl⟩
theorem ex_div (d:Nat) (p:Int) (ng:Bool) (w:World) (F G T:Nat) (b off c:Nat) (hd:d < 4503599627370496) (hp:-22 ≤ p ∧ p ≤ -1) (hi:w.cell? ⟨9,0,none⟩ = some (.int .u64 52))
  (hg:w.cell? ⟨12,0,none⟩ = some (.slice (some ⟨b,off,none⟩) 23 c)) (hT:w.cell? ⟨b,off + (-p).toNat,none⟩ = some (.float .f64 T))
  (hf:floatOfInt .f64 (d:Int) = loN d) (hneg:ng = true → (Op.unary UnOp.neg (Value.float FloatKind.f64 (loN d))).run Tryz.prog w = .ok (.float .f64 F) w) (hpos:ng = false → loN d = F)
  (hm:(binOp .quo 25 (.float .f64 F) (.float .f64 T)).run Tryz.prog w = .ok (.float .f64 G) w) :
  Calls Tryz.prog 185 #[.int .u64 d,.int .i64 p,.bool ng] w fun e w' => Exa G e ∧ w' = w:=by
 have i1:(d:Int) / 4503599627370496 = 0:=by omega
 have i2:(p == 0) = false:=by rw [beq_eq_false_iff_ne];omega
 have j1:¬ (0:Int) < p:=by omega
 have j2:p < 0:=by omega
 have j3:-22 ≤ p:=by omega
 have j5:-p < 23:=by omega
 have j6:0 ≤ -p:=by omega
 cases ng
 ·have e:=hpos rfl
  rw [e] at hf
  clear hpos hneg
  go_enter Tryz.func185,Tryz.ntmps185
  go_wp2
  go_ret2
  exact ⟨⟨_,_,rfl,fun _ => rfl⟩,rfl⟩
 ·have hneg:=hneg rfl
  generalize loN d = f0 at *
  clear hpos
  go_enter Tryz.func185,Tryz.ntmps185
  go_wp2
  go_ret2
  exact ⟨⟨_,_,rfl,fun _ => rfl⟩,rfl⟩
theorem ex_whole (d:Nat) (ng:Bool) (w:World) (F:Nat) (hd:d < 4503599627370496) (hi:w.cell? ⟨9,0,none⟩ = some (.int .u64 52))
  (hf:floatOfInt .f64 (d:Int) = loN d) (hneg:ng = true → (Op.unary UnOp.neg (Value.float FloatKind.f64 (loN d))).run Tryz.prog w = .ok (.float .f64 F) w) (hpos:ng = false → loN d = F) :
  Calls Tryz.prog 185 #[.int .u64 d,.int .i64 0,.bool ng] w fun e w' => Exa F e ∧ w' = w:=by
 have i1:(d:Int) / 4503599627370496 = 0:=by omega
 cases ng
 ·have e:=hpos rfl
  rw [e] at hf
  clear hpos hneg
  go_enter Tryz.func185,Tryz.ntmps185
  go_wp2
  go_ret2
  exact ⟨⟨_,_,rfl,fun _ => rfl⟩,rfl⟩
 ·have hneg:=hneg rfl
  generalize loN d = f0 at *
  clear hpos
  go_enter Tryz.func185,Tryz.ntmps185
  go_wp2
  go_ret2
  exact ⟨⟨_,_,rfl,fun _ => rfl⟩,rfl⟩
end Go.Proofs.YtdogjghalplohaaGreatDoor.fto
namespace Go.Proofs.YtdogjghalplohaaGreatDoor.fto
open Go.ChangeShapes Go.WideShapes Go.ChangeAt Go.RowKit
open mem Go.Sort
open ints (hide unhide)
set_option linter.unusedVariables false
theorem xor_sgn (r:Nat) (h:r < 2 ^ 63):r ^^^ 2 ^ 63 = 2 ^ 63 + r:=by
 apply Nat.eq_of_testBit_eq
 intro i
 rw [Nat.testBit_xor,Nat.testBit_two_pow]
 rcases Nat.lt_trichotomy i 63 with h1 | h1 | h1
 ·rw [Nat.testBit_two_pow_add_gt h1]
  have:¬ 63 = i:=by omega
  simp [this]
 ·subst h1
  rw [Nat.testBit_two_pow_add_eq,Nat.testBit_lt_two_pow h]
  simp
 ·have e1:r < 2 ^ i:=Nat.lt_of_lt_of_le h (Nat.pow_le_pow_right (by decide) (by omega))
  have e2:2 ^ 63 + r < 2 ^ i:=by
   have:=Nat.pow_le_pow_right (by decide:0 < 2) (show 64 ≤ i from h1)
   have e:(2:Nat) ^ 64 = 2 * 2 ^ 63:=rfl
   omega
  rw [Nat.testBit_lt_two_pow e1,Nat.testBit_lt_two_pow e2]
  have:¬ 63 = i:=by omega
  simp [this]
theorem run_fneg (r:Nat) (h:r < infR) (w:World):(Op.unary UnOp.neg (Value.float FloatKind.f64 r)).run Tryz.prog w = .ok (.float .f64 (Ieee.double.word true r)) w:=by
 have e:Op.negFloat .f64 r = Ieee.double.word true r:=xor_sgn r (by unfold infR at h;omega)
 show Result.ok (Value.float FloatKind.f64 (Op.negFloat .f64 r)) w = _
 rw [e]
theorem ord_gt (r:Nat) (hr:r < infR) (h:(FloatKind.f64.format.order (Ieee.double.word false r) 4831355200913801216 == some .gt) = false):vR r ≤ 1000000000000000 * k74:=by
 have e15:vR 4831355200913801216 = 1000000000000000 * k74:=by decide +kernel
 have:=order_word false false r 4831355200913801216 hr (by decide)
 rw [show Ieee.double.word false 4831355200913801216 = 4831355200913801216 from rfl] at this
 rw [this] at h
 rw [← e15]
 rcases Nat.lt_or_ge (vR 4831355200913801216) (vR r) with g | g
 ·exfalso
  have:compare (sv false (vR r)) (sv false (vR 4831355200913801216)) = .gt:=by
   unfold sv
   rw [Int.compare_eq_gt]
   simp only [Bool.false_eq_true,if_false]
   omega
  rw [this] at h
  simp at h
 ·exact g
theorem ord_lt (r:Nat) (hr:r < infR) (h:(FloatKind.f64.format.order (Ieee.double.word true r) 14054727237768577024 == some .lt) = false):vR r ≤ 1000000000000000 * k74:=by
 have e15:vR 4831355200913801216 = 1000000000000000 * k74:=by decide +kernel
 have:=order_word true true r 4831355200913801216 hr (by decide)
 rw [show Ieee.double.word true 4831355200913801216 = 14054727237768577024 from rfl] at this
 rw [this] at h
 rw [← e15]
 rcases Nat.lt_or_ge (vR 4831355200913801216) (vR r) with g | g
 ·exfalso
  have:compare (sv true (vR r)) (sv true (vR 4831355200913801216)) = .lt:=by
   unfold sv
   rw [Int.compare_eq_lt]
   simp only [if_true]
   omega
  rw [this] at h
  simp at h
 ·exact g
theorem big_fin (x lo:Nat) (hx:x ≤ 4503599627370496 * 10 ^ 15) (hl:Lo (x * k74) 1 lo):roundR (x * k74) 1 lo < infR:=by
 have c:4503599627370496 * 10 ^ 15 * k74 < vR 9218868437227405311:=by decide +kernel
 have a1:=Nat.mul_le_mul_right k74 hx
 have a2:=hl.1
 rw [Nat.one_mul] at a2
 have a3:lo < 9218868437227405311:=by
  rcases Nat.lt_or_ge lo 9218868437227405311 with g | g
  ·exact g
  ·exfalso
   have:=vR_mono_le g
   exact absurd (Nat.le_trans this (Nat.le_trans a2 a1)) (Nat.not_le_of_lt c)
 unfold roundR infR
 split <;> omega
theorem lo_some (x:Nat) (hx:x ≠ 0):∃ lo,Lo (x * k74) 1 lo:=⟨_,loN_lo hx⟩
theorem ex_any (d:Nat) (p:Int) (ng:Bool) (S lo:Nat) (w:World) (hd0:1 ≤ d) (hd1:d < 18446744073709551616) (hp:-345 ≤ p ∧ p ≤ 310) (hi:w.cell? ⟨9,0,none⟩ = some (.int .u64 52)) (hT:T10 w)
  (hS:S = if ng then 9223372036854775808 else 0) (hlo:Lo (d * 10 ^ p.toNat * k74) (10 ^ (-p).toNat) lo) (hR:roundR (d * 10 ^ p.toNat * k74) (10 ^ (-p).toNat) lo < infR) :
  Calls Tryz.prog 185 #[.int .u64 d,.int .i64 p,.bool ng] w fun e w' => (∃ (G:Nat) (ok:Bool),e = .returned (.tuple #[.float .f64 G,.bool ok]) ∧ (ok = true → G = S + roundR (d * 10 ^ p.toNat * k74) (10 ^ (-p).toNat) lo)) ∧ w' = w:=by
 have hk:=k74_pos
 rcases Nat.lt_or_ge d 4503599627370496 with hd | hd
 ·by_cases hpf:p < -22 ∨ 37 < p
  ·refine (ex_far d p ng w hd hpf (by omega) hi).mono ?_
   rintro e w1 ⟨⟨G,rfl⟩,hw⟩
   exact ⟨⟨_,_,rfl,fun h => by simp at h⟩,hw⟩
  ·obtain ⟨b,off,c,hg,-,-,hcell⟩:=hT
   have hdn:d ≠ 0:=by omega
   obtain ⟨v1,v2⟩:=loN_exact hdn (show d < 9007199254740992 by omega)
   have hf:floatOfInt .f64 (d:Int) = loN d:=float_of d hdn (by omega)
   have hneg:ng = true → (Op.unary UnOp.neg (Value.float FloatKind.f64 (loN d))).run Tryz.prog w = .ok (.float .f64 (Ieee.double.word ng (loN d))) w:=fun h => by rw [h];exact run_fneg _ v2 w
   have hpos:ng = false → loN d = Ieee.double.word ng (loN d):=fun h => by rw [h];rfl
   have hwS:=fun r => word_S ng r S hS
   rcases Int.lt_trichotomy p 0 with h0 | h0 | h0
   ·-- a quotient
    obtain ⟨T,t1,t2,t3⟩:=ten_ok (-p).toNat (by omega)
    have e0:p.toNat = 0:=by omega
    rw [e0,Nat.pow_zero,Nat.mul_one] at hlo hR ⊢
    have hB:0 < 10 ^ (-p).toNat:=Nat.pow_pos (by decide)
    have hT0:vR T ≠ 0:=by rw [t3];exact Nat.ne_of_gt (Nat.mul_pos hB hk)
    have h52:10 ^ (-p).toNat * b52 ≤ d * k74:=by
     have a1:10 ^ (-p).toNat * b52 ≤ 10 ^ 22 * b52:=Nat.mul_le_mul_right _ (Nat.pow_le_pow_right (by decide) (by omega))
     have a2:10 ^ 22 * b52 ≤ 1 * k74:=by decide +kernel
     exact Nat.le_trans a1 (Nat.le_trans a2 (Nat.mul_le_mul_right _ hd0))
    obtain ⟨lo',l1,l2⟩:=div_R ng false (loN d) T (d * k74) (10 ^ (-p).toNat) v2 t2 hB hT0 (by rw [t3,v1,← Nat.mul_assoc,Nat.mul_right_comm (d * k74)]) h52
    have hlu:lo' = lo:=l1.unique hlo
    subst hlu
    rw [Bool.xor_false,Nat.min_eq_left (Nat.le_of_lt hR)] at l2
    refine (ex_div d p ng w _ _ T b off c hd (by omega) hi hg (hcell _ _ t1) hf hneg hpos (run_fdiv _ _ _ l2 _ w)).mono ?_
    rintro e w1 ⟨h1,hw⟩
    rw [hwS] at h1
    exact ⟨h1,hw⟩
   ·-- a whole number
    subst h0
    have e1:(10:Nat) ^ (0:Int).toNat = 1:=rfl
    have e2:(10:Nat) ^ (-(0:Int)).toNat = 1:=rfl
    rw [e1,e2,Nat.mul_one] at hlo hR ⊢
    have hlu:lo = loN d:=hlo.unique (loN_lo hdn)
    rw [hlu,round_exact v1.symm,← hwS]
    refine (ex_whole d ng w _ hd hi hf hneg hpos).mono ?_
    rintro e w1 ⟨h1,hw⟩
    exact ⟨h1,hw⟩
   ·have e0:(-p).toNat = 0:=by omega
    rw [e0,Nat.pow_zero] at hlo hR ⊢
    have h52:b52 ≤ d * 10 ^ p.toNat * k74:=by
     have a1:1 * k74 ≤ d * 10 ^ p.toNat * k74:=Nat.mul_le_mul_right _ (Nat.mul_pos hd0 (Nat.pow_pos (by decide)))
     have a2:b52 ≤ 1 * k74:=by decide +kernel
     exact Nat.le_trans a2 a1
    by_cases h22:p ≤ 22
    ·obtain ⟨T,t1,t2,t3⟩:=ten_ok p.toNat (by omega)
     obtain ⟨lo',l1,l2⟩:=mul_R ng false (loN d) T (d * 10 ^ p.toNat * k74) v2 t2 (by rw [t3,v1,← Nat.mul_assoc,Nat.mul_right_comm d]) h52
     have hlu:lo' = lo:=l1.unique hlo
     subst hlu
     rw [Bool.xor_false,Nat.min_eq_left (Nat.le_of_lt hR)] at l2
     refine (ex_mul d p ng w _ _ T b off c hd (by omega) hi hg (hcell _ _ t1) hf hneg hpos (run_fmul _ _ _ l2 _ w) _ _ rfl rfl).mono ?_
     rintro e w1 ⟨h1,hw⟩
     rw [hwS] at h1
     exact ⟨h1,hw⟩
    ·obtain ⟨T,t1,t2,t3⟩:=ten_ok (p - 22).toNat (by omega)
     obtain ⟨T2,u1,u2,u3⟩:=ten_ok 22 (by omega)
     obtain ⟨x,hx⟩:∃ x,x = d * 10 ^ (p - 22).toNat:=⟨_,rfl⟩
     have hxe:x * 10 ^ 22 = d * 10 ^ p.toNat:=by rw [hx,Nat.mul_assoc,← Nat.pow_add,show (p - 22).toNat + 22 = p.toNat by omega]
     have hx0:x ≠ 0:=by rw [hx];exact Nat.ne_of_gt (Nat.mul_pos hd0 (Nat.pow_pos (by decide)))
     have hxl:x ≤ 4503599627370496 * 10 ^ 15:=by rw [hx];exact Nat.mul_le_mul (Nat.le_of_lt hd) (Nat.pow_le_pow_right (by decide) (by omega))
     have h52':b52 ≤ x * k74:=by
      have a1:1 * k74 ≤ x * k74:=Nat.mul_le_mul_right _ (Nat.pos_of_ne_zero hx0)
      have a2:b52 ≤ 1 * k74:=by decide +kernel
      exact Nat.le_trans a2 a1
     obtain ⟨lo1,l1,l2⟩:=mul_R ng false (loN d) T (x * k74) v2 t2 (by rw [t3,v1,hx,← Nat.mul_assoc,Nat.mul_right_comm d]) h52'
     have hfin:=big_fin x lo1 hxl l1
     rw [Bool.xor_false,Nat.min_eq_left (Nat.le_of_lt hfin)] at l2
     have hm2:∀ g1 g2:Bool,(FloatKind.f64.format.order (Ieee.double.word ng (roundR (x * k74) 1 lo1)) 4831355200913801216 == some .gt) = g1 → (FloatKind.f64.format.order (Ieee.double.word ng (roundR (x * k74) 1 lo1)) 14054727237768577024 == some .lt) = g2 → g1 = false → g2 = false → (binOp .mul 25 (.float .f64 (Ieee.double.word ng (roundR (x * k74) 1 lo1))) (.float .f64 T2)).run Tryz.prog w = .ok (.float .f64 (S + roundR (d * 10 ^ p.toNat * k74) 1 lo)) w:=by
      rintro g1 g2 q1 q2 rfl rfl
      have hv:vR (roundR (x * k74) 1 lo1) ≤ 1000000000000000 * k74:=by
       cases ng
       ·exact ord_gt _ hfin q1
       ·exact ord_lt _ hfin q2
      obtain ⟨x53,hrx⟩:=small_exact x lo1 hx0 l1 hv
      obtain ⟨y1,y2⟩:=loN_exact hx0 x53
      rw [hrx]
      obtain ⟨lo',m1,m2⟩:=mul_R ng false (loN x) T2 (d * 10 ^ p.toNat * k74) y2 u2 (by rw [u3,y1,← hxe,← Nat.mul_assoc,Nat.mul_right_comm x]) h52
      have hlu:lo' = lo:=m1.unique hlo
      subst hlu
      rw [Bool.xor_false,Nat.min_eq_left (Nat.le_of_lt hR)] at m2
      rw [← hwS]
      exact run_fmul _ _ _ m2 _ w
     refine (ex_mul2 d p ng w _ _ (S + roundR (d * 10 ^ p.toNat * k74) 1 lo) T T2 b off c hd (by omega) hi hg (hcell _ _ t1) (hcell _ _ u1) hf hneg hpos (run_fmul _ _ _ l2 _ w) _ _ rfl rfl (hm2 _ _ rfl rfl)).mono ?_
     rintro e w1 ⟨h1,hw⟩
     exact ⟨h1,hw⟩
 ·refine (ex_long d p ng w hd hd1 hi).mono ?_
  rintro e w1 ⟨rfl,hw⟩
  exact ⟨⟨_,_,rfl,fun h => by simp at h⟩,hw⟩
end Go.Proofs.YtdogjghalplohaaGreatDoor.fto
namespace Go.Proofs.YtdogjghalplohaaGreatDoor.fto
open Go.ChangeShapes Go.WideShapes Go.ChangeAt Go.RowKit
open mem Go.Sort
open ints (hide unhide)
set_option linter.unusedVariables false
set_option maxHeartbeats 1000000 in
set_option maxRecDepth 100000 in
theorem atof_nought (s:ByteArray) (n:Int) (S:Nat) (p:Int) (ng:Bool) (w:World) (hS:S = if ng then 9223372036854775808 else 0) (hn:0 ≤ n ∧ n ≤ 2000000)
  (opt:w.cell? ⟨8,0,none⟩ = some (.bool true))
  (SP:Calls Tryz.prog 174 #[.string s] w fun e w' => e = .returned (.tuple #[.float .f64 0,.int .i64 0,.bool false]) ∧ w' = w)
  (RF:Calls Tryz.prog 175 #[.string s] w fun e w' => e = .returned (.tuple #[.int .u64 0,.int .i64 p,.bool ng,.bool false,.bool false,.int .i64 n,.bool true]) ∧ w' = w) :
  Calls Tryz.prog 155 #[.string s] w fun e w' => e = .returned (.tuple #[.float .f64 S,.int .i64 n,.nilIface]) ∧ Below w.heap.size w w':=by
 have HSP:=hide SP
 have HRF:=hide RF
 have hfb:=run_fromb
 have o1:bits .or .u64 9223372036854775808 0 = 9223372036854775808:=by decide
 have o0:bits .or .u64 0 0 = 0:=by decide
 have B1:=hide b2_yes
 have B0:=hide b2_no
 clear SP RF
 go_enter Tryz.func155,Tryz.ntmps155
 go_wp2_with fail
 refine (unhide HSP).mono ?_
 rintro e w1 ⟨rfl,hw⟩
 subst w1
 go_wp2_with fail
 refine (unhide HRF).mono ?_
 rintro e w1 ⟨rfl,hw⟩
 subst w1
 cases ng
 all_goals
  simp only [Bool.false_eq_true,if_false,if_true] at hS
  subst hS
  go_wp2_with fail
  first
   | refine (unhide B0 _).mono ?_
   | refine (unhide B1 _).mono ?_
  rintro e w1 ⟨rfl,hw⟩
  subst w1
  go_wp2
  go_ret3
  exact ⟨rfl,Below.refl _ _⟩
theorem pf_nought (k:Nat) (s:ByteArray) (g z:Nat) (h:Ntx s k 0 g z) (hk:k ≤ 1) (w:World) (hopt:w.cell? ⟨8,0,none⟩ = some (.bool true)) :
  Calls Tryz.prog 75 #[.string s,.int .i64 64] w fun e w' => e = .returned (.tuple #[.float .f64 (k * 9223372036854775808),.nilIface]) ∧ Below w.heap.size w w':=by
 have hsz1:s.size ≤ 2000000:=by have:=h.sz;have:=h.m1;have:=h.z1;have:=h.g1;omega
 have hsz2:k + 4 ≤ s.size:=by have:=h.sz;have:=h.z0;omega
 refine pf_in s (k * 9223372036854775808) w hsz1 ?_
 have hk2:k = 0 ∨ k = 1:=by omega
 rcases hk2 with rfl | rfl
 ·have RF:=readF0 s 0 g z w h
  rw [if_pos rfl] at RF
  exact atof_nought s s.size (0 * 9223372036854775808) 0 false w rfl (by omega) hopt (special0 s w (by omega) (by rw [← bz_at];exact h.b1)) RF
 ·have RF:=readF1 s 0 g z w h
  rw [if_pos rfl] at RF
  exact atof_nought s s.size (1 * 9223372036854775808) 0 true w rfl (by omega) hopt (special1 s w (by omega) hsz1 (by omega) (by rw [← bz_at];exact h.b0 rfl) (by rw [← bz_at];exact h.b1)) RF
structure Fy (w:World):Prop where
 fx:Fx w
 opt:w.cell? ⟨8,0,none⟩ = some (.bool true)
 info:w.cell? ⟨9,0,none⟩ = some (.int .u64 52)
 og:8 < w.heap.size
 ig:9 < w.heap.size
 ten:T10 w
theorem Fy.below {w W:World} (h:Fy w) (hb:Below w.heap.size w W):Fy W:=
 ⟨h.fx.below hb,(hb.cell (p:=⟨8,0,none⟩) h.og).trans h.opt,(hb.cell (p:=⟨9,0,none⟩) h.ig).trans h.info,Nat.lt_of_lt_of_le h.og hb.size,Nat.lt_of_lt_of_le h.ig hb.size,h.ten.below hb⟩
end Go.Proofs.YtdogjghalplohaaGreatDoor.fto
namespace Go.Proofs.YtdogjghalplohaaGreatDoor.fto
open Go.ChangeShapes Go.WideShapes Go.ChangeAt Go.RowKit
open mem Go.Sort
open ints (hide unhide)
set_option linter.unusedVariables false
theorem str_app (A B:List Int):strOfNums A ++ strOfNums B = strOfNums (A ++ B):=by
 apply ByteArray.ext
 rw [ByteArray.data_append]
 show (u8s A).toArray ++ (u8s B).toArray = (u8s (A ++ B)).toArray
 rw [u8s_app]
 simp
theorem trimB_trm (l:List Int) (h:Dg l):Lib.trimLeftB (u8s l) 48 = u8s (trm l):=by
 unfold Lib.trimLeftB trm
 induction l with
 | nil => rfl
 | cons a l ih =>
  have ha:=h a (by simp)
  have e2:(UInt8.ofNat a.toNat).toNat = a.toNat:=UInt8.toNat_ofNat_of_lt' (by show _ < 256;omega)
  show List.dropWhile _ (UInt8.ofNat a.toNat :: u8s l) = u8s (List.dropWhile _ (a :: l))
  rw [List.dropWhile_cons,List.dropWhile_cons]
  by_cases h48:a = 48
  ·subst h48
   rw [if_pos (by decide),if_pos (by decide)]
   exact ih h.tail
  ·have:¬ UInt8.ofNat a.toNat = 48:=fun e => by rw [e] at e2;have:(48:UInt8).toNat = 48:=rfl;omega
   rw [if_neg (by simpa using this),if_neg (by simpa using h48)]
   rfl
theorem cut_no (c:UInt8) (l:List UInt8) (h:c ∉ l):Lib.cut l [c] = (l,[],false):=by
 unfold Lib.cut
 rw [index_no c l h,if_neg (by decide)]
theorem dg_noE {A F:List Int} (hA:Dg A) (hF:Dg F):NoE (A ++ frL F) ∧ ∀ z ∈ A ++ frL F,0 ≤ z ∧ z < 128:=by
 have hm:∀ z ∈ A ++ frL F,(48 ≤ z ∧ z ≤ 57) ∨ z = 46:=fun z hz => by
  rcases List.mem_append.1 hz with h | h
  ·exact Or.inl (hA z h)
  ·unfold frL at h
   by_cases h0:F = []
   ·rw [if_pos h0] at h;simp at h
   ·rw [if_neg h0] at h
    rcases List.mem_cons.1 h with h | h
    ·exact Or.inr h
    ·exact Or.inl (hF z h)
 refine ⟨⟨fun z hz => ?_,fun h => ?_,fun h => ?_⟩,fun z hz => ?_⟩
 ·have:=hm z hz;omega
 ·have:=hm _ h;omega
 ·have:=hm _ h;omega
 ·have:=hm z hz;omega
theorem pf_text0 (ng:Bool) (x:Int) (hx:x.natAbs < 10000) (W:World) (hW:Fy W) :
  Calls Tryz.prog 75 #[.string (strOfNums (ntZ ng [] x)),.int .i64 64] W fun e w' => e = .returned (.tuple #[.float .f64 (ng.toNat * 9223372036854775808),.nilIface]) ∧ Below W.heap.size W w':=
 pf_nought ng.toNat _ _ _ (ntx_of ng [] x Dg.nil (by simp) (fun r => by simp) hx) (Bool.toNat_le _) W hW.opt
end Go.Proofs.YtdogjghalplohaaGreatDoor.fto
namespace Go.Proofs.YtdogjghalplohaaGreatDoor.fto
open Go.ChangeShapes Go.WideShapes Go.ChangeAt Go.RowKit
open mem Go.Sort
open ints (hide unhide)
set_option linter.unusedVariables false
def bytZ (s:ByteArray):List Int:=s.data.toList.map fun b => (b.toNat:Int)
theorem bytZ_len (s:ByteArray):(bytZ s).length = s.size:=by unfold bytZ;rw [List.length_map,Array.length_toList];rfl
theorem thr_cells {w:World} {b:Nat} {arr:Array Value} {t:TypeId} (h:w.heap[b]? = some (.cells arr t (0,0))) {o n:Nat} (hn:o + n ≤ arr.size):w.there b o n:=fun j hj => by
 refine ⟨?_,?_⟩
 ·simp [World.cell?,h];omega
 ·simp [World.frozen?,h]
theorem bel_setCells {B:Nat} {w:World} (b:Nat):∀ (vs:List Value) (o:Nat) (w1:World),Below B w w1 → B ≤ b → Below B w (w1.setCells b o vs)
 | [],o,w1,h,hb => h
 | v :: r,o,w1,h,hb => bel_setCells b r (o + 1) _ (h.setCell (p:=⟨b,o,none⟩) hb v) hb
theorem one_c {cs:List Value} (h:cs.all (·.oneCell') = true):cs.toArray.all (·.oneCell') = true:=by simpa using h
theorem infoNum:(Tryz.prog.info? 46).map (·.size) = some 3:=by kernel_rfl
theorem conv_bytes (s:ByteArray) (w:World):∃ cap W2,(convert 9 22 (.string s)).run Tryz.prog w = .ok (.slice (some ⟨w.heap.size,0,none⟩) s.size cap) W2 ∧
  Row .u8 W2 (some ⟨w.heap.size,0,none⟩) s.size cap (bytZ s) ∧ Below w.heap.size w W2:=by
 have h:=run_bytes_of_string (P:=Tryz.prog) w 9 22 5 s Tryz.underlying9 Tryz.underlying22 Tryz.underlying5
 refine ⟨_,_,h,⟨bytZ_len s,grownCap_ge _ _ _ _,(fun e => by cases e),.inr ⟨w.heap.size,0,rfl,by simp,fun i hi => ?_⟩⟩,(Below.refl _ _).drew.alloc (Nat.le_refl _) _⟩
 have e:(w.drew.alloc (.cells (bytesRow s (grownCap w s.size 0 5)) 5 ((bytesRow s (grownCap w s.size 0 5)).size,(bytesRow s (grownCap w s.size 0 5)).size + 1))).cell? ⟨w.drew.heap.size,0 + i,none⟩ = (bytesRow s (grownCap w s.size 0 5))[0 + i]? := World.cell?_alloc_mark _ _ _ _ _
 refine e.trans ?_
 have hi':i < s.data.size:=hi
 unfold bytesRow bytZ
 rw [Nat.zero_add,Array.getElem?_append_left (by simpa using hi')]
 have e2:(s.data.toList.map fun b => (b.toNat:Int)).getD i 0 = ((s.data[i]'hi').toNat:Int):=by simp [List.getD,Array.getElem?_eq_getElem hi']
 rw [e2,Array.getElem?_map,Array.getElem?_eq_getElem hi']
 rfl
end Go.Proofs.YtdogjghalplohaaGreatDoor.fto
namespace Go.Proofs.YtdogjghalplohaaGreatDoor.fto
open Go.ChangeShapes Go.WideShapes Go.ChangeAt Go.RowKit
open mem Go.Sort
open ints (hide unhide)
set_option linter.unusedVariables false
theorem below_bytesWorld (w:World) (t:TypeId) (n:ByteArray):Below w.heap.size w (Lib.bytesWorld w t n):=Lib.bytesWorld_below w t n
set_option maxHeartbeats 1100000 in
set_option maxRecDepth 100000 in
theorem readw_in (s:ByteArray) (v:Int) (w:World) (hs:s.size ≤ 1100000) (hp:pfx (bytZ s) 0 = (s.size,s.size,1)) (hv:Lib.parseIntB 64 s.data.toList = .ok v) :
  Calls Tryz.prog 16 #[.string s] w fun e w' => e = .returned (.tuple #[.agg #[.int .i64 2,.int .i64 v,.float .f64 0],.int .i64 0]) ∧ Below w.heap.size w w':=by
 have CB:=hide (conv_bytes s)
 have PR:=hide (fun a n c W (h:Row .u8 W a n c (bytZ s)) (hn:n ≤ 4611686018427387900) => prefix_in_b a n c (bytZ s) 0 W h hn (Nat.zero_le _))
 rw [hp] at PR
 have HN:=hide (fun W => Tryz.strconv_ParseInt_10_at64_ok s (by omega) v hv W)
 obtain ⟨cap,W2,hcv,hrow,b2⟩:=conv_bytes s (w.alloc (.cells #[.int .i64 0,.int .i64 0,.float .f64 0] 46))
 have hz:(w.alloc (.cells #[.int .i64 0,.int .i64 0,.float .f64 0] 46)).heap.size = w.heap.size + 1:=by simp
 rw [hz] at hcv hrow b2
 have hb0:(w.alloc (.cells #[.int .i64 0,.int .i64 0,.float .f64 0] 46)).heap[w.heap.size]? = some (.cells #[.int .i64 0,.int .i64 0,.float .f64 0] 46 (0,0)):=heap_alloc_new w _
 have hb2:W2.heap[w.heap.size]? = some (.cells #[.int .i64 0,.int .i64 0,.float .f64 0] 46 (0,0)):=(b2.block w.heap.size (by omega)).trans hb0
 have bw2:Below w.heap.size w W2:=((Below.refl _ _).alloc (Nat.le_refl _) _).trans (b2.mono (by omega))
 have hz2:w.heap.size + 1 ≤ W2.heap.size:=by have:=b2.size;rw [hz] at this;exact this
 have P1:=hide (unhide PR _ _ _ W2 hrow (by omega))
 have HX:=hide (And.intro hb2 (And.intro bw2 hz2))
 have e0:((s.size:Int) != (s.size:Int)) = false:=by simp
 clear hv hp CB PR b2 hb0 hb2 bw2 hz2 hrow
 go_enter Tryz.func16,Tryz.ntmps16
 go_wp2_with fail
 refine (unhide P1).mono ?_
 rintro e w1 ⟨rfl,b1⟩
 obtain ⟨x1,x2,x3⟩:=unhide HX
 have bw1:=x2.trans (b1.mono x2.size)
 have hb1:w1.heap[w.heap.size]? = some (.cells #[.int .i64 0,.int .i64 0,.float .f64 0] 46 (0,0)):=(b1.block w.heap.size (by omega)).trans x1
 have hz1:w.heap.size < w1.heap.size:=by have:=b1.size;omega
 have N1:=hide (unhide HN w1)
 have HY:=hide (And.intro hb1 (And.intro bw1 hz1))
 clear b1 x1 x2 x3 bw1 hb1 hz1 HX P1 HN hcv
 go_wp2_with fail
 refine (unhide N1).mono ?_
 rintro e w2 ⟨rfl,b2'⟩
 have b2:Below w1.heap.size w1 w2:=by
  rcases b2' with rfl | ⟨t,rfl⟩
  ·exact Below.refl _ _
  ·exact below_bytesWorld _ _ _
 clear b2'
 obtain ⟨x1,x2,x3⟩:=unhide HY
 have bw2:=x2.trans (b2.mono x2.size)
 have hb2:w2.heap[w.heap.size]? = some (.cells #[.int .i64 0,.int .i64 0,.float .f64 0] 46 (0,0)):=(b2.block w.heap.size x3).trans x1
 have hth:=hide (thr_cells hb2 (o:=0) (n:=3) (by decide))
 have HB:=hide bw2
 clear b2 x1 x2 x3 bw2 hb2 HY N1
 go_wp2_with (first
  | refine wpList_store_mid (by rfl) 46 _ _ (by rfl) w.heap.size 0 #[.int .i64 2,.int .i64 v,.float .f64 0] (by rfl) (by rfl) (unhide hth) infoNum (one_c (cs:=[.int .i64 2,.int .i64 v,.float .f64 0]) (by rfl)) ?_)
 refine bodyPost_ret (rgn.result_row_tmp rfl _ _ w.heap.size 0 [.int .i64 2,.int .i64 v,.float .f64 0] _ rfl (World.rangeAt_setCells_same _ _ _ _ (unhide hth)) Tryz.underlying46 rfl infoNum) rfl ?_
 exact ⟨rfl,bel_setCells _ _ _ _ (unhide HB) (Nat.le_refl _)⟩
end Go.Proofs.YtdogjghalplohaaGreatDoor.fto
namespace Go.Proofs.YtdogjghalplohaaGreatDoor.fto
open Go.ChangeShapes Go.WideShapes Go.ChangeAt Go.RowKit
open mem Go.Sort
open ints (hide unhide)
set_option linter.unusedVariables false
set_option linter.unusedSimpArgs false
def sg3:Option Bool → List Int
 | none => []
 | some false => [43]
 | some true => [45]
theorem sg3_len (o:Option Bool):(sg3 o).length ≤ 1:=by rcases o with _ | _ | _ <;> simp [sg3]
theorem sg3_bt (o:Option Bool):Bt (sg3 o):=by rcases o with _ | _ | _ <;> simp [sg3,Bt]
theorem sg3_asc (o:Option Bool) (z:Int) (h:z ∈ sg3 o):0 ≤ z ∧ z < 128:=by rcases o with _ | _ | _ <;> simp [sg3] at h <;> omega
theorem ia_at2 (c:UInt8) (hc:c = 101 ∨ c = 69) (r:List UInt8):∀ l:List UInt8,(101:UInt8) ∉ l → (69:UInt8) ∉ l → Lib.indexAny (l ++ c :: r) [101,69] = l.length
 | [],_,_ => by rcases hc with rfl | rfl <;> simp [Lib.indexAny]
 | b :: l,h1,h2 => by
  have b1:¬ (101:UInt8) = b:=fun e => h1 (by simp [e])
  have b2:¬ (69:UInt8) = b:=fun e => h2 (by simp [e])
  have ih:=ia_at2 c hc r l (fun e => h1 (List.mem_cons_of_mem _ e)) (fun e => h2 (List.mem_cons_of_mem _ e))
  rw [List.cons_append]
  unfold Lib.indexAny
  rw [if_neg,ih]
  ·rw [if_neg]
   ·simp
   ·simp
  ·simp
   exact ⟨fun e => b1 e.symm,fun e => b2 e.symm⟩
theorem trimS_sg3 (o:Option Bool) (X:List Int) (hX:Dg X):Lib.trimLeftS (u8s (sg3 o ++ X)) [43,45] = u8s X:=by
 rcases o with _ | _ | _
 ·exact trimS_sg false X hX
 ·have h:=trimS_sg false X hX
  unfold Lib.trimLeftS at h ⊢
  rw [u8s_app]
  show List.dropWhile _ ((43:UInt8) :: u8s X) = _
  rw [List.dropWhile_cons,if_pos (by decide)]
  exact h
 ·exact trimS_sg true X hX
set_option maxHeartbeats 1100000 in
set_option maxRecDepth 100000 in
theorem cutE_any (M X:List Int) (ec:Int) (o:Option Bool) (w:World) (hec:ec = 101 ∨ ec = 69) (hM:NoE M) (ha:∀ z ∈ M,0 ≤ z ∧ z < 128) (hl:M.length ≤ 1100000) (hX:Dg X) (hX0:X ≠ []) (hXl:X.length ≤ 1100000) :
  Calls Tryz.prog 72 #[.string (strOfNums (M ++ ec :: (sg3 o ++ X)))] w fun e w' => e = .returned (.tuple #[.string (strOfNums M),.int .i64 (if o = some true then -((min (dv X) 1099511627776:Nat):Int) else ((min (dv X) 1099511627776:Nat):Int))]) ∧ Below w.heap.size w w':=by
 obtain ⟨s,hs⟩:∃ s,s = strOfNums (M ++ ec :: (sg3 o ++ X)):=⟨_,rfl⟩
 rw [← hs]
 obtain ⟨tx,htx⟩:∃ s,s = strOfNums (sg3 o ++ X):=⟨_,rfl⟩
 obtain ⟨xs,hxs⟩:∃ s,s = strOfNums X:=⟨_,rfl⟩
 have hsz:s.size = M.length + 1 + (sg3 o ++ X).length:=by rw [hs,str_size];simp;omega
 have hgl:(sg3 o).length ≤ 1:=sg3_len o
 have hXp:0 < X.length:=List.length_pos_iff.2 hX0
 have hasc:∀ z ∈ M ++ ec :: (sg3 o ++ X),0 ≤ z ∧ z < 128:=fun z hz => by
  rcases List.mem_append.1 hz with h | h
  ·exact ha z h
  ·rcases List.mem_cons.1 h with h | h
   ·omega
   ·rcases List.mem_append.1 h with h | h
    ·have:=sg3_asc o z h;omega
    ·have:=hX z h;omega
 have hasc2:∀ (j:Nat) b,s.data.toList[j]? = some b → b.toNat < 128:=by
  intro j b hb
  rw [hs] at hb
  exact ascii_u8s hasc j b hb
 have IA:=Tryz.strings_IndexAny_laid s ⟨#[101,69]⟩ w (by rw [hsz,List.length_append];omega) (by decide) hasc2 (ascii_of_all (by decide))
 clear hasc hasc2
 have e:Lib.indexAny s.data.toList (⟨#[101,69]⟩:ByteArray).data.toList = M.length:=by
  have:=ia_at2 (UInt8.ofNat ec.toNat) (by rcases hec with rfl | rfl;exact Or.inl rfl;exact Or.inr rfl) (u8s (sg3 o ++ X)) (u8s M) hM.u8.1 hM.u8.2
  rw [show (u8s M).length = M.length by simp [u8s]] at this
  rw [← this,hs]
  show Lib.indexAny (u8s (M ++ ec :: (sg3 o ++ X))) _ = _
  rw [u8s_app]
  rfl
 rw [e] at IA
 have TL:=fun W => Tryz.strings_TrimLeft_laid tx ⟨#[43,45]⟩ W (by decide) (ascii_of_all (by decide))
 have e2:(⟨(Lib.trimLeftS tx.data.toList (⟨#[43,45]⟩:ByteArray).data.toList).toArray⟩:ByteArray) = xs:=by
  rw [htx,hxs]
  show (⟨(Lib.trimLeftS (u8s (sg3 o ++ X)) [43,45]).toArray⟩:ByteArray) = _
  rw [trimS_sg3 o X hX]
  rfl
 simp only [e2] at TL
 have HI:=hide IA
 have HT:=hide TL
 clear IA TL e e2
 obtain ⟨mk,hmk⟩:∃ mk:Nat,mk = M.length:=⟨_,rfl⟩
 rw [← hmk] at HI hsz hl
 have m1:¬ (mk:Int) < 0:=by omega
 have hxx:s.extract (mk + 1) s.size = tx:=by
  rw [hs,htx,hmk,show M ++ ec :: (sg3 o ++ X) = (M ++ [ec]) ++ (sg3 o ++ X) by simp,str_size]
  exact ext_right (M ++ [ec]) (sg3 o ++ X) (by simp) (by simp)
 have hmm:s.extract 0 mk = strOfNums M:=by
  rw [hs,hmk]
  exact ext_left M _
 have htz:tx.size = (sg3 o ++ X).length:=by rw [htx,str_size]
 have htp:0 < tx.size:=by rw [htz,List.length_append];omega
 have ht0:bz tx 0 = (sg3 o).getD 0 (X.getD 0 0):=by
  rw [htx,bz_str _ ((sg3_bt o).app hX.bt)]
  rcases o with _ | _ | _ <;> simp [sg3]
 obtain ⟨ms,hms⟩:∃ ms,ms = strOfNums M:=⟨_,rfl⟩
 rw [← hms] at hmm ⊢
 have hzi:(s.size:Int) = (mk:Int) + 1 + tx.size:=by rw [htz];omega
 have hsl:mk + 1 ≤ s.size:=by omega
 have hxz:xs.size = X.length:=by rw [hxs,str_size]
 have hxa:∀ j (hj:j < xs.size),((xs[j]'hj).toNat:Int) = X.getD j 0:=fun j hj => by
  rw [← bz_at]
  subst hxs
  exact bz_str X hX.bt j
 rw [bz_at tx 0 htp] at ht0
 clear hs htx hxs hmk hms hsz
 have HX:=hide hxa
 have HD:=hide hX
 clear hxa hX ha hM
 go_enter Tryz.func72,Tryz.ntmps72
 go_wp2_with fail
 refine (unhide HI).mono ?_
 rintro e w1 ⟨rfl,b1⟩
 have HB:=hide b1
 clear b1 HI
 go_wp2_with fail
 refine (unhide HT _).mono ?_
 rintro e w2 ⟨rfl,b2⟩
 have HB2:=hide ((unhide HB).trans (b2.mono (unhide HB).size))
 clear b2 HB HT
 go_wp2
 go_loopw [6,8] (fun n _ wr => ∃ pos:Nat,pos ≤ X.length ∧ wr = w2.iter xs pos ∧ n = .int .i64 ((min (dv (X.take pos)) 1099511627776:Nat):Int)) (fun _ _ wr => X.length - wr.iterPos w2.heap.size)
 case atStart => exact ⟨0,by omega,rfl,rfl⟩
 case round =>
  obtain ⟨pos,hpl,rfl,rfl⟩:=hrel
  by_cases hp:pos < X.length
  ·have hp':pos < xs.size:=by omega
   have hx1:=unhide HX pos hp'
   have hx2:=dg_getD (unhide HD) hp
   have hx3:=dv_lt (X.take pos) (fun z hz => unhide HD z (List.mem_of_mem_take hz))
   have hx4:dv (X.take (pos + 1)) = dv (X.take pos) * 10 + (X.getD pos 0 - 48).toNat:=by
    have et:X.take (pos + 1) = X.take pos ++ [X.getD pos 0]:=by
     rw [List.getD_eq_getElem?_getD,List.getElem?_eq_getElem hp,Option.getD_some,List.take_succ_eq_append_getElem hp]
    rw [et,dv_app,dv_cons]
    simp [dv]
   have hnx:∀ ty,(Instr.next (.pointer (some ⟨w2.heap.size,0,none⟩)) true ty).run Tryz.prog (w2.iter xs pos) = .ok (.tuple #[.bool true,.int .i64 pos,.int .i32 (X.getD pos 0)]) (w2.iter xs (pos + 1)):=fun ty => by
    have:=run_next_ascii (P:=Tryz.prog) w2 xs pos ty hp' (by omega)
    rw [hx1] at this
    exact this
   have HQ:=hide hx4
   clear hx1 hx3 hx4
   generalize X.getD pos 0 = c at *
   generalize dv (X.take pos) = v0 at *
   obtain ⟨v,hv⟩:∃ v,v = min v0 1099511627776:=⟨_,rfl⟩
   obtain ⟨v2,hv2⟩:∃ v2,v2 = min (dv (X.take (pos + 1))) 1099511627776:=⟨_,rfl⟩
   have hvb:v ≤ 1099511627776:=by omega
   rw [← hv]
   have hmn:min ((v:Int) * 10 + (c - 48)) 1099511627776 = (v2:Int):=by rw [hv2,unhide HQ];omega
   have HV2:=hide hv2
   clear hv hv2 HQ
   go_wp2
   go_roundw
   case rel => exact ⟨pos + 1,by omega,rfl,by rw [← unhide HV2]⟩
   case measure => simp;omega
  ·have e:pos = X.length:=by omega
   subst e
   rw [List.take_length]
   have hnx:∀ ty,(Instr.next (.pointer (some ⟨w2.heap.size,0,none⟩)) true ty).run Tryz.prog (w2.iter xs X.length) = .ok (.tuple #[.bool false]) (w2.iter xs X.length):=fun ty => run_next_end (P:=Tryz.prog) w2 xs X.length ty (by omega)
   obtain ⟨v,hv⟩:∃ v,v = min (dv X) 1099511627776:=⟨_,rfl⟩
   have hvb:v ≤ 1099511627776:=by omega
   rw [← hv]
   have HV:=hide hv
   clear hv
   rcases o with _ | _ | _
   ·have h0:48 ≤ ((tx[0]'htp).toNat:Int):=by rw [ht0];exact (dg_getD (unhide HD) hXp).1
    have h1:(((tx[0]'htp).toNat:Int) == 45) = false:=by rw [beq_eq_false_iff_ne];omega
    clear ht0
    go_wp2
    go_ret2
    refine ⟨?_,(unhide HB2).alloc (unhide HB2).size _⟩
    rw [← unhide HV]
    rfl
   ·have h1:(((tx[0]'htp).toNat:Int) == 45) = false:=by rw [ht0];rfl
    clear ht0
    go_wp2
    go_ret2
    refine ⟨?_,(unhide HB2).alloc (unhide HB2).size _⟩
    rw [← unhide HV]
    rfl
   ·have h1:(((tx[0]'htp).toNat:Int) == 45) = true:=by rw [ht0];rfl
    clear ht0
    go_wp2
    go_ret2
    refine ⟨?_,(unhide HB2).alloc (unhide HB2).size _⟩
    rw [← unhide HV]
    rfl
end Go.Proofs.YtdogjghalplohaaGreatDoor.fto
