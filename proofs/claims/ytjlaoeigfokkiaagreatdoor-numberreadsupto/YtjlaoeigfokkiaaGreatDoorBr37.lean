import Derived.Test.YtjlaoeigfokkiaaGreatDoorBr35
import Derived.Test.YtjlaoeigfokkiaaGreatDoorBr13
namespace Go.Proofs.YtjlaoeigfokkiaaGreatDoor.dcm
open Go.ChangeShapes Go.WideShapes Go.ChangeAt Go.RowKit
open mem fto
open ints (hide unhide)
set_option linter.unusedVariables false
set_option linter.unusedSimpArgs false
set_option maxHeartbeats 1000000 in
set_option maxRecDepth 100000 in
theorem atof_high (s:ByteArray) (d S:Nat) (n p:Int) (ng tr:Bool) (w:World) (hS:S = if ng then 9223372036854775808 else 0) (hd0:1 ≤ d) (hp:310 < p) (hn:0 ≤ n ∧ n ≤ 2000000)
  (opt:w.cell? ⟨5,0,none⟩ = some (.bool true))
  (SP:Calls Tryz.prog 146 #[.string s] w fun e w' => e = .returned (.tuple #[.float .f64 0,.int .i64 0,.bool false]) ∧ w' = w)
  (RF:Calls Tryz.prog 147 #[.string s] w fun e w' => e = .returned (.tuple #[.int .u64 d,.int .i64 p,.bool ng,.bool tr,.bool false,.int .i64 n,.bool true]) ∧ w' = w) :
  Calls Tryz.prog 126 #[.string s] w fun e w' => e = .returned (.tuple #[.float .f64 (S + infR),.int .i64 n,errR]) ∧ Below w.heap.size w w':=by
 have HSP:=hide SP
 have HRF:=hide RF
 have hfb:=run_fromb
 have hdi:((d:Int) == 0) = false:=by rw [beq_eq_false_iff_ne];omega
 have o1:bits .or .u64 9223372036854775808 9218868437227405312 = 18442240474082181120:=by decide
 have o0:bits .or .u64 0 9218868437227405312 = 9218868437227405312:=by decide
 have B1:=hide b2_yes
 have B0:=hide b2_no
 clear SP RF
 go_enter Tryz.func126,Tryz.ntmps126
 go_wp2_with fail
 refine (unhide HSP).mono ?_
 rintro e w1 ⟨rfl,hw⟩
 subst w1
 go_wp2_with fail
 refine (unhide HRF).mono ?_
 rintro e w1 ⟨rfl,hw⟩
 subst w1
 cases ng
 all_goals
  simp only [Bool.false_eq_true,if_false,if_true] at hS
  subst hS
  go_wp2_with fail
  first
   | refine (unhide B0 _).mono ?_
   | refine (unhide B1 _).mono ?_
  rintro e w1 ⟨rfl,hw⟩
  subst w1
  go_wp2
  go_ret3
  exact ⟨rfl,Below.refl _ _⟩
set_option maxHeartbeats 1000000 in
set_option maxRecDepth 100000 in
theorem atof_low (s:ByteArray) (d S:Nat) (n p:Int) (ng tr:Bool) (w:World) (hS:S = if ng then 9223372036854775808 else 0) (hd0:1 ≤ d) (hp:p < -345) (hn:0 ≤ n ∧ n ≤ 2000000)
  (opt:w.cell? ⟨5,0,none⟩ = some (.bool true))
  (SP:Calls Tryz.prog 146 #[.string s] w fun e w' => e = .returned (.tuple #[.float .f64 0,.int .i64 0,.bool false]) ∧ w' = w)
  (RF:Calls Tryz.prog 147 #[.string s] w fun e w' => e = .returned (.tuple #[.int .u64 d,.int .i64 p,.bool ng,.bool tr,.bool false,.int .i64 n,.bool true]) ∧ w' = w) :
  Calls Tryz.prog 126 #[.string s] w fun e w' => e = .returned (.tuple #[.float .f64 S,.int .i64 n,.nilIface]) ∧ Below w.heap.size w w':=by
 have HSP:=hide SP
 have HRF:=hide RF
 have hfb:=run_fromb
 have hdi:((d:Int) == 0) = false:=by rw [beq_eq_false_iff_ne];omega
 have hp3:¬ (310:Int) < p:=by omega
 have o1:bits .or .u64 9223372036854775808 0 = 9223372036854775808:=by decide
 have o0:bits .or .u64 0 0 = 0:=by decide
 have B1:=hide b2_yes
 have B0:=hide b2_no
 clear SP RF
 go_enter Tryz.func126,Tryz.ntmps126
 go_wp2_with fail
 refine (unhide HSP).mono ?_
 rintro e w1 ⟨rfl,hw⟩
 subst w1
 go_wp2_with fail
 refine (unhide HRF).mono ?_
 rintro e w1 ⟨rfl,hw⟩
 subst w1
 cases ng
 all_goals
  simp only [Bool.false_eq_true,if_false,if_true] at hS
  subst hS
  go_wp2_with fail
  first
   | refine (unhide B0 _).mono ?_
   | refine (unhide B1 _).mono ?_
  rintro e w1 ⟨rfl,hw⟩
  subst w1
  go_wp2
  go_ret3
  exact ⟨rfl,Below.refl _ _⟩
set_option maxHeartbeats 1000000 in
set_option maxRecDepth 100000 in
theorem atof_nt (s:ByteArray) (n:Int) (d S F:Nat) (p:Int) (ng:Bool) (er:Value) (w:World) (hS:S = if ng then 9223372036854775808 else 0) (hd0:1 ≤ d) (hd:d < 18446744073709551616) (hp:-345 ≤ p ∧ p ≤ 310) (hn:0 ≤ n ∧ n ≤ 2000000)
  (opt:w.cell? ⟨5,0,none⟩ = some (.bool true))
  (SP:Calls Tryz.prog 146 #[.string s] w fun e w' => e = .returned (.tuple #[.float .f64 0,.int .i64 0,.bool false]) ∧ w' = w)
  (RF:Calls Tryz.prog 147 #[.string s] w fun e w' => e = .returned (.tuple #[.int .u64 d,.int .i64 p,.bool ng,.bool false,.bool false,.int .i64 n,.bool true]) ∧ w' = w)
  (EX:Calls Tryz.prog 157 #[.int .u64 d,.int .i64 p,.bool ng] w fun e w' => (∃ (G:Nat) (ok:Bool),e = .returned (.tuple #[.float .f64 G,.bool ok]) ∧ (ok = true → G = F ∧ er = .nilIface)) ∧ w' = w)
  (PA:Calls Tryz.prog 158 #[.int .u64 d,.int .i64 p,.int .u64 S] w fun e w' => e = .returned (.tuple #[.float .f64 F,er]) ∧ Below w.heap.size w w') :
  Calls Tryz.prog 126 #[.string s] w fun e w' => e = .returned (.tuple #[.float .f64 F,.int .i64 n,er]) ∧ Below w.heap.size w w':=by
 have HSP:=hide SP
 have HRF:=hide RF
 have HEX:=hide EX
 have HPA:=hide PA
 have hdi:((d:Int) == 0) = false:=by rw [beq_eq_false_iff_ne];omega
 have B1:=hide b2_yes
 have B0:=hide b2_no
 clear SP RF EX PA hd
 go_enter Tryz.func126,Tryz.ntmps126
 go_wp2_with fail
 refine (unhide HSP).mono ?_
 rintro e w1 ⟨rfl,hw⟩
 subst w1
 go_wp2_with fail
 refine (unhide HRF).mono ?_
 rintro e w1 ⟨rfl,hw⟩
 subst w1
 cases ng
 all_goals
  simp only [Bool.false_eq_true,if_false,if_true] at hS
  subst hS
  go_wp2_with fail
  first
   | refine (unhide B0 _).mono ?_
   | refine (unhide B1 _).mono ?_
  rintro e w1 ⟨rfl,hw⟩
  subst w1
  go_wp2_with fail
  refine (unhide HEX).mono ?_
  rintro e w1 ⟨⟨G,ok,rfl,hok⟩,hw⟩
  subst w1
  cases ok
  ·go_wp2_with fail
   refine (unhide HPA).mono ?_
   rintro e w1 ⟨rfl,b1⟩
   have HB:=hide b1
   clear b1
   go_wp2
   go_ret3
   exact ⟨rfl,unhide HB⟩
  ·obtain ⟨hG,hE⟩:=hok rfl
   subst hG
   subst hE
   go_wp2
   go_ret3
   exact ⟨rfl,Below.refl _ _⟩
theorem fin_37:18446744073709551616 * 10 ^ 37 * k74 < vR (infR - 1):=by decide +kernel
theorem inf_far {d lo:Nat} {p:Int} (hd:d < 18446744073709551616) (hlo:Lo (d * 10 ^ p.toNat * k74) (10 ^ (-p).toNat) lo) (hR:infR ≤ roundR (d * 10 ^ p.toNat * k74) (10 ^ (-p).toNat) lo):37 < p:=by
 rcases Int.lt_or_le 37 p with g | g
 ·exact g
 ·exfalso
  have h1:infR - 1 ≤ lo:=by
   have:roundR (d * 10 ^ p.toNat * k74) (10 ^ (-p).toNat) lo ≤ lo + 1:=by unfold roundR;split <;> omega
   omega
  have h2:=vR_mono_le h1
  have h3:1 * vR lo ≤ 10 ^ (-p).toNat * vR lo:=Nat.mul_le_mul_right _ (Nat.pow_pos (by decide))
  have h4:=hlo.1
  have h5:d * 10 ^ p.toNat * k74 ≤ 18446744073709551616 * 10 ^ 37 * k74:=Nat.mul_le_mul_right _ (Nat.mul_le_mul (by omega) (Nat.pow_le_pow_right (by decide) (by omega)))
  have h6:=fin_37
  generalize vR (infR - 1) = A at *
  generalize 18446744073709551616 * 10 ^ 37 * k74 = C at *
  omega
end Go.Proofs.YtjlaoeigfokkiaaGreatDoor.dcm
