import Derived.Test.YtdogjghalplohaaGreatDoorJs30
import Derived.Test.YtdogjghalplohaaGreatDoorJs19
import Derived.Shelf.Strconv.ToErrorRange
import Derived.Test.YtdogjghalplohaaGreatDoorProg
import Derived.Test.YtdogjghalplohaaGreatDoorJs21
namespace Go.Proofs.YtdogjghalplohaaGreatDoor.dcm
open Go.ChangeShapes Go.WideShapes Go.ChangeAt Go.RowKit
open mem fto
open ints (hide unhide)
set_option linter.unusedVariables false
set_option linter.unusedSimpArgs false
set_option maxHeartbeats 1000000 in
set_option maxRecDepth 100000 in
theorem atof_high (s:ByteArray) (d S:Nat) (n p:Int) (ng tr:Bool) (w:World) (hS:S = if ng then 9223372036854775808 else 0) (hd0:1 ≤ d) (hp:310 < p) (hn:0 ≤ n ∧ n ≤ 2000000)
  (opt:w.cell? ⟨8,0,none⟩ = some (.bool true))
  (SP:Calls Tryz.prog 174 #[.string s] w fun e w' => e = .returned (.tuple #[.float .f64 0,.int .i64 0,.bool false]) ∧ w' = w)
  (RF:Calls Tryz.prog 175 #[.string s] w fun e w' => e = .returned (.tuple #[.int .u64 d,.int .i64 p,.bool ng,.bool tr,.bool false,.int .i64 n,.bool true]) ∧ w' = w) :
  Calls Tryz.prog 155 #[.string s] w fun e w' => e = .returned (.tuple #[.float .f64 (S + infR),.int .i64 n,errR]) ∧ Below w.heap.size w w':=by
 have HSP:=hide SP
 have HRF:=hide RF
 have hfb:=run_fromb
 have hdi:((d:Int) == 0) = false:=by rw [beq_eq_false_iff_ne];omega
 have o1:bits .or .u64 9223372036854775808 9218868437227405312 = 18442240474082181120:=by decide
 have o0:bits .or .u64 0 9218868437227405312 = 9218868437227405312:=by decide
 have B1:=hide b2_yes
 have B0:=hide b2_no
 clear SP RF
 go_enter Tryz.func155,Tryz.ntmps155
 go_wp2_with fail
 refine (unhide HSP).mono ?_
 rintro e w1 ⟨rfl,hw⟩
 subst w1
 go_wp2_with fail
 refine (unhide HRF).mono ?_
 rintro e w1 ⟨rfl,hw⟩
 subst w1
 cases ng
 all_goals
  simp only [Bool.false_eq_true,if_false,if_true] at hS
  subst hS
  go_wp2_with fail
  first
   | refine (unhide B0 _).mono ?_
   | refine (unhide B1 _).mono ?_
  rintro e w1 ⟨rfl,hw⟩
  subst w1
  go_wp2
  go_ret3
  exact ⟨rfl,Below.refl _ _⟩
set_option maxHeartbeats 1000000 in
set_option maxRecDepth 100000 in
theorem atof_low (s:ByteArray) (d S:Nat) (n p:Int) (ng tr:Bool) (w:World) (hS:S = if ng then 9223372036854775808 else 0) (hd0:1 ≤ d) (hp:p < -345) (hn:0 ≤ n ∧ n ≤ 2000000)
  (opt:w.cell? ⟨8,0,none⟩ = some (.bool true))
  (SP:Calls Tryz.prog 174 #[.string s] w fun e w' => e = .returned (.tuple #[.float .f64 0,.int .i64 0,.bool false]) ∧ w' = w)
  (RF:Calls Tryz.prog 175 #[.string s] w fun e w' => e = .returned (.tuple #[.int .u64 d,.int .i64 p,.bool ng,.bool tr,.bool false,.int .i64 n,.bool true]) ∧ w' = w) :
  Calls Tryz.prog 155 #[.string s] w fun e w' => e = .returned (.tuple #[.float .f64 S,.int .i64 n,.nilIface]) ∧ Below w.heap.size w w':=by
 have HSP:=hide SP
 have HRF:=hide RF
 have hfb:=run_fromb
 have hdi:((d:Int) == 0) = false:=by rw [beq_eq_false_iff_ne];omega
 have hp3:¬ (310:Int) < p:=by omega
 have o1:bits .or .u64 9223372036854775808 0 = 9223372036854775808:=by decide
 have o0:bits .or .u64 0 0 = 0:=by decide
 have B1:=hide b2_yes
 have B0:=hide b2_no
 clear SP RF
 go_enter Tryz.func155,Tryz.ntmps155
 go_wp2_with fail
 refine (unhide HSP).mono ?_
 rintro e w1 ⟨rfl,hw⟩
 subst w1
 go_wp2_with fail
 refine (unhide HRF).mono ?_
 rintro e w1 ⟨rfl,hw⟩
 subst w1
 cases ng
 all_goals
  simp only [Bool.false_eq_true,if_false,if_true] at hS
  subst hS
  go_wp2_with fail
  first
   | refine (unhide B0 _).mono ?_
   | refine (unhide B1 _).mono ?_
  rintro e w1 ⟨rfl,hw⟩
  subst w1
  go_wp2
  go_ret3
  exact ⟨rfl,Below.refl _ _⟩
set_option maxHeartbeats 1000000 in
set_option maxRecDepth 100000 in
theorem atof_nt (s:ByteArray) (n:Int) (d S F:Nat) (p:Int) (ng:Bool) (er:Value) (w:World) (hS:S = if ng then 9223372036854775808 else 0) (hd0:1 ≤ d) (hd:d < 18446744073709551616) (hp:-345 ≤ p ∧ p ≤ 310) (hn:0 ≤ n ∧ n ≤ 2000000)
  (opt:w.cell? ⟨8,0,none⟩ = some (.bool true))
  (SP:Calls Tryz.prog 174 #[.string s] w fun e w' => e = .returned (.tuple #[.float .f64 0,.int .i64 0,.bool false]) ∧ w' = w)
  (RF:Calls Tryz.prog 175 #[.string s] w fun e w' => e = .returned (.tuple #[.int .u64 d,.int .i64 p,.bool ng,.bool false,.bool false,.int .i64 n,.bool true]) ∧ w' = w)
  (EX:Calls Tryz.prog 185 #[.int .u64 d,.int .i64 p,.bool ng] w fun e w' => (∃ (G:Nat) (ok:Bool),e = .returned (.tuple #[.float .f64 G,.bool ok]) ∧ (ok = true → G = F ∧ er = .nilIface)) ∧ w' = w)
  (PA:Calls Tryz.prog 186 #[.int .u64 d,.int .i64 p,.int .u64 S] w fun e w' => e = .returned (.tuple #[.float .f64 F,er]) ∧ Below w.heap.size w w') :
  Calls Tryz.prog 155 #[.string s] w fun e w' => e = .returned (.tuple #[.float .f64 F,.int .i64 n,er]) ∧ Below w.heap.size w w':=by
 have HSP:=hide SP
 have HRF:=hide RF
 have HEX:=hide EX
 have HPA:=hide PA
 have hdi:((d:Int) == 0) = false:=by rw [beq_eq_false_iff_ne];omega
 have B1:=hide b2_yes
 have B0:=hide b2_no
 clear SP RF EX PA hd
 go_enter Tryz.func155,Tryz.ntmps155
 go_wp2_with fail
 refine (unhide HSP).mono ?_
 rintro e w1 ⟨rfl,hw⟩
 subst w1
 go_wp2_with fail
 refine (unhide HRF).mono ?_
 rintro e w1 ⟨rfl,hw⟩
 subst w1
 cases ng
 all_goals
  simp only [Bool.false_eq_true,if_false,if_true] at hS
  subst hS
  go_wp2_with fail
  first
   | refine (unhide B0 _).mono ?_
   | refine (unhide B1 _).mono ?_
  rintro e w1 ⟨rfl,hw⟩
  subst w1
  go_wp2_with fail
  refine (unhide HEX).mono ?_
  rintro e w1 ⟨⟨G,ok,rfl,hok⟩,hw⟩
  subst w1
  cases ok
  ·go_wp2_with fail
   refine (unhide HPA).mono ?_
   rintro e w1 ⟨rfl,b1⟩
   have HB:=hide b1
   clear b1
   go_wp2
   go_ret3
   exact ⟨rfl,unhide HB⟩
  ·obtain ⟨hG,hE⟩:=hok rfl
   subst hG
   subst hE
   go_wp2
   go_ret3
   exact ⟨rfl,Below.refl _ _⟩
theorem fin_37:18446744073709551616 * 10 ^ 37 * k74 < vR (infR - 1):=by decide +kernel
theorem inf_far {d lo:Nat} {p:Int} (hd:d < 18446744073709551616) (hlo:Lo (d * 10 ^ p.toNat * k74) (10 ^ (-p).toNat) lo) (hR:infR ≤ roundR (d * 10 ^ p.toNat * k74) (10 ^ (-p).toNat) lo):37 < p:=by
 rcases Int.lt_or_le 37 p with g | g
 ·exact g
 ·exfalso
  have h1:infR - 1 ≤ lo:=by
   have:roundR (d * 10 ^ p.toNat * k74) (10 ^ (-p).toNat) lo ≤ lo + 1:=by unfold roundR;split <;> omega
   omega
  have h2:=vR_mono_le h1
  have h3:1 * vR lo ≤ 10 ^ (-p).toNat * vR lo:=Nat.mul_le_mul_right _ (Nat.pow_pos (by decide))
  have h4:=hlo.1
  have h5:d * 10 ^ p.toNat * k74 ≤ 18446744073709551616 * 10 ^ 37 * k74:=Nat.mul_le_mul_right _ (Nat.mul_le_mul (by omega) (Nat.pow_le_pow_right (by decide) (by omega)))
  have h6:=fin_37
  generalize vR (infR - 1) = A at *
  generalize 18446744073709551616 * 10 ^ 37 * k74 = C at *
  omega
end Go.Proofs.YtdogjghalplohaaGreatDoor.dcm
namespace Go.Proofs.YtdogjghalplohaaGreatDoor.dcm
open Go.ChangeShapes Go.WideShapes Go.ChangeAt Go.RowKit
open mem fto
open ints (hide unhide)
set_option linter.unusedVariables false
set_option linter.unusedSimpArgs false
theorem trs_noughts {s:ByteArray} {a:Nat}:∀ i,trs s a (19 + i) = false → mvs s a (19 + i) = mvs s a 19 * 10 ^ i
 | 0,_ => by simp
 | i + 1,h => by
  have h1:trs s a (19 + i) = false ∧ (decide (19 ≤ 19 + i) && decide (bz s (a + (19 + i)) ≠ 48)) = false:=by
   have:trs s a (19 + i + 1) = false:=h
   rw [trs,Bool.or_eq_false_iff] at this
   exact this
  have h2:bz s (a + (19 + i)) = 48:=by
   have:=h1.2
   simpa using this
  show mvs s a (19 + i) * 10 + (bz s (a + (19 + i)) - 48).toNat = _
  rw [trs_noughts i h1.1,h2,Nat.pow_succ]
  simp [Nat.mul_assoc]
def n345:Nat:=345
theorem low_345:2 * (18446744073709551616 * k74) < 10 ^ n345:=by decide +kernel
theorem vR_one:vR 1 = 1:=by decide
theorem round_none {P B lo:Nat} (h:Lo P B lo) (hB:0 < B) (hs:2 * P < B):roundR P B lo = 0:=by
 have h0:lo = 0:=by
  rcases Nat.eq_zero_or_pos lo with g | g
  ·exact g
  ·exfalso
   have h1:=Nat.mul_le_mul_left B (vR_mono_le g)
   have h2:=h.1
   rw [vR_one] at h1
   omega
 subst h0
 unfold roundR
 rw [vR_zero,if_neg]
 have e:exR 0 = 0:=by decide
 rw [e]
 rintro (c | ⟨c,-⟩) <;> omega
set_option maxRecDepth 10000 in
theorem atof_all (k:Nat) (s:ByteArray) (m g z:Nat) (e:Int) (h:Ntx s k m g z) (hk:k ≤ 1) (hm:1 ≤ m)
  (he:e = if g = 1 then - (mvs s (k + 3 + m + g) z:Int) else (mvs s (k + 3 + m + g) z:Int)) (w:World) (hF:Fy w) (hSl:Slow w w.heap.size) :
  ∃ lo,Lo (mvs s (k + 2) m * 10 ^ (e - m).toNat * k74) (10 ^ (-(e - m)).toNat) lo ∧
   Calls Tryz.prog 155 #[.string s] w fun ed w' => ed = .returned (.tuple #[.float .f64 (k * 9223372036854775808 + cpR (roundR (mvs s (k + 2) m * 10 ^ (e - m).toNat * k74) (10 ^ (-(e - m)).toNat) lo)),.int .i64 s.size,erR (roundR (mvs s (k + 2) m * 10 ^ (e - m).toNat * k74) (10 ^ (-(e - m)).toNat) lo)]) ∧ Below w.heap.size w w':=by
 have hsz1:s.size ≤ 2000000:=by have:=h.sz;have:=h.m1;have:=h.z1;have:=h.g1;omega
 have hsz2:k + 4 ≤ s.size:=by have:=h.sz;have:=h.z0;omega
 have hBq:0 < 10 ^ (-(e - m)).toNat:=Nat.pow_pos (by decide)
 obtain ⟨c,hc⟩:∃ c,c = min m 19:=⟨_,rfl⟩
 obtain ⟨j,hj⟩:∃ j,m = c + j:=⟨m - c,by omega⟩
 have hpq:e - c = (e - m) + (j:Int):=by omega
 obtain ⟨d,hd⟩:∃ d,d = mvs s (k + 2) c:=⟨_,rfl⟩
 have f1:49 ≤ bz s (k + 2):=by have a1:=h.bf (by omega);have a2:=h.bd 0 (by omega);rw [Nat.add_zero] at a2;omega
 have hd0:1 ≤ d:=by rw [hd];exact mvs_pos s (k + 2) f1 _ (by omega)
 have hd1:d < 10000000000000000000:=by
  rw [hd]
  exact Nat.lt_of_lt_of_le (mvs_lt s (k + 2) m h.bd c (by omega)) (Nat.le_trans (Nat.pow_le_pow_right (by decide) (show c ≤ 19 by omega)) (by decide))
 obtain ⟨r,hr,hrj⟩:=dvN_split (tdec_ok h.bd) c j
 rw [tdec_dv h.bd c (by omega),tdec_dv h.bd (c + j) (by omega),← hj,← hd] at hr
 have hS2:k * 9223372036854775808 = 0 ∨ k * 9223372036854775808 = 9223372036854775808:=by omega
 obtain ⟨ng,hng⟩:∃ ng:Bool,ng = decide (k = 1):=⟨_,rfl⟩
 have hSn:k * 9223372036854775808 = if ng then 9223372036854775808 else 0:=by
  rw [hng]
  have:k = 0 ∨ k = 1:=by omega
  rcases this with rfl | rfl <;> rfl
 have m0':¬ m = 0:=by omega
 have SP:Calls Tryz.prog 174 #[.string s] w fun e w' => e = .returned (.tuple #[.float .f64 0,.int .i64 0,.bool false]) ∧ w' = w:=by
  have:k = 0 ∨ k = 1:=by omega
  rcases this with rfl | rfl
  ·exact special0 s w (by omega) (by rw [← bz_at];exact h.b1)
  ·exact special1 s w (by omega) hsz1 (by omega) (by rw [← bz_at];exact h.b0 rfl) (by rw [← bz_at];exact h.b1)
 have RF:Calls Tryz.prog 175 #[.string s] w fun ed w' => ed = .returned (.tuple #[.int .u64 d,.int .i64 (e - c),.bool ng,.bool (trs s (k + 2) m),.bool false,.int .i64 s.size,.bool true]) ∧ w' = w:=by
  have:k = 0 ∨ k = 1:=by omega
  rcases this with rfl | rfl
  ·have RF:=readF0 s m g z w h
   rw [if_neg m0',← hc,← hd,← he] at RF
   rw [hng];exact RF
  ·have RF:=readF1 s m g z w h
   rw [if_neg m0',← hc,← hd,← he] at RF
   rw [hng];exact RF
 by_cases hhi:310 < e - c
 ·obtain ⟨lo,hlo⟩:=lo_some (mvs s (k + 2) m * 10 ^ (e - m).toNat * k74) hBq
  refine ⟨lo,hlo,?_⟩
  have hinf:infR ≤ roundR (mvs s (k + 2) m * 10 ^ (e - m).toNat * k74) (10 ^ (-(e - m)).toNat) lo:=by
   refine round_inf hlo hBq ?_
   have hx:=cross_le (d:=d) (N:=mvs s (k + 2) m) (j:=j) (q:=e - m) (by rw [hr];omega)
   rw [← hpq,show (-(e - c)).toNat = 0 by omega,Nat.pow_zero,Nat.mul_one] at hx
   refine Nat.le_trans ?_ hx
   rw [Nat.mul_comm]
   refine Nat.mul_le_mul_right _ (Nat.le_trans inf_310 (Nat.mul_le_mul_right _ ?_))
   have h7:1 * 10 ^ n31 ≤ d * 10 ^ (e - c).toNat:=Nat.mul_le_mul hd0 (Nat.pow_le_pow_right (by decide) (by have:n31 = 310:=rfl;omega))
   rw [Nat.one_mul] at h7
   exact h7
  refine (atof_high s d _ s.size (e - c) ng _ w hSn hd0 hhi (by omega) hF.opt SP RF).mono ?_
  rintro ed w' ⟨rfl,hb⟩
  unfold cpR erR
  rw [if_neg (by omega),if_neg (by omega)]
  exact ⟨rfl,hb⟩
 by_cases hlow:e - c < -345
 ·obtain ⟨lo,hlo⟩:=lo_some (mvs s (k + 2) m * 10 ^ (e - m).toNat * k74) hBq
  refine ⟨lo,hlo,?_⟩
  have hz:roundR (mvs s (k + 2) m * 10 ^ (e - m).toNat * k74) (10 ^ (-(e - m)).toNat) lo = 0:=by
   refine round_none hlo hBq ?_
   have hx:=cross_ge (d:=d + 1) (N:=mvs s (k + 2) m) (j:=j) (q:=e - m) (by rw [hr,Nat.add_mul];omega)
   rw [← hpq,show (e - c).toNat = 0 by omega,Nat.pow_zero,Nat.mul_one] at hx
   have h8:10 ^ n345 ≤ 10 ^ (-(e - c)).toNat:=Nat.pow_le_pow_right (by decide) (by have:n345 = 345:=rfl;omega)
   have h9:2 * ((d + 1) * k74) ≤ 2 * (18446744073709551616 * k74):=Nat.mul_le_mul_left 2 (Nat.mul_le_mul_right _ (by omega))
   have h10:=low_345
   have h11:0 < 10 ^ (-(e - c)).toNat:=Nat.pow_pos (by decide)
   generalize mvs s (k + 2) m * 10 ^ (e - m).toNat * k74 = P at *
   generalize 10 ^ (-(e - m)).toNat = B at *
   generalize 10 ^ (-(e - c)).toNat = T at *
   generalize 10 ^ n345 = T0 at *
   generalize 2 * (18446744073709551616 * k74) = Z at *
   have h12:2 * P * T ≤ 2 * ((d + 1) * k74) * B:=by rw [Nat.mul_assoc,Nat.mul_assoc];exact Nat.mul_le_mul_left 2 hx
   have h13:2 * ((d + 1) * k74) * B < T * B:=Nat.mul_lt_mul_of_pos_right (by omega) hBq
   exact Nat.lt_of_mul_lt_mul_right (a:=T) (by rw [Nat.mul_comm B];omega)
  refine (atof_low s d _ s.size (e - c) ng _ w hSn hd0 hlow (by omega) hF.opt SP RF).mono ?_
  rintro ed w' ⟨rfl,hb⟩
  rw [hz]
  have q1:cpR 0 = 0:=by unfold cpR;rw [if_pos (by decide)]
  have q2:erR 0 = .nilIface:=by unfold erR;rw [if_pos (by decide)]
  rw [q1,q2,Nat.add_zero]
  exact ⟨rfl,hb⟩
 have hp:-345 ≤ e - c ∧ e - c ≤ 310:=by omega
 cases ht:trs s (k + 2) m with
 | true =>
  have h19:20 ≤ m:=by
   rcases Nat.lt_or_ge m 20 with q | q
   ·rw [trs_small s (k + 2) m (by omega)] at ht;cases ht
   ·exact q
  have hc19:c = 19:=by omega
  rw [hc19] at hp
  exact atof_cut k s m g z e h hk h19 ht he hp w hF hSl
 | false =>
  rw [ht] at RF
  have hN:mvs s (k + 2) m = d * 10 ^ j:=by
   rcases Nat.lt_or_ge m 19 with q | q
   ·have:c = m:=by omega
    have hj0:j = 0:=by omega
    rw [hj0,Nat.pow_zero,Nat.mul_one,hd,this]
   ·have hc19:c = 19:=by omega
    have:=trs_noughts (s:=s) (a:=k + 2) j (by rw [← hc19,← hj];exact ht)
    rw [← hc19,← hj,← hd] at this
    exact this
  obtain ⟨lo0,hlo0,PA⟩:=parse_full d (k * 9223372036854775808) (e - c) hd0 (by omega) hp hS2
  obtain ⟨lo,hlo⟩:=lo_some (mvs s (k + 2) m * 10 ^ (e - m).toNat * k74) hBq
  have hBp:0 < 10 ^ (-(e - c)).toNat:=Nat.pow_pos (by decide)
  have eR:roundR (d * 10 ^ (e - c).toNat * k74) (10 ^ (-(e - c)).toNat) lo0 = roundR (mvs s (k + 2) m * 10 ^ (e - m).toNat * k74) (10 ^ (-(e - m)).toNat) lo:=by
   refine Nat.le_antisymm (round_mono hBp hBq hlo0 hlo ?_) (round_mono hBq hBp hlo hlo0 ?_)
   ·rw [hpq];exact cross_le (by rw [hN];exact Nat.le_refl _)
   ·rw [hpq];exact cross_ge (by rw [hN];exact Nat.le_refl _)
  refine ⟨lo,hlo,?_⟩
  rw [← eR]
  refine atof_nt s s.size d (k * 9223372036854775808) _ (e - c) ng _ w hSn hd0 (by omega) hp (by omega) hF.opt SP RF ?_ (PA w hF.fx.fw.pt hF.fx.fw.g)
  by_cases hRi:roundR (d * 10 ^ (e - c).toNat * k74) (10 ^ (-(e - c)).toNat) lo0 < infR
  ·refine (ex_any d (e - c) ng (k * 9223372036854775808) lo0 w hd0 (by omega) hp hF.info hF.ten hSn hlo0 hRi).mono ?_
   rintro ed w' ⟨⟨G,ok,h1,h2⟩,hw⟩
   refine ⟨⟨G,ok,h1,fun h3 => ⟨?_,?_⟩⟩,hw⟩
   ·unfold cpR;rw [if_pos hRi];exact h2 h3
   ·unfold erR;rw [if_pos hRi]
  ·have h37:=inf_far (by omega) hlo0 (by omega)
   rcases Nat.lt_or_ge d 4503599627370496 with q | q
   ·refine (ex_far d (e - c) ng w q (Or.inr h37) (by omega) hF.info).mono ?_
    rintro ed w' ⟨⟨G,h1⟩,hw⟩
    exact ⟨⟨G,false,h1,fun h3 => by cases h3⟩,hw⟩
   ·refine (ex_long d (e - c) ng w q (by omega) hF.info).mono ?_
    rintro ed w' ⟨h1,hw⟩
    exact ⟨⟨0,false,h1,fun h3 => by cases h3⟩,hw⟩
end Go.Proofs.YtdogjghalplohaaGreatDoor.dcm
namespace Go.Proofs
open Go.Shelf
def Tryz.laysC245_ren:Go.Shelf.Ren:=⟨fun | 245 => 70 | 279 => 95 | 280 => 96 | 281 => 97 | 282 => 98 | 316 => 122 | 171 => 124 | 205 => 123 | 243 => 146 | 246 => 115 | 283 => 137 | 284 => 138 | 285 => 139 | 286 => 140 | 129 => 161 | 317 => 160 | 318 => 162 | 319 => 163 | 320 => 164 | 337 => 190 | 338 => 191 | n => n,fun | 9 => 9 | 3 => 3 | 75 => 70 | 167 => 141 | 4 => 4 | 168 => 144 | 210 => 165 | 37 => 22 | 0 => 0 | 127 => 110 | 145 => 185 | 143 => 183 | 2 => 2 | 171 => 176 | 53 => 82 | 5 => 5 | 173 => 179 | 212 => 200 | 51 => 175 | 20 => 20 | 213 => 201 | 46 => 138 | 232 => 260 | 233 => 261 | 80 => 73 | n => n,fun | 15 => 2 | 16 => 3 | 17 => 4 | 18 => 13 | 19 => 14 | n => n⟩
theorem Tryz.laysC245:Go.Proofs.LaysC.n245 Tryz.prog Tryz.laysC245_ren:={
  mixed:=by kernel_rfl
  f129:=Tryz.func161.trans (congrArg some (by kernel_rfl))
  f171:=Tryz.func124.trans (congrArg some (by kernel_rfl))
  f205:=Tryz.func123.trans (congrArg some (by kernel_rfl))
  f243:=Tryz.func146.trans (congrArg some (by kernel_rfl))
  f245:=Tryz.func70.trans (congrArg some (by kernel_rfl))
  f246:=Tryz.func115.trans (congrArg some (by kernel_rfl))
  f279:=Tryz.func95.trans (congrArg some (by kernel_rfl))
  f280:=Tryz.func96.trans (congrArg some (by kernel_rfl))
  f281:=Tryz.func97.trans (congrArg some (by kernel_rfl))
  f282:=Tryz.func98.trans (congrArg some (by kernel_rfl))
  f283:=Tryz.func137.trans (congrArg some (by kernel_rfl))
  f284:=Tryz.func138.trans (congrArg some (by kernel_rfl))
  f285:=Tryz.func139.trans (congrArg some (by kernel_rfl))
  f286:=Tryz.func140.trans (congrArg some (by kernel_rfl))
  f316:=Tryz.func122.trans (congrArg some (by kernel_rfl))
  f317:=Tryz.func160.trans (congrArg some (by kernel_rfl))
  f318:=Tryz.func162.trans (congrArg some (by kernel_rfl))
  f319:=Tryz.func163.trans (congrArg some (by kernel_rfl))
  f320:=Tryz.func164.trans (congrArg some (by kernel_rfl))
  f337:=Tryz.func190.trans (congrArg some (by kernel_rfl))
  f338:=Tryz.func191.trans (congrArg some (by kernel_rfl))
  t0:=Tryz.underlying0
  a0:=Tryz.isAgg0
  z0:=Tryz.sizeOf0
  v0:=Tryz.zeroValue0
  t2:=Tryz.underlying2
  a2:=Tryz.isAgg2
  z2:=Tryz.sizeOf2
  v2:=Tryz.zeroValue2
  t3:=Tryz.underlying3
  a3:=Tryz.isAgg3
  z3:=Tryz.sizeOf3
  v3:=Tryz.zeroValue3
  t4:=Tryz.underlying4
  a4:=Tryz.isAgg4
  z4:=Tryz.sizeOf4
  v4:=Tryz.zeroValue4
  t5:=Tryz.underlying5
  a5:=Tryz.isAgg5
  z5:=Tryz.sizeOf5
  v5:=Tryz.zeroValue5
  t9:=Tryz.underlying9
  a9:=Tryz.isAgg9
  z9:=Tryz.sizeOf9
  v9:=Tryz.zeroValue9
  t20:=Tryz.underlying20
  a20:=Tryz.isAgg20
  z20:=Tryz.sizeOf20
  v20:=Tryz.zeroValue20
  t37:=Tryz.underlying22
  a37:=Tryz.isAgg22
  z37:=Tryz.sizeOf22
  v37:=Tryz.zeroValue22
  t46:=Tryz.underlying138
  a46:=Tryz.isAgg138
  z46:=Tryz.sizeOf138
  v46:=Tryz.zeroValue138
  t51:=Tryz.underlying175
  a51:=Tryz.isAgg175
  z51:=Tryz.sizeOf175
  v51:=Tryz.zeroValue175
  t53:=Tryz.underlying82
  a53:=Tryz.isAgg82
  z53:=Tryz.sizeOf82
  v53:=Tryz.zeroValue82
  t75:=Tryz.underlying70
  a75:=Tryz.isAgg70
  z75:=Tryz.sizeOf70
  v75:=Tryz.zeroValue70
  t127:=Tryz.underlying110
  a127:=Tryz.isAgg110
  z127:=Tryz.sizeOf110
  v127:=Tryz.zeroValue110
  t143:=Tryz.underlying183
  a143:=Tryz.isAgg183
  z143:=Tryz.sizeOf183
  v143:=Tryz.zeroValue183
  t145:=Tryz.underlying185
  a145:=Tryz.isAgg185
  z145:=Tryz.sizeOf185
  v145:=Tryz.zeroValue185
  t167:=Tryz.underlying141
  a167:=Tryz.isAgg141
  z167:=Tryz.sizeOf141
  v167:=Tryz.zeroValue141
  t168:=Tryz.underlying144
  a168:=Tryz.isAgg144
  z168:=Tryz.sizeOf144
  v168:=Tryz.zeroValue144
  t171:=Tryz.underlying176
  a171:=Tryz.isAgg176
  z171:=Tryz.sizeOf176
  v171:=Tryz.zeroValue176
  t173:=Tryz.underlying179
  a173:=Tryz.isAgg179
  z173:=Tryz.sizeOf179
  v173:=Tryz.zeroValue179
  t210:=Tryz.underlying165
  a210:=Tryz.isAgg165
  z210:=Tryz.sizeOf165
  v210:=Tryz.zeroValue165
  t212:=Tryz.underlying200
  a212:=Tryz.isAgg200
  z212:=Tryz.sizeOf200
  v212:=Tryz.zeroValue200
  t213:=Tryz.underlying201
  a213:=Tryz.isAgg201
  z213:=Tryz.sizeOf201
  t232:=Tryz.underlying260
  a232:=Tryz.isAgg260
  z232:=Tryz.sizeOf260
  v232:=Tryz.zeroValue260
  t233:=Tryz.underlying261
  a233:=Tryz.isAgg261
  z233:=Tryz.sizeOf261
  v233:=Tryz.zeroValue261
  g15:=by kernel_rfl
  g16:=by kernel_rfl
  g17:=by kernel_rfl
  g18:=by kernel_rfl
  g19:=by kernel_rfl
  t80:=Tryz.underlying73
  a80:=Tryz.isAgg73
  z80:=Tryz.sizeOf73
  v80:=Tryz.zeroValue73
  i0:=by kernel_rfl
  i2:=by kernel_rfl
  i3:=by kernel_rfl
  i4:=by kernel_rfl
  i5:=by kernel_rfl
  i9:=by kernel_rfl
  i20:=by kernel_rfl
  i37:=by kernel_rfl
  i46:=by kernel_rfl
  i51:=by kernel_rfl
  i53:=by kernel_rfl
  i75:=by kernel_rfl
  i80:=by kernel_rfl
  i127:=by kernel_rfl
  i143:=by kernel_rfl
  i145:=by kernel_rfl
  i167:=by kernel_rfl
  i168:=by kernel_rfl
  i171:=by kernel_rfl
  i173:=by kernel_rfl
  i210:=by kernel_rfl
  i212:=by kernel_rfl
  i232:=by kernel_rfl
  i233:=by kernel_rfl
  m15:=by kernel_rfl
  m16:=by kernel_rfl
  m17:=by kernel_rfl
  m18:=by kernel_rfl
  m19:=by kernel_rfl
  c0:=by kernel_rfl
  c2:=by kernel_rfl
  c3:=by kernel_rfl
  c4:=by kernel_rfl
  c5:=by kernel_rfl
  c9:=by kernel_rfl
  c20:=by kernel_rfl
  c37:=by kernel_rfl
  c46:=by kernel_rfl
  c51:=by kernel_rfl
  c53:=by kernel_rfl
  c75:=by kernel_rfl
  c80:=by kernel_rfl
  c127:=by kernel_rfl
  c143:=by kernel_rfl
  c145:=by kernel_rfl
  c167:=by kernel_rfl
  c168:=by kernel_rfl
  c171:=by kernel_rfl
  c173:=by kernel_rfl
  c210:=by kernel_rfl
  c212:=by kernel_rfl
  c213:=by kernel_rfl
  c232:=by kernel_rfl
  c233:=by kernel_rfl }
open Go.RowKit in
theorem Tryz.strconv_toError_range (fn s:ByteArray) (base bits:Int) (ev:Value) (w:World) (hlim:s.size ≤ 281474976710656) (hv:w.cell? ⟨3,0,none⟩ = some ev) (hev:ev = .nilIface ∨ ∃ te pe,ev = .iface te pe) :
    Calls Tryz.prog 70 #[.string fn,.string s,.int .i64 base,.int .i64 bits,.iface 141 (.int .i64 1)] w fun e w' => ∃ N,e = .returned (.iface 144 (.pointer (some ⟨N,0,none⟩))) ∧ w.heap.size ≤ N ∧ w'.heap[N]? = some (.cells #[.string fn,.string s,ev] 165 (0,0)) ∧ Below w.heap.size w w':=Any.strconv_toError_range Tryz.laysC245 fn s base bits ev w hlim hv hev
end Go.Proofs
namespace Go.Proofs.YtdogjghalplohaaGreatDoor.dcm
open Go.ChangeShapes Go.WideShapes Go.ChangeAt Go.RowKit
open mem fto
open ints (hide unhide)
set_option linter.unusedVariables false
set_option linter.unusedSimpArgs false
structure ErV (w:World):Prop where
 ev:∃ ev,w.cell? ⟨3,0,none⟩ = some ev ∧ (ev = .nilIface ∨ ∃ te pe,ev = .iface te pe)
 g:3 < w.heap.size
theorem ErV.below {w W:World} (h:ErV w) (hb:Below w.heap.size w W):ErV W:=by
 obtain ⟨ev,h1,h2⟩:=h.ev
 exact ⟨⟨ev,(hb.cell (p:=⟨3,0,none⟩) h.g).trans h1,h2⟩,Nat.lt_of_lt_of_le h.g hb.size⟩
set_option maxRecDepth 100000 in
theorem pf_err (s:ByteArray) (F:Nat) (w:World) (hs:s.size ≤ 2000000) (hE:ErV w)
  (AT:Calls Tryz.prog 155 #[.string s] w fun e w' => e = .returned (.tuple #[.float .f64 F,.int .i64 s.size,errR]) ∧ Below w.heap.size w w') :
  Calls Tryz.prog 75 #[.string s,.int .i64 64] w fun e w' => (∃ er,e = .returned (.tuple #[.float .f64 F,er])) ∧ Below w.heap.size w w':=by
 unfold errR at AT
 have P1:Calls Tryz.prog 131 #[.string s,.int .i64 64] w fun e w' => e = .returned (.tuple #[.float .f64 F,.int .i64 s.size,.iface 141 (.int .i64 1)]) ∧ Below w.heap.size w w':=by
  have HA:=hide AT
  clear AT
  go_enter Tryz.func131,Tryz.ntmps131
  go_wp2_with fail
  refine (unhide HA).mono ?_
  rintro e w1 ⟨rfl,b1⟩
  have HB:=hide b1
  clear b1
  go_wp2
  go_ret3
  exact ⟨rfl,unhide HB⟩
 have P2:Calls Tryz.prog 106 #[.string s,.int .i64 64] w fun e w' => e = .returned (.tuple #[.float .f64 F,.iface 141 (.int .i64 1)]) ∧ Below w.heap.size w w':=by
  have HA:=hide P1
  clear P1 AT
  go_enter Tryz.func106,Tryz.ntmps106
  go_wp2_with fail
  refine (unhide HA).mono ?_
  rintro e w1 ⟨rfl,b1⟩
  have HB:=hide b1
  clear b1
  go_wp2
  go_ret2
  exact ⟨rfl,unhide HB⟩
 have HA:=hide P2
 have HE:=hide hE
 clear P1 P2 AT hE
 go_enter Tryz.func75,Tryz.ntmps75
 go_wp2_with fail
 refine (unhide HA).mono ?_
 rintro e w1 ⟨rfl,b1⟩
 have HB:=hide b1
 obtain ⟨ev,h1,h2⟩:=((unhide HE).below b1).ev
 have TE:=hide (fun fn => Tryz.strconv_toError_range fn s 0 64 ev w1 (by omega) h1 h2)
 clear b1 h1 h2
 go_wp2_with fail
 refine (unhide TE _).mono ?_
 rintro e w2 ⟨N,rfl,-,-,b2⟩
 have HB2:=hide ((unhide HB).trans (b2.mono (unhide HB).size))
 clear b2
 go_wp2
 go_ret2
 exact ⟨⟨_,rfl⟩,unhide HB2⟩
theorem pf_all (k:Nat) (s:ByteArray) (m g z:Nat) (e:Int) (h:Ntx s k m g z) (hk:k ≤ 1) (hm:1 ≤ m)
  (he:e = if g = 1 then - (mvs s (k + 3 + m + g) z:Int) else (mvs s (k + 3 + m + g) z:Int)) (w:World) (hF:Fy w) (hSl:Slow w w.heap.size) (hE:ErV w) :
  ∃ lo,Lo (mvs s (k + 2) m * 10 ^ (e - m).toNat * k74) (10 ^ (-(e - m)).toNat) lo ∧
   Calls Tryz.prog 75 #[.string s,.int .i64 64] w fun ed w' => (∃ er,ed = .returned (.tuple #[.float .f64 (k * 9223372036854775808 + cpR (roundR (mvs s (k + 2) m * 10 ^ (e - m).toNat * k74) (10 ^ (-(e - m)).toNat) lo)),er])) ∧ Below w.heap.size w w':=by
 have hsz1:s.size ≤ 2000000:=by have:=h.sz;have:=h.m1;have:=h.z1;have:=h.g1;omega
 obtain ⟨lo,hlo,C⟩:=atof_all k s m g z e h hk hm he w hF hSl
 refine ⟨lo,hlo,?_⟩
 generalize roundR (mvs s (k + 2) m * 10 ^ (e - m).toNat * k74) (10 ^ (-(e - m)).toNat) lo = R at *
 unfold erR at C
 by_cases hR:R < infR
 ·rw [if_pos hR] at C
  refine (pf_in s _ w hsz1 C).mono ?_
  rintro ed w' ⟨h1,h2⟩
  exact ⟨⟨_,h1⟩,h2⟩
 ·rw [if_neg hR] at C
  exact pf_err s _ w hsz1 hE C
end Go.Proofs.YtdogjghalplohaaGreatDoor.dcm
namespace Go.Proofs.YtdogjghalplohaaGreatDoor.dcm
open Go.ChangeShapes Go.WideShapes Go.ChangeAt Go.RowKit
open fto
structure Fz (w:World):Prop where
 fy:Fy w
 sl:Slow w w.heap.size
 ev:ErV w
theorem Fz.below {w W:World} (h:Fz w) (hb:Below w.heap.size w W):Fz W:=⟨h.fy.below hb,h.sl.at hb hb.size hb.size (Nat.le_refl _),h.ev.below hb⟩
end Go.Proofs.YtdogjghalplohaaGreatDoor.dcm
namespace Go.Proofs.YtdogjghalplohaaGreatDoor.fto
open Go.ChangeShapes Go.WideShapes Go.ChangeAt Go.RowKit
open mem Go.Sort
open ints (hide unhide)
set_option linter.unusedVariables false
set_option maxHeartbeats 1100000 in
set_option maxRecDepth 100000 in
theorem nearest_in2 (ng bb:Bool) (s r ms wh fr wf dg T I:ByteArray) (x pw:Int) (R:Nat) (w:World) (hF:dcm.Fz w)
  (z1:s.size ≤ 2000000) (z2:ms.size ≤ 2000000) (z3:dg.size ≤ 1100000) (z4:fr.size ≤ 1100000) (z5:wh.size ≤ 1100000) (zr:r.size ≤ 2000000) (zI:I.size ≤ 30) (zk:ng = true → 1 ≤ s.size) (hx:-2000000000000 ≤ x ∧ x ≤ 2000000000000)
  (HP:Lib.hasPrefix s.data.toList (⟨#[45]⟩:ByteArray).data.toList = ng)
  (hr:s.extract ng.toNat s.size = r)
  (CE:∀ W,Calls Tryz.prog 72 #[.string r] W fun e w' => e = .returned (.tuple #[.string ms,.int .i64 x]) ∧ Below W.heap.size W w')
  (hc1:(⟨(Lib.cut ms.data.toList (⟨#[46]⟩:ByteArray).data.toList).1.toArray⟩:ByteArray) = wh) (hc2:(⟨(Lib.cut ms.data.toList (⟨#[46]⟩:ByteArray).data.toList).2.1.toArray⟩:ByteArray) = fr) (hc3:(Lib.cut ms.data.toList (⟨#[46]⟩:ByteArray).data.toList).2.2 = bb)
  (hwf:wh ++ fr = wf) (htr:(⟨(Lib.trimLeftB wf.data.toList 48).toArray⟩:ByteArray) = dg)
  (hpw:max (-400) (min (x + dg.size - fr.size) 400) = pw) (hI:itB pw = I)
  (hT:(if ng then ⟨#[45]⟩ else ⟨#[]⟩) ++ ⟨#[48,46]⟩ ++ dg ++ ⟨#[101]⟩ ++ I = T)
  (PF:∀ W,dcm.Fz W → Calls Tryz.prog 75 #[.string T,.int .i64 64] W fun e w' => (∃ er,e = .returned (.tuple #[.float .f64 R,er])) ∧ Below W.heap.size W w') :
  Calls Tryz.prog 34 #[.string s] w fun e w' => e = .returned (.float .f64 R) ∧ Below w.heap.size w w':=by
 have H1:=Tryz.strings_HasPrefix s ⟨#[45]⟩ w
 rw [HP] at H1
 replace H1:=hide H1
 have HC:=hide CE
 have HCU:=fun (W:World) (hW:dcm.Fz W) => Tryz.strings_Cut ms ⟨#[46]⟩ (Classical.choose hW.fy.fx.most) W (by omega) (Classical.choose_spec hW.fy.fx.most)
 simp only [hc1,hc2,hc3] at HCU
 replace HCU:=hide HCU
 have HTR:=fun W => Tryz.strings_TrimLeft_one wf 48 (by decide) W
 simp only [htr] at HTR
 replace HTR:=hide HTR
 have HPF:=hide PF
 have HFy:=hide hF
 have pb:-400 ≤ pw ∧ pw ≤ 400:=by omega
 have HWT:=fun (W:World) (hW:dcm.Fz W) => whole_ok pw (by omega) (by omega) W hW.fy.fx
 rw [hI] at HWT
 replace HWT:=hide HWT
 have hpa:max (-400) (min (x + (dg.size:Int) - (fr.size:Int)) 400) = pw:=hpw
 clear PF CE hF hI HP htr hc1 hc2 hc3 hpw
 cases ng
 ·have hr0:s.extract 0 s.size = r:=hr
  have hT0:(⟨#[]⟩:ByteArray) ++ ⟨#[48,46]⟩ ++ dg ++ ⟨#[101]⟩ ++ I = T:=hT
  clear hr hT zk
  go_enter Tryz.func34,Tryz.ntmps34
  go_wp2_with fail
  refine (unhide H1).mono ?_
  rintro e w1 ⟨rfl,hw⟩
  subst w1
  go_wp2_with fail
  refine (unhide HC _).mono ?_
  rintro e w1 ⟨rfl,b1⟩
  have F1:=hide ((unhide HFy).below b1)
  have B1:=hide b1
  clear b1 H1 HC
  go_wp2_with fail
  refine (unhide HCU _ (unhide F1)).mono ?_
  rintro e w2 ⟨rfl,n,rfl⟩
  have F2:=hide ((unhide F1).below (below_dn w1 n))
  have B2:=hide ((unhide B1).trans ((below_dn w1 n).mono (unhide B1).size))
  clear HCU F1 B1
  generalize w1.drewN n = w2 at *
  go_wp2_with fail
  refine (unhide HTR _).mono ?_
  rintro e w3 ⟨rfl,hw⟩
  subst w3
  clear HTR
  go_wp2_with fail
  refine (unhide HWT _ (unhide F2)).mono ?_
  rintro e w3 ⟨rfl,b3⟩
  have F3:=hide ((unhide F2).below b3)
  have B3:=hide ((unhide B2).trans (b3.mono (unhide B2).size))
  clear b3 HWT F2 B2
  go_wp2_with fail
  refine (unhide HPF _ (unhide F3)).mono ?_
  rintro e w4 ⟨⟨er,rfl⟩,b4⟩
  have B4:=hide ((unhide B3).trans (b4.mono (unhide B3).size))
  clear b4 B3 F3 HPF
  go_wp2
  go_ret
  exact ⟨rfl,unhide B4⟩
 ·have hr0:s.extract 1 s.size = r:=hr
  have hT0:(⟨#[45]⟩:ByteArray) ++ ⟨#[48,46]⟩ ++ dg ++ ⟨#[101]⟩ ++ I = T:=hT
  have zk1:=zk rfl
  have zk2:(1:Int) ≤ s.size:=by omega
  clear hr hT zk
  go_enter Tryz.func34,Tryz.ntmps34
  go_wp2_with fail
  refine (unhide H1).mono ?_
  rintro e w1 ⟨rfl,hw⟩
  subst w1
  go_wp2_with fail
  refine (unhide HC _).mono ?_
  rintro e w1 ⟨rfl,b1⟩
  have F1:=hide ((unhide HFy).below b1)
  have B1:=hide b1
  clear b1 H1 HC
  go_wp2_with fail
  refine (unhide HCU _ (unhide F1)).mono ?_
  rintro e w2 ⟨rfl,n,rfl⟩
  have F2:=hide ((unhide F1).below (below_dn w1 n))
  have B2:=hide ((unhide B1).trans ((below_dn w1 n).mono (unhide B1).size))
  clear HCU F1 B1
  generalize w1.drewN n = w2 at *
  go_wp2_with fail
  refine (unhide HTR _).mono ?_
  rintro e w3 ⟨rfl,hw⟩
  subst w3
  clear HTR
  go_wp2_with fail
  refine (unhide HWT _ (unhide F2)).mono ?_
  rintro e w3 ⟨rfl,b3⟩
  have F3:=hide ((unhide F2).below b3)
  have B3:=hide ((unhide B2).trans (b3.mono (unhide B2).size))
  clear b3 HWT F2 B2
  go_wp2_with fail
  refine (unhide HPF _ (unhide F3)).mono ?_
  rintro e w4 ⟨⟨er,rfl⟩,b4⟩
  have B4:=hide ((unhide B3).trans (b4.mono (unhide B3).size))
  clear b4 B3 F3 HPF
  go_wp2
  go_ret
  exact ⟨rfl,unhide B4⟩
end Go.Proofs.YtdogjghalplohaaGreatDoor.fto
namespace Go.Proofs.YtdogjghalplohaaGreatDoor.fto
open Go.ChangeShapes Go.WideShapes Go.ChangeAt Go.RowKit
open mem Go.Sort
open ints (hide unhide)
set_option linter.unusedVariables false
theorem pf_textA (ng:Bool) (D:List Int) (x:Int) (hD:Dg D) (hne:D ≠ []) (h0:∀ r,D ≠ 48 :: r) (hl:D.length ≤ 1100000) (hx:x.natAbs < 10000) :
  ∃ lo,Lo (dv D * 10 ^ (x - D.length).toNat * k74) (10 ^ (-(x - D.length)).toNat) lo ∧ ∀ W,dcm.Fz W →
   Calls Tryz.prog 75 #[.string (strOfNums (ntZ ng D x)),.int .i64 64] W fun e w' => (∃ er,e = .returned (.tuple #[.float .f64 (ng.toNat * 9223372036854775808 + dcm.cpR (roundR (dv D * 10 ^ (x - D.length).toNat * k74) (10 ^ (-(x - D.length)).toNat) lo)),er])) ∧ Below W.heap.size W w':=by
 have N:=ntx_of ng D x hD (by omega) h0 hx
 have hlp:0 < D.length:=List.length_pos_iff.2 hne
 have hv:mvs (strOfNums (ntZ ng D x)) (ng.toNat + 2) D.length = dv D:=by
  rw [ntx_mant ng D x hD _ (Nat.le_refl _),List.take_length]
 have he:x = (if (decide (x < 0)).toNat = 1 then - (mvs (strOfNums (ntZ ng D x)) (ng.toNat + 3 + D.length + (decide (x < 0)).toNat) (dz x.natAbs).length:Int) else (mvs (strOfNums (ntZ ng D x)) (ng.toNat + 3 + D.length + (decide (x < 0)).toNat) (dz x.natAbs).length:Int)):=by
  rw [ntx_exp ng D x hD]
  by_cases h:x < 0
  ·rw [decide_eq_true h];simp;omega
  ·rw [decide_eq_false h];simp;omega
 obtain ⟨lo,hlo⟩:=dcm.lo_some (dv D * 10 ^ (x - D.length).toNat * k74) (B:=10 ^ (-(x - D.length)).toNat) (Nat.pow_pos (by decide))
 refine ⟨lo,hlo,fun W hW => ?_⟩
 obtain ⟨lo2,hlo2,C⟩:=dcm.pf_all ng.toNat _ D.length _ _ x N (Bool.toNat_le _) hlp he W hW.fy hW.sl hW.ev
 rw [hv] at hlo2 C
 obtain rfl:=hlo.unique hlo2
 exact C
end Go.Proofs.YtdogjghalplohaaGreatDoor.fto
namespace Go.Proofs.YtdogjghalplohaaGreatDoor.fto
open Go.ChangeShapes Go.WideShapes Go.ChangeAt Go.RowKit
open mem Go.Sort
open ints (hide unhide)
set_option linter.unusedVariables false
def exA:Option (Int × Option Bool × List Int) → List Int
 | none => []
 | some (ec,o,X) => ec :: (sg3 o ++ X)
def exW:Option (Int × Option Bool × List Int) → Int
 | none => 0
 | some (_,o,X) => if o = some true then -((min (dv X) 1099511627776:Nat):Int) else ((min (dv X) 1099511627776:Nat):Int)
def exP:Option (Int × Option Bool × List Int) → Prop
 | none => True
 | some (ec,_,X) => (ec = 101 ∨ ec = 69) ∧ Dg X ∧ X ≠ [] ∧ X.length ≤ 1100000
def pwrA (A F:List Int) (E:Option (Int × Option Bool × List Int)):Int:=max (-400) (min (exW E + (trm (A ++ F)).length - F.length) 400)
end Go.Proofs.YtdogjghalplohaaGreatDoor.fto
namespace Go.Proofs.YtdogjghalplohaaGreatDoor.fto
open Go.ChangeShapes Go.WideShapes Go.ChangeAt Go.RowKit
open mem Go.Sort
open ints (hide unhide)
set_option linter.unusedVariables false
set_option linter.unusedSimpArgs false
theorem nearest_textA (ng:Bool) (A F:List Int) (E:Option (Int × Option Bool × List Int)) (R:Nat) (w:World) (hW:dcm.Fz w) (hA:Dg A) (hA0:A ≠ []) (hF:Dg F) (hE:exP E) (lT:A.length + F.length + (exA E).length ≤ 1060000)
  (PF:∀ W,dcm.Fz W → Calls Tryz.prog 75 #[.string (strOfNums (ntZ ng (trm (A ++ F)) (pwrA A F E))),.int .i64 64] W fun e w' => (∃ er,e = .returned (.tuple #[.float .f64 R,er])) ∧ Below W.heap.size W w') :
  Calls Tryz.prog 34 #[.string (strOfNums (sgL ng ++ (A ++ (frL F ++ exA E))))] w fun e w' => e = .returned (.float .f64 R) ∧ Below w.heap.size w w':=by
 obtain ⟨n1,n2⟩:=dg_noE hA hF
 have hD:=hA.app hF
 have lT:=trm_len (A ++ F)
 rw [List.length_append] at lT
 have lfr:(frL F).length ≤ F.length + 1:=by unfold frL;split <;> simp
 have lsg:(sgL ng).length = ng.toNat:=by cases ng <;> rfl
 have lA:A.length ≤ 1060000:=by omega
 have lF:F.length ≤ 1060000:=by omega
 have lex:(exA E).length ≤ 1060000:=by omega
 have hxv:-2000000000000 ≤ exW E ∧ exW E ≤ 2000000000000:=by
  rcases E with _ | ⟨ec,o,X⟩
  ·simp [exW]
  ·unfold exW
   split <;> omega
 have hcut:Lib.cut (u8s (A ++ frL F)) [46] = (u8s A,u8s F,decide (F ≠ [])):=by
  have hn:(46:UInt8) ∉ u8s A:=dig_not hA (by decide)
  by_cases h0:F = []
  ·subst h0
   rw [show A ++ frL [] = A by simp [frL],cut_no 46 _ hn]
   rfl
  ·rw [show A ++ frL F = A ++ 46 :: F by simp [frL,h0],u8s_app]
   show Lib.cut (u8s A ++ 46 :: u8s F) [46] = _
   rw [cut_at 46 _ _ hn]
   simp [h0]
 refine nearest_in2 ng (decide (F ≠ [])) _ (strOfNums (A ++ (frL F ++ exA E))) (strOfNums (A ++ frL F)) (strOfNums A) (strOfNums F) (strOfNums (A ++ F)) (strOfNums (trm (A ++ F))) (strOfNums (ntZ ng (trm (A ++ F)) (pwrA A F E))) (itB (pwrA A F E)) (exW E) (pwrA A F E) R w hW ?_ ?_ ?_ ?_ ?_ ?_ ?_ ?_ hxv ?_ ?_ ?_ ?_ ?_ ?_ ?_ ?_ ?_ rfl ?_ PF
 ·rw [str_size];simp only [List.length_append];have:=Bool.toNat_le ng;omega
 ·rw [str_size,List.length_append];omega
 ·rw [str_size];omega
 ·rw [str_size];omega
 ·rw [str_size];omega
 ·rw [str_size];simp only [List.length_append];omega
 ·have:=itB_size (pwrA A F E) (by unfold pwrA;omega) (by unfold pwrA;omega);omega
 ·intro h;subst h;rw [str_size];simp [sgL]
 ·show Lib.hasPrefix (u8s (sgL ng ++ (A ++ (frL F ++ exA E)))) [45] = ng
  cases ng
  ·obtain ⟨a,A',rfl⟩:∃ a A',A = a :: A':=by
    cases A with
    | nil => exact absurd rfl hA0
    | cons a A' => exact ⟨a,A',rfl⟩
   have ha:=hA a (by simp)
   have e2:(UInt8.ofNat a.toNat).toNat = a.toNat:=UInt8.toNat_ofNat_of_lt' (by show _ < 256;omega)
   have:¬ UInt8.ofNat a.toNat = 45:=fun e => by rw [e] at e2;have:(45:UInt8).toNat = 45:=rfl;omega
   show ([45]:List UInt8).isPrefixOf (UInt8.ofNat a.toNat :: _) = false
   simp only [List.isPrefixOf]
   have h2:((45:UInt8) == UInt8.ofNat a.toNat) = false:=by rw [beq_eq_false_iff_ne];exact fun e => this e.symm
   rw [h2];rfl
  ·show ([45]:List UInt8).isPrefixOf (45 :: _) = true
   simp [List.isPrefixOf]
 ·exact ext_right (sgL ng) (A ++ (frL F ++ exA E)) lsg.symm (by rw [str_size])
 ·intro W
  cases E with
  | none =>
   rw [show A ++ (frL F ++ exA none) = A ++ frL F by simp [exA]]
   exact cutE_no (A ++ frL F) W n1 n2 (by rw [List.length_append];omega)
  | some q =>
   obtain ⟨ec,o,X⟩:=q
   rw [← List.append_assoc]
   exact cutE_any (A ++ frL F) X ec o W hE.1 n1 n2 (by rw [List.length_append];omega) hE.2.1 hE.2.2.1 hE.2.2.2
 ·show (⟨(Lib.cut (u8s (A ++ frL F)) [46]).1.toArray⟩:ByteArray) = _
  rw [hcut];rfl
 ·show (⟨(Lib.cut (u8s (A ++ frL F)) [46]).2.1.toArray⟩:ByteArray) = _
  rw [hcut];rfl
 ·show (Lib.cut (u8s (A ++ frL F)) [46]).2.2 = _
  rw [hcut]
 ·exact str_app A F
 ·show (⟨(Lib.trimLeftB (u8s (A ++ F)) 48).toArray⟩:ByteArray) = _
  rw [trimB_trm _ hD];rfl
 ·rw [str_size,str_size];rfl
 ·rw [itB_itZ]
  have e1:(if ng = true then (⟨#[45]⟩:ByteArray) else ⟨#[]⟩) = strOfNums (sgL ng):=by cases ng <;> rfl
  have e2:(⟨#[48,46]⟩:ByteArray) = strOfNums [48,46]:=rfl
  have e3:(⟨#[101]⟩:ByteArray) = strOfNums [101]:=rfl
  rw [e1,e2,e3,str_app,str_app,str_app,str_app]
  congr 1
  simp [ntZ]
end Go.Proofs.YtdogjghalplohaaGreatDoor.fto
namespace Go.Proofs.YtdogjghalplohaaGreatDoor.fto
open Go.ChangeShapes Go.WideShapes Go.ChangeAt Go.RowKit
open mem Go.Sort
open ints (hide unhide)
set_option linter.unusedVariables false
set_option linter.unusedSimpArgs false
def exX:Option (Int × Option Bool × List Int) → Int
 | none => 0
 | some (_,o,X) => if o = some true then -(dv X:Int) else (dv X:Int)
theorem dv_ge {D:List Int} (hD:Dg D) (hne:D ≠ []) (h0:∀ r,D ≠ 48 :: r):10 ^ (D.length - 1) ≤ dv D:=by
 cases D with
 | nil => exact absurd rfl hne
 | cons c r =>
  have hc:=hD c (by simp)
  have h48:c ≠ 48:=fun e => h0 r (by rw [e])
  rw [dv_cons,List.length_cons,Nat.add_sub_cancel]
  have:1 * 10 ^ r.length ≤ (c - 48).toNat * 10 ^ r.length:=Nat.mul_le_mul_right _ (by omega)
  omega
theorem val_high {N n lo:Nat} {q:Int} (hN:10 ^ (n - 1) ≤ N) (hn:1 ≤ n) (hq:311 ≤ q + n) (hlo:Lo (N * 10 ^ q.toNat * k74) (10 ^ (-q).toNat) lo):dcm.cpR (roundR (N * 10 ^ q.toNat * k74) (10 ^ (-q).toNat) lo) = infR:=by
 have h:=dcm.round_inf hlo (Nat.pow_pos (by decide)) (by
  refine Nat.le_trans (Nat.mul_le_mul_left _ dcm.inf_310) ?_
  rw [← Nat.mul_assoc]
  refine Nat.mul_le_mul_right _ ?_
  refine Nat.le_trans ?_ (Nat.mul_le_mul_right _ hN)
  rw [← Nat.pow_add,← Nat.pow_add]
  exact Nat.pow_le_pow_right (by decide) (by have:dcm.n31 = 310:=rfl;omega))
 unfold dcm.cpR
 rw [if_neg (by omega)]
theorem low_aux (N T Z:Nat) (h:N ≤ T):2 * (N * Z) ≤ T * (2 * (18446744073709551616 * Z)):=by
 have h1:N * Z ≤ T * Z:=Nat.mul_le_mul_right _ h
 have h2:T * (2 * (18446744073709551616 * Z)) = 2 * 18446744073709551616 * (T * Z):=by
  rw [Nat.mul_left_comm T,Nat.mul_left_comm T,← Nat.mul_assoc]
 rw [h2]
 omega
theorem val_low {N n lo:Nat} {q:Int} (hN:N < 10 ^ n) (hq:q + n ≤ -345) (hlo:Lo (N * 10 ^ q.toNat * k74) (10 ^ (-q).toNat) lo):dcm.cpR (roundR (N * 10 ^ q.toNat * k74) (10 ^ (-q).toNat) lo) = 0:=by
 have h:=dcm.round_none hlo (Nat.pow_pos (by decide)) (by
  rw [show q.toNat = 0 by omega,Nat.pow_zero,Nat.mul_one]
  have h1:10 ^ n * 10 ^ dcm.n345 ≤ 10 ^ (-q).toNat:=by
   rw [← Nat.pow_add]
   exact Nat.pow_le_pow_right (by decide) (by have:dcm.n345 = 345:=rfl;omega)
  refine Nat.lt_of_lt_of_le ?_ h1
  have h2:=dcm.low_345
  have h3:=low_aux N (10 ^ n) k74 (by omega)
  exact Nat.lt_of_le_of_lt h3 (Nat.mul_lt_mul_of_pos_left h2 (Nat.pow_pos (by decide))))
 rw [h]
 unfold dcm.cpR
 rw [if_pos (by decide)]
theorem ex_near {E:Option (Int × Option Bool × List Int)}:exW E = exX E ∨ (1099511627776 ≤ exX E ∧ exW E = 1099511627776) ∨ (exX E ≤ -1099511627776 ∧ exW E = -1099511627776):=by
 rcases E with _ | ⟨ec,o,X⟩
 ·exact Or.inl rfl
 ·have e1:exW (some (ec,o,X)) = if o = some true then -((min (dv X) 1099511627776:Nat):Int) else ((min (dv X) 1099511627776:Nat):Int):=rfl
  have e2:exX (some (ec,o,X)) = if o = some true then -(dv X:Int) else (dv X:Int):=rfl
  rw [e1,e2]
  by_cases h:o = some true
  ·rw [if_pos h,if_pos h];omega
  ·rw [if_neg h,if_neg h];omega
theorem nearest_full (ng:Bool) (A F:List Int) (E:Option (Int × Option Bool × List Int)) (w:World) (hW:dcm.Fz w) (hA:Dg A) (hA0:A ≠ []) (hF:Dg F) (hE:exP E) (lT:A.length + F.length + (exA E).length ≤ 1060000) :
  ∃ lo,Lo (dv (trm (A ++ F)) * 10 ^ (exX E - F.length).toNat * k74) (10 ^ (-(exX E - F.length)).toNat) lo ∧
   Calls Tryz.prog 34 #[.string (strOfNums (sgL ng ++ (A ++ (frL F ++ exA E))))] w fun e w' => e = .returned (.float .f64 (ng.toNat * 9223372036854775808 + dcm.cpR (roundR (dv (trm (A ++ F)) * 10 ^ (exX E - F.length).toNat * k74) (10 ^ (-(exX E - F.length)).toNat) lo))) ∧ Below w.heap.size w w':=by
 have hD:=trm_dg (hA.app hF)
 have hln:=trm_len (A ++ F)
 rw [List.length_append] at hln
 have hpb:(pwrA A F E).natAbs < 10000:=by unfold pwrA;omega
 obtain ⟨lo,hlo⟩:=dcm.lo_some (dv (trm (A ++ F)) * 10 ^ (exX E - F.length).toNat * k74) (B:=10 ^ (-(exX E - F.length)).toNat) (Nat.pow_pos (by decide))
 refine ⟨lo,hlo,?_⟩
 refine nearest_textA ng A F E _ w hW hA hA0 hF hE lT ?_
 by_cases hne:trm (A ++ F) = []
 ·intro W hW'
  have h0:dcm.cpR (roundR (dv (trm (A ++ F)) * 10 ^ (exX E - F.length).toNat * k74) (10 ^ (-(exX E - F.length)).toNat) lo) = 0:=by
   have h1:=dcm.round_none hlo (Nat.pow_pos (by decide)) (by
    rw [hne,show dv [] = 0 from rfl,Nat.zero_mul,Nat.zero_mul];exact Nat.pow_pos (by decide))
   rw [h1]
   unfold dcm.cpR
   rw [if_pos (by decide)]
  rw [h0,Nat.add_zero,hne]
  refine (pf_text0 ng _ hpb W hW'.fy).mono ?_
  rintro e w' ⟨h1,h2⟩
  exact ⟨⟨_,h1⟩,h2⟩
 ·have hh:∀ r,trm (A ++ F) ≠ 48 :: r:=fun r e => trm_head _ _ _ e rfl
  obtain ⟨lo2,hlo2,C⟩:=pf_textA ng (trm (A ++ F)) (pwrA A F E) hD hne hh (by omega) hpb
  have hN1:=dv_ge hD hne hh
  have hN2:=dv_lt (trm (A ++ F)) hD
  have hn1:1 ≤ (trm (A ++ F)).length:=List.length_pos_iff.2 hne
  intro W hW'
  have key:dcm.cpR (roundR (dv (trm (A ++ F)) * 10 ^ (pwrA A F E - (trm (A ++ F)).length).toNat * k74) (10 ^ (-(pwrA A F E - (trm (A ++ F)).length)).toNat) lo2) = dcm.cpR (roundR (dv (trm (A ++ F)) * 10 ^ (exX E - F.length).toNat * k74) (10 ^ (-(exX E - F.length)).toNat) lo):=by
   have hx:=ex_near (E:=E)
   obtain ⟨P,hP⟩:∃ P,P = pwrA A F E:=⟨_,rfl⟩
   have hP2:=hP
   unfold pwrA at hP2
   rw [← hP] at hlo2 ⊢
   by_cases hhi:400 < exX E - F.length + (trm (A ++ F)).length
   ·have hP4:P = 400:=by omega
    rw [val_high hN1 hn1 (by omega) hlo2,val_high hN1 hn1 (by omega) hlo]
   ·by_cases hl:exX E - F.length + (trm (A ++ F)).length < -400
    ·have hP4:P = -400:=by omega
     rw [val_low hN2 (by omega) hlo2,val_low hN2 (by omega) hlo]
    ·have e1:P - (trm (A ++ F)).length = exX E - F.length:=by omega
     rw [e1] at hlo2 ⊢
     rw [hlo.unique hlo2]
  rw [← key]
  exact C W hW'
end Go.Proofs.YtdogjghalplohaaGreatDoor.fto
