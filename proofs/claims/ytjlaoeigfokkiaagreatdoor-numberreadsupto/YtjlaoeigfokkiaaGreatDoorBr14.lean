import Derived.Test.YtjlaoeigfokkiaaGreatDoorBr13
import Derived.Test.YtjlaoeigfokkiaaGreatDoorBr10
import Derived.Test.YtjlaoeigfokkiaaGreatDoorBr4
import Derived.Test.YtjlaoeigfokkiaaGreatDoorBr1
import Derived.Laws.Cover2
namespace Go.Proofs.YtjlaoeigfokkiaaGreatDoor.fto
open Go.ChangeShapes Go.WideShapes Go.ChangeAt Go.RowKit
open mem Go.Sort
open ints (hide unhide)
set_option linter.unusedVariables false
theorem pf_in (s:ByteArray) (F:Nat) (w:World) (hs:s.size ≤ 2000000)
  (AT:Calls Tryz.prog 126 #[.string s] w fun e w' => e = .returned (.tuple #[.float .f64 F,.int .i64 s.size,.nilIface]) ∧ Below w.heap.size w w') :
  Calls Tryz.prog 43 #[.string s,.int .i64 64] w fun e w' => e = .returned (.tuple #[.float .f64 F,.nilIface]) ∧ Below w.heap.size w w':=by
 have P1:Calls Tryz.prog 99 #[.string s,.int .i64 64] w fun e w' => e = .returned (.tuple #[.float .f64 F,.int .i64 s.size,.nilIface]) ∧ Below w.heap.size w w':=by
  have HA:=hide AT
  clear AT
  go_enter Tryz.func99,Tryz.ntmps99
  go_wp2_with fail
  refine (unhide HA).mono ?_
  rintro e w1 ⟨rfl,b1⟩
  have HB:=hide b1
  clear b1
  go_wp2
  go_ret3
  exact ⟨rfl,unhide HB⟩
 have P2:Calls Tryz.prog 69 #[.string s,.int .i64 64] w fun e w' => e = .returned (.tuple #[.float .f64 F,.nilIface]) ∧ Below w.heap.size w w':=by
  have HA:=hide P1
  clear P1 AT
  go_enter Tryz.func69,Tryz.ntmps69
  go_wp2_with fail
  refine (unhide HA).mono ?_
  rintro e w1 ⟨rfl,b1⟩
  have HB:=hide b1
  clear b1
  go_wp2
  go_ret2
  exact ⟨rfl,unhide HB⟩
 have HA:=hide P2
 clear P1 P2 AT
 go_enter Tryz.func43,Tryz.ntmps43
 go_wp2_with fail
 refine (unhide HA).mono ?_
 rintro e w1 ⟨rfl,b1⟩
 have HB:=hide b1
 clear b1
 go_wp2
 go_ret2
 exact ⟨rfl,unhide HB⟩
theorem pf_any (k:Nat) (s:ByteArray) (m g z d:Nat) (p:Int) (h:Ntx s k m g z) (hk:k ≤ 1) (hm:1 ≤ m) (ht:trs s (k + 2) m = false) (hd:d = mvs s (k + 2) (min m 19))
  (hpe:p = (if g = 1 then - (mvs s (k + 3 + m + g) z:Int) else (mvs s (k + 3 + m + g) z:Int)) - (min m 19:Nat)) (hp:-345 ≤ p ∧ p ≤ 310) :
  ∃ lo,Lo (d * 10 ^ p.toNat * k74) (10 ^ (-p).toNat) lo ∧ (roundR (d * 10 ^ p.toNat * k74) (10 ^ (-p).toNat) lo < infR → ∀ w,PT w → 15 < w.heap.size → w.cell? ⟨5,0,none⟩ = some (.bool true) →
   (∀ (S:Nat) (ng:Bool),S = (if ng then 9223372036854775808 else 0) → Calls Tryz.prog 157 #[.int .u64 d,.int .i64 p,.bool ng] w fun e w' => (∃ (G:Nat) (ok:Bool),e = .returned (.tuple #[.float .f64 G,.bool ok]) ∧ (ok = true → G = S + roundR (d * 10 ^ p.toNat * k74) (10 ^ (-p).toNat) lo)) ∧ w' = w) →
   Calls Tryz.prog 43 #[.string s,.int .i64 64] w fun e w' => e = .returned (.tuple #[.float .f64 (k * 9223372036854775808 + roundR (d * 10 ^ p.toNat * k74) (10 ^ (-p).toNat) lo),.nilIface]) ∧ Below w.heap.size w w'):=by
 have hsz1:s.size ≤ 2000000:=by have:=h.sz;have:=h.m1;have:=h.z1;have:=h.g1;omega
 have hsz2:k + 4 ≤ s.size:=by have:=h.sz;have:=h.z0;omega
 have f1:49 ≤ bz s (k + 2):=by have a1:=h.bf (by omega);have a2:=h.bd 0 (by omega);rw [Nat.add_zero] at a2;omega
 have hd0:1 ≤ d:=by rw [hd];exact mvs_pos s (k + 2) f1 _ (by omega)
 have hd1:d < 18446744073709551616:=by
  rw [hd]
  exact Nat.lt_of_lt_of_le (mvs_lt s (k + 2) m h.bd _ (Nat.min_le_left _ _)) (Nat.le_trans (Nat.pow_le_pow_right (by decide) (Nat.min_le_right _ _)) (by decide:10 ^ 19 ≤ _))
 obtain ⟨S,hS⟩:∃ S,S = k * 9223372036854775808:=⟨_,rfl⟩
 have hS2:S = 0 ∨ S = 9223372036854775808:=by omega
 obtain ⟨lo,hlo,H⟩:=parse_any d S p hd0 hd1 hp hS2
 refine ⟨lo,hlo,fun hR w hT hg hopt EX => ?_⟩
 have PA:=H hR w hT hg
 rw [← hS]
 generalize roundR (d * 10 ^ p.toNat * k74) (10 ^ (-p).toNat) lo = R at *
 refine pf_in s (S + R) w hsz1 ?_
 have m0:¬ m = 0:=by omega
 have hk2:k = 0 ∨ k = 1:=by omega
 rcases hk2 with rfl | rfl
 ·have RF:=readF0 s m g z w h
  rw [if_neg m0,← hd,ht,← hpe] at RF
  exact atof_in s s.size d S (S + R) p false w (by rw [hS];rfl) hd0 hd1 hp (by omega) hopt (special0 s w (by omega) (by rw [← bz_at];exact h.b1)) RF (EX S false (by rw [hS];rfl)) PA
 ·have RF:=readF1 s m g z w h
  rw [if_neg m0,← hd,ht,← hpe] at RF
  exact atof_in s s.size d S (S + R) p true w (by rw [hS];rfl) hd0 hd1 hp (by omega) hopt (special1 s w (by omega) hsz1 (by omega) (by rw [← bz_at];exact h.b0 rfl) (by rw [← bz_at];exact h.b1)) RF (EX S true (by rw [hS];rfl)) PA
end Go.Proofs.YtjlaoeigfokkiaaGreatDoor.fto
namespace Go.Proofs.YtjlaoeigfokkiaaGreatDoor.fto
open Go.ChangeShapes Go.WideShapes Go.ChangeAt Go.RowKit
open mem Go.Sort
open ints (hide unhide)
set_option linter.unusedVariables false
theorem ex_long (d:Nat) (p:Int) (ng:Bool) (w:World) (hd:4503599627370496 ≤ d) (hd1:d < 18446744073709551616) (hi:w.cell? ⟨9,0,none⟩ = some (.int .u64 52)) :
  Calls Tryz.prog 157 #[.int .u64 d,.int .i64 p,.bool ng] w fun e w' => e = .returned (.tuple #[.float .f64 0,.bool false]) ∧ w' = w:=by
 have i1:((d:Int) / 4503599627370496 != 0) = true:=by simp;omega
 go_enter Tryz.func157,Tryz.ntmps157
 go_wp2
 go_ret2
 exact ⟨rfl,rfl⟩
theorem ex_far (d:Nat) (p:Int) (ng:Bool) (w:World) (hd:d < 4503599627370496) (hp:p < -22 ∨ 37 < p) (hp1:-10000 ≤ p ∧ p ≤ 10000) (hi:w.cell? ⟨9,0,none⟩ = some (.int .u64 52)) :
  Calls Tryz.prog 157 #[.int .u64 d,.int .i64 p,.bool ng] w fun e w' => (∃ G:Nat,e = .returned (.tuple #[.float .f64 G,.bool false])) ∧ w' = w:=by
 have i1:(d:Int) / 4503599627370496 = 0:=by omega
 have i2:(p == 0) = false:=by rw [beq_eq_false_iff_ne];omega
 obtain ⟨G,hG⟩:∃ G:Nat,(Op.unary UnOp.neg (Value.float FloatKind.f64 (floatOfInt FloatKind.f64 (d:Int)))).run Tryz.prog w = .ok (.float .f64 G) w:=⟨_,rfl⟩
 rcases hp with h | h
 ·have j1:¬ (0:Int) < p:=by omega
  have j2:p < 0:=by omega
  have j3:¬ (-22:Int) ≤ p:=by omega
  cases ng
  all_goals
   go_enter Tryz.func157,Tryz.ntmps157
   go_wp2
   go_ret2
   exact ⟨⟨_,rfl⟩,rfl⟩
 ·have j1:(0:Int) < p:=by omega
  have j2:¬ p < 0:=by omega
  have j3:¬ p ≤ 37:=by omega
  cases ng
  all_goals
   go_enter Tryz.func157,Tryz.ntmps157
   go_wp2
   go_ret2
   exact ⟨⟨_,rfl⟩,rfl⟩
end Go.Proofs.YtjlaoeigfokkiaaGreatDoor.fto
namespace Go.Proofs.YtjlaoeigfokkiaaGreatDoor.mem
set_option linter.unusedVariables false
theorem rne_one (X:Nat):rne X 1 = X:=by
 unfold rne
 rw [Nat.mod_one,Nat.div_one,if_neg (by omega)]
theorem kept_rne (neg:Bool) (n:Nat) (h:n ≠ 0):Ieee.Toward.even.cut neg (n <<< (52 - n.log2)) (n.log2 - 52) = rne (n * 2 ^ (52 - n.log2)) (2 ^ (n.log2 - 52)):=by
 rcases Nat.lt_or_ge 52 n.log2 with hl | hl
 ·rw [show 52 - n.log2 = 0 by omega,Nat.shiftLeft_zero,cut_some neg (by omega),Nat.pow_zero,Nat.mul_one]
  unfold rne
  generalize 2 ^ (n.log2 - 52) = g
  generalize n % g = t
  generalize n / g = q
  by_cases c1:g < 2 * t
  ·simp [c1]
  ·by_cases c2:2 * t = g
   ·by_cases c3:q % 2 = 1
    ·simp [c2,c3]
    ·rw [if_neg (by omega)]
     have:(q % 2 == 1) = false:=by rw [beq_eq_false_iff_ne];exact c3
     simp [c1,this]
   ·rw [if_neg (by omega)]
    have:(g == 2 * t) = false:=by rw [beq_eq_false_iff_ne];omega
    simp [c1,this]
 ·rw [show n.log2 - 52 = 0 by omega,cut_none,Nat.pow_zero,rne_one,Nat.shiftLeft_eq]
theorem q_bd2 {n:Nat} (h:n ≠ 0):b52 ≤ n * 2 ^ (52 - n.log2) / 2 ^ (n.log2 - 52) ∧ n * 2 ^ (52 - n.log2) / 2 ^ (n.log2 - 52) < b53:=by
 have h1:=Nat.log2_self_le h
 have h2:=Nat.lt_log2_self (n:=n)
 have hp:=Nat.two_pow_pos (n.log2 - 52)
 rw [Nat.le_div_iff_mul_le hp,Nat.div_lt_iff_lt_mul hp]
 have e52:b52 = 2 ^ 52:=rfl
 have e53:b53 = 2 ^ 53:=rfl
 rw [e52,e53,← Nat.pow_add,← Nat.pow_add]
 rcases Nat.lt_or_ge 52 n.log2 with hl | hl
 ·rw [show 52 - n.log2 = 0 by omega,Nat.pow_zero,Nat.mul_one,show 52 + (n.log2 - 52) = n.log2 by omega,show 53 + (n.log2 - 52) = n.log2 + 1 by omega]
  exact ⟨h1,h2⟩
 ·have hg:=Nat.two_pow_pos (52 - n.log2)
  have a1:=Nat.mul_le_mul_right (2 ^ (52 - n.log2)) h1
  have a2:=Nat.mul_lt_mul_of_pos_right h2 hg
  rw [← Nat.pow_add] at a1 a2
  rw [show n.log2 + (52 - n.log2) = 52 by omega] at a1
  rw [show n.log2 + 1 + (52 - n.log2) = 53 by omega] at a2
  rw [show 52 + (n.log2 - 52) = 52 by omega,show 53 + (n.log2 - 52) = 53 by omega]
  exact ⟨a1,a2⟩
theorem rung_parts {q k:Nat} (h1:b52 ≤ q) (h2:q < b53):mantR (q + k * b52) = q ∧ exR (q + k * b52) = k ∧ q % 2 = (q + k * b52) % 2:=by
 unfold mantR exR
 unfold b52 b53 at *
 refine ⟨?_,by omega,by omega⟩
 rw [if_neg (by omega)]
 omega
theorem near_rne (neg:Bool) (n k:Nat) (pl:Int) (h:n ≠ 0) (hk:(k:Int) = pl + n.log2 + 1022) :
  Ieee.double.nearest neg n pl = Ieee.double.word neg (min (rne (n * 2 ^ (52 - n.log2)) (2 ^ (n.log2 - 52)) + k * b52) infR):=by
 unfold Ieee.Format.nearest
 rw [if_neg h]
 have hlast:max (pl + n.log2 - Ieee.double.fractionBits) (-1074) = pl + n.log2 - 52:=by
  unfold Ieee.double
  simp only
  omega
 have hlp:Ieee.double.leastPlace = -1074:=by rfl
 have hbn:Ieee.double.binade = b52:=by rfl
 have hinf:Ieee.double.infRung = infR:=by rfl
 simp only [hlp,hlast,hbn,hinf]
 refine congrArg (Ieee.double.word neg) ?_
 have hT:(pl + n.log2 - 52 - -1074).toNat = k:=by omega
 have e1:(pl - (pl + n.log2 - 52)).toNat = 52 - n.log2:=by omega
 have e2:(pl + n.log2 - 52 - pl).toNat = n.log2 - 52:=by omega
 rw [hT,e1,e2,kept_rne neg n h,Nat.add_comm]
theorem rne_sticky (X W D:Nat) (hW:0 < W) (hD:0 < D) (he:D % 2 = 0):rne (2 * (X / W) + (X % W != 0).toNat) (2 * D) = rne X (W * D):=by
 obtain ⟨E,rfl⟩:∃ E,D = 2 * E:=⟨D / 2,by omega⟩
 have hml:=Nat.mod_lt X hW
 obtain ⟨F,hF⟩:∃ F,F = X / W:=⟨_,rfl⟩
 obtain ⟨t,ht⟩:∃ t,t = X % W:=⟨_,rfl⟩
 have hdm:W * F + t = X:=by rw [hF,ht];exact Nat.div_add_mod X W
 rw [← hF,← ht]
 rw [← ht] at hml
 obtain ⟨s,hs⟩:∃ s,s = (t != 0).toNat:=⟨_,rfl⟩
 have hs0:s ≤ 1:=by rw [hs];exact Bool.toNat_le _
 have hst:s = 0 ↔ t = 0:=by
  rw [hs]
  by_cases c:t = 0
  ·simp [c]
  ·simp [c]
 rw [← hs]
 have hfd:=Nat.div_add_mod F (2 * E)
 have hfl:=Nat.mod_lt F (show 0 < 2 * E by omega)
 have q1:(2 * F + s) / (2 * (2 * E)) = F / (2 * E):=by
  rw [← Nat.div_div_eq_div_mul,show (2 * F + s) / 2 = F by omega]
 have q2:X / (W * (2 * E)) = F / (2 * E):=by rw [← Nat.div_div_eq_div_mul,← hF]
 have r1:(2 * F + s) % (2 * (2 * E)) = 2 * (F % (2 * E)) + s:=by
  have e:2 * F + s = 2 * (2 * E) * (F / (2 * E)) + (2 * (F % (2 * E)) + s):=by
   rw [Nat.mul_assoc 2 (2 * E)];omega
  rw [e,Nat.mul_add_mod]
  exact Nat.mod_eq_of_lt (by omega)
 have r2:X % (W * (2 * E)) = F % (2 * E) * W + t:=by
  have e:X = W * (2 * E) * (F / (2 * E)) + (F % (2 * E) * W + t):=by
   rw [← hdm]
   conv => lhs;rw [← hfd,Nat.mul_add,← Nat.mul_assoc,Nat.mul_comm W (F % (2 * E))]
   omega
  rw [e,Nat.mul_add_mod]
  refine Nat.mod_eq_of_lt ?_
  have:=Nat.mul_le_mul_right W (show F % (2 * E) + 1 ≤ 2 * E by omega)
  rw [Nat.add_mul,Nat.one_mul,Nat.mul_comm (2 * E) W] at this
  omega
 unfold rne
 rw [q1,q2,r1,r2]
 generalize F % (2 * E) = r at *
 have c1:W * (2 * E) < 2 * (r * W + t) ↔ E < r ∨ (E = r ∧ 0 < t):=by
  rw [Nat.mul_left_comm,Nat.mul_comm W E]
  rcases Nat.lt_trichotomy E r with h | h | h
  ·have:=Nat.mul_le_mul_right W (show E + 1 ≤ r from h)
   rw [Nat.add_mul,Nat.one_mul] at this
   constructor
   ·intro _;exact Or.inl h
   ·intro _;omega
  ·subst h
   constructor
   ·intro _;exact Or.inr ⟨rfl,by omega⟩
   ·intro _;omega
  ·have:=Nat.mul_le_mul_right W (show r + 1 ≤ E from h)
   rw [Nat.add_mul,Nat.one_mul] at this
   constructor <;> intro _ <;> omega
 have c2:2 * (r * W + t) = W * (2 * E) ↔ E = r ∧ t = 0:=by
  rw [Nat.mul_left_comm,Nat.mul_comm W E]
  rcases Nat.lt_trichotomy E r with h | h | h
  ·have:=Nat.mul_le_mul_right W (show E + 1 ≤ r from h)
   rw [Nat.add_mul,Nat.one_mul] at this
   constructor <;> intro _ <;> omega
  ·subst h
   constructor
   ·intro _;exact ⟨rfl,by omega⟩
   ·intro _;omega
  ·have:=Nat.mul_le_mul_right W (show r + 1 ≤ E from h)
   rw [Nat.add_mul,Nat.one_mul] at this
   constructor <;> intro _ <;> omega
 simp only [c1,c2]
 generalize F / (2 * E) = q at *
 by_cases g:(E < r ∨ (E = r ∧ 0 < t)) ∨ ((E = r ∧ t = 0) ∧ q % 2 = 1)
 ·rw [if_pos g,if_pos (by omega)]
 ·rw [if_neg g,if_neg (by omega)]
theorem read_word (ng:Bool) (r:Nat) (h:r < infR):Ieee.double.read (Ieee.double.word ng r) = .number ng (mantR r) ((exR r:Int) - 1074):=dec_fin ng r h
theorem pow_shift {P Q u v a b:Nat} (h:P * 2 ^ u = Q * 2 ^ v) (e:v + a = b + u):P * 2 ^ a = Q * 2 ^ b:=by
 have h1:P * 2 ^ a * 2 ^ u = Q * 2 ^ b * 2 ^ u:=by
  rw [Nat.mul_assoc,← Nat.pow_add,Nat.add_comm a u,Nat.pow_add,← Nat.mul_assoc,h,Nat.mul_assoc,← Nat.pow_add,e,Nat.pow_add,← Nat.mul_assoc]
 exact Nat.eq_of_mul_eq_mul_right (Nat.two_pow_pos u) h1
theorem mul_R (s t:Bool) (a b P:Nat) (ha:a < infR) (hb:b < infR) (hP:P * k74 = vR a * vR b) (h52:b52 ≤ P) :
  ∃ lo,Lo P 1 lo ∧ Ieee.double.mul (Ieee.double.word s a) (Ieee.double.word t b) = some (Ieee.double.word (s ^^ t) (min (roundR P 1 lo) infR)):=by
 have hv:vR a * vR b = mantR a * mantR b * 2 ^ (exR a + exR b):=by
  unfold vR
  rw [Nat.pow_add,Nat.mul_assoc,Nat.mul_assoc,Nat.mul_left_comm (2 ^ exR a)]
 obtain ⟨E,hE,hk74⟩:∃ E,E = 1074 ∧ k74 = 2 ^ E:=⟨52 + e22,rfl,rfl⟩
 obtain ⟨n,hn⟩:∃ n,n = mantR a * mantR b:=⟨_,rfl⟩
 rw [hv,← hn] at hP
 have hn0:n ≠ 0:=by
  intro h0
  rw [h0,Nat.zero_mul] at hP
  have:0 < P * k74:=Nat.mul_pos (by unfold b52 at h52;omega) (by rw [hk74];exact Nat.two_pow_pos _)
  omega
 have hL:1126 ≤ n.log2 + (exR a + exR b):=by
  have h2:=Nat.lt_log2_self (n:=n)
  rcases Nat.lt_or_ge (n.log2 + (exR a + exR b)) 1126 with hh | hh
  ·have a1:b52 * k74 ≤ P * k74:=Nat.mul_le_mul_right _ h52
   have a2:=Nat.mul_lt_mul_of_pos_right h2 (Nat.two_pow_pos (exR a + exR b))
   rw [← Nat.pow_add] at a2
   have a3:=Nat.pow_le_pow_right (by decide:0 < 2) (show n.log2 + 1 + (exR a + exR b) ≤ 52 + E by omega)
   have a4:b52 * k74 = 2 ^ (52 + E):=by rw [hk74,b52_eq,← Nat.pow_add]
   omega
  ·exact hh
 obtain ⟨k,hk⟩:∃ k:Nat,(k:Int) = ((exR a:Int) - 1074 + ((exR b:Int) - 1074)) + n.log2 + 1022:=⟨n.log2 + (exR a + exR b) - 1126,by omega⟩
 obtain ⟨q1,q2⟩:=q_bd2 hn0
 obtain ⟨p1,p2,p3⟩:=rung_parts (k:=k) q1 q2
 have hid:P * 2 ^ (n.log2 - 52) = n * 2 ^ (52 - n.log2) * 1 * 2 ^ k:=by
  rw [Nat.mul_one,Nat.mul_assoc,← Nat.pow_add]
  rw [hk74] at hP
  exact pow_shift hP (by omega)
 obtain ⟨l1,l2⟩:=rung_of (Nat.two_pow_pos _) (by decide:0 < 1) hid rfl p1 p2 p3
 refine ⟨_,l1,?_⟩
 unfold Ieee.Format.mul
 rw [read_word s a ha,read_word t b hb]
 simp only [Ieee.Datum.product,Option.map_some,Ieee.Format.write]
 rw [← hn,near_rne (s ^^ t) n k _ hn0 hk,l2]
theorem div_R (s t:Bool) (a b P Bn:Nat) (ha:a < infR) (hb:b < infR) (hB:0 < Bn) (hb0:vR b ≠ 0) (hP:P * vR b = vR a * k74 * Bn) (h52:Bn * b52 ≤ P) :
  ∃ lo,Lo P Bn lo ∧ Ieee.double.div (Ieee.double.word s a) (Ieee.double.word t b) = some (Ieee.double.word (s ^^ t) (min (roundR P Bn lo) infR)):=by
 obtain ⟨E,hE,hk74⟩:∃ E,E = 1074 ∧ k74 = 2 ^ E:=⟨52 + e22,rfl,rfl⟩
 obtain ⟨m,hm⟩:∃ m,m = mantR a:=⟨_,rfl⟩
 obtain ⟨n,hn⟩:∃ n,n = mantR b:=⟨_,rfl⟩
 obtain ⟨i,hi⟩:∃ i,i = exR a:=⟨_,rfl⟩
 obtain ⟨j,hj⟩:∃ j,j = exR b:=⟨_,rfl⟩
 have hva:vR a = m * 2 ^ i:=by rw [hm,hi];rfl
 have hvb:vR b = n * 2 ^ j:=by rw [hn,hj];rfl
 rw [hva,hvb] at hP
 have hn0:n ≠ 0:=by
  intro h0
  rw [hvb,h0,Nat.zero_mul] at hb0
  exact hb0 rfl
 have hPp:0 < P:=Nat.lt_of_lt_of_le (Nat.mul_pos hB (by decide)) h52
 have hm0:m ≠ 0:=by
  intro h0
  rw [h0,Nat.zero_mul,Nat.zero_mul,Nat.zero_mul] at hP
  have:=Nat.mul_pos hPp (Nat.mul_pos (Nat.pos_of_ne_zero hn0) (Nat.two_pow_pos j))
  omega
 have hn1:0 < n:=Nat.pos_of_ne_zero hn0
 obtain ⟨mo,hmo⟩:∃ mo,mo = 52 + 2 + n.log2 - m.log2:=⟨_,rfl⟩
 obtain ⟨X,hX⟩:∃ X,X = m * 2 ^ mo:=⟨_,rfl⟩
 have hXn:2 ^ 53 ≤ X / n:=by
  rw [Nat.le_div_iff_mul_le hn1]
  have a1:=Nat.log2_self_le hm0
  have a2:=Nat.lt_log2_self (n:=n)
  have a3:=Nat.mul_le_mul_right (2 ^ mo) a1
  rw [← Nat.pow_add,← hX] at a3
  have a4:2 ^ 53 * n ≤ 2 ^ 53 * 2 ^ (n.log2 + 1):=Nat.mul_le_mul_left _ (Nat.le_of_lt a2)
  rw [← Nat.pow_add] at a4
  have a5:=Nat.pow_le_pow_right (by decide:0 < 2) (show 53 + (n.log2 + 1) ≤ m.log2 + mo by omega)
  omega
 obtain ⟨Q,hQ⟩:∃ Q,Q = 2 * (X / n) + (X % n != 0).toNat:=⟨_,rfl⟩
 have hQ54:2 ^ 54 ≤ Q:=by
  have:(2:Nat) ^ 54 = 2 * 2 ^ 53:=by rfl
  omega
 have hQ0:Q ≠ 0:=by
  have:=Nat.two_pow_pos 54
  omega
 have hQL:54 ≤ Q.log2:=by rw [Nat.le_log2 hQ0];exact hQ54
 have hL0:52 - Q.log2 = 0:=by omega
 obtain ⟨D,hD⟩:∃ D,D = 2 ^ (Q.log2 - 53):=⟨_,rfl⟩
 have hD2:2 ^ (Q.log2 - 52) = 2 * D:=by rw [hD,show Q.log2 - 52 = (Q.log2 - 53) + 1 by omega,Nat.pow_succ,Nat.mul_comm]
 have hDe:D % 2 = 0:=by rw [hD,show Q.log2 - 53 = (Q.log2 - 54) + 1 by omega,Nat.pow_succ];omega
 have hDp:0 < D:=by rw [hD];exact Nat.two_pow_pos _
 have hst:=rne_sticky X n D hn1 hDp hDe
 rw [← hQ] at hst
 have hLo:Q < 2 ^ (Q.log2 + 1):=Nat.lt_log2_self
 have hid0:P * n * 2 ^ (j + mo) = X * Bn * 2 ^ (i + E):=by
  have e1:P * n * 2 ^ (j + mo) = P * (n * 2 ^ j) * 2 ^ mo:=by rw [Nat.pow_add,← Nat.mul_assoc,← Nat.mul_assoc]
  rw [e1,hP,hX,hk74,Nat.pow_add]
  generalize 2 ^ E = z
  generalize 2 ^ i = y
  generalize 2 ^ mo = x
  rw [Nat.mul_right_comm (m * y * z) Bn x,Nat.mul_right_comm (m * y) z x,Nat.mul_right_comm m y x,Nat.mul_right_comm (m * x * y) z Bn,Nat.mul_right_comm (m * x) y Bn,Nat.mul_assoc (m * x * Bn)]
 have hbig:2 ^ (52 + (j + mo)) * n ≤ X * 2 ^ (i + E):=by
  have a1:Bn * b52 * (n * 2 ^ (j + mo)) ≤ P * (n * 2 ^ (j + mo)):=Nat.mul_le_mul_right _ h52
  rw [← Nat.mul_assoc P,hid0,b52_eq] at a1
  have a2:Bn * 2 ^ 52 * (n * 2 ^ (j + mo)) = 2 ^ (52 + (j + mo)) * n * Bn:=by
   rw [Nat.pow_add 2 52]
   generalize 2 ^ 52 = z
   generalize 2 ^ (j + mo) = y
   rw [Nat.mul_comm Bn z,Nat.mul_right_comm z Bn,Nat.mul_comm n y,Nat.mul_assoc z y n]
  rw [a2,Nat.mul_right_comm X Bn] at a1
  exact Nat.le_of_mul_le_mul_right a1 hB
 have hXL:X < 2 ^ Q.log2 * n:=by
  have e1:=Nat.div_add_mod X n
  have e2:=Nat.mod_lt X hn1
  have e4:X / n + 1 ≤ 2 ^ Q.log2:=by rw [Nat.pow_succ] at hLo;omega
  have e3:=Nat.mul_le_mul_right n e4
  rw [Nat.add_mul,Nat.one_mul,Nat.mul_comm] at e3
  omega
 have hpl:52 + (j + mo) < Q.log2 + (i + E):=by
  have a1:=Nat.mul_lt_mul_of_pos_right hXL (Nat.two_pow_pos (i + E))
  rw [Nat.mul_right_comm,← Nat.pow_add] at a1
  have a2:2 ^ (52 + (j + mo)) * n < 2 ^ (Q.log2 + (i + E)) * n:=Nat.lt_of_le_of_lt hbig a1
  exact (Nat.pow_lt_pow_iff_right (by decide:1 < 2)).1 (Nat.lt_of_mul_lt_mul_right a2)
 obtain ⟨k,hk⟩:∃ k:Nat,k + (j + mo) = i + Q.log2 + 1021:=⟨i + Q.log2 + 1021 - (j + mo),by omega⟩
 obtain ⟨q1,q2⟩:=q_bd2 hQ0
 have hqq:Q * 2 ^ (52 - Q.log2) / 2 ^ (Q.log2 - 52) = X / (n * D):=by
  rw [hL0,Nat.pow_zero,Nat.mul_one,hD2,← Nat.div_div_eq_div_mul,← Nat.div_div_eq_div_mul]
  have:Q / 2 = X / n:=by have:=Bool.toNat_le (X % n != 0);omega
  rw [this]
 rw [hqq] at q1 q2
 obtain ⟨p1,p2,p3⟩:=rung_parts (k:=k) q1 q2
 have hid:P * (n * D) = X * Bn * 2 ^ k:=by
  rw [← Nat.mul_assoc,hD]
  exact pow_shift hid0 (by omega)
 obtain ⟨l1,l2⟩:=rung_of (Nat.mul_pos hn1 hDp) hB hid rfl p1 p2 p3
 refine ⟨_,l1,?_⟩
 unfold Ieee.Format.div
 rw [read_word s a ha,read_word t b hb]
 simp only [Ieee.Datum.quotient]
 rw [← hn,← hm,← hi,← hj,if_neg hn0]
 have hfb:Ieee.double.fractionBits = 52:=rfl
 simp only [hfb,Option.map_some,Ieee.Format.write,Nat.shiftLeft_eq]
 rw [← hmo,← hX,← hQ,near_rne (s ^^ t) Q k _ hQ0 (by omega),hL0,hD2,Nat.pow_zero,Nat.mul_one,hst,l2]
end Go.Proofs.YtjlaoeigfokkiaaGreatDoor.mem
namespace Go.Proofs.YtjlaoeigfokkiaaGreatDoor.mem
set_option linter.unusedVariables false
def tens:List Nat:=[4607182418800017408,4621819117588971520,4636737291354636288,4652007308841189376,4666723172467343360,4681608360884174848,4696837146684686336,4711630319722168320,4726483295884279808,4741671816366391296,4756540486875873280,4771362005757984768,4786511204640096256,4801453603149578240,4816244402031689728,4831355200913801216,4846369599423283200,4861130398305394688,4876203697187506176,4891288408196988160,4906019910204099648,4921056587992461136,4936209963552724370]
theorem ten_ok (i:Nat) (h:i ≤ 22):∃ r,tens[i]? = some r ∧ r < infR ∧ vR r = 10 ^ i * k74:=by
 have key:(List.range 23).all (fun i => match tens[i]? with | some r => decide (r < infR) && (vR r == 10 ^ i * k74) | none => false) = true:=by decide +kernel
 have:=List.all_eq_true.1 key i (by rw [List.mem_range];omega)
 revert this
 cases tens[i]? with
 | none => simp
 | some r =>
  simp only [Bool.and_eq_true,decide_eq_true_eq,beq_iff_eq]
  rintro ⟨h1,h2⟩
  exact ⟨r,rfl,h1,h2⟩
theorem loN_exact {n:Nat} (h:n ≠ 0) (h53:n < 9007199254740992):vR (loN n) = n * k74 ∧ loN n < infR:=by
 obtain ⟨p1,p2,p3⟩:=loN_parts h
 obtain ⟨b1,b2⟩:=q_bd h
 have hL:n.log2 ≤ 52:=by
  have:=(Nat.log2_lt h).2 (show n < 2 ^ 53 from h53)
  omega
 have hp:=Nat.two_pow_pos n.log2
 have eb:b52 = 2 ^ (52 - n.log2) * 2 ^ n.log2:=by rw [← Nat.pow_add,show 52 - n.log2 + n.log2 = 52 by omega];rfl
 have eq:n * b52 / 2 ^ n.log2 = n * 2 ^ (52 - n.log2):=by
  rw [eb,← Nat.mul_assoc,Nat.mul_div_cancel _ hp]
 constructor
 ·unfold vR
  rw [p1,p2,eq,k74_eq,← Nat.mul_assoc,eb,Nat.pow_add,show 2 ^ e22 = k22 from rfl,← Nat.mul_assoc,← Nat.mul_assoc]
 ·unfold loN
  have:=e22_eq
  unfold b52 b53 infR at *
  omega
theorem float_of (d:Nat) (h:d ≠ 0) (h53:d < 9007199254740992):FloatKind.f64.nearest (d:Int) = loN d:=by
 have e:FloatKind.f64.nearest (d:Int) = Ieee.double.nearest (decide ((d:Int) < 0)) (d:Int).natAbs 0:=rfl
 have hf:decide ((d:Int) < 0) = false:=by rw [decide_eq_false_iff_not];omega
 rw [e,hf,Int.natAbs_natCast,nearest_int false h (by omega),round_exact (loN_exact h h53).1.symm]
 rfl
theorem k74_pos:0 < k74:=Nat.two_pow_pos _
theorem small_exact (x lo:Nat) (hx:x ≠ 0) (hl:Lo (x * k74) 1 lo) (hr:vR (roundR (x * k74) 1 lo) ≤ 1000000000000000 * k74):x < 9007199254740992 ∧ roundR (x * k74) 1 lo = loN x:=by
 have hk:=k74_pos
 have h53:x < 9007199254740992:=by
  rcases Nat.lt_or_ge x 9007199254740992 with h | h
  ·exact h
  ·exfalso
   have c:vR 4845873199050653696 = 9007199254740992 * k74:=by decide +kernel
   have a1:9007199254740992 * k74 ≤ x * k74:=Nat.mul_le_mul_right _ h
   have a2:vR 4845873199050653696 < vR (lo + 1):=by have:=hl.2;rw [Nat.one_mul] at this;omega
   have a3:4845873199050653696 ≤ lo:=by
    rcases Nat.lt_or_ge lo 4845873199050653696 with g | g
    ·have:=vR_mono_le (show lo + 1 ≤ 4845873199050653696 from g);omega
    ·exact g
   have a4:lo ≤ roundR (x * k74) 1 lo:=by unfold roundR;split <;> omega
   have a5:=vR_mono_le (Nat.le_trans a3 a4)
   have a6:1000000000000000 * k74 < 9007199254740992 * k74:=Nat.mul_lt_mul_of_pos_right (by decide) hk
   omega
 obtain ⟨e1,e2⟩:=loN_exact hx h53
 refine ⟨h53,?_⟩
 rw [Lo.unique hl (loN_lo hx),round_exact e1.symm]
end Go.Proofs.YtjlaoeigfokkiaaGreatDoor.mem
namespace Go.Proofs.YtjlaoeigfokkiaaGreatDoor.fto
open Go.ChangeShapes Go.WideShapes Go.ChangeAt Go.RowKit
open mem
open ints (hide unhide)
set_option linter.unusedVariables false
def T10 (w:World):Prop:=∃ (b off c:Nat),w.cell? ⟨14,0,none⟩ = some (.slice (some ⟨b,off,none⟩) 23 c) ∧ b < w.heap.size ∧ 14 < w.heap.size ∧ ∀ i r,tens[i]? = some r → w.cell? ⟨b,off + i,none⟩ = some (.float .f64 r)
theorem T10.below {w W:World} (h:T10 w) (hb:Below w.heap.size w W):T10 W:=by
 obtain ⟨b,off,c,h1,h2,h3,h4⟩:=h
 exact ⟨b,off,c,(hb.cell (p:=⟨14,0,none⟩) h3).trans h1,Nat.lt_of_lt_of_le h2 hb.size,Nat.lt_of_lt_of_le h3 hb.size,fun i r hi => (hb.cell (p:=⟨b,off + i,none⟩) h2).trans (h4 i r hi)⟩
theorem word_S (ng:Bool) (r S:Nat) (hS:S = if ng then 9223372036854775808 else 0):Ieee.double.word ng r = S + r:=by
 have hs:Ieee.double.signWeight = 9223372036854775808:=by rfl
 unfold Ieee.Format.word
 rw [hS,hs]
 cases ng <;> simp
def Exa (G:Nat) (e:Ending):Prop:=∃ (G':Nat) (ok:Bool),e = .returned (.tuple #[.float .f64 G',.bool ok]) ∧ (ok = true → G' = G)
theorem run_fmul (x y r:Nat) (h:Ieee.double.mul x y = some r) (t:TypeId) (w:World):(binOp .mul t (.float .f64 x) (.float .f64 y)).run Tryz.prog w = .ok (.float .f64 r) w:=by
 have h':FloatKind.f64.format.mul x y = some r:=h
 simp [binOp,Op.floatArith,h']
theorem run_fdiv (x y r:Nat) (h:Ieee.double.div x y = some r) (t:TypeId) (w:World):(binOp .quo t (.float .f64 x) (.float .f64 y)).run Tryz.prog w = .ok (.float .f64 r) w:=by
 have h':FloatKind.f64.format.div x y = some r:=h
 simp [binOp,Op.floatArith,h']
theorem ex_mul (d:Nat) (p:Int) (ng:Bool) (w:World) (F G T:Nat) (b off c:Nat) (hd:d < 4503599627370496) (hp:1 ≤ p ∧ p ≤ 22) (hi:w.cell? ⟨9,0,none⟩ = some (.int .u64 52))
  (hg:w.cell? ⟨14,0,none⟩ = some (.slice (some ⟨b,off,none⟩) 23 c)) (hT:w.cell? ⟨b,off + p.toNat,none⟩ = some (.float .f64 T))
  (hf:floatOfInt .f64 (d:Int) = loN d) (hneg:ng = true → (Op.unary UnOp.neg (Value.float FloatKind.f64 (loN d))).run Tryz.prog w = .ok (.float .f64 F) w) (hpos:ng = false → loN d = F)
  (hm:(binOp .mul 25 (.float .f64 F) (.float .f64 T)).run Tryz.prog w = .ok (.float .f64 G) w) (g1 g2:Bool) (hg1:(FloatKind.f64.format.order F 4831355200913801216 == some .gt) = g1) (hg2:(FloatKind.f64.format.order F 14054727237768577024 == some .lt) = g2) :
  Calls Tryz.prog 157 #[.int .u64 d,.int .i64 p,.bool ng] w fun e w' => Exa G e ∧ w' = w:=by
 have i1:(d:Int) / 4503599627370496 = 0:=by omega
 have i2:(p == 0) = false:=by rw [beq_eq_false_iff_ne];omega
 have j1:(0:Int) < p:=by omega
 have j3:p ≤ 37:=by omega
 have j4:¬ (22:Int) < p:=by omega
 have j5:p < 23:=by omega
 have j6:0 ≤ p:=by omega
 cases ng
 ·have e:=hpos rfl
  rw [e] at hf
  clear hpos hneg
  cases g1
  ·cases g2
   all_goals
    go_enter Tryz.func157,Tryz.ntmps157
    go_wp2
    go_ret2
    first
     | exact ⟨⟨_,_,rfl,fun _ => rfl⟩,rfl⟩
     | exact ⟨⟨_,_,rfl,fun h => by simp at h⟩,rfl⟩
  ·go_enter Tryz.func157,Tryz.ntmps157
   go_wp2
   go_ret2
   exact ⟨⟨_,_,rfl,fun h => by simp at h⟩,rfl⟩
 ·have hneg:=hneg rfl
  generalize loN d = f0 at *
  clear hpos
  cases g1
  ·cases g2
   all_goals
    go_enter Tryz.func157,Tryz.ntmps157
    go_wp2
    go_ret2
    first
     | exact ⟨⟨_,_,rfl,fun _ => rfl⟩,rfl⟩
     | exact ⟨⟨_,_,rfl,fun h => by simp at h⟩,rfl⟩
  ·go_enter Tryz.func157,Tryz.ntmps157
   go_wp2
   go_ret2
   exact ⟨⟨_,_,rfl,fun h => by simp at h⟩,rfl⟩
theorem ex_mul2 (d:Nat) (p:Int) (ng:Bool) (w:World) (F F2 G T T2:Nat) (b off c:Nat) (hd:d < 4503599627370496) (hp:23 ≤ p ∧ p ≤ 37) (hi:w.cell? ⟨9,0,none⟩ = some (.int .u64 52))
  (hg:w.cell? ⟨14,0,none⟩ = some (.slice (some ⟨b,off,none⟩) 23 c)) (hT:w.cell? ⟨b,off + (p - 22).toNat,none⟩ = some (.float .f64 T)) (hT2:w.cell? ⟨b,off + 22,none⟩ = some (.float .f64 T2))
  (hf:floatOfInt .f64 (d:Int) = loN d) (hneg:ng = true → (Op.unary UnOp.neg (Value.float FloatKind.f64 (loN d))).run Tryz.prog w = .ok (.float .f64 F) w) (hpos:ng = false → loN d = F)
  (hm:(binOp .mul 25 (.float .f64 F) (.float .f64 T)).run Tryz.prog w = .ok (.float .f64 F2) w) (g1 g2:Bool) (hg1:(FloatKind.f64.format.order F2 4831355200913801216 == some .gt) = g1) (hg2:(FloatKind.f64.format.order F2 14054727237768577024 == some .lt) = g2)
  (hm2:g1 = false → g2 = false → (binOp .mul 25 (.float .f64 F2) (.float .f64 T2)).run Tryz.prog w = .ok (.float .f64 G) w) :
  Calls Tryz.prog 157 #[.int .u64 d,.int .i64 p,.bool ng] w fun e w' => Exa G e ∧ w' = w:=by
 have i1:(d:Int) / 4503599627370496 = 0:=by omega
 have i2:(p == 0) = false:=by rw [beq_eq_false_iff_ne];omega
 have j1:(0:Int) < p:=by omega
 have j3:p ≤ 37:=by omega
 have j4:(22:Int) < p:=by omega
 have j5:p - 22 < 23:=by omega
 have j6:0 ≤ p - 22:=by omega
 cases ng
 ·have e:=hpos rfl
  rw [e] at hf
  clear hpos hneg
  cases g1
  ·cases g2
   ·have hm2:=hm2 rfl rfl
    go_enter Tryz.func157,Tryz.ntmps157
    go_wp2
    go_ret2
    exact ⟨⟨_,_,rfl,fun _ => rfl⟩,rfl⟩
   ·clear hm2
    go_enter Tryz.func157,Tryz.ntmps157
    go_wp2
    go_ret2
    exact ⟨⟨_,_,rfl,fun h => by simp at h⟩,rfl⟩
  ·clear hm2
   go_enter Tryz.func157,Tryz.ntmps157
   go_wp2
   go_ret2
   exact ⟨⟨_,_,rfl,fun h => by simp at h⟩,rfl⟩
 ·have hneg:=hneg rfl
  generalize loN d = f0 at *
  clear hpos
  cases g1
  ·cases g2
   ·have hm2:=hm2 rfl rfl
    go_enter Tryz.func157,Tryz.ntmps157
    go_wp2
    go_ret2
    exact ⟨⟨_,_,rfl,fun _ => rfl⟩,rfl⟩
   ·clear hm2
    go_enter Tryz.func157,Tryz.ntmps157
    go_wp2
    go_ret2
    exact ⟨⟨_,_,rfl,fun h => by simp at h⟩,rfl⟩
  ·clear hm2
   go_enter Tryz.func157,Tryz.ntmps157
   go_wp2
   go_ret2
   exact ⟨⟨_,_,rfl,fun h => by simp at h⟩,rfl⟩
theorem ex_div (d:Nat) (p:Int) (ng:Bool) (w:World) (F G T:Nat) (b off c:Nat) (hd:d < 4503599627370496) (hp:-22 ≤ p ∧ p ≤ -1) (hi:w.cell? ⟨9,0,none⟩ = some (.int .u64 52))
  (hg:w.cell? ⟨14,0,none⟩ = some (.slice (some ⟨b,off,none⟩) 23 c)) (hT:w.cell? ⟨b,off + (-p).toNat,none⟩ = some (.float .f64 T))
  (hf:floatOfInt .f64 (d:Int) = loN d) (hneg:ng = true → (Op.unary UnOp.neg (Value.float FloatKind.f64 (loN d))).run Tryz.prog w = .ok (.float .f64 F) w) (hpos:ng = false → loN d = F)
  (hm:(binOp .quo 25 (.float .f64 F) (.float .f64 T)).run Tryz.prog w = .ok (.float .f64 G) w) :
  Calls Tryz.prog 157 #[.int .u64 d,.int .i64 p,.bool ng] w fun e w' => Exa G e ∧ w' = w:=by
 have i1:(d:Int) / 4503599627370496 = 0:=by omega
 have i2:(p == 0) = false:=by rw [beq_eq_false_iff_ne];omega
 have j1:¬ (0:Int) < p:=by omega
 have j2:p < 0:=by omega
 have j3:-22 ≤ p:=by omega
 have j5:-p < 23:=by omega
 have j6:0 ≤ -p:=by omega
 cases ng
 ·have e:=hpos rfl
  rw [e] at hf
  clear hpos hneg
  go_enter Tryz.func157,Tryz.ntmps157
  go_wp2
  go_ret2
  exact ⟨⟨_,_,rfl,fun _ => rfl⟩,rfl⟩
 ·have hneg:=hneg rfl
  generalize loN d = f0 at *
  clear hpos
  go_enter Tryz.func157,Tryz.ntmps157
  go_wp2
  go_ret2
  exact ⟨⟨_,_,rfl,fun _ => rfl⟩,rfl⟩
theorem ex_whole (d:Nat) (ng:Bool) (w:World) (F:Nat) (hd:d < 4503599627370496) (hi:w.cell? ⟨9,0,none⟩ = some (.int .u64 52))
  (hf:floatOfInt .f64 (d:Int) = loN d) (hneg:ng = true → (Op.unary UnOp.neg (Value.float FloatKind.f64 (loN d))).run Tryz.prog w = .ok (.float .f64 F) w) (hpos:ng = false → loN d = F) :
  Calls Tryz.prog 157 #[.int .u64 d,.int .i64 0,.bool ng] w fun e w' => Exa F e ∧ w' = w:=by
 have i1:(d:Int) / 4503599627370496 = 0:=by omega
 cases ng
 ·have e:=hpos rfl
  rw [e] at hf
  clear hpos hneg
  go_enter Tryz.func157,Tryz.ntmps157
  go_wp2
  go_ret2
  exact ⟨⟨_,_,rfl,fun _ => rfl⟩,rfl⟩
 ·have hneg:=hneg rfl
  generalize loN d = f0 at *
  clear hpos
  go_enter Tryz.func157,Tryz.ntmps157
  go_wp2
  go_ret2
  exact ⟨⟨_,_,rfl,fun _ => rfl⟩,rfl⟩
end Go.Proofs.YtjlaoeigfokkiaaGreatDoor.fto
namespace Go.Proofs.YtjlaoeigfokkiaaGreatDoor.fto
open Go.ChangeShapes Go.WideShapes Go.ChangeAt Go.RowKit
open mem Go.Sort
open ints (hide unhide)
set_option linter.unusedVariables false
theorem xor_sgn (r:Nat) (h:r < 2 ^ 63):r ^^^ 2 ^ 63 = 2 ^ 63 + r:=by
 apply Nat.eq_of_testBit_eq
 intro i
 rw [Nat.testBit_xor,Nat.testBit_two_pow]
 rcases Nat.lt_trichotomy i 63 with h1 | h1 | h1
 ·rw [Nat.testBit_two_pow_add_gt h1]
  have:¬ 63 = i:=by omega
  simp [this]
 ·subst h1
  rw [Nat.testBit_two_pow_add_eq,Nat.testBit_lt_two_pow h]
  simp
 ·have e1:r < 2 ^ i:=Nat.lt_of_lt_of_le h (Nat.pow_le_pow_right (by decide) (by omega))
  have e2:2 ^ 63 + r < 2 ^ i:=by
   have:=Nat.pow_le_pow_right (by decide:0 < 2) (show 64 ≤ i from h1)
   have e:(2:Nat) ^ 64 = 2 * 2 ^ 63:=rfl
   omega
  rw [Nat.testBit_lt_two_pow e1,Nat.testBit_lt_two_pow e2]
  have:¬ 63 = i:=by omega
  simp [this]
theorem run_fneg (r:Nat) (h:r < infR) (w:World):(Op.unary UnOp.neg (Value.float FloatKind.f64 r)).run Tryz.prog w = .ok (.float .f64 (Ieee.double.word true r)) w:=by
 have e:Op.negFloat .f64 r = Ieee.double.word true r:=xor_sgn r (by unfold infR at h;omega)
 show Result.ok (Value.float FloatKind.f64 (Op.negFloat .f64 r)) w = _
 rw [e]
theorem ord_gt (r:Nat) (hr:r < infR) (h:(FloatKind.f64.format.order (Ieee.double.word false r) 4831355200913801216 == some .gt) = false):vR r ≤ 1000000000000000 * k74:=by
 have e15:vR 4831355200913801216 = 1000000000000000 * k74:=by decide +kernel
 have:=order_word false false r 4831355200913801216 hr (by decide)
 rw [show Ieee.double.word false 4831355200913801216 = 4831355200913801216 from rfl] at this
 rw [this] at h
 rw [← e15]
 rcases Nat.lt_or_ge (vR 4831355200913801216) (vR r) with g | g
 ·exfalso
  have:compare (sv false (vR r)) (sv false (vR 4831355200913801216)) = .gt:=by
   unfold sv
   rw [Int.compare_eq_gt]
   simp only [Bool.false_eq_true,if_false]
   omega
  rw [this] at h
  simp at h
 ·exact g
theorem ord_lt (r:Nat) (hr:r < infR) (h:(FloatKind.f64.format.order (Ieee.double.word true r) 14054727237768577024 == some .lt) = false):vR r ≤ 1000000000000000 * k74:=by
 have e15:vR 4831355200913801216 = 1000000000000000 * k74:=by decide +kernel
 have:=order_word true true r 4831355200913801216 hr (by decide)
 rw [show Ieee.double.word true 4831355200913801216 = 14054727237768577024 from rfl] at this
 rw [this] at h
 rw [← e15]
 rcases Nat.lt_or_ge (vR 4831355200913801216) (vR r) with g | g
 ·exfalso
  have:compare (sv true (vR r)) (sv true (vR 4831355200913801216)) = .lt:=by
   unfold sv
   rw [Int.compare_eq_lt]
   simp only [if_true]
   omega
  rw [this] at h
  simp at h
 ·exact g
theorem big_fin (x lo:Nat) (hx:x ≤ 4503599627370496 * 10 ^ 15) (hl:Lo (x * k74) 1 lo):roundR (x * k74) 1 lo < infR:=by
 have c:4503599627370496 * 10 ^ 15 * k74 < vR 9218868437227405311:=by decide +kernel
 have a1:=Nat.mul_le_mul_right k74 hx
 have a2:=hl.1
 rw [Nat.one_mul] at a2
 have a3:lo < 9218868437227405311:=by
  rcases Nat.lt_or_ge lo 9218868437227405311 with g | g
  ·exact g
  ·exfalso
   have:=vR_mono_le g
   exact absurd (Nat.le_trans this (Nat.le_trans a2 a1)) (Nat.not_le_of_lt c)
 unfold roundR infR
 split <;> omega
theorem lo_some (x:Nat) (hx:x ≠ 0):∃ lo,Lo (x * k74) 1 lo:=⟨_,loN_lo hx⟩
theorem ex_any (d:Nat) (p:Int) (ng:Bool) (S lo:Nat) (w:World) (hd0:1 ≤ d) (hd1:d < 18446744073709551616) (hp:-345 ≤ p ∧ p ≤ 310) (hi:w.cell? ⟨9,0,none⟩ = some (.int .u64 52)) (hT:T10 w)
  (hS:S = if ng then 9223372036854775808 else 0) (hlo:Lo (d * 10 ^ p.toNat * k74) (10 ^ (-p).toNat) lo) (hR:roundR (d * 10 ^ p.toNat * k74) (10 ^ (-p).toNat) lo < infR) :
  Calls Tryz.prog 157 #[.int .u64 d,.int .i64 p,.bool ng] w fun e w' => (∃ (G:Nat) (ok:Bool),e = .returned (.tuple #[.float .f64 G,.bool ok]) ∧ (ok = true → G = S + roundR (d * 10 ^ p.toNat * k74) (10 ^ (-p).toNat) lo)) ∧ w' = w:=by
 have hk:=k74_pos
 rcases Nat.lt_or_ge d 4503599627370496 with hd | hd
 ·by_cases hpf:p < -22 ∨ 37 < p
  ·refine (ex_far d p ng w hd hpf (by omega) hi).mono ?_
   rintro e w1 ⟨⟨G,rfl⟩,hw⟩
   exact ⟨⟨_,_,rfl,fun h => by simp at h⟩,hw⟩
  ·obtain ⟨b,off,c,hg,-,-,hcell⟩:=hT
   have hdn:d ≠ 0:=by omega
   obtain ⟨v1,v2⟩:=loN_exact hdn (show d < 9007199254740992 by omega)
   have hf:floatOfInt .f64 (d:Int) = loN d:=float_of d hdn (by omega)
   have hneg:ng = true → (Op.unary UnOp.neg (Value.float FloatKind.f64 (loN d))).run Tryz.prog w = .ok (.float .f64 (Ieee.double.word ng (loN d))) w:=fun h => by rw [h];exact run_fneg _ v2 w
   have hpos:ng = false → loN d = Ieee.double.word ng (loN d):=fun h => by rw [h];rfl
   have hwS:=fun r => word_S ng r S hS
   rcases Int.lt_trichotomy p 0 with h0 | h0 | h0
   ·-- a quotient
    obtain ⟨T,t1,t2,t3⟩:=ten_ok (-p).toNat (by omega)
    have e0:p.toNat = 0:=by omega
    rw [e0,Nat.pow_zero,Nat.mul_one] at hlo hR ⊢
    have hB:0 < 10 ^ (-p).toNat:=Nat.pow_pos (by decide)
    have hT0:vR T ≠ 0:=by rw [t3];exact Nat.ne_of_gt (Nat.mul_pos hB hk)
    have h52:10 ^ (-p).toNat * b52 ≤ d * k74:=by
     have a1:10 ^ (-p).toNat * b52 ≤ 10 ^ 22 * b52:=Nat.mul_le_mul_right _ (Nat.pow_le_pow_right (by decide) (by omega))
     have a2:10 ^ 22 * b52 ≤ 1 * k74:=by decide +kernel
     exact Nat.le_trans a1 (Nat.le_trans a2 (Nat.mul_le_mul_right _ hd0))
    obtain ⟨lo',l1,l2⟩:=div_R ng false (loN d) T (d * k74) (10 ^ (-p).toNat) v2 t2 hB hT0 (by rw [t3,v1,← Nat.mul_assoc,Nat.mul_right_comm (d * k74)]) h52
    have hlu:lo' = lo:=l1.unique hlo
    subst hlu
    rw [Bool.xor_false,Nat.min_eq_left (Nat.le_of_lt hR)] at l2
    refine (ex_div d p ng w _ _ T b off c hd (by omega) hi hg (hcell _ _ t1) hf hneg hpos (run_fdiv _ _ _ l2 _ w)).mono ?_
    rintro e w1 ⟨h1,hw⟩
    rw [hwS] at h1
    exact ⟨h1,hw⟩
   ·-- a whole number
    subst h0
    have e1:(10:Nat) ^ (0:Int).toNat = 1:=rfl
    have e2:(10:Nat) ^ (-(0:Int)).toNat = 1:=rfl
    rw [e1,e2,Nat.mul_one] at hlo hR ⊢
    have hlu:lo = loN d:=hlo.unique (loN_lo hdn)
    rw [hlu,round_exact v1.symm,← hwS]
    refine (ex_whole d ng w _ hd hi hf hneg hpos).mono ?_
    rintro e w1 ⟨h1,hw⟩
    exact ⟨h1,hw⟩
   ·have e0:(-p).toNat = 0:=by omega
    rw [e0,Nat.pow_zero] at hlo hR ⊢
    have h52:b52 ≤ d * 10 ^ p.toNat * k74:=by
     have a1:1 * k74 ≤ d * 10 ^ p.toNat * k74:=Nat.mul_le_mul_right _ (Nat.mul_pos hd0 (Nat.pow_pos (by decide)))
     have a2:b52 ≤ 1 * k74:=by decide +kernel
     exact Nat.le_trans a2 a1
    by_cases h22:p ≤ 22
    ·obtain ⟨T,t1,t2,t3⟩:=ten_ok p.toNat (by omega)
     obtain ⟨lo',l1,l2⟩:=mul_R ng false (loN d) T (d * 10 ^ p.toNat * k74) v2 t2 (by rw [t3,v1,← Nat.mul_assoc,Nat.mul_right_comm d]) h52
     have hlu:lo' = lo:=l1.unique hlo
     subst hlu
     rw [Bool.xor_false,Nat.min_eq_left (Nat.le_of_lt hR)] at l2
     refine (ex_mul d p ng w _ _ T b off c hd (by omega) hi hg (hcell _ _ t1) hf hneg hpos (run_fmul _ _ _ l2 _ w) _ _ rfl rfl).mono ?_
     rintro e w1 ⟨h1,hw⟩
     rw [hwS] at h1
     exact ⟨h1,hw⟩
    ·obtain ⟨T,t1,t2,t3⟩:=ten_ok (p - 22).toNat (by omega)
     obtain ⟨T2,u1,u2,u3⟩:=ten_ok 22 (by omega)
     obtain ⟨x,hx⟩:∃ x,x = d * 10 ^ (p - 22).toNat:=⟨_,rfl⟩
     have hxe:x * 10 ^ 22 = d * 10 ^ p.toNat:=by rw [hx,Nat.mul_assoc,← Nat.pow_add,show (p - 22).toNat + 22 = p.toNat by omega]
     have hx0:x ≠ 0:=by rw [hx];exact Nat.ne_of_gt (Nat.mul_pos hd0 (Nat.pow_pos (by decide)))
     have hxl:x ≤ 4503599627370496 * 10 ^ 15:=by rw [hx];exact Nat.mul_le_mul (Nat.le_of_lt hd) (Nat.pow_le_pow_right (by decide) (by omega))
     have h52':b52 ≤ x * k74:=by
      have a1:1 * k74 ≤ x * k74:=Nat.mul_le_mul_right _ (Nat.pos_of_ne_zero hx0)
      have a2:b52 ≤ 1 * k74:=by decide +kernel
      exact Nat.le_trans a2 a1
     obtain ⟨lo1,l1,l2⟩:=mul_R ng false (loN d) T (x * k74) v2 t2 (by rw [t3,v1,hx,← Nat.mul_assoc,Nat.mul_right_comm d]) h52'
     have hfin:=big_fin x lo1 hxl l1
     rw [Bool.xor_false,Nat.min_eq_left (Nat.le_of_lt hfin)] at l2
     have hm2:∀ g1 g2:Bool,(FloatKind.f64.format.order (Ieee.double.word ng (roundR (x * k74) 1 lo1)) 4831355200913801216 == some .gt) = g1 → (FloatKind.f64.format.order (Ieee.double.word ng (roundR (x * k74) 1 lo1)) 14054727237768577024 == some .lt) = g2 → g1 = false → g2 = false → (binOp .mul 25 (.float .f64 (Ieee.double.word ng (roundR (x * k74) 1 lo1))) (.float .f64 T2)).run Tryz.prog w = .ok (.float .f64 (S + roundR (d * 10 ^ p.toNat * k74) 1 lo)) w:=by
      rintro g1 g2 q1 q2 rfl rfl
      have hv:vR (roundR (x * k74) 1 lo1) ≤ 1000000000000000 * k74:=by
       cases ng
       ·exact ord_gt _ hfin q1
       ·exact ord_lt _ hfin q2
      obtain ⟨x53,hrx⟩:=small_exact x lo1 hx0 l1 hv
      obtain ⟨y1,y2⟩:=loN_exact hx0 x53
      rw [hrx]
      obtain ⟨lo',m1,m2⟩:=mul_R ng false (loN x) T2 (d * 10 ^ p.toNat * k74) y2 u2 (by rw [u3,y1,← hxe,← Nat.mul_assoc,Nat.mul_right_comm x]) h52
      have hlu:lo' = lo:=m1.unique hlo
      subst hlu
      rw [Bool.xor_false,Nat.min_eq_left (Nat.le_of_lt hR)] at m2
      rw [← hwS]
      exact run_fmul _ _ _ m2 _ w
     refine (ex_mul2 d p ng w _ _ (S + roundR (d * 10 ^ p.toNat * k74) 1 lo) T T2 b off c hd (by omega) hi hg (hcell _ _ t1) (hcell _ _ u1) hf hneg hpos (run_fmul _ _ _ l2 _ w) _ _ rfl rfl (hm2 _ _ rfl rfl)).mono ?_
     rintro e w1 ⟨h1,hw⟩
     exact ⟨h1,hw⟩
 ·refine (ex_long d p ng w hd hd1 hi).mono ?_
  rintro e w1 ⟨rfl,hw⟩
  exact ⟨⟨_,_,rfl,fun h => by simp at h⟩,hw⟩
end Go.Proofs.YtjlaoeigfokkiaaGreatDoor.fto
