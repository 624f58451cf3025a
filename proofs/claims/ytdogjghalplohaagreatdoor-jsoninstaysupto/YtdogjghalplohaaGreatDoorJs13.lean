import Derived.Test.YtdogjghalplohaaGreatDoorRows
import Derived.Test.YtdogjghalplohaaGreatDoorJs1
import Derived.Test.YtdogjghalplohaaGreatDoorJs5
import Derived.Test.YtdogjghalplohaaGreatDoorJs11
import Derived.Test.YtdogjghalplohaaGreatDoorJs12
import Derived.Shelf.Bits.Mul64
import Derived.Test.YtdogjghalplohaaGreatDoorProg
import Derived.Laws.Shifts
import Derived.Laws.BitsAllLaws
import Derived.Deep.RegionWith
import Derived.Laws.Pointers
import Derived.Shelf.Strconv.Itoa0
import Derived.Shelf.Strconv.Itoa1
import Derived.Shelf.Strconv.Itoa2
import Derived.Deep.RegionHeld3
import Derived.Laws.Externs
import Derived.RegionTactic
import Derived.ChangeAlike
import Derived.Maps.AppendAt
import Derived.Deep.DeepMust
import GoSem.Core.Float
namespace Go.Proofs.YtdogjghalplohaaGreatDoor.mem
set_option linter.unusedVariables false
theorem farey {a m u v u2 v2:Int} {N:Int} (hdet:u2 * v = u * v2 + 1) (hN:N < v + v2) (hv:0 < v) (hv2:0 < v2) (hL:0 ≤ a * v - u * m) (hR:0 ≤ u2 * m - a * v2)
  (x y:Int) (hx0:0 < x) (hx:x ≤ N):(a * v - u * m ≤ a * x - m * y ∧ x * (a * v - u * m) ≤ (a * x - m * y) * v) ∨ (a * x - m * y ≤ -(u2 * m - a * v2) ∧ (a * x - m * y) * v2 ≤ -(x * (u2 * m - a * v2))):=by
 obtain ⟨i,hi⟩:∃ i,i = x * u2 - y * v2:=⟨_,rfl⟩
 obtain ⟨j,hj⟩:∃ j,j = y * v - x * u:=⟨_,rfl⟩
 have ex:x = i * v + j * v2:=by
  rw [hi,hj,Int.sub_mul,Int.sub_mul]
  have e1:x * u2 * v = x * (u2 * v):=by rw [Int.mul_assoc]
  have e2:y * v2 * v = y * v * v2:=by rw [Int.mul_assoc,Int.mul_comm v2 v,← Int.mul_assoc]
  rw [e1,hdet,e2,Int.mul_add,Int.mul_one,Int.mul_assoc x u v2]
  omega
 have eD:a * x - m * y = i * (a * v - u * m) - j * (u2 * m - a * v2):=by
  have ey:y = i * u + j * u2:=by
   rw [hi,hj,Int.sub_mul,Int.sub_mul]
   have e1:y * v * u2 = y * (u2 * v):=by rw [Int.mul_assoc,Int.mul_comm v u2]
   have e2:y * v2 * u = y * (u * v2):=by rw [Int.mul_assoc,Int.mul_comm v2 u]
   have e3:x * u2 * u = x * u * u2:=by rw [Int.mul_assoc,Int.mul_comm u2 u,← Int.mul_assoc]
   rw [e1,hdet,e2,e3,Int.mul_add,Int.mul_one]
   omega
  conv => lhs;rw [ex,ey]
  rw [Int.mul_add,Int.mul_add,Int.mul_sub,Int.mul_sub]
  have f1:a * (i * v) = i * (a * v):=by rw [← Int.mul_assoc,Int.mul_comm a i,Int.mul_assoc]
  have f2:a * (j * v2) = j * (a * v2):=by rw [← Int.mul_assoc,Int.mul_comm a j,Int.mul_assoc]
  have f3:m * (i * u) = i * (u * m):=by rw [Int.mul_comm m,Int.mul_assoc]
  have f4:m * (j * u2) = j * (u2 * m):=by rw [Int.mul_comm m,Int.mul_assoc]
  rw [f1,f2,f3,f4]
  omega
 clear hi hj
 by_cases hj0:j ≤ 0
 ·left
  have hi1:1 ≤ i:=by
   rcases Int.lt_or_le 0 i with h | h
   ·exact h
   ·have h1:i * v ≤ 0:=Int.mul_nonpos_of_nonpos_of_nonneg h (Int.le_of_lt hv)
    have h2:j * v2 ≤ 0:=Int.mul_nonpos_of_nonpos_of_nonneg hj0 (Int.le_of_lt hv2)
    omega
  have h1:1 * (a * v - u * m) ≤ i * (a * v - u * m):=Int.mul_le_mul_of_nonneg_right hi1 hL
  have h2:j * (u2 * m - a * v2) ≤ 0:=Int.mul_nonpos_of_nonpos_of_nonneg hj0 hR
  rw [Int.one_mul] at h1
  refine ⟨by omega,?_⟩
  rw [eD]
  have h3:j * v2 ≤ 0:=Int.mul_nonpos_of_nonpos_of_nonneg hj0 (Int.le_of_lt hv2)
  have h4:x ≤ i * v:=by omega
  have h5:=Int.mul_le_mul_of_nonneg_right h4 hL
  have h6:i * (a * v - u * m) * v ≤ (i * (a * v - u * m) - j * (u2 * m - a * v2)) * v:=Int.mul_le_mul_of_nonneg_right (by omega) (Int.le_of_lt hv)
  have h7:i * v * (a * v - u * m) = i * (a * v - u * m) * v:=by rw [Int.mul_assoc,Int.mul_comm v,← Int.mul_assoc]
  omega
 ·right
  have hi0:i ≤ 0:=by
   rcases Int.lt_or_le 0 i with h | h
   ·have h1:1 * v ≤ i * v:=Int.mul_le_mul_of_nonneg_right h (Int.le_of_lt hv)
    have h2:1 * v2 ≤ j * v2:=Int.mul_le_mul_of_nonneg_right (by omega) (Int.le_of_lt hv2)
    omega
   ·exact h
  have h1:i * (a * v - u * m) ≤ 0:=Int.mul_nonpos_of_nonpos_of_nonneg hi0 hL
  have h2:1 * (u2 * m - a * v2) ≤ j * (u2 * m - a * v2):=Int.mul_le_mul_of_nonneg_right (by omega) hR
  rw [Int.one_mul] at h2
  refine ⟨by omega,?_⟩
  rw [eD]
  have h3:i * v ≤ 0:=Int.mul_nonpos_of_nonpos_of_nonneg hi0 (Int.le_of_lt hv)
  have h4:x ≤ j * v2:=by omega
  have h5:=Int.mul_le_mul_of_nonneg_right h4 hR
  have h6:(i * (a * v - u * m) - j * (u2 * m - a * v2)) * v2 ≤ (-(j * (u2 * m - a * v2))) * v2:=Int.mul_le_mul_of_nonneg_right (by omega) (Int.le_of_lt hv2)
  have h7:j * v2 * (u2 * m - a * v2) = j * (u2 * m - a * v2) * v2:=by rw [Int.mul_assoc,Int.mul_comm v2,← Int.mul_assoc]
  rw [Int.neg_mul] at h6
  omega
def q64:Nat:=18446744073709551616
def okN (a m B N X0:Nat) (n:Nat × Nat × Nat × Nat):Bool:=
 decide (2 * q64 * B ≤ Nat.gcd a m) ||
 (decide (n.2.2.1 * n.2.1 = n.1 * n.2.2.2 + 1) && decide (N < n.2.1 + n.2.2.2) && decide (0 < n.2.1) && decide (0 < n.2.2.2) && decide (n.1 * m ≤ a * n.2.1) && decide (a * n.2.2.2 ≤ n.2.2.1 * m) &&
  (decide (n.1 * m + q64 * B < a * n.2.1) || decide (X0 * (n.1 * m) + q64 * B * n.2.1 < X0 * (a * n.2.1))) &&
  (decide (a * n.2.2.2 + 2 * q64 * B ≤ n.2.2.1 * m) || decide (X0 * (a * n.2.2.2) + 2 * q64 * B * n.2.2.2 ≤ X0 * (n.2.2.1 * m))))
theorem nt_ok {a m B N X0:Nat} {n:Nat × Nat × Nat × Nat} (hB:0 < B) (h:okN a m B N X0 n = true) (x:Nat) (hx0:X0 ≤ x) (hxp:0 < x) (hx:x ≤ N) (y:Nat) :
  x * a = y * m ∨ y * m + q64 * B < x * a ∨ x * a + 2 * q64 * B ≤ y * m:=by
 unfold okN at h
 obtain ⟨u,v,u2,v2⟩:=n
 simp only [Bool.or_eq_true,Bool.and_eq_true,decide_eq_true_eq] at h
 have hq:0 < q64 * B:=Nat.mul_pos (by decide) hB
 have h2q:2 * q64 * B = q64 * B + q64 * B:=by rw [Nat.mul_assoc];omega
 rw [h2q] at h ⊢
 rcases h with h | ⟨⟨⟨⟨⟨⟨⟨hdet,hN⟩,hv⟩,hv2⟩,hL⟩,hR⟩,hl⟩,hr⟩
 ·obtain ⟨a',ha⟩:=Nat.gcd_dvd_left a m
  obtain ⟨m',hm⟩:=Nat.gcd_dvd_right a m
  generalize Nat.gcd a m = g at *
  rw [ha,hm]
  have e1:x * (g * a') = (x * a') * g:=by rw [Nat.mul_comm g,← Nat.mul_assoc]
  have e2:y * (g * m') = (y * m') * g:=by rw [Nat.mul_comm g,← Nat.mul_assoc]
  rw [e1,e2]
  rcases Nat.lt_trichotomy (x * a') (y * m') with hc | hc | hc
  ·right;right
   have:=Nat.mul_le_mul_right g hc
   rw [Nat.succ_mul] at this
   omega
  ·left;rw [hc]
  ·right;left
   have:=Nat.mul_le_mul_right g hc
   rw [Nat.succ_mul] at this
   omega
 ·have F:=farey (a:=(a:Int)) (m:=(m:Int)) (u:=(u:Int)) (v:=(v:Int)) (u2:=(u2:Int)) (v2:=(v2:Int)) (N:=(N:Int))
   (by have:=congrArg (fun z:Nat => (z:Int)) hdet;simpa using this) (by omega) (by omega) (by omega)
   (by rw [← Int.natCast_mul,← Int.natCast_mul];omega) (by rw [← Int.natCast_mul,← Int.natCast_mul];omega) (x:Int) (y:Int) (by omega) (by omega)
  rw [← Int.natCast_mul,← Int.natCast_mul,← Int.natCast_mul,← Int.natCast_mul,← Int.natCast_mul,← Int.natCast_mul] at F
  have c1:a * x = x * a:=Nat.mul_comm _ _
  have c2:m * y = y * m:=Nat.mul_comm _ _
  rw [c1,c2] at F
  generalize hXA:x * a = XA at *
  generalize hYM:y * m = YM at *
  rcases F with ⟨f1,f2⟩ | ⟨f1,f2⟩
  ·right;left
   rcases hl with hl | hl
   ·omega
   ·have g1:(X0:Int) * (((a * v:Nat):Int) - ((u * m:Nat):Int)) ≤ (x:Int) * (((a * v:Nat):Int) - ((u * m:Nat):Int)):=Int.mul_le_mul_of_nonneg_right (by omega) (by omega)
    have g2:((q64 * B:Nat):Int) * (v:Int) < (X0:Int) * (((a * v:Nat):Int) - ((u * m:Nat):Int)):=by
     rw [Int.mul_sub,← Int.natCast_mul,← Int.natCast_mul,← Int.natCast_mul]
     omega
    have g3:((q64 * B:Nat):Int) * (v:Int) < ((XA:Int) - (YM:Int)) * (v:Int):=by omega
    have g4:=Int.lt_of_mul_lt_mul_right g3 (by omega)
    omega
  ·right;right
   rcases hr with hr | hr
   ·omega
   ·have g1:(X0:Int) * (((u2 * m:Nat):Int) - ((a * v2:Nat):Int)) ≤ (x:Int) * (((u2 * m:Nat):Int) - ((a * v2:Nat):Int)):=Int.mul_le_mul_of_nonneg_right (by omega) (by omega)
    have g2:((q64 * B + q64 * B:Nat):Int) * (v2:Int) ≤ (X0:Int) * (((u2 * m:Nat):Int) - ((a * v2:Nat):Int)):=by
     rw [Int.mul_sub,← Int.natCast_mul,← Int.natCast_mul,← Int.natCast_mul]
     omega
    have g3:((q64 * B + q64 * B:Nat):Int) * (v2:Int) ≤ ((YM:Int) - (XA:Int)) * (v2:Int):=by
     rw [Int.sub_mul] at f2 ⊢
     omega
    have g4:=Int.le_of_mul_le_mul_right g3 (by omega)
    omega
def us (x h l s:Nat):Nat:=
 if x * h / q64 % 2 ^ s ≠ 0 then (x * h / q64 / 2 ^ s) ||| 1
 else if x * h % q64 < x * l / q64 then ((x * h / q64 - 1) / 2 ^ s) ||| (if 1 < x * h % q64 + q64 - x * l / q64 then 1 else 0)
 else (x * h / q64 / 2 ^ s) ||| (if 1 < x * h % q64 - x * l / q64 then 1 else 0)
def un (X W:Nat):Nat:=(X / W) ||| (if X % W = 0 then 0 else 1)
theorem un_between {X KB c s:Nat} (h1:c * KB < X) (h2:X < (c + 1) * KB):un X (KB * 2 ^ s) = (c / 2 ^ s) ||| 1:=by
 have hd:X / KB = c:=Nat.div_eq_of_lt_le (Nat.le_of_lt h1) h2
 unfold un
 rw [← Nat.div_div_eq_div_mul,hd,if_neg]
 intro h
 have h3:KB ∣ X:=Nat.dvd_trans ⟨2 ^ s,rfl⟩ (Nat.dvd_of_mod_eq_zero h)
 obtain ⟨q,hq⟩:=h3
 rw [hq,Nat.mul_comm KB q] at h1 h2
 have h4:c < q:=Nat.lt_of_mul_lt_mul_right h1
 have h5:q < c + 1:=Nat.lt_of_mul_lt_mul_right h2
 omega
theorem us_eq {x h l s A B:Nat} (hx:x < q64) (hh:h < q64) (hl:l < q64) (hlh:l ≤ h * q64) (hB:0 < B) (hA:A ≤ (h * q64 - l) * B) (hA2:(h * q64 - l) * B < A + B)
  (NT:∀ y:Nat,x * A = y * (q64 * q64 * B * 2 ^ s) ∨ ((y * (q64 * q64 * B * 2 ^ s):Nat):Int) + ((q64 * B:Nat):Int) < ((x * A:Nat):Int) ∨ ((x * A:Nat):Int) + ((2 * q64 * B:Nat):Int) ≤ ((y * (q64 * q64 * B * 2 ^ s):Nat):Int)) :
  us x h l s = un (x * A) (q64 * q64 * B * 2 ^ s):=by
 rcases Nat.eq_zero_or_pos x with h0 | hx0
 ·subst h0
  unfold us un
  simp
 obtain ⟨P,hP⟩:∃ P,P = x * h:=⟨_,rfl⟩
 obtain ⟨Q,hQ⟩:∃ Q,Q = x * l:=⟨_,rfl⟩
 obtain ⟨X,hX⟩:∃ X,X = x * A:=⟨_,rfl⟩
 have hQl:Q ≤ (q64 - 1) * (q64 - 1):=by
  rw [hQ];exact Nat.mul_le_mul (by omega) (by omega)
 have hZ:x * (h * q64 - l) + Q = P * q64:=by
  rw [hP,hQ,← Nat.mul_add,Nat.sub_add_cancel hlh,Nat.mul_assoc]
 obtain ⟨Z,hZe⟩:∃ Z,Z = x * (h * q64 - l):=⟨_,rfl⟩
 rw [← hZe] at hZ
 have hX1:X ≤ Z * B:=by
  rw [hX,hZe,Nat.mul_assoc]
  exact Nat.mul_le_mul_left x hA
 have hX2:Z * B < X + x * B:=by
  rw [hX,hZe,Nat.mul_assoc,← Nat.mul_add]
  exact Nat.mul_lt_mul_of_pos_left hA2 hx0
 have hX3:x * B < q64 * B:=Nat.mul_lt_mul_of_pos_right hx hB
 rw [← hX] at NT ⊢
 unfold us
 rw [← hP,← hQ]
 clear hA hA2 hZe hX hP hQ hlh
 have hPd:=Nat.div_add_mod P q64
 have hPm:=Nat.mod_lt P (show q64 > 0 by decide)
 have hQd:=Nat.div_add_mod Q q64
 have hQm:=Nat.mod_lt Q (show q64 > 0 by decide)
 generalize P / q64 = hi at *
 generalize P % q64 = mid at *
 generalize Q / q64 = mid2 at *
 generalize Q % q64 = r2 at *
 have hm2:mid2 ≤ q64 - 2:=by
  unfold q64 at *
  omega
 have hZ2:Z + mid2 * q64 + r2 = hi * (q64 * q64) + mid * q64:=by
  rw [← hQd,← hPd,Nat.add_mul] at hZ
  have e1:q64 * hi * q64 = hi * (q64 * q64):=by rw [Nat.mul_comm q64 hi,Nat.mul_assoc]
  rw [e1] at hZ
  rw [Nat.mul_comm mid2]
  omega
 clear hZ hPd hQd
 obtain ⟨K,hK⟩:∃ K,K = q64 * q64:=⟨_,rfl⟩
 rw [← hK] at hZ2 NT ⊢
 have hKv:K = 340282366920938463463374607431768211456:=by rw [hK];rfl
 have up:∀ c:Nat,Z < c * K → X < c * (K * B):=fun c hc => by
  have:=Nat.mul_lt_mul_of_pos_right hc hB
  rw [Nat.mul_assoc] at this
  omega
 have lo:∀ c:Nat,c * K + q64 ≤ Z → c * (K * B) < X:=fun c hc => by
  have:=Nat.mul_le_mul_right B hc
  rw [Nat.add_mul,Nat.mul_assoc] at this
  omega
 have hlo1:1 ≤ hi → (hi - 1) * K + q64 ≤ Z:=fun h1 => by
  have e:hi * K = (hi - 1) * K + K:=by
   conv => lhs;rw [show hi = (hi - 1) + 1 by omega,Nat.add_mul,Nat.one_mul]
  unfold q64 at *
  omega
 by_cases c1:hi % 2 ^ s ≠ 0
 ·rw [if_pos c1]
  have hi1:1 ≤ hi:=by
   rcases Nat.eq_zero_or_pos hi with e | e
   ·rw [e] at c1;simp at c1
   ·exact e
  have h1:=lo (hi - 1) (hlo1 hi1)
  have h2:=up (hi + 1) (by rw [Nat.add_mul,Nat.one_mul];unfold q64 at *;omega)
  have hdm:=Nat.div_add_mod hi (2 ^ s)
  have hml:=Nat.mod_lt hi (Nat.two_pow_pos s)
  have t1:hi / 2 ^ s * (K * B * 2 ^ s) < X:=by
   refine Nat.lt_of_le_of_lt ?_ h1
   rw [← Nat.mul_assoc,Nat.mul_comm (hi / 2 ^ s),Nat.mul_assoc,Nat.mul_comm]
   refine Nat.mul_le_mul_right _ ?_
   rw [Nat.mul_comm]
   omega
  have t2:X < (hi / 2 ^ s + 1) * (K * B * 2 ^ s):=by
   refine Nat.lt_of_lt_of_le h2 ?_
   have e:(hi / 2 ^ s + 1) * (K * B * 2 ^ s) = (hi / 2 ^ s + 1) * 2 ^ s * (K * B):=by rw [Nat.mul_comm (K * B),← Nat.mul_assoc]
   rw [e]
   refine Nat.mul_le_mul_right _ ?_
   rw [Nat.add_mul,Nat.one_mul,Nat.mul_comm]
   omega
  have hd:X / (K * B * 2 ^ s) = hi / 2 ^ s:=Nat.div_eq_of_lt_le (Nat.le_of_lt t1) t2
  unfold un
  rw [hd,if_neg]
  intro hz
  have:=Nat.div_add_mod X (K * B * 2 ^ s)
  rw [hd,hz,Nat.mul_comm] at this
  omega
 ·rw [if_neg c1]
  have c1:hi % 2 ^ s = 0:=by omega
  by_cases c2:mid < mid2
  ·rw [if_pos c2,if_pos (by unfold q64 at *;omega)]
   have hi1:1 ≤ hi:=by
    rcases Nat.eq_zero_or_pos hi with e | e
    ·rw [e,Nat.zero_mul] at hZ2
     have:=Nat.mul_lt_mul_of_pos_right c2 (show 0 < q64 by decide)
     omega
    ·exact e
   have h1:=lo (hi - 1) (hlo1 hi1)
   have h2:=up (hi - 1 + 1) (by
    rw [show hi - 1 + 1 = hi by omega]
    have:=Nat.mul_lt_mul_of_pos_right c2 (show 0 < q64 by decide)
    omega)
   exact (un_between h1 h2).symm
  ·rw [if_neg c2]
   by_cases c3:1 < mid - mid2
   ·rw [if_pos c3]
    have h1:=lo hi (by unfold q64 at *;omega)
    have h2:=up (hi + 1) (by rw [Nat.add_mul,Nat.one_mul];unfold q64 at *;omega)
    exact (un_between h1 h2).symm
   ·rw [if_neg c3]
    have hdm:=Nat.div_add_mod hi (2 ^ s)
    have ht:hi / 2 ^ s * (K * B * 2 ^ s) = hi * (K * B):=by
     rw [c1,Nat.add_zero] at hdm
     rw [← Nat.mul_assoc,Nat.mul_comm (hi / 2 ^ s),Nat.mul_assoc,Nat.mul_comm (hi / 2 ^ s),hdm,Nat.mul_comm]
    have b1:X ≤ hi * (K * B) + q64 * B:=by
     have:Z ≤ hi * K + q64:=by unfold q64 at *;omega
     have:=Nat.mul_le_mul_right B this
     rw [Nat.add_mul,Nat.mul_assoc] at this
     omega
    have b2:hi * (K * B) < X + 2 * q64 * B:=by
     have:hi * K ≤ Z + q64:=by unfold q64 at *;omega
     have:=Nat.mul_le_mul_right B this
     rw [Nat.add_mul,Nat.mul_assoc] at this
     rw [Nat.mul_assoc 2]
     omega
    have hXe:X = hi / 2 ^ s * (K * B * 2 ^ s):=by
     rcases NT (hi / 2 ^ s) with e | e | e
     ·exact e
     ·rw [ht] at e;omega
     ·rw [ht] at e;omega
    have hW:0 < K * B * 2 ^ s:=Nat.mul_pos (Nat.mul_pos (by rw [hKv];decide) hB) (Nat.two_pow_pos s)
    unfold un
    rw [hXe,Nat.mul_div_cancel _ hW,Nat.mul_mod_left,if_pos rfl]
end Go.Proofs.YtdogjghalplohaaGreatDoor.mem
namespace Go.Proofs
open Go.Shelf
def Tryz.lays264_ren:Go.Shelf.Ren:=⟨fun | 264 => 198 | n => n,fun | 53 => 82 | 46 => 138 | n => n,fun | n => n⟩
theorem Tryz.lays264:Go.Proofs.Lays.n264 Tryz.prog Tryz.lays264_ren:={
  mixed:=by kernel_rfl
  f264:=Tryz.func198.trans (congrArg some (by kernel_rfl))
  t46:=Tryz.underlying138
  a46:=Tryz.isAgg138
  z46:=Tryz.sizeOf138
  v46:=Tryz.zeroValue138
  t53:=Tryz.underlying82
  a53:=Tryz.isAgg82
  z53:=Tryz.sizeOf82
  v53:=Tryz.zeroValue82 }
open Go.RowKit Go.Lib in
theorem Tryz.bits_Mul64 (x y:Nat) (hx:x < 18446744073709551616) (hy:y < 18446744073709551616) (w:World) :
    Calls Tryz.prog 198 #[.int .u64 x,.int .u64 y] w fun e w' => e = .returned (.tuple #[.int .u64 ((x * y / 18446744073709551616:Nat):Int),.int .u64 ((x * y % 18446744073709551616:Nat):Int)]) ∧ w' = w:=Any.bits_Mul64 Tryz.lays264 x y hx hy w
end Go.Proofs
namespace Go.Proofs.YtdogjghalplohaaGreatDoor.fto
open Go.ChangeShapes Go.WideShapes Go.ChangeAt Go.RowKit
open mem
open ints (hide unhide)
set_option linter.unusedVariables false
structure Sca (w:World) (B h l s:Nat):Prop where
 hi:w.cell? ⟨B,0,none⟩ = some (.int .u64 h)
 lo:w.cell? ⟨B,1,none⟩ = some (.int .u64 l)
 sh:w.cell? ⟨B,2,none⟩ = some (.int .i64 s)
theorem b2_yes (w:World):Calls Tryz.prog 183 #[.bool true] w fun e w' => e = .returned (.int .u64 1) ∧ w' = w:=by
 go_enter Tryz.func183,Tryz.ntmps183
 go_wp2
 go_ret
 exact ⟨rfl,rfl⟩
theorem b2_no (w:World):Calls Tryz.prog 183 #[.bool false] w fun e w' => e = .returned (.int .u64 0) ∧ w' = w:=by
 go_enter Tryz.func183,Tryz.ntmps183
 go_wp2
 go_ret
 exact ⟨rfl,rfl⟩
theorem and63 (s:Nat) (hs:s < 64):bits .and .i64 (s:Int) 63 = (s:Int):=by
 have:∀ n,n < 64 → bits .and .i64 ((n:Nat):Int) 63 = ((n:Nat):Int):=by decide +kernel
 exact this s hs
theorem or_one (a:Nat) (ha:a < 18446744073709551616):bits .or .u64 (a:Int) 1 = ((a ||| 1:Nat):Int):=u64_or_nat a 1 ha (by decide)
theorem or_zero (a:Nat) (ha:a < 18446744073709551616):bits .or .u64 (a:Int) 0 = ((a ||| 0:Nat):Int):=u64_or_nat a 0 ha (by decide)
set_option maxHeartbeats 4000000 in
set_option maxRecDepth 100000 in
theorem us_one (x h l s B H Md:Nat) (w:World) (hs:s < 64) (hc:Sca w B h l s) (hH:H < 18446744073709551616) (hm:H % 2 ^ s ≠ 0)
  (M1:∀ W,Calls Tryz.prog 198 #[.int .u64 x,.int .u64 h] W fun e w' => e = .returned (.tuple #[.int .u64 (H:Int),.int .u64 (Md:Int)]) ∧ w' = W) :
  Calls Tryz.prog 204 #[.int .u64 x,.pointer (some ⟨B,0,none⟩)] w fun e w' => e = .returned (.int .u64 ((H / 2 ^ s ||| 1:Nat):Int)) ∧ w' = w:=by
 have M1:=hide M1
 obtain ⟨c0,c1,c2⟩:=hc
 have a1:=and63 s hs
 have hm64:min s 64 = s:=by omega
 have s1:(H:Int) / 2 ^ min s 64 = ((H / 2 ^ s:Nat):Int):=by rw [hm64];simp
 have hle:H / 2 ^ s * 2 ^ s ≤ H:=Nat.div_mul_le_self _ _
 have s2:IntKind.u64.wrap (((H / 2 ^ s:Nat):Int) * 2 ^ min s 64) = ((H / 2 ^ s * 2 ^ s:Nat):Int):=by
  rw [hm64,IntKind.wrap_u64]
  have:(((H / 2 ^ s:Nat):Int) * 2 ^ s) = ((H / 2 ^ s * 2 ^ s:Nat):Int):=by simp
  rw [this];omega
 clear hm64
 have hne:¬ ((H / 2 ^ s * 2 ^ s:Nat):Int) = (H:Int):=by
  intro e
  have e:H / 2 ^ s * 2 ^ s = H:=by exact_mod_cast e
  apply hm
  have:=Nat.div_add_mod H (2 ^ s)
  rw [Nat.mul_comm] at this
  omega
 have ho:=hide (or_one (H / 2 ^ s) (Nat.lt_of_le_of_lt (Nat.div_le_self _ _) hH))
 obtain ⟨Q,hQ⟩:∃ Q,Q = H / 2 ^ s:=⟨_,rfl⟩
 rw [← hQ] at s1 s2 hne ho ⊢
 obtain ⟨Y,hY⟩:∃ Y,Y = Q * 2 ^ s:=⟨_,rfl⟩
 rw [← hY] at s2 hne
 have en:(((Y:Nat):Int) != (H:Int)) = true:=by simp only [bne_iff_ne];exact hne
 clear hQ hY hm hle hs
 go_enter Tryz.func204,Tryz.ntmps204
 go_wp2_with fail
 refine (unhide M1 _).mono ?_
 rintro e w1 ⟨rfl,rfl⟩
 clear M1
 go_wp2
 go_ret
 refine ⟨?_,rfl⟩
 rw [← unhide ho]
 rfl
set_option maxHeartbeats 4000000 in
set_option maxRecDepth 100000 in
theorem us_two (x h l s B H Md H2 L2 G D b c:Nat) (w:World) (hs:s < 64) (hc:Sca w B h l s) (hH:H < 18446744073709551616) (hG:G < 18446744073709551616) (hm:H % 2 ^ s = 0)
  (hGw:IntKind.u64.wrap ((H:Int) - (b:Int)) = (G:Int)) (hDw:IntKind.u64.wrap ((Md:Int) - (H2:Int)) = (D:Int))
  (M1:∀ W,Calls Tryz.prog 198 #[.int .u64 x,.int .u64 h] W fun e w' => e = .returned (.tuple #[.int .u64 (H:Int),.int .u64 (Md:Int)]) ∧ w' = W)
  (M2:∀ W,Calls Tryz.prog 198 #[.int .u64 x,.int .u64 l] W fun e w' => e = .returned (.tuple #[.int .u64 (H2:Int),.int .u64 (L2:Int)]) ∧ w' = W)
  (Bl:∀ W,Calls Tryz.prog 183 #[.bool (decide (Md < H2))] W fun e w' => e = .returned (.int .u64 (b:Int)) ∧ w' = W)
  (Bg:∀ W,Calls Tryz.prog 183 #[.bool (decide ((1:Int) < (D:Int)))] W fun e w' => e = .returned (.int .u64 (c:Int)) ∧ w' = W) :
  Calls Tryz.prog 204 #[.int .u64 x,.pointer (some ⟨B,0,none⟩)] w fun e w' => e = .returned (.int .u64 (bits .or .u64 ((G / 2 ^ s:Nat):Int) (c:Int))) ∧ Below w.heap.size w w':=by
 have M1:=hide M1
 have M2:=hide M2
 have Bl:=hide Bl
 have Bg:=hide Bg
 obtain ⟨c0,c1,c2⟩:=hc
 have a1:=and63 s hs
 have hm64:min s 64 = s:=by omega
 have s1:(H:Int) / 2 ^ min s 64 = ((H / 2 ^ s:Nat):Int):=by rw [hm64];simp
 have s3:(G:Int) / 2 ^ min s 64 = ((G / 2 ^ s:Nat):Int):=by rw [hm64];simp
 have hle:H / 2 ^ s * 2 ^ s = H:=by
  have:=Nat.div_add_mod H (2 ^ s)
  rw [hm,Nat.mul_comm] at this
  omega
 have s2:IntKind.u64.wrap (((H / 2 ^ s:Nat):Int) * 2 ^ min s 64) = (H:Int):=by
  rw [hm64,IntKind.wrap_u64]
  have:(((H / 2 ^ s:Nat):Int) * 2 ^ s) = ((H / 2 ^ s * 2 ^ s:Nat):Int):=by simp
  rw [this,hle];omega
 obtain ⟨Q,hQ⟩:∃ Q,Q = H / 2 ^ s:=⟨_,rfl⟩
 rw [← hQ] at s1 s2
 obtain ⟨R,hR⟩:∃ R,R = G / 2 ^ s:=⟨_,rfl⟩
 rw [← hR] at s3 ⊢
 clear hQ hR hm hle hs hm64
 go_enter Tryz.func204,Tryz.ntmps204
 go_wp2_with fail
 refine (unhide M1 _).mono ?_
 rintro e w1 ⟨rfl,rfl⟩
 clear M1
 go_wp2_with fail
 refine (unhide M2 _).mono ?_
 rintro e w2 ⟨rfl,rfl⟩
 clear M2
 go_wp2_with fail
 refine (unhide Bl _).mono ?_
 rintro e w3 ⟨rfl,rfl⟩
 go_wp2_with fail
 clear Bl hGw s1 s2 hH hG c0 c1 c2 a1
 go_region_with (go_at_call 183;refine (unhide Bg _).mono ?_;rintro e w4 ⟨rfl,rfl⟩)
 all_goals go_wp2
 all_goals go_ret
 all_goals exact ⟨rfl,(Below.refl _ _).drew⟩
theorem uscale_ok (x h l s B:Nat) (w:World) (hx:x < 18446744073709551616) (hh:h < 18446744073709551616) (hl:l < 18446744073709551616) (hs:s < 64) (hH1:1 ≤ x * h / 18446744073709551616) (hc:Sca w B h l s) :
  Calls Tryz.prog 204 #[.int .u64 x,.pointer (some ⟨B,0,none⟩)] w fun e w' => e = .returned (.int .u64 ((us x h l s:Nat):Int)) ∧ Below w.heap.size w w':=by
 have M1:=fun W => Tryz.bits_Mul64 x h hx hh W
 have M2:=fun W => Tryz.bits_Mul64 x l hx hl W
 have q:q64 = 18446744073709551616:=rfl
 have bH:x * h / 18446744073709551616 < 18446744073709551616:=by
  rw [Nat.div_lt_iff_lt_mul (by decide)]
  exact Nat.mul_lt_mul'' hx hh
 have bH2:x * l / 18446744073709551616 < 18446744073709551616:=by
  rw [Nat.div_lt_iff_lt_mul (by decide)]
  exact Nat.mul_lt_mul'' hx hl
 have bM:x * h % 18446744073709551616 < 18446744073709551616:=Nat.mod_lt _ (by decide)
 unfold us
 rw [q]
 obtain ⟨H,hH⟩:∃ H,H = x * h / 18446744073709551616:=⟨_,rfl⟩
 obtain ⟨Md,hMd⟩:∃ Md,Md = x * h % 18446744073709551616:=⟨_,rfl⟩
 obtain ⟨H2,hH2⟩:∃ H2,H2 = x * l / 18446744073709551616:=⟨_,rfl⟩
 obtain ⟨L2,hL2⟩:∃ L2,L2 = x * l % 18446744073709551616:=⟨_,rfl⟩
 rw [← hH,← hMd] at M1
 rw [← hH2,← hL2] at M2
 rw [← hH] at bH hH1 ⊢
 rw [← hH2] at bH2 ⊢
 rw [← hMd] at bM ⊢
 clear hH hMd hH2 hL2
 have dl:∀ G:Nat,G < 18446744073709551616 → G / 2 ^ s < 18446744073709551616:=fun G hG => Nat.lt_of_le_of_lt (Nat.div_le_self _ _) hG
 by_cases h0:H % 2 ^ s = 0
 ·rw [if_neg (by simp [h0])]
  have go:∀ G D b:Nat,G < 18446744073709551616 → IntKind.u64.wrap ((H:Int) - (b:Int)) = (G:Int) → IntKind.u64.wrap ((Md:Int) - (H2:Int)) = (D:Int) →
    (∀ W,Calls Tryz.prog 183 #[.bool (decide (Md < H2))] W fun e w' => e = .returned (.int .u64 (b:Int)) ∧ w' = W) →
    Calls Tryz.prog 204 #[.int .u64 x,.pointer (some ⟨B,0,none⟩)] w fun e w' => e = .returned (.int .u64 ((G / 2 ^ s ||| (if 1 < D then 1 else 0):Nat):Int)) ∧ Below w.heap.size w w':=by
   intro G D b hG hGw hDw Bl
   by_cases hD:1 < D
   ·have e:decide ((1:Int) < (D:Int)) = true:=by simp;omega
    have:=us_two x h l s B H Md H2 L2 G D b 1 w hs hc bH hG h0 hGw hDw M1 M2 Bl (by rw [e];exact b2_yes)
    rw [if_pos hD,← u64_or_nat _ 1 (dl G hG) (by decide)]
    exact this
   ·have e:decide ((1:Int) < (D:Int)) = false:=by simp;omega
    have:=us_two x h l s B H Md H2 L2 G D b 0 w hs hc bH hG h0 hGw hDw M1 M2 Bl (by rw [e];exact b2_no)
    rw [if_neg hD,← u64_or_nat _ 0 (dl G hG) (by decide)]
    exact this
  by_cases h1:Md < H2
  ·rw [if_pos h1]
   exact go (H - 1) (Md + 18446744073709551616 - H2) 1 (by omega) (by rw [IntKind.wrap_u64];omega) (by rw [IntKind.wrap_u64];omega) (by rw [decide_eq_true h1];exact b2_yes)
  ·rw [if_neg h1]
   exact go H (Md - H2) 0 bH (by rw [IntKind.wrap_u64];omega) (by rw [IntKind.wrap_u64];omega) (by rw [decide_eq_false h1];exact b2_no)
 ·rw [if_pos h0]
  refine (us_one x h l s B H Md w hs hc bH h0 M1).mono ?_
  rintro e w' ⟨rfl,rfl⟩
  exact ⟨rfl,Below.refl _ _⟩
end Go.Proofs.YtdogjghalplohaaGreatDoor.fto
namespace Go.Proofs.YtdogjghalplohaaGreatDoor.fto
open Go.ChangeShapes Go.WideShapes Go.ChangeAt Go.RowKit
open mem
open ints (hide unhide)
set_option linter.unusedVariables false
def rowH (i:Nat):Nat:=(_root_.Go.Pinned.pow10Rows.getD i (0,0)).1
def rowL (i:Nat):Nat:=(_root_.Go.Pinned.pow10Rows.getD i (0,0)).2
def PT (w:World):Prop:=∀ i,i < 696 → w.cell? ⟨15,2 * i,none⟩ = some (.int .u64 (rowH i)) ∧ w.cell? ⟨15,2 * i + 1,none⟩ = some (.int .u64 (rowL i))
set_option maxHeartbeats 4000000 in
set_option maxRecDepth 100000 in
theorem prescale_ok (B:Nat) (v0 v1 v2:Value) (T:TypeId) (e p lp:Int) (i s:Nat) (w:World) (hB:w.heap[B]? = some (.cells #[v0,v1,v2] T (0,0))) (hT:PT w) (hne:B ≠ 15)
  (hi:(i:Int) = p + 348) (hi2:i < 696) (hs:-(e + lp + 3) = (s:Int)) (he:-100000 ≤ e ∧ e ≤ 100000) (hl:-100000 ≤ lp ∧ lp ≤ 100000) :
  Calls Tryz.prog 203 #[.pointer (some ⟨B,0,none⟩),.int .i64 e,.int .i64 p,.int .i64 lp] w fun ed w' => ed = .returned (.tuple #[]) ∧ w'.heap[B]? = some (.cells #[.int .u64 (rowH i),.int .u64 (rowL i),.int .i64 s] T (0,0)) ∧ Below B w w':=by
 obtain ⟨t1,t2⟩:=hT i hi2
 have e1:(p + 348).toNat * 2 = 2 * i:=by omega
 have u1:w.cell? ⟨15,(p + 348).toNat * 2,none⟩ = some (.int .u64 (rowH i)):=by rw [e1];exact t1
 have u2:∀ v:Value,(w.setCell ⟨B,0,none⟩ v).cell? ⟨15,(p + 348).toNat * 2 + 1,none⟩ = some (.int .u64 (rowL i)):=by
  intro v
  rw [World.cell?_setCell_other _ _ _ _ (by simp),e1]
  exact t2
 have c0:w.cell? ⟨B,0,none⟩ = some v0:=by simp [World.cell?,hB]
 have f0:w.frozen? ⟨B,0,none⟩ = false:=by simp [World.frozen?,hB]
 have c1:w.cell? ⟨B,1,none⟩ = some v1:=by simp [World.cell?,hB]
 have f1:w.frozen? ⟨B,1,none⟩ = false:=by simp [World.frozen?,hB]
 have c2:w.cell? ⟨B,2,none⟩ = some v2:=by simp [World.cell?,hB]
 have f2:w.frozen? ⟨B,2,none⟩ = false:=by simp [World.frozen?,hB]
 have n1:¬ p + 348 < 0:=by omega
 have n2:p + 348 < 696:=by omega
 have HB:=hide hB
 have HS:=hide hs
 obtain ⟨H,hH⟩:∃ H,H = rowH i:=⟨_,rfl⟩
 obtain ⟨L,hL⟩:∃ L,L = rowL i:=⟨_,rfl⟩
 rw [← hH] at u1 ⊢
 rw [← hL] at u2 ⊢
 clear t1 t2 hT hi hB e1 hH hL hi2 hs
 go_enter Tryz.func203,Tryz.ntmps203
 go_wp2
 go_end0
 rw [unhide HS]
 refine ⟨rfl,?_,(((Below.refl _ _).setCell (p:=⟨B,0,none⟩) (Nat.le_refl _) _).setCell (p:=⟨B,1,none⟩) (Nat.le_refl _) _).setCell (p:=⟨B,2,none⟩) (Nat.le_refl _) _⟩
 simp [World.setCell,Array.getElem?_modify,unhide HB]
theorem Sca.of_heap {w:World} {B h l s:Nat} {T:TypeId} {fr:Nat × Nat} (hB:w.heap[B]? = some (.cells #[.int .u64 h,.int .u64 l,.int .i64 s] T fr)):Sca w B h l s:=
 ⟨by simp [World.cell?,hB],by simp [World.cell?,hB],by simp [World.cell?,hB]⟩
end Go.Proofs.YtdogjghalplohaaGreatDoor.fto
namespace Go.Proofs.YtdogjghalplohaaGreatDoor.fto
open Go.ChangeShapes Go.WideShapes Go.ChangeAt Go.RowKit
open mem
open ints (hide unhide)
set_option linter.unusedVariables false
theorem l2_ok (x:Int) (w:World) (h:-5000 ≤ x ∧ x ≤ 5000):Calls Tryz.prog 202 #[.int .i64 x] w fun e w' => e = .returned (.int .i64 (x * 108853 / 32768)) ∧ w' = w:=by
 have hw:IntKind.i64.wrap (x * 108853) = x * 108853:=by rw [IntKind.wrap_i64];omega
 go_enter Tryz.func202,Tryz.ntmps202
 go_wp2
 go_ret
 exact ⟨rfl,rfl⟩
theorem and_one (a:Nat) (ha:a < 18446744073709551616):bits .and .u64 (a:Int) 1 = ((a % 2:Nat):Int):=by
 have h:=u64_and_nat a 1 ha (by decide)
 rw [show ((1:Nat):Int) = 1 from rfl] at h
 rw [h,Nat.and_one_is_mod]
theorem round_ok (u:Nat) (w:World) (h:u + 2 < 18446744073709551616):Calls Tryz.prog 207 #[.int .u64 u] w fun e w' => e = .returned (.int .u64 (((u + 1 + u / 4 % 2) / 4:Nat):Int)) ∧ w' = w:=by
 have hw:IntKind.u64.wrap ((u:Int) + 1) = (u:Int) + 1:=by rw [IntKind.wrap_u64];omega
 obtain ⟨q,hq⟩:∃ q,q = u / 4:=⟨_,rfl⟩
 have hd:(u:Int) / 4 = (q:Int):=by omega
 have ha:=and_one q (by omega)
 obtain ⟨r,hr⟩:∃ r,r = q % 2:=⟨_,rfl⟩
 rw [← hr] at ha
 have hr1:r ≤ 1:=by omega
 have hw2:IntKind.u64.wrap ((u:Int) + 1 + (r:Int)) = (u:Int) + 1 + (r:Int):=by rw [IntKind.wrap_u64];omega
 rw [← hq,← hr]
 clear hq hr
 go_enter Tryz.func207,Tryz.ntmps207
 go_wp2
 go_ret
 exact ⟨congrArg (fun z => Ending.returned (Value.int .u64 z)) (show ((u:Int) + 1 + (r:Int)) / 4 = (((u + 1 + r) / 4:Nat):Int) by omega),rfl⟩
end Go.Proofs.YtdogjghalplohaaGreatDoor.fto
namespace Go.Proofs
open Go.Shelf
def Tryz.lays285_ren:Go.Shelf.Ren:=⟨fun | 285 => 139 | n => n,fun | 37 => 22 | 53 => 82 | 3 => 3 | 4 => 4 | 51 => 175 | 9 => 9 | 5 => 5 | 0 => 0 | n => n,fun | n => n⟩
theorem Tryz.lays285:Go.Proofs.Lays.n285 Tryz.prog Tryz.lays285_ren:={
  mixed:=by kernel_rfl
  f285:=Tryz.func139.trans (congrArg some (by kernel_rfl))
  t0:=Tryz.underlying0
  a0:=Tryz.isAgg0
  z0:=Tryz.sizeOf0
  v0:=Tryz.zeroValue0
  t3:=Tryz.underlying3
  a3:=Tryz.isAgg3
  z3:=Tryz.sizeOf3
  v3:=Tryz.zeroValue3
  t4:=Tryz.underlying4
  a4:=Tryz.isAgg4
  z4:=Tryz.sizeOf4
  v4:=Tryz.zeroValue4
  t5:=Tryz.underlying5
  a5:=Tryz.isAgg5
  z5:=Tryz.sizeOf5
  v5:=Tryz.zeroValue5
  t9:=Tryz.underlying9
  a9:=Tryz.isAgg9
  z9:=Tryz.sizeOf9
  v9:=Tryz.zeroValue9
  t37:=Tryz.underlying22
  a37:=Tryz.isAgg22
  z37:=Tryz.sizeOf22
  v37:=Tryz.zeroValue22
  t51:=Tryz.underlying175
  a51:=Tryz.isAgg175
  z51:=Tryz.sizeOf175
  v51:=Tryz.zeroValue175
  t53:=Tryz.underlying82
  a53:=Tryz.isAgg82
  z53:=Tryz.sizeOf82
  v53:=Tryz.zeroValue82 }
open Go.RowKit Go.Sort Go.Lib in
theorem Tryz.internal_strconv_formatBase10 (blk off cap:Nat) (u:Nat) (d:Array UInt8) (w:World) (hH:Holds (fun (b:UInt8) => Value.int .u8 (b.toNat:Int)) w blk off d) (hu:u < 10 ^ d.size) (hu64:u < 18446744073709551616) (hsz:d.size < 4611686018427387904) :
    Calls Tryz.prog 139 #[.slice (some ⟨blk,off,none⟩) d.size cap,.int .u64 u] w fun e w' =>
      e = .returned (.tuple #[]) ∧ ∃ (n v':Nat) (dk:Array UInt8),w' = (putRow (fun (b:UInt8) => Value.int .u8 (b.toNat:Int)) w blk off dk).drewN n ∧ FmtInv d.size u 0 v' dk:=Any.internal_strconv_formatBase10 Tryz.lays285 blk off cap u d w hH hu hu64 hsz
def Tryz.laysM284_ren:Go.Shelf.Ren:=⟨fun | 284 => 138 | 129 => 161 | 317 => 160 | 318 => 162 | n => n,fun | 53 => 82 | 3 => 3 | 212 => 200 | 0 => 0 | 4 => 4 | 46 => 138 | 5 => 5 | 9 => 9 | n => n,fun | 17 => 4 | n => n⟩
theorem Tryz.laysM284:Go.Proofs.LaysM.n284 Tryz.prog Tryz.laysM284_ren:={
  mixed:=by kernel_rfl
  f129:=Tryz.func161.trans (congrArg some (by kernel_rfl))
  f284:=Tryz.func138.trans (congrArg some (by kernel_rfl))
  f317:=Tryz.func160.trans (congrArg some (by kernel_rfl))
  f318:=Tryz.func162.trans (congrArg some (by kernel_rfl))
  t0:=Tryz.underlying0
  a0:=Tryz.isAgg0
  z0:=Tryz.sizeOf0
  v0:=Tryz.zeroValue0
  t3:=Tryz.underlying3
  a3:=Tryz.isAgg3
  z3:=Tryz.sizeOf3
  v3:=Tryz.zeroValue3
  t4:=Tryz.underlying4
  a4:=Tryz.isAgg4
  z4:=Tryz.sizeOf4
  v4:=Tryz.zeroValue4
  t5:=Tryz.underlying5
  a5:=Tryz.isAgg5
  z5:=Tryz.sizeOf5
  v5:=Tryz.zeroValue5
  t9:=Tryz.underlying9
  a9:=Tryz.isAgg9
  z9:=Tryz.sizeOf9
  v9:=Tryz.zeroValue9
  t46:=Tryz.underlying138
  a46:=Tryz.isAgg138
  z46:=Tryz.sizeOf138
  v46:=Tryz.zeroValue138
  t53:=Tryz.underlying82
  a53:=Tryz.isAgg82
  z53:=Tryz.sizeOf82
  v53:=Tryz.zeroValue82
  t212:=Tryz.underlying200
  a212:=Tryz.isAgg200
  z212:=Tryz.sizeOf200
  v212:=Tryz.zeroValue200
  g17:=by kernel_rfl
  i0:=by kernel_rfl
  i3:=by kernel_rfl
  i4:=by kernel_rfl
  i5:=by kernel_rfl
  i9:=by kernel_rfl
  i46:=by kernel_rfl
  i53:=by kernel_rfl
  i212:=by kernel_rfl
  m17:=by kernel_rfl }
open Go.Lib in
theorem Tryz.internal_strconv_numDigits (u : Nat) (h1 : 1 ≤ u) (h2 : u < 18446744073709551616) (w : World) (htab : Lib.TabIs Tryz.prog w "internal/strconv.uint64pow10" .u64 Lib.pow10Tab) :
    Calls Tryz.prog 138 #[.int .u64 u] w fun e w' => e = .returned (.int .i64 (Lib.nDigits u)) ∧ w' = w:=Any.internal_strconv_numDigits Tryz.laysM284 u h1 h2 w htab
def Tryz.lays129_ren:Go.Shelf.Ren:=⟨fun | 129 => 161 | n => n,fun | 53 => 82 | 3 => 3 | 4 => 4 | 46 => 138 | 5 => 5 | 9 => 9 | n => n,fun | n => n⟩
theorem Tryz.lays129:Go.Proofs.Lays.n129 Tryz.prog Tryz.lays129_ren:={
  mixed:=by kernel_rfl
  f129:=Tryz.func161.trans (congrArg some (by kernel_rfl))
  t3:=Tryz.underlying3
  a3:=Tryz.isAgg3
  z3:=Tryz.sizeOf3
  v3:=Tryz.zeroValue3
  t4:=Tryz.underlying4
  a4:=Tryz.isAgg4
  z4:=Tryz.sizeOf4
  v4:=Tryz.zeroValue4
  t5:=Tryz.underlying5
  a5:=Tryz.isAgg5
  z5:=Tryz.sizeOf5
  v5:=Tryz.zeroValue5
  t9:=Tryz.underlying9
  a9:=Tryz.isAgg9
  z9:=Tryz.sizeOf9
  v9:=Tryz.zeroValue9
  t46:=Tryz.underlying138
  a46:=Tryz.isAgg138
  z46:=Tryz.sizeOf138
  v46:=Tryz.zeroValue138
  t53:=Tryz.underlying82
  a53:=Tryz.isAgg82
  z53:=Tryz.sizeOf82
  v53:=Tryz.zeroValue82 }
theorem Tryz.bits_Len64 (x:Int) (w:World) (h0:0 ≤ x) (h1:x ≤ 18446744073709551615) :
    Calls Tryz.prog 161 #[.int .u64 x] w fun e w' => e = .returned (.int .i64 (Lib.bitLen x.toNat)) ∧ w' = w:=Any.bits_Len64 Tryz.lays129 x w h0 h1
end Go.Proofs
namespace Go.Proofs.YtdogjghalplohaaGreatDoor.fto
open Go.ChangeShapes Go.WideShapes Go.ChangeAt Go.RowKit
open mem Go.Sort
open ints (hide unhide)
set_option linter.unusedVariables false
set_option linter.unusedSimpArgs false
theorem callW {P:Program} {o:Oper} {a:Act} {w:World} {K:Act → World → Prop} {Q:Exit → Act → World → Prop} (f:FuncId) (fn:Func) (args:Array Operand) (tys:Array TypeId) (ho:o.op = .call { callee:=.value (.func f),args:=args,argTypes:=tys })
  (hf : P.funcs[f]? = some fn) (hname : (fn.name == "runtime.NumGoroutine") = false) (hb : fn.body.isNone = false) (vs : Array Value) (hv : args.map a.eval = vs)
  (hc:Calls P f vs w fun e w' => ∃ v,e = .returned v ∧ K (a.put o.dst v) w'):o.wp P a w K Q:=by
 have h1 : fn.name ≠ "runtime.NumGoroutine" := by simpa using hname
 have hrun:(execOp a.eval o).run P w = .ok (.enter f vs) w:=by
  unfold execOp
  simp only [ho]
  obtain ⟨c,hc'⟩:∃ c,fn.body = some c:=by cases h:fn.body <;> simp_all
  simp [resolve,hv,Deferred.ofValue,invoke,callFunc,hf,h1,hc',Act.eval]
 unfold Oper.wp
 rw [hrun,Oper.upon_enter]
 refine hc.mono ?_
 rintro e w' ⟨v,rfl,hk⟩
 exact hk
end Go.Proofs.YtdogjghalplohaaGreatDoor.fto
namespace Go.Proofs.YtdogjghalplohaaGreatDoor.mem
set_option linter.unusedVariables false
def b52:Nat:=4503599627370496
def b53:Nat:=9007199254740992
def infR:Nat:=9218868437227405312
def e22:Nat:=1022
theorem e22_eq:e22 = 1022:=rfl
def k22:Nat:=2 ^ e22
def k74:Nat:=2 ^ (52 + e22)
theorem k22_pos:0 < k22:=Nat.two_pow_pos e22
theorem b52_eq:b52 = 2 ^ 52:=rfl
theorem k74_eq:k74 = b52 * k22:=by
 unfold k74 k22
 rw [Nat.pow_add,b52_eq]
def mantR (r:Nat):Nat:=if r < b52 then r else b52 + r % b52
def exR (r:Nat):Nat:=r / b52 - 1
def vR (r:Nat):Nat:=mantR r * 2 ^ exR r
theorem vR_succ (r:Nat):vR (r + 1) = vR r + 2 ^ exR r:=by
 unfold vR mantR exR b52
 by_cases h:r < 4503599627370496
 ·have e0:r / 4503599627370496 - 1 = 0:=by omega
  rw [if_pos h,e0]
  by_cases h1:r + 1 < 4503599627370496
  ·have e1:(r + 1) / 4503599627370496 - 1 = 0:=by omega
   rw [if_pos h1,e1];simp
  ·have e1:(r + 1) / 4503599627370496 - 1 = 0:=by omega
   rw [if_neg h1,e1];simp;omega
 ·rw [if_neg h,if_neg (by omega)]
  by_cases h1:(r + 1) % 4503599627370496 = 0
  ·have e1:(r + 1) / 4503599627370496 - 1 = (r / 4503599627370496 - 1) + 1:=by omega
   have e2:r % 4503599627370496 = 4503599627370495:=by omega
   rw [h1,e1,e2,Nat.pow_succ]
   generalize 2 ^ (r / 4503599627370496 - 1) = p
   omega
  ·have e1:(r + 1) / 4503599627370496 = r / 4503599627370496:=by omega
   have e2:(r + 1) % 4503599627370496 = r % 4503599627370496 + 1:=by omega
   rw [e1,e2,← Nat.add_assoc,Nat.add_mul _ 1,Nat.one_mul]
theorem vR_mono {a b:Nat} (h:a < b):vR a < vR b:=by
 induction b with
 | zero => omega
 | succ b ih =>
  rw [vR_succ]
  have:=Nat.two_pow_pos (exR b)
  by_cases e:a = b
  ·rw [e];omega
  ·have:=ih (by omega);omega
theorem vR_mono_le {a b:Nat} (h:a ≤ b):vR a ≤ vR b:=by
 rcases Nat.lt_or_ge a b with h1 | h1
 ·exact Nat.le_of_lt (vR_mono h1)
 ·rw [show a = b by omega];exact Nat.le_refl _
def Lo (P B lo:Nat):Prop:=B * vR lo ≤ P ∧ P < B * vR (lo + 1)
theorem Lo.unique {P B a b:Nat} (h:Lo P B a) (h':Lo P B b):a = b:=by
 rcases Nat.lt_trichotomy a b with hl | hl | hl
 ·have:=Nat.mul_le_mul_left B (vR_mono_le (show a + 1 ≤ b by omega))
  have:=h.2;have:=h'.1;omega
 ·exact hl
 ·have:=Nat.mul_le_mul_left B (vR_mono_le (show b + 1 ≤ a by omega))
  have:=h'.2;have:=h.1;omega
def roundR (P B lo:Nat):Nat:=if B * (2 * vR lo + 2 ^ exR lo) < 2 * P ∨ (2 * P = B * (2 * vR lo + 2 ^ exR lo) ∧ lo % 2 = 1) then lo + 1 else lo
def loN (n:Nat):Nat:=(n.log2 + e22) * b52 + n * b52 / 2 ^ n.log2
theorem q_bd {n:Nat} (h:n ≠ 0):b52 ≤ n * b52 / 2 ^ n.log2 ∧ n * b52 / 2 ^ n.log2 < b53:=by
 have h1:=Nat.log2_self_le h
 have h2:=Nat.lt_log2_self (n:=n)
 have hp:=Nat.two_pow_pos n.log2
 constructor
 ·rw [Nat.le_div_iff_mul_le hp,Nat.mul_comm]
  exact Nat.mul_le_mul_right _ h1
 ·rw [Nat.div_lt_iff_lt_mul hp]
  rw [Nat.pow_succ] at h2
  unfold b52 b53
  omega
theorem loN_parts {n:Nat} (h:n ≠ 0):exR (loN n) = n.log2 + e22 ∧ mantR (loN n) = n * b52 / 2 ^ n.log2 ∧ loN n % 2 = (n * b52 / 2 ^ n.log2) % 2:=by
 obtain ⟨h1,h2⟩:=q_bd h
 unfold exR mantR loN
 generalize n * b52 / 2 ^ n.log2 = q at *
 generalize n.log2 = L at *
 unfold b52 b53 at *
 refine ⟨by omega,?_,by omega⟩
 rw [if_neg (by omega)]
 omega
theorem loN_lo {n:Nat} (h:n ≠ 0):Lo (n * k74) 1 (loN n):=by
 obtain ⟨h1,h2,-⟩:=loN_parts h
 have hp:=Nat.two_pow_pos n.log2
 have hd:=Nat.div_add_mod (n * b52) (2 ^ n.log2)
 have hm:=Nat.mod_lt (n * b52) hp
 have hk:=k22_pos
 have e:n * k74 = n * b52 * k22:=by rw [k74_eq,Nat.mul_assoc]
 unfold Lo
 rw [vR_succ,Nat.one_mul,Nat.one_mul]
 unfold vR
 rw [h1,h2,e,Nat.pow_add,show 2 ^ e22 = k22 from rfl]
 generalize n * b52 / 2 ^ n.log2 = q at *
 generalize n * b52 % 2 ^ n.log2 = t at *
 generalize n * b52 = m at *
 generalize 2 ^ n.log2 = g at *
 generalize k22 = k at *
 have e2:q * (g * k) = (g * q) * k:=by rw [← Nat.mul_assoc,Nat.mul_comm q g]
 rw [e2,← Nat.add_mul]
 constructor
 ·exact Nat.mul_le_mul_right _ (by omega)
 ·exact Nat.mul_lt_mul_of_pos_right (by omega) hk
theorem cut_none (neg:Bool) (n:Nat):Ieee.Toward.even.cut neg n 0 = n:=by
 unfold Ieee.Toward.cut
 simp [Nat.mod_one]
theorem cut_some (neg:Bool) {n d:Nat} (h:d ≤ n.log2 + 2):Ieee.Toward.even.cut neg n d = n / 2 ^ d + (decide (2 ^ d < 2 * (n % 2 ^ d)) || (2 ^ d == 2 * (n % 2 ^ d) && (n / 2 ^ d) % 2 == 1)).toNat:=by
 unfold Ieee.Toward.cut
 simp only [Nat.min_eq_left h,Nat.shiftLeft_eq,Nat.one_mul]
theorem round_exact {P lo:Nat} (h:P = vR lo):roundR P 1 lo = lo:=by
 unfold roundR
 have:=Nat.two_pow_pos (exR lo)
 rw [if_neg]
 omega
theorem min_small {L q:Nat} (hL:L < 64) (hq:q ≤ b53):min ((L + e22) * b52 + q) infR = (L + e22) * b52 + q:=by
 have:=e22_eq
 unfold b52 b53 infR at *
 omega
theorem nearest_int (neg:Bool) {n:Nat} (h:n ≠ 0) (hn:n < 2 ^ 64):Ieee.double.nearest neg n 0 = Ieee.double.word neg (roundR (n * k74) 1 (loN n)):=by
 have hL:n.log2 < 64:=(Nat.log2_lt h).2 hn
 obtain ⟨p1,p2,p3⟩:=loN_parts h
 obtain ⟨b1,b2⟩:=q_bd h
 have hp:=Nat.two_pow_pos n.log2
 have hk:=k22_pos
 have e:n * k74 = n * b52 * k22:=by rw [k74_eq,Nat.mul_assoc]
 unfold Ieee.Format.nearest
 rw [if_neg h]
 have hlast:max ((0:Int) + n.log2 - Ieee.double.fractionBits) (-1074) = (n.log2:Int) - 52:=by
  unfold Ieee.double
  simp only
  omega
 have hlp:Ieee.double.leastPlace = -1074:=by rfl
 have hbn:Ieee.double.binade = b52:=by rfl
 have hinf:Ieee.double.infRung = infR:=by rfl
 simp only [hlp,hlast,hbn,hinf]
 refine congrArg (Ieee.double.word neg) ?_
 have hT:((n.log2:Int) - 52 - -1074).toNat = n.log2 + e22:=by rw [e22_eq];omega
 rw [hT]
 by_cases h52:n.log2 ≤ 52
 ·have e1:((n.log2:Int) - 52 - 0).toNat = 0:=by omega
  have e2:((0:Int) - ((n.log2:Int) - 52)).toNat = 52 - n.log2:=by omega
  rw [e1,e2,cut_none,Nat.shiftLeft_eq]
  have eb:b52 = 2 ^ (52 - n.log2) * 2 ^ n.log2:=by rw [← Nat.pow_add,show 52 - n.log2 + n.log2 = 52 by omega];rfl
  have eq:n * b52 / 2 ^ n.log2 = n * 2 ^ (52 - n.log2):=by
   rw [eb,← Nat.mul_assoc,Nat.mul_div_cancel _ hp]
  have ev:n * k74 = vR (loN n):=by
   unfold vR
   rw [p1,p2,eq,e,eb,Nat.pow_add,show 2 ^ e22 = k22 from rfl]
   rw [← Nat.mul_assoc,← Nat.mul_assoc]
  rw [round_exact ev]
  unfold loN
  rw [eq] at b1 b2 ⊢
  exact min_small hL (Nat.le_of_lt b2)
 ·have hLL:n.log2 = (n.log2 - 52) + 52:=by omega
  have e1:((n.log2:Int) - 52 - 0).toNat = n.log2 - 52:=by omega
  have e2:((0:Int) - ((n.log2:Int) - 52)).toNat = 0:=by omega
  rw [e1,e2,Nat.shiftLeft_zero,cut_some neg (by omega)]
  have hg:=Nat.two_pow_pos (n.log2 - 52)
  have eL:2 ^ n.log2 = 2 ^ (n.log2 - 52) * b52:=by
   conv => lhs;rw [hLL]
   rw [Nat.pow_add];rfl
  have eq:n * b52 / 2 ^ n.log2 = n / 2 ^ (n.log2 - 52):=by
   rw [eL]
   exact Nat.mul_div_mul_right _ _ (by decide)
  have hdm:=Nat.div_add_mod n (2 ^ (n.log2 - 52))
  have hml:=Nat.mod_lt n hg
  have hr:roundR (n * k74) 1 (loN n) = loN n + (decide (2 ^ (n.log2 - 52) < 2 * (n % 2 ^ (n.log2 - 52))) || (2 ^ (n.log2 - 52) == 2 * (n % 2 ^ (n.log2 - 52)) && (n / 2 ^ (n.log2 - 52)) % 2 == 1)).toNat:=by
   unfold roundR vR
   rw [p1,p2,p3,eq,e,Nat.pow_add,eL,show 2 ^ e22 = k22 from rfl]
   generalize n / 2 ^ (n.log2 - 52) = q at *
   generalize n % 2 ^ (n.log2 - 52) = t at *
   generalize 2 ^ (n.log2 - 52) = g at *
   generalize k22 = k at *
   have f1:1 * (2 * (q * (g * b52 * k)) + g * b52 * k) = (2 * (g * q) + g) * (b52 * k):=by
    rw [Nat.one_mul,Nat.add_mul,Nat.mul_assoc g b52 k,Nat.mul_assoc 2 (g * q),← Nat.mul_assoc q g,Nat.mul_comm q g]
   have f2:2 * (n * b52 * k) = (2 * n) * (b52 * k):=by rw [Nat.mul_assoc n,Nat.mul_assoc 2]
   have hbk:0 < b52 * k:=Nat.mul_pos (by decide) hk
   rw [f1,f2]
   generalize b52 * k = j at *
   have g1:(2 * (g * q) + g) * j < 2 * n * j ↔ g < 2 * t:=by
    rw [Nat.mul_lt_mul_right hbk];omega
   have g2:2 * n * j = (2 * (g * q) + g) * j ↔ g = 2 * t:=by
    rw [Nat.mul_right_cancel_iff hbk];omega
   simp only [g1,g2]
   by_cases c1:g < 2 * t
   ·simp [c1]
   ·by_cases c2:g = 2 * t
    ·by_cases c3:q % 2 = 1
     ·simp [c2,c3]
     ·have:¬ (g < 2 * t ∨ g = 2 * t ∧ q % 2 = 1):=by omega
      rw [if_neg this]
      simp [c2,c3]
    ·have:¬ (g < 2 * t ∨ g = 2 * t ∧ q % 2 = 1):=by omega
     rw [if_neg this]
     simp [c1,c2]
  rw [hr]
  unfold loN
  rw [eq] at b1 b2 ⊢
  generalize (decide (2 ^ (n.log2 - 52) < 2 * (n % 2 ^ (n.log2 - 52))) || (2 ^ (n.log2 - 52) == 2 * (n % 2 ^ (n.log2 - 52)) && (n / 2 ^ (n.log2 - 52)) % 2 == 1)) = bb at *
  have hb1:=Bool.toNat_le bb
  rw [Nat.add_assoc]
  exact min_small hL (by unfold b53 at b2 ⊢;omega)
end Go.Proofs.YtdogjghalplohaaGreatDoor.mem
