import Derived.Test.YtjlaoeigfokkiaaGreatDoorBr6
import Derived.Test.YtjlaoeigfokkiaaGreatDoorBr1
namespace Go.Proofs.YtjlaoeigfokkiaaGreatDoor.mem
set_option linter.unusedVariables false

/-- The middle lies between the ends. -/
theorem sho_q {Xv X0 X1 W o:Nat} (hW:0 < W) (ho:o < 2) (h0:X0 < Xv) (h1:Xv < X1):(un X0 W + o + 3) / 4 ≤ Xv / (4 * W) + 1 ∧ Xv / (4 * W) ≤ (un X1 W - o) / 4:=by
  have hdm:=Nat.div_add_mod Xv (4 * W)
  have hml:=Nat.mod_lt Xv (show 0 < 4 * W by omega)
  constructor
  · have:=(un_ceil_odd X0 W (Xv / (4 * W) + 1) hW).2 (by rw [Nat.add_mul,Nat.one_mul,Nat.mul_comm (Xv / (4 * W))];omega)
    omega
  · have:=(un_floor_odd X1 W (Xv / (4 * W)) hW (by omega)).2 (Or.inr (by rw [Nat.mul_comm (Xv / (4 * W))];omega))
    omega
/-- Two pairs in the same ratio lie alike. -/
theorem InR_scale {P B P2 B2 a Y Z:Nat} (hY:0 < Y) (hZ:0 < Z) (hP:P * Y = P2 * Z) (hB:B * Y = B2 * Z):InR P B a ↔ InR P2 B2 a:=by
  unfold InR
  have h1:B * midR (a - 1) * Y = B2 * midR (a - 1) * Z:=by rw [Nat.mul_right_comm,hB,Nat.mul_right_comm]
  have h2:B * midR a * Y = B2 * midR a * Z:=by rw [Nat.mul_right_comm,hB,Nat.mul_right_comm]
  have h3:2 * P * Y = 2 * P2 * Z:=by rw [Nat.mul_assoc,hP,Nat.mul_assoc]
  obtain ⟨l1,l2⟩:=cmp_of hY hZ h1 h3
  obtain ⟨g1,g2⟩:=cmp_of hY hZ h3 h2
  rw [l1,l2,g1,g2]
/-- q times ten to the power of j - p,and q times ten to the power of j,at the scale p. -/
theorem InR_ten (q j a:Nat) (p x:Int) (hx:x = j - p):InR (q * 10 ^ x.toNat * k74) (10 ^ (-x).toNat) a ↔ InR (q * 10 ^ j * 10 ^ (-p).toNat * k74) (10 ^ p.toNat) a:=by
  have ht:∀ n:Nat,0 < 10 ^ n:=fun n => Nat.pow_pos (by decide)
  obtain ⟨u,hu⟩:∃ u,u = j + (-p).toNat - x.toNat:=⟨_,rfl⟩
  obtain ⟨v,hv⟩:∃ v,v = x.toNat - (j + (-p).toNat):=⟨_,rfl⟩
  refine InR_scale (Y:=10 ^ u) (Z:=10 ^ v) (ht _) (ht _) ?_ ?_
  · have e:10 ^ x.toNat * 10 ^ u = 10 ^ j * 10 ^ (-p).toNat * 10 ^ v:=by
      rw [← Nat.pow_add,← Nat.pow_add,← Nat.pow_add]
      congr 1
      omega
    calc q * 10 ^ x.toNat * k74 * 10 ^ u = q * k74 * (10 ^ x.toNat * 10 ^ u):=by
          generalize 10 ^ x.toNat = A1
          generalize 10 ^ u = A2
          generalize k74 = A3
          ac_rfl
      _ = q * 10 ^ j * 10 ^ (-p).toNat * k74 * 10 ^ v:=by
          rw [e]
          generalize 10 ^ (-p).toNat = A1
          generalize 10 ^ v = A2
          generalize k74 = A3
          generalize 10 ^ j = A4
          ac_rfl
  · rw [← Nat.pow_add,← Nat.pow_add]
    congr 1
    omega
/-- A float's last place,at the scale that shortFloat takes: from one to ten. -/
theorem sho_unit (a s t:Nat) (p:Int) (ha:0 < a) (hai:a < infR) (hs0:9223372036854775808 ≤ mantR a * 2 ^ s) (hs1:mantR a * 2 ^ s < q64) (hp:p = pG (exR a)) (ht:t = (1071 + s - exR a - lpZ p).toNat)
    {W:Nat} (hW:W = q64 * q64 * eB p * 2 ^ t):4 * W ≤ 2 ^ s * eA p ∧ 2 ^ s * eA p < 10 * (4 * W):=by
  obtain ⟨m0,m1,hk,hodd⟩:=mant_rng ha hai
  obtain ⟨hs11,hs64⟩:=s_rng m0 m1 hs0 hs1
  obtain ⟨hp2,g1,g2,g3,g4⟩:=row_g hk
  rw [← hp] at hp2 g1 g2 g3 g4
  have htI:(t:Int) = 1071 + s - exR a - lpZ p:=by omega
  have hs2:2 ^ s = 2 * 2 ^ (s - 1):=by
    rw [← Nat.pow_succ'];congr 1;omega
  have hxu:2 ^ s * 2 ^ exR a = (2 * 2 ^ exR a) * 2 ^ (s - 1):=by rw [hs2];exact Nat.mul_right_comm _ _ _
  obtain ⟨w1,w2⟩:=sho_cmp p (2 * 2 ^ exR a) (2 ^ s) s t (exR a) 1 (by omega) hxu htI
  obtain ⟨w3,_⟩:=sho_cmp p (2 * 2 ^ exR a) (2 ^ s) s t (exR a) 10 (by omega) hxu htI
  rw [← hW,Nat.one_mul,Nat.one_mul] at w1
  rw [← hW] at w3
  constructor
  · refine Nat.le_of_not_lt fun h => ?_
    have:=w1.1 h
    rw [Nat.mul_left_comm,Nat.mul_comm (10 ^ p.toNat)] at this
    omega
  · refine w3.2 ?_
    rw [Nat.mul_left_comm,Nat.mul_comm (10 ^ p.toNat),Nat.mul_assoc 10]
    omega
def w9 (s:Nat):Nat:=q64 * q64 * eB (pG 0) * 2 ^ (1071 + s - lpZ (pG 0)).toNat
def min9 (a s:Nat):Nat:=(un ((a * 2 ^ s - 2 ^ (s - 1)) * eA (pG 0)) (w9 s) + a % 2 + 3) / 4
def max9 (a s:Nat):Nat:=(un ((a * 2 ^ s + 2 ^ (s - 1)) * eA (pG 0)) (w9 s) - a % 2) / 4
def mid9 (a s:Nat):Nat:=(un (a * 2 ^ s * eA (pG 0)) (w9 s) + 1 + un (a * 2 ^ s * eA (pG 0)) (w9 s) / 4 % 2) / 4
def ok9 (a s:Nat):Bool:=!decide (9223372036854775808 ≤ a * 2 ^ s) || !decide (a * 2 ^ s < q64) || !decide (a * 2 ^ s * eA (pG 0) / (4 * w9 s) < 10) || !decide (min9 a s ≤ max9 a s / 10 * 10) || decide (max9 a s / 10 * 10 = mid9 a s)
theorem ok9_all:((List.range 10).all fun a => (List.range 64).all fun s => ok9 a s) = true:=by decide +kernel
/-- The first floats of all: where the whole part has one digit. -/
theorem sho_small (a s t:Nat) (p:Int) (ha:0 < a) (hai:a < infR) (hs0:9223372036854775808 ≤ mantR a * 2 ^ s) (hs1:mantR a * 2 ^ s < q64) (hsk:¬ (mantR a = b52 ∧ 0 < exR a)) (hp:p = pG (exR a)) (ht:t = (1071 + s - exR a - lpZ p).toNat)
    {dmin dmax r W c:Nat} (hW:W = q64 * q64 * eB p * 2 ^ t) (hmin:dmin = (un ((mantR a * 2 ^ s - 2 ^ (s - 1)) * eA p) W + a % 2 + 3) / 4) (hmax:dmax = (un ((mantR a * 2 ^ s + 2 ^ (s - 1)) * eA p) W - a % 2) / 4)
    (hr:r = (un (mantR a * 2 ^ s * eA p) W + 1 + un (mantR a * 2 ^ s * eA p) W / 4 % 2) / 4) (hc:dmin ≤ dmax / 10 * 10):mantR a * 2 ^ s * eA p / (4 * W) < 10 → dmax / 10 * 10 = r:=by
  intro hQ
  obtain ⟨m0,m1,hk,hodd⟩:=mant_rng ha hai
  obtain ⟨hs11,hs64⟩:=s_rng m0 m1 hs0 hs1
  obtain ⟨u1,u2⟩:=sho_unit a s t p ha hai hs0 hs1 hp ht hW
  have hWp:0 < W:=by rw [hW];exact Nat.mul_pos (Nat.mul_pos (by decide) (eB_pos p)) (Nat.two_pow_pos _)
  have hm10:mantR a < 10:=by
    refine Nat.lt_of_le_of_lt ?_ hQ
    refine (Nat.le_div_iff_mul_le (by omega)).2 ?_
    rw [Nat.mul_assoc]
    exact Nat.mul_le_mul_left _ u1
  have hab:a < b52:=by
    refine Nat.lt_of_not_le fun h => ?_
    unfold mantR at hm10
    rw [if_neg (by omega)] at hm10
    unfold b52 at *
    omega
  have hma:mantR a = a:=by unfold mantR;rw [if_pos hab]
  have hke:exR a = 0:=by unfold exR;rw [Nat.div_eq_of_lt hab]
  rw [hma] at hm10 hs0 hs1 hmin hmax hr hQ
  rw [hke] at hp ht
  have hch:=List.all_eq_true.1 (List.all_eq_true.1 ok9_all a (List.mem_range.2 hm10)) s (List.mem_range.2 hs64)
  have ew:w9 s = W:=by unfold w9;rw [hW,ht,hp];simp
  have e0:min9 a s = dmin:=by unfold min9;rw [ew,hmin,hp]
  have e1:max9 a s = dmax:=by unfold max9;rw [ew,hmax,hp]
  have e2:mid9 a s = r:=by unfold mid9;rw [ew,hr,hp]
  unfold ok9 at hch
  rw [e0,e1,e2,ew,← hp] at hch
  simp only [Bool.or_eq_true,Bool.not_eq_true',decide_eq_true_eq,decide_eq_false_iff_not] at hch
  rcases hch with (((h | h) | h) | h) | h
  · exact absurd hs0 h
  · exact absurd hs1 h
  · exact absurd hQ h
  · exact absurd hc h
  · exact h
end Go.Proofs.YtjlaoeigfokkiaaGreatDoor.mem
namespace Go.Proofs.YtjlaoeigfokkiaaGreatDoor.mem
set_option linter.unusedVariables false
def Rd (q:Nat) (x:Int) (a:Nat):Prop:=InR (q * 10 ^ x.toNat * k74) (10 ^ (-x).toNat) a
def rowS2 (k:Nat):Bool:=decide (100 ≤ minS k) && decide (maxS k < 100000000000000000)
theorem okS2:(List.range 2046).all rowS2 = true:=by decide +kernel
theorem row_s2 {k:Nat} (hk:k < 2046):100 ≤ minS k ∧ maxS k < 100000000000000000:=by
 have h:=List.all_eq_true.1 okS2 k (List.mem_range.2 hk)
 unfold rowS2 at h
 simpa using h
theorem q_17 {Xv U W mant:Nat} (hW:0 < W) (hm:mant < b53) (hXv:Xv = mant * U) (hhi:U < 10 * (4 * W)):Xv / (4 * W) < 100000000000000000:=by
 refine Nat.div_lt_of_lt_mul ?_
 have h1:mant * U ≤ mant * (10 * (4 * W)):=Nat.mul_le_mul_left _ (Nat.le_of_lt hhi)
 have h2:mant * (10 * (4 * W)) ≤ b53 * (10 * (4 * W)):=Nat.mul_le_mul_right _ (Nat.le_of_lt hm)
 rw [hXv]
 unfold b53 at h2
 omega
end Go.Proofs.YtjlaoeigfokkiaaGreatDoor.mem
namespace Go.Proofs.YtjlaoeigfokkiaaGreatDoor.mem
set_option linter.unusedVariables false
theorem tab_hi (p:Int) (h0:-348 ≤ p) (h1:p ≤ 347):9223372036854775808 ≤ tabH p ∧ tabH p < q64 ∧ tabL p < q64:=by
 have ht:=tab_ok p h0 h1
 unfold rowT at ht
 simp only [Bool.and_eq_true,decide_eq_true_eq] at ht
 obtain ⟨⟨⟨⟨⟨t1,t2⟩,t3⟩,t4⟩,t5⟩,t6⟩:=ht
 refine ⟨?_,t1,t2⟩
 have hr:=(row_range p h0 h1).1
 have h2:2 ^ 127 * eB p ≤ (tabH p * q64 - tabL p) * eB p:=Nat.le_trans hr t4
 have h3:2 ^ 127 ≤ tabH p * q64 - tabL p:=Nat.le_of_mul_le_mul_right h2 t6
 have h4:(170141183460469231731687303715884105728:Nat) ≤ tabH p * q64:=by
  have:(2:Nat) ^ 127 = 170141183460469231731687303715884105728:=by decide
  omega
 unfold q64 at h4
 omega
theorem un_up (X W:Nat):un X W ≤ X / W + 1:=by
 have:=(un_parts X W).1
 omega
theorem un_small {p:Int} (h0:-348 ≤ p) (h1:p ≤ 347) {x t W:Nat} (hx:x < q64) (ht:5 ≤ t) (hW:W = q64 * q64 * eB p * 2 ^ t):un (x * eA p) W + 8 < 18446744073709551616:=by
 have hr:=(row_range p h0 h1).2
 have hB:=eB_pos p
 have hWp:0 < W:=by rw [hW];exact Nat.mul_pos (Nat.mul_pos (by decide) hB) (Nat.two_pow_pos _)
 have hA:eA p ≤ q64 * q64 * eB p:=by omega
 have h5:(32:Nat) ≤ 2 ^ t:=by
  have:=Nat.pow_le_pow_right (n:=2) (by decide) ht
  simpa using this
 have hX:x * eA p ≤ 576460752303423488 * W:=by
  have e1:x * eA p ≤ q64 * (q64 * q64 * eB p):=Nat.mul_le_mul (by omega) hA
  have e2:q64 * (q64 * q64 * eB p) = 576460752303423488 * (q64 * q64 * eB p * 32):=by
   generalize q64 * q64 * eB p = Z
   unfold q64
   omega
  have e3:q64 * q64 * eB p * 32 ≤ W:=by rw [hW];exact Nat.mul_le_mul_left _ h5
  exact Nat.le_trans e1 (by rw [e2];exact Nat.mul_le_mul_left _ e3)
 have hd:x * eA p / W ≤ 576460752303423488:=by
  have:=Nat.div_le_div_right (c:=W) hX
  rwa [Nat.mul_div_cancel _ hWp] at this
 have:=un_up (x * eA p) W
 omega
structure ShF (a s t:Nat) (p:Int) (Xv W dmin dmax r:Nat):Prop where
 xv:Xv = mantR a * 2 ^ s * eA p
 wv:W = q64 * q64 * eB p * 2 ^ t
 tv:(t:Int) = 1071 + s - exR a - lpZ p
 pv:-348 ≤ p ∧ p ≤ 347
 wp:0 < W
 q0:1 ≤ Xv / (4 * W)
 q17:Xv / (4 * W) < 100000000000000000
 lo:dmin ≤ Xv / (4 * W) + 1
 hi:Xv / (4 * W) ≤ dmax
 re:r = rne Xv (4 * W)
 d0:0 < dmin
 ne:dmin ≤ dmax
 wd:dmax < dmin + 10
 pk:¬ dmin ≤ dmax / 10 * 10 → dmin < dmax → dmin ≤ r ∧ r ≤ dmax
 sm:dmin ≤ dmax / 10 * 10 → Xv / (4 * W) < 10 → dmax / 10 * 10 = r
 cin:∀ c,0 < c → (InR (c * 10 ^ (-p).toNat * k74) (10 ^ p.toNat) a ↔ dmin ≤ c ∧ c ≤ dmax)
def chD (dmin dmax r:Nat):Nat:=if dmin ≤ dmax / 10 * 10 then dmax / 10 else if dmin < dmax then r else dmin
def chQ (dmin dmax:Nat) (p:Int):Int:=if dmin ≤ dmax / 10 * 10 then -(p - 1) else -p
theorem ch_or (dmin dmax r:Nat) (p:Int):(dmin ≤ dmax / 10 * 10 ∧ chD dmin dmax r = dmax / 10 ∧ chQ dmin dmax p = -(p - 1)) ∨ (¬ dmin ≤ dmax / 10 * 10 ∧ dmin < dmax ∧ chD dmin dmax r = r ∧ chQ dmin dmax p = -p) ∨ (¬ dmin ≤ dmax / 10 * 10 ∧ ¬ dmin < dmax ∧ chD dmin dmax r = dmin ∧ chQ dmin dmax p = -p):=by
 unfold chD chQ
 by_cases h1:dmin ≤ dmax / 10 * 10
 ·rw [if_pos h1,if_pos h1];exact .inl ⟨h1,rfl,rfl⟩
 ·rw [if_neg h1,if_neg h1]
  by_cases h2:dmin < dmax
  ·rw [if_pos h2];exact .inr (.inl ⟨h1,h2,rfl,rfl⟩)
  ·rw [if_neg h2];exact .inr (.inr ⟨h1,h2,rfl,rfl⟩)
theorem ShF.rd {a s t:Nat} {p:Int} {Xv W dmin dmax r:Nat} (h:ShF a s t p Xv W dmin dmax r):Rd (chD dmin dmax r) (chQ dmin dmax p) a ∧ 0 < chD dmin dmax r:=by
 have key:∀ (d j:Nat) (x:Int),0 < d → dmin ≤ d * 10 ^ j → d * 10 ^ j ≤ dmax → x = j - p → Rd d x a:=fun d j x hd h1 h2 hx => by
  unfold Rd
  rw [InR_ten d j a p x hx]
  exact (h.cin (d * 10 ^ j) (Nat.mul_pos hd (Nat.pow_pos (by decide)))).2 ⟨h1,h2⟩
 rcases ch_or dmin dmax r p with ⟨h1,e1,e2⟩ | ⟨h1,h2,e1,e2⟩ | ⟨h1,h2,e1,e2⟩ <;> rw [e1,e2]
 ·have d0:=h.d0
  have hp:0 < dmax / 10:=by
   rcases Nat.eq_zero_or_pos (dmax / 10) with h3 | h3
   ·rw [h3] at h1;omega
   ·exact h3
  exact ⟨key (dmax / 10) 1 _ hp (by rw [Nat.pow_one];exact h1) (by rw [Nat.pow_one];omega) (by omega),hp⟩
 ·obtain ⟨p1,p2⟩:=h.pk h1 h2
  have:=h.d0
  exact ⟨key r 0 _ (by omega) (by simpa using p1) (by simpa using p2) (by simp),by omega⟩
 ·have:=h.d0
  have:=h.ne
  exact ⟨key dmin 0 _ (by omega) (by simp) (by simpa using h.ne) (by simp),by omega⟩
theorem ShF.d17 {a s t:Nat} {p:Int} {Xv W dmin dmax r:Nat} (h:ShF a s t p Xv W dmin dmax r):chD dmin dmax r ≤ 100000000000000010 ∧ -347 ≤ chQ dmin dmax p ∧ chQ dmin dmax p ≤ 349:=by
 have q1:=h.q17
 have l1:=h.lo
 have w1:=h.wd
 have hp:=h.pv
 rcases ch_or dmin dmax r p with ⟨h1,e1,e2⟩ | ⟨h1,h2,e1,e2⟩ | ⟨h1,h2,e1,e2⟩ <;> rw [e1,e2]
 ·omega
 ·have:=h.pk h1 h2;omega
 ·omega
theorem sho_facts (a s t:Nat) (p:Int) (ha:0 < a) (hai:a < infR) (hs0:9223372036854775808 ≤ mantR a * 2 ^ s) (hs1:mantR a * 2 ^ s < q64) (hsk:¬ (mantR a = b52 ∧ 0 < exR a)) (hp:p = pG (exR a)) (ht:t = (1071 + s - exR a - lpZ p).toNat)
  {dmin dmax r W:Nat} (hW:W = q64 * q64 * eB p * 2 ^ t) (hmin:dmin = (un ((mantR a * 2 ^ s - 2 ^ (s - 1)) * eA p) W + a % 2 + 3) / 4) (hmax:dmax = (un ((mantR a * 2 ^ s + 2 ^ (s - 1)) * eA p) W - a % 2) / 4)
  (hr:r = (un (mantR a * 2 ^ s * eA p) W + 1 + un (mantR a * 2 ^ s * eA p) W / 4 % 2) / 4):ShF a s t p (mantR a * 2 ^ s * eA p) W dmin dmax r ∧ 5 ≤ t ∧ t < 64:=by
 obtain ⟨f1,⟨f2,f3,f4⟩,f5,f6,f7,f8,f9,f10⟩:=sho_sym a s t p ha hai hs0 hs1 hsk hp ht hW hmin hmax hr
 obtain ⟨u1,u2⟩:=sho_unit a s t p ha hai hs0 hs1 hp ht hW
 obtain ⟨m0,m1,-,-⟩:=mant_rng ha hai
 obtain ⟨hs11,hs64⟩:=s_rng m0 m1 hs0 hs1
 have hWp:0 < W:=by rw [hW];exact Nat.mul_pos (Nat.mul_pos (by decide) (eB_pos p)) (Nat.two_pow_pos _)
 have hA:=eA_pos f1.1 f1.2
 have h2s:2 ^ (s - 1) < mantR a * 2 ^ s:=by
  have e:2 ^ s = 2 * 2 ^ (s - 1):=by rw [← Nat.pow_succ'];congr 1;omega
  have:1 * 2 ^ s ≤ mantR a * 2 ^ s:=Nat.mul_le_mul_right _ m0
  have:=Nat.two_pow_pos (s - 1)
  omega
 have hp1:=Nat.two_pow_pos (s - 1)
 have hXv:mantR a * 2 ^ s * eA p = mantR a * (2 ^ s * eA p):=Nat.mul_assoc _ _ _
 obtain ⟨l1,l2⟩:=sho_q (Xv:=mantR a * 2 ^ s * eA p) (X0:=(mantR a * 2 ^ s - 2 ^ (s - 1)) * eA p) (X1:=(mantR a * 2 ^ s + 2 ^ (s - 1)) * eA p) (o:=a % 2) hWp (Nat.mod_lt _ (by decide)) (Nat.mul_lt_mul_of_pos_right (by omega) hA) (Nat.mul_lt_mul_of_pos_right (by omega) hA)
 refine ⟨⟨rfl,hW,f2,f1,hWp,?_,q_17 hWp m1 hXv u2,by rw [hmin];exact l1,by rw [hmax];exact l2,f9,f5,f6,f7,fun _ _ => f8,fun hc => sho_small (c:=0) a s t p ha hai hs0 hs1 hsk hp ht hW hmin hmax hr hc,f10⟩,f3,f4⟩
 refine (Nat.le_div_iff_mul_le (by omega)).2 ?_
 rw [Nat.one_mul,hXv]
 exact Nat.le_trans u1 (Nat.le_mul_of_pos_left _ m0)
theorem skew_facts (a t:Nat) (p:Int) (ha:0 < a) (hai:a < infR) (hsk:mantR a = b52 ∧ 0 < exR a) (hp:p = pS (exR a)) (ht:t = (1082 - exR a - lpZ p).toNat)
  {dmin dmax r W:Nat} (hW:W = q64 * q64 * eB p * 2 ^ t) (hmin:dmin = (un ((mantR a * 2048 - 512) * eA p) W + a % 2 + 3) / 4) (hmax:dmax = (un ((mantR a * 2048 + 1024) * eA p) W - a % 2) / 4)
  (hr:r = (un (mantR a * 2048 * eA p) W + 1 + un (mantR a * 2048 * eA p) W / 4 % 2) / 4):ShF a 11 t p (mantR a * 2 ^ 11 * eA p) W dmin dmax r ∧ 5 ≤ t ∧ t < 64:=by
 obtain ⟨f1,⟨f2,f3,f4⟩,f5,f6,f7,f8,f9,f10⟩:=sho_skew a t p ha hai hsk hp ht hW hmin hmax hr
 obtain ⟨m0,m1,hk,hodd⟩:=mant_rng ha hai
 have hev:=((ex_pre ha).2 hsk).2
 obtain ⟨hm,hk0⟩:=hsk
 have hWp:0 < W:=by rw [hW];exact Nat.mul_pos (Nat.mul_pos (by decide) (eB_pos p)) (Nat.two_pow_pos _)
 have hA:=eA_pos f1.1 f1.2
 have htS:tS (exR a) = t:=by unfold tS;rw [ht,hp]
 have hwS:wS (exR a) = W:=by unfold wS;rw [htS,hW,hp]
 have e1:minS (exR a) = dmin:=by unfold minS;rw [hwS,hmin,hev,hm,← hp,show (4 * b52 - 1) * 512 = b52 * 2048 - 512 from rfl]
 have e2:maxS (exR a) = dmax:=by unfold maxS;rw [hwS,hmax,hev,hm,← hp,show (2 * b52 + 1) * 1024 = b52 * 2048 + 1024 from rfl];simp
 obtain ⟨g1,g2⟩:=row_s2 hk
 rw [e1] at g1
 rw [e2] at g2
 have hb:512 < mantR a * 2048:=by rw [hm];decide
 obtain ⟨l1,l2⟩:=sho_q (Xv:=mantR a * 2048 * eA p) (X0:=(mantR a * 2048 - 512) * eA p) (X1:=(mantR a * 2048 + 1024) * eA p) (o:=a % 2) hWp (Nat.mod_lt _ (by decide)) (Nat.mul_lt_mul_of_pos_right (by omega) hA) (Nat.mul_lt_mul_of_pos_right (by omega) hA)
 rw [← hmin] at l1
 rw [← hmax] at l2
 refine ⟨⟨rfl,hW,by omega,f1,hWp,?_,?_,l1,l2,f9,f5,f6,f7,f8,fun _ h => ?_,f10⟩,f3,f4⟩
 ·show 1 ≤ mantR a * 2048 * eA p / (4 * W);omega
 ·show mantR a * 2048 * eA p / (4 * W) < _;omega
 ·have h':mantR a * 2048 * eA p / (4 * W) < 10:=h
  omega
end Go.Proofs.YtjlaoeigfokkiaaGreatDoor.mem
namespace Go.Proofs.YtjlaoeigfokkiaaGreatDoor.fto
open Go.ChangeShapes Go.WideShapes Go.ChangeAt Go.RowKit
open mem
open ints (hide unhide)
set_option linter.unusedVariables false
theorem Sca.below {w w':World} {B h l s:Nat} (hc:Sca w B h l s) (hb:Below w.heap.size w w'):Sca w' B h l s:=
 ⟨(hb.cell (World.block_lt_of_cell? w _ hc.hi)).trans hc.hi,(hb.cell (World.block_lt_of_cell? w _ hc.lo)).trans hc.lo,(hb.cell (World.block_lt_of_cell? w _ hc.sh)).trans hc.sh⟩
set_option maxHeartbeats 8000000 in
set_option maxRecDepth 100000 in
theorem sf_b (m M1 mn mx:Nat) (e L p lp:Int) (i s od:Nat) (w:World) (hT:PT w) (hm:9223372036854775808 ≤ m) (hm2:m < 18446744073709550592) (eM:((m:Int) == 9223372036854775808) = false) (he:-1085 ≤ e) (he2:e ≤ 1000)
  (hL:L = (e + 11) * 78913 / 262144) (hp:-L = p) (hlp:lp = p * 108853 / 32768) (hi:(i:Int) = p + 348) (hi2:i < 696) (hs:-(e + lp + 3) = (s:Int)) (hs2:s < 64) (hM1:M1 = m / 2048) (a2:bits .and .i64 (M1:Int) 1 = (od:Int)) (hmn:(mn:Int) = (m:Int) - 1024) (hmx:(mx:Int) = (m:Int) + 1024)
  (hod:od ≤ 1) (hg:15 < w.heap.size) (U1 U2 U3 D1 D2:Nat) (hU1:U1 = us mn (rowH i) (rowL i) s) (hU2:U2 = us mx (rowH i) (rowL i) s) (hU3:U3 = us m (rowH i) (rowL i) s) (hD1:D1 = (U1 + od + 3) / 4) (hD2:D2 = (U2 - od) / 4)
  (bU1:U1 + 8 < 18446744073709551616) (bU2:U2 + 8 < 18446744073709551616) (bU3:U3 + 8 < 18446744073709551616) (oU2:od ≤ U2) (hh:rowH i < 18446744073709551616) (hl:rowL i < 18446744073709551616)
  (k1:1 ≤ mn * rowH i / 18446744073709551616) (k2:1 ≤ mx * rowH i / 18446744073709551616) (k3:1 ≤ m * rowH i / 18446744073709551616) (d:Nat) (q:Int)
  (hd:(D1 ≤ D2 / 10 * 10 ∧ d = D2 / 10 ∧ q = -(p - 1)) ∨ (¬ D1 ≤ D2 / 10 * 10 ∧ D1 < D2 ∧ d = (U3 + 1 + U3 / 4 % 2) / 4 ∧ q = -p) ∨ (¬ D1 ≤ D2 / 10 * 10 ∧ ¬ D1 < D2 ∧ d = D1 ∧ q = -p)) :
  Calls Tryz.prog 139 #[.int .u64 m,.int .i64 e] w fun ed w' => ed = .returned (.tuple #[.int .u64 d,.int .i64 q]) ∧ Below w.heap.size w w':=by
 have C1:=hide (fun W => lg_ok (e + 11) W (by omega))
 rw [← hL] at C1
 have pb:-348 ≤ p ∧ p ≤ 347:=by omega
 have C2:=hide (fun W => l2_ok p W (by omega))
 rw [← hlp] at C2
 have w1:(m:Int) - 1024 = (mn:Int):=by omega
 have w2:(m:Int) + 1024 = (mx:Int):=by omega
 clear hmn hmx
 have o1:(m:Int) / 2048 = (M1:Int):=by omega
 have o2:(M1:Int) ≤ 9007199254740992:=by omega
 have lpb:-100000 ≤ lp ∧ lp ≤ 100000:=by omega
 have T1:=hide (fun W B hc => uscale_ok mn (rowH i) (rowL i) s B W (by omega) hh hl hs2 k1 hc)
 have T2:=hide (fun W B hc => uscale_ok mx (rowH i) (rowL i) s B W (by omega) hh hl hs2 k2 hc)
 have T3:=hide (fun W B hc => uscale_ok m (rowH i) (rowL i) s B W (by omega) hh hl hs2 k3 hc)
 rw [← hU1] at T1
 rw [← hU2] at T2
 rw [← hU3] at T3
 have N1:=hide (fun W => up_ok U1 od W (by omega) hod)
 have N2:=hide (fun W => ceil_ok (U1 + od) W (by omega))
 have N3:=hide (fun W => dn_ok U2 od W (by omega) hod oU2)
 have N4:=hide (fun W => floor_ok (U2 - od) W (by omega))
 have N5:=hide (fun W => round_ok U3 W (by omega))
 rw [← hD1] at N2
 rw [← hD2] at N4
 have bD1:D1 < 4611686018427387904:=by omega
 have bD2:D2 < 4611686018427387904:=by omega
 obtain ⟨V1,hV1⟩:∃ V1,V1 = U1 + od:=⟨_,rfl⟩
 rw [← hV1] at N1 N2
 obtain ⟨V2,hV2⟩:∃ V2,V2 = U2 - od:=⟨_,rfl⟩
 rw [← hV2] at N3 N4
 have HD:=hide hd
 clear hU1 hU2 hU3 hD1 hD2 bU1 bU2 bU3 oU2 k1 k2 k3 hV1 hV2 hd hh hl
 have HL:=hide hL
 have HI:=hide hi
 have HS:=hide hs
 have HLP:=hide hlp
 clear hL hi hs hlp hM1
 go_enter Tryz.func139,Tryz.ntmps139
 go_wp2_with fail
 refine (unhide C1 _).mono ?_
 rintro ed w1' ⟨rfl,rfl⟩
 clear C1
 go_wp2_with fail
 refine (unhide C2 _).mono ?_
 rintro ed w2' ⟨rfl,rfl⟩
 clear C2
 have HB:=hide (heap_alloc_new w1' (.cells #[.int .u64 0,.int .u64 0,.int .i64 0] 213))
 have HT:=hide (fun j (hj:j < 696) => (⟨(((Below.refl w1'.heap.size w1').alloc (Nat.le_refl _) (.cells #[.int .u64 0,.int .u64 0,.int .i64 0] 213)).cell (p:=⟨15,2 * j,none⟩) hg).trans (hT j hj).1,(((Below.refl w1'.heap.size w1').alloc (Nat.le_refl _) (.cells #[.int .u64 0,.int .u64 0,.int .i64 0] 213)).cell (p:=⟨15,2 * j + 1,none⟩) hg).trans (hT j hj).2⟩:_ ∧ _))
 have b0:=(Below.refl w1'.heap.size w1').alloc (Nat.le_refl _) (.cells #[.int .u64 0,.int .u64 0,.int .i64 0] 213)
 have hne:w1'.heap.size ≠ 15:=by omega
 clear hT
 go_wp2_with fail
 refine (prescale_ok w1'.heap.size _ _ _ _ e p lp i s _ (unhide HB) (unhide HT) hne (unhide HI) hi2 (unhide HS) (by omega) lpb).mono ?_
 rintro ed w3 ⟨rfl,hB3,b3⟩
 have S3:=Sca.of_heap hB3
 have b3':=b0.trans b3
 clear HB HT hB3 b0 b3
 have hsz3:w1'.heap.size ≤ w3.heap.size:=b3'.size
 go_wp2_with fail
 refine (unhide T1 _ _ S3).mono ?_
 rintro ed w4 ⟨rfl,b4⟩
 have S4:=S3.below b4
 have b4':=hide (b3'.trans (b4.mono hsz3))
 clear T1 S3 b4 b3' hsz3
 go_wp2_with fail
 refine (unhide N1 _).mono ?_
 rintro ed w5 ⟨rfl,rfl⟩
 clear N1
 go_wp2_with fail
 refine (unhide N2 _).mono ?_
 rintro ed w6 ⟨rfl,rfl⟩
 clear N2
 go_wp2_with fail
 refine (unhide T2 _ _ S4).mono ?_
 rintro ed w7 ⟨rfl,b7⟩
 have S7:=S4.below b7
 have b7':=hide ((unhide b4').trans (b7.mono (unhide b4').size))
 clear T2 S4 b7 b4'
 go_wp2_with fail
 refine (unhide N3 _).mono ?_
 rintro ed w8 ⟨rfl,rfl⟩
 clear N3
 go_wp2_with fail
 refine (unhide N4 _).mono ?_
 rintro ed w9 ⟨rfl,rfl⟩
 clear N4
 obtain ⟨Qd,hQd⟩:∃ Qd,Qd = D2 / 10:=⟨_,rfl⟩
 have hd:=unhide HD
 rw [← hQd] at hd
 have q1:(D2:Int) / 10 = (Qd:Int):=by omega
 have q2:(Qd:Int) ≤ 461168601842738790:=by omega
 clear HD hQd
 rcases hd with ⟨h1,rfl,hq⟩ | ⟨h1,h2,hd,hq⟩ | ⟨h1,h2,hd,hq⟩
 ·have g1:(D1:Int) ≤ (d:Int) * 10:=by omega
  have Hq:=hide hq
  clear hq T3 N5
  go_wp2
  go_ret2
  refine ⟨?_,unhide b7'⟩
  rw [unhide Hq]
  rfl
 ·have g1:¬ (D1:Int) ≤ (Qd:Int) * 10:=by omega
  have g2:(D1:Int) < (D2:Int):=by omega
  have Hq:=hide hq
  have Hd:=hide hd
  rw [← hd] at N5
  clear hq hd
  go_wp2_with fail
  refine (unhide T3 _ _ S7).mono ?_
  rintro ed wa ⟨rfl,ba⟩
  have ba':=hide ((unhide b7').trans (ba.mono (unhide b7').size))
  clear T3 S7 ba b7'
  go_wp2_with fail
  refine (unhide N5 _).mono ?_
  rintro ed wb ⟨rfl,rfl⟩
  clear N5
  go_wp2
  go_ret2
  refine ⟨?_,unhide ba'⟩
  rw [unhide Hq]
  rfl
 ·have g1:¬ (D1:Int) ≤ (Qd:Int) * 10:=by omega
  have g2:¬ (D1:Int) < (D2:Int):=by omega
  subst hd
  have Hq:=hide hq
  clear hq T3 N5
  go_wp2
  go_ret2
  refine ⟨?_,unhide b7'⟩
  rw [unhide Hq]
  rfl
end Go.Proofs.YtjlaoeigfokkiaaGreatDoor.fto
namespace Go.Proofs.YtjlaoeigfokkiaaGreatDoor.fto
open Go.ChangeShapes Go.WideShapes Go.ChangeAt Go.RowKit
open mem
open ints (hide unhide)
set_option linter.unusedVariables false
set_option maxHeartbeats 8000000 in
set_option maxRecDepth 100000 in
theorem sf_a (m mn mx:Nat) (hmc:m = 9223372036854775808) (e L p lp:Int) (i s od:Nat) (hod0:od = 0) (w:World) (hT:PT w) (he:-1085 < e) (he2:e ≤ 1000)
  (hL:L = ((e + 11) * 631305 - 261663) / 2097152) (hp:-L = p) (hlp:lp = p * 108853 / 32768) (hi:(i:Int) = p + 348) (hi2:i < 696) (hs:-(e + lp + 3) = (s:Int)) (hs2:s < 64) (hmn:mn = 9223372036854775296) (hmx:mx = 9223372036854776832)
  (hod:od ≤ 1) (hg:15 < w.heap.size) (U1 U2 U3 D1 D2:Nat) (hU1:U1 = us mn (rowH i) (rowL i) s) (hU2:U2 = us mx (rowH i) (rowL i) s) (hU3:U3 = us m (rowH i) (rowL i) s) (hD1:D1 = (U1 + od + 3) / 4) (hD2:D2 = (U2 - od) / 4)
  (bU1:U1 + 8 < 18446744073709551616) (bU2:U2 + 8 < 18446744073709551616) (bU3:U3 + 8 < 18446744073709551616) (oU2:od ≤ U2) (hh:rowH i < 18446744073709551616) (hl:rowL i < 18446744073709551616)
  (k1:1 ≤ mn * rowH i / 18446744073709551616) (k2:1 ≤ mx * rowH i / 18446744073709551616) (k3:1 ≤ m * rowH i / 18446744073709551616) (d:Nat) (q:Int)
  (hd:(D1 ≤ D2 / 10 * 10 ∧ d = D2 / 10 ∧ q = -(p - 1)) ∨ (¬ D1 ≤ D2 / 10 * 10 ∧ D1 < D2 ∧ d = (U3 + 1 + U3 / 4 % 2) / 4 ∧ q = -p) ∨ (¬ D1 ≤ D2 / 10 * 10 ∧ ¬ D1 < D2 ∧ d = D1 ∧ q = -p)) :
  Calls Tryz.prog 139 #[.int .u64 m,.int .i64 e] w fun ed w' => ed = .returned (.tuple #[.int .u64 d,.int .i64 q]) ∧ Below w.heap.size w w':=by
 have C1:=hide (fun W => sk_ok (e + 11) W (by omega))
 rw [← hL] at C1
 have pb:-348 ≤ p ∧ p ≤ 347:=by omega
 have C2:=hide (fun W => l2_ok p W (by omega))
 rw [← hlp] at C2
 have lpb:-100000 ≤ lp ∧ lp ≤ 100000:=by omega
 have T1:=hide (fun W B hc => uscale_ok mn (rowH i) (rowL i) s B W (by omega) hh hl hs2 k1 hc)
 have T2:=hide (fun W B hc => uscale_ok mx (rowH i) (rowL i) s B W (by omega) hh hl hs2 k2 hc)
 have T3:=hide (fun W B hc => uscale_ok m (rowH i) (rowL i) s B W (by omega) hh hl hs2 k3 hc)
 rw [← hU1] at T1
 rw [← hU2] at T2
 rw [← hU3] at T3
 have N1:=hide (fun W => up_ok U1 od W (by omega) hod)
 have N2:=hide (fun W => ceil_ok (U1 + od) W (by omega))
 have N3:=hide (fun W => dn_ok U2 od W (by omega) hod oU2)
 have N4:=hide (fun W => floor_ok (U2 - od) W (by omega))
 have N5:=hide (fun W => round_ok U3 W (by omega))
 rw [← hD1] at N2
 rw [← hD2] at N4
 have bD1:D1 < 4611686018427387904:=by omega
 have bD2:D2 < 4611686018427387904:=by omega
 obtain ⟨V1,hV1⟩:∃ V1,V1 = U1 + od:=⟨_,rfl⟩
 rw [← hV1] at N1 N2
 obtain ⟨V2,hV2⟩:∃ V2,V2 = U2 - od:=⟨_,rfl⟩
 rw [← hV2] at N3 N4
 have HD:=hide hd
 clear hU1 hU2 hU3 hD1 hD2 bU1 bU2 bU3 oU2 k1 k2 k3 hV1 hV2 hd hh hl
 have HL:=hide hL
 have HI:=hide hi
 have HS:=hide hs
 have HLP:=hide hlp
 clear hL hi hs hlp
 subst hmc hod0 hmn hmx
 have a3:bits .and .i64 4503599627370496 1 = (0:Int):=by decide
 go_enter Tryz.func139,Tryz.ntmps139
 go_wp2_with fail
 refine (unhide C1 _).mono ?_
 rintro ed w1' ⟨rfl,rfl⟩
 clear C1
 go_wp2_with fail
 refine (unhide C2 _).mono ?_
 rintro ed w2' ⟨rfl,rfl⟩
 clear C2
 have HB:=hide (heap_alloc_new w1' (.cells #[.int .u64 0,.int .u64 0,.int .i64 0] 213))
 have HT:=hide (fun j (hj:j < 696) => (⟨(((Below.refl w1'.heap.size w1').alloc (Nat.le_refl _) (.cells #[.int .u64 0,.int .u64 0,.int .i64 0] 213)).cell (p:=⟨15,2 * j,none⟩) hg).trans (hT j hj).1,(((Below.refl w1'.heap.size w1').alloc (Nat.le_refl _) (.cells #[.int .u64 0,.int .u64 0,.int .i64 0] 213)).cell (p:=⟨15,2 * j + 1,none⟩) hg).trans (hT j hj).2⟩:_ ∧ _))
 have b0:=(Below.refl w1'.heap.size w1').alloc (Nat.le_refl _) (.cells #[.int .u64 0,.int .u64 0,.int .i64 0] 213)
 have hne:w1'.heap.size ≠ 15:=by omega
 clear hT
 go_wp2_with fail
 refine (prescale_ok w1'.heap.size _ _ _ _ e p lp i s _ (unhide HB) (unhide HT) hne (unhide HI) hi2 (unhide HS) (by omega) lpb).mono ?_
 rintro ed w3 ⟨rfl,hB3,b3⟩
 have S3:=Sca.of_heap hB3
 have b3':=b0.trans b3
 clear HB HT hB3 b0 b3
 have hsz3:w1'.heap.size ≤ w3.heap.size:=b3'.size
 go_wp2_with fail
 refine (unhide T1 _ _ S3).mono ?_
 rintro ed w4 ⟨rfl,b4⟩
 have S4:=S3.below b4
 have b4':=hide (b3'.trans (b4.mono hsz3))
 clear T1 S3 b4 b3' hsz3
 go_wp2_with fail
 refine (unhide N1 _).mono ?_
 rintro ed w5 ⟨rfl,rfl⟩
 clear N1
 go_wp2_with fail
 refine (unhide N2 _).mono ?_
 rintro ed w6 ⟨rfl,rfl⟩
 clear N2
 go_wp2_with fail
 refine (unhide T2 _ _ S4).mono ?_
 rintro ed w7 ⟨rfl,b7⟩
 have S7:=S4.below b7
 have b7':=hide ((unhide b4').trans (b7.mono (unhide b4').size))
 clear T2 S4 b7 b4'
 go_wp2_with fail
 refine (unhide N3 _).mono ?_
 rintro ed w8 ⟨rfl,rfl⟩
 clear N3
 go_wp2_with fail
 refine (unhide N4 _).mono ?_
 rintro ed w9 ⟨rfl,rfl⟩
 clear N4
 obtain ⟨Qd,hQd⟩:∃ Qd,Qd = D2 / 10:=⟨_,rfl⟩
 have hd:=unhide HD
 rw [← hQd] at hd
 have q1:(D2:Int) / 10 = (Qd:Int):=by omega
 have q2:(Qd:Int) ≤ 461168601842738790:=by omega
 clear HD hQd
 rcases hd with ⟨h1,rfl,hq⟩ | ⟨h1,h2,hd,hq⟩ | ⟨h1,h2,hd,hq⟩
 ·have g1:(D1:Int) ≤ (d:Int) * 10:=by omega
  have Hq:=hide hq
  clear hq T3 N5
  go_wp2
  go_ret2
  refine ⟨?_,unhide b7'⟩
  rw [unhide Hq]
  rfl
 ·have g1:¬ (D1:Int) ≤ (Qd:Int) * 10:=by omega
  have g2:(D1:Int) < (D2:Int):=by omega
  have Hq:=hide hq
  have Hd:=hide hd
  rw [← hd] at N5
  clear hq hd
  go_wp2_with fail
  refine (unhide T3 _ _ S7).mono ?_
  rintro ed wa ⟨rfl,ba⟩
  have ba':=hide ((unhide b7').trans (ba.mono (unhide b7').size))
  clear T3 S7 ba b7'
  go_wp2_with fail
  refine (unhide N5 _).mono ?_
  rintro ed wb ⟨rfl,rfl⟩
  clear N5
  go_wp2
  go_ret2
  refine ⟨?_,unhide ba'⟩
  rw [unhide Hq]
  rfl
 ·have g1:¬ (D1:Int) ≤ (Qd:Int) * 10:=by omega
  have g2:¬ (D1:Int) < (D2:Int):=by omega
  subst hd
  have Hq:=hide hq
  clear hq T3 N5
  go_wp2
  go_ret2
  refine ⟨?_,unhide b7'⟩
  rw [unhide Hq]
  rfl
end Go.Proofs.YtjlaoeigfokkiaaGreatDoor.fto
namespace Go.Proofs.YtjlaoeigfokkiaaGreatDoor.fto
open Go.ChangeShapes Go.WideShapes Go.ChangeAt Go.RowKit
open mem
open ints (hide unhide)
set_option linter.unusedVariables false
set_option maxHeartbeats 8000000 in
set_option maxRecDepth 100000 in
theorem sf_b0 (m mn mx:Nat) (hmc:m = 9223372036854775808) (e L p lp:Int) (he:-1085 ≤ e) (he2:¬ -1085 < e) (i s od:Nat) (hod0:od = 0) (w:World) (hT:PT w) 
  (hL:L = (e + 11) * 78913 / 262144) (hp:-L = p) (hlp:lp = p * 108853 / 32768) (hi:(i:Int) = p + 348) (hi2:i < 696) (hs:-(e + lp + 3) = (s:Int)) (hs2:s < 64) (hmn:mn = 9223372036854774784) (hmx:mx = 9223372036854776832)
  (hod:od ≤ 1) (hg:15 < w.heap.size) (U1 U2 U3 D1 D2:Nat) (hU1:U1 = us mn (rowH i) (rowL i) s) (hU2:U2 = us mx (rowH i) (rowL i) s) (hU3:U3 = us m (rowH i) (rowL i) s) (hD1:D1 = (U1 + od + 3) / 4) (hD2:D2 = (U2 - od) / 4)
  (bU1:U1 + 8 < 18446744073709551616) (bU2:U2 + 8 < 18446744073709551616) (bU3:U3 + 8 < 18446744073709551616) (oU2:od ≤ U2) (hh:rowH i < 18446744073709551616) (hl:rowL i < 18446744073709551616)
  (k1:1 ≤ mn * rowH i / 18446744073709551616) (k2:1 ≤ mx * rowH i / 18446744073709551616) (k3:1 ≤ m * rowH i / 18446744073709551616) (d:Nat) (q:Int)
  (hd:(D1 ≤ D2 / 10 * 10 ∧ d = D2 / 10 ∧ q = -(p - 1)) ∨ (¬ D1 ≤ D2 / 10 * 10 ∧ D1 < D2 ∧ d = (U3 + 1 + U3 / 4 % 2) / 4 ∧ q = -p) ∨ (¬ D1 ≤ D2 / 10 * 10 ∧ ¬ D1 < D2 ∧ d = D1 ∧ q = -p)) :
  Calls Tryz.prog 139 #[.int .u64 m,.int .i64 e] w fun ed w' => ed = .returned (.tuple #[.int .u64 d,.int .i64 q]) ∧ Below w.heap.size w w':=by
 have C1:=hide (fun W => lg_ok (e + 11) W (by omega))
 rw [← hL] at C1
 have pb:-348 ≤ p ∧ p ≤ 347:=by omega
 have C2:=hide (fun W => l2_ok p W (by omega))
 rw [← hlp] at C2
 have lpb:-100000 ≤ lp ∧ lp ≤ 100000:=by omega
 have T1:=hide (fun W B hc => uscale_ok mn (rowH i) (rowL i) s B W (by omega) hh hl hs2 k1 hc)
 have T2:=hide (fun W B hc => uscale_ok mx (rowH i) (rowL i) s B W (by omega) hh hl hs2 k2 hc)
 have T3:=hide (fun W B hc => uscale_ok m (rowH i) (rowL i) s B W (by omega) hh hl hs2 k3 hc)
 rw [← hU1] at T1
 rw [← hU2] at T2
 rw [← hU3] at T3
 have N1:=hide (fun W => up_ok U1 od W (by omega) hod)
 have N2:=hide (fun W => ceil_ok (U1 + od) W (by omega))
 have N3:=hide (fun W => dn_ok U2 od W (by omega) hod oU2)
 have N4:=hide (fun W => floor_ok (U2 - od) W (by omega))
 have N5:=hide (fun W => round_ok U3 W (by omega))
 rw [← hD1] at N2
 rw [← hD2] at N4
 have bD1:D1 < 4611686018427387904:=by omega
 have bD2:D2 < 4611686018427387904:=by omega
 obtain ⟨V1,hV1⟩:∃ V1,V1 = U1 + od:=⟨_,rfl⟩
 rw [← hV1] at N1 N2
 obtain ⟨V2,hV2⟩:∃ V2,V2 = U2 - od:=⟨_,rfl⟩
 rw [← hV2] at N3 N4
 have HD:=hide hd
 clear hU1 hU2 hU3 hD1 hD2 bU1 bU2 bU3 oU2 k1 k2 k3 hV1 hV2 hd hh hl
 have HL:=hide hL
 have HI:=hide hi
 have HS:=hide hs
 have HLP:=hide hlp
 clear hL hi hs hlp
 subst hmc hod0 hmn hmx
 have a3:bits .and .i64 4503599627370496 1 = (0:Int):=by decide
 go_enter Tryz.func139,Tryz.ntmps139
 go_wp2_with fail
 refine (unhide C1 _).mono ?_
 rintro ed w1' ⟨rfl,rfl⟩
 clear C1
 go_wp2_with fail
 refine (unhide C2 _).mono ?_
 rintro ed w2' ⟨rfl,rfl⟩
 clear C2
 have HB:=hide (heap_alloc_new w1' (.cells #[.int .u64 0,.int .u64 0,.int .i64 0] 213))
 have HT:=hide (fun j (hj:j < 696) => (⟨(((Below.refl w1'.heap.size w1').alloc (Nat.le_refl _) (.cells #[.int .u64 0,.int .u64 0,.int .i64 0] 213)).cell (p:=⟨15,2 * j,none⟩) hg).trans (hT j hj).1,(((Below.refl w1'.heap.size w1').alloc (Nat.le_refl _) (.cells #[.int .u64 0,.int .u64 0,.int .i64 0] 213)).cell (p:=⟨15,2 * j + 1,none⟩) hg).trans (hT j hj).2⟩:_ ∧ _))
 have b0:=(Below.refl w1'.heap.size w1').alloc (Nat.le_refl _) (.cells #[.int .u64 0,.int .u64 0,.int .i64 0] 213)
 have hne:w1'.heap.size ≠ 15:=by omega
 clear hT
 go_wp2_with fail
 refine (prescale_ok w1'.heap.size _ _ _ _ e p lp i s _ (unhide HB) (unhide HT) hne (unhide HI) hi2 (unhide HS) (by omega) lpb).mono ?_
 rintro ed w3 ⟨rfl,hB3,b3⟩
 have S3:=Sca.of_heap hB3
 have b3':=b0.trans b3
 clear HB HT hB3 b0 b3
 have hsz3:w1'.heap.size ≤ w3.heap.size:=b3'.size
 go_wp2_with fail
 refine (unhide T1 _ _ S3).mono ?_
 rintro ed w4 ⟨rfl,b4⟩
 have S4:=S3.below b4
 have b4':=hide (b3'.trans (b4.mono hsz3))
 clear T1 S3 b4 b3' hsz3
 go_wp2_with fail
 refine (unhide N1 _).mono ?_
 rintro ed w5 ⟨rfl,rfl⟩
 clear N1
 go_wp2_with fail
 refine (unhide N2 _).mono ?_
 rintro ed w6 ⟨rfl,rfl⟩
 clear N2
 go_wp2_with fail
 refine (unhide T2 _ _ S4).mono ?_
 rintro ed w7 ⟨rfl,b7⟩
 have S7:=S4.below b7
 have b7':=hide ((unhide b4').trans (b7.mono (unhide b4').size))
 clear T2 S4 b7 b4'
 go_wp2_with fail
 refine (unhide N3 _).mono ?_
 rintro ed w8 ⟨rfl,rfl⟩
 clear N3
 go_wp2_with fail
 refine (unhide N4 _).mono ?_
 rintro ed w9 ⟨rfl,rfl⟩
 clear N4
 obtain ⟨Qd,hQd⟩:∃ Qd,Qd = D2 / 10:=⟨_,rfl⟩
 have hd:=unhide HD
 rw [← hQd] at hd
 have q1:(D2:Int) / 10 = (Qd:Int):=by omega
 have q2:(Qd:Int) ≤ 461168601842738790:=by omega
 clear HD hQd
 rcases hd with ⟨h1,rfl,hq⟩ | ⟨h1,h2,hd,hq⟩ | ⟨h1,h2,hd,hq⟩
 ·have g1:(D1:Int) ≤ (d:Int) * 10:=by omega
  have Hq:=hide hq
  clear hq T3 N5
  go_wp2
  go_ret2
  refine ⟨?_,unhide b7'⟩
  rw [unhide Hq]
  rfl
 ·have g1:¬ (D1:Int) ≤ (Qd:Int) * 10:=by omega
  have g2:(D1:Int) < (D2:Int):=by omega
  have Hq:=hide hq
  have Hd:=hide hd
  rw [← hd] at N5
  clear hq hd
  go_wp2_with fail
  refine (unhide T3 _ _ S7).mono ?_
  rintro ed wa ⟨rfl,ba⟩
  have ba':=hide ((unhide b7').trans (ba.mono (unhide b7').size))
  clear T3 S7 ba b7'
  go_wp2_with fail
  refine (unhide N5 _).mono ?_
  rintro ed wb ⟨rfl,rfl⟩
  clear N5
  go_wp2
  go_ret2
  refine ⟨?_,unhide ba'⟩
  rw [unhide Hq]
  rfl
 ·have g1:¬ (D1:Int) ≤ (Qd:Int) * 10:=by omega
  have g2:¬ (D1:Int) < (D2:Int):=by omega
  subst hd
  have Hq:=hide hq
  clear hq T3 N5
  go_wp2
  go_ret2
  refine ⟨?_,unhide b7'⟩
  rw [unhide Hq]
  rfl
end Go.Proofs.YtjlaoeigfokkiaaGreatDoor.fto
