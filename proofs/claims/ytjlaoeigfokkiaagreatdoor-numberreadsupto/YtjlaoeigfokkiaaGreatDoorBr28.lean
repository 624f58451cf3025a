import Derived.Test.YtjlaoeigfokkiaaGreatDoorBr21
import Derived.Test.YtjlaoeigfokkiaaGreatDoorBr13
import Derived.Test.YtjlaoeigfokkiaaGreatDoorBr8
import Derived.Shelf.Strconv.ToErrorRange
import Derived.Test.YtjlaoeigfokkiaaGreatDoorProg
namespace Go.Proofs.YtjlaoeigfokkiaaGreatDoor.dcm
open Go.ChangeShapes Go.WideShapes Go.ChangeAt Go.RowKit
open mem fto
set_option linter.unusedVariables false
set_option linter.unusedSimpArgs false
def tdec (s:ByteArray) (a m:Nat):Dcs:=⟨fun i => (bz s (a + i)).toNat,m,0,false,false⟩
theorem tdec_dv {s:ByteArray} {a m:Nat} (hd:∀ j,j < m → 48 ≤ bz s (a + j) ∧ bz s (a + j) ≤ 57):∀ j,j ≤ m → dvN (tdec s a m) j = mvs s a j
 | 0,_ => rfl
 | j + 1,h => by
  show dvN (tdec s a m) j * 10 + dgN (tdec s a m) j = mvs s a j * 10 + (bz s (a + j) - 48).toNat
  rw [tdec_dv hd j (by omega)]
  have:=hd j (by omega)
  unfold dgN
  rw [if_pos (show j < (tdec s a m).nd from by show j < m;omega)]
  show _ + ((bz s (a + j)).toNat - 48) = _
  omega
theorem tdec_ok {s:ByteArray} {a m:Nat} (hd:∀ j,j < m → 48 ≤ bz s (a + j) ∧ bz s (a + j) ≤ 57):DgOk (tdec s a m):=fun i hi => by
 have:=hd i hi
 show 48 ≤ (bz s (a + i)).toNat ∧ (bz s (a + i)).toNat ≤ 57
 omega
theorem tr8_small (s:ByteArray) (a:Nat):∀ j,j ≤ 800 → tr8 s a j = false:=by
 intro j
 induction j with
 | zero => intro _;rfl
 | succ j ih => intro hj;rw [tr8,ih (by omega),decide_eq_false (by omega)];rfl
theorem tr8_eq {s:ByteArray} {a m:Nat} (hd:∀ j,j < m → 48 ≤ bz s (a + j) ∧ bz s (a + j) ≤ 57):∀ i,800 + i ≤ m → tr8 s a (800 + i) = decide (mvs s a (800 + i) % 10 ^ i ≠ 0)
 | 0,_ => by rw [tr8_small s a 800 (by omega),Nat.pow_zero,Nat.mod_one];rfl
 | i + 1,h => by
  have ih:=tr8_eq hd i (by omega)
  have hb:=hd (800 + i) (by omega)
  rw [← Nat.add_assoc,tr8,ih,decide_eq_true (show 800 ≤ 800 + i by omega),Bool.true_and]
  show _ = decide ((mvs s a (800 + i) * 10 + (bz s (a + (800 + i)) - 48).toNat) % 10 ^ (i + 1) ≠ 0)
  obtain ⟨v,hv⟩:∃ v:Nat,bz s (a + (800 + i)) = ((v + 48:Nat):Int):=⟨(bz s (a + (800 + i)) - 48).toNat,by omega⟩
  have hv9:v ≤ 9:=by omega
  rw [hv]
  have ev:(((v + 48:Nat):Int) - 48).toNat = v:=by omega
  rw [ev]
  have e:=Nat.div_add_mod (mvs s a (800 + i)) (10 ^ i)
  have hr:=Nat.mod_lt (mvs s a (800 + i)) (show 0 < 10 ^ i from Nat.pow_pos (by decide))
  have e2:(mvs s a (800 + i) * 10 + v) % 10 ^ (i + 1) = mvs s a (800 + i) % 10 ^ i * 10 + v:=by
   rw [Nat.pow_succ]
   generalize mvs s a (800 + i) % 10 ^ i = r at *
   generalize mvs s a (800 + i) / 10 ^ i = q at *
   generalize 10 ^ i = T at *
   rw [← e]
   have:(T * q + r) * 10 + v = T * 10 * q + (r * 10 + v):=by rw [Nat.add_mul,Nat.mul_right_comm,Nat.add_assoc]
   rw [this,Nat.mul_add_mod,Nat.mod_eq_of_lt (by omega)]
  rw [e2]
  generalize mvs s a (800 + i) % 10 ^ i = r at *
  by_cases h1:r = 0 <;> by_cases h2:v = 0 <;> simp [h1,h2] <;> omega
theorem set_st {s:ByteArray} {a m:Nat} {s':Dcs} (hd:∀ j,j < m → 48 ≤ bz s (a + j) ∧ bz s (a + j) ≤ 57) (hf:bz s a ≠ 48) (hm:1 ≤ m) (h:SI s a s' m) (hp:s'.dp ≤ 310) :
  St (mvs s a m * 10 ^ (s'.dp - m).toNat) (10 ^ (-(s'.dp - m)).toNat) s' (800 - s'.dp).toNat:=by
 have hok:DgOk s':=fun i hi => by
  have hi':i < min m 800:=by rw [← h.nd];exact hi
  have h1:=h.dig i (by omega) (by omega)
  have h2:=hd i (by omega)
  omega
 have hw:∀ j,j ≤ min m 800 → dvN s' j = mvs s a j:=by
  intro j
  induction j with
  | zero => intro _;rfl
  | succ j ih =>
   intro hj
   show dvN s' j * 10 + dgN s' j = mvs s a j * 10 + (bz s (a + j) - 48).toNat
   rw [ih (by omega)]
   have h1:=h.dig j (by omega) (by omega)
   unfold dgN
   rw [if_pos (by rw [h.nd];omega)]
   omega
 have hn8:s'.nd ≤ 800:=by rw [h.nd];omega
 have hL:dvN s' 800 = mvs s a m * 10 ^ (800 - m) / 10 ^ (m - 800) ∧ s'.tr = decide (mvs s a m * 10 ^ (800 - m) % 10 ^ (m - 800) ≠ 0):=by
  rcases Nat.lt_or_ge 800 m with g | g
  ·rw [show 800 - m = 0 by omega,Nat.pow_zero,Nat.mul_one]
   constructor
   ·rw [hw 800 (by omega)]
    have:=dvN_div (tdec_ok hd) (k:=800) (j:=m) (by omega)
    rw [tdec_dv hd m (Nat.le_refl _),tdec_dv hd 800 (by omega)] at this
    exact this.symm
   ·rw [h.tr]
    have:=tr8_eq hd (m - 800) (by omega)
    rw [show 800 + (m - 800) = m by omega] at this
    exact this
  ·rw [show m - 800 = 0 by omega,Nat.pow_zero,Nat.div_one,Nat.mod_one]
   constructor
   ·have:=dvN_behind (s:=s') (k:=m) (by rw [h.nd];omega) (800 - m)
    rw [show m + (800 - m) = 800 by omega,hw m (by omega)] at this
    exact this
   ·rw [h.tr,tr8_small s a m g];rfl
 have hfr:49 ≤ bz s a:=by have:=hd 0 (by omega);rw [Nat.add_zero] at this;omega
 have hlead:T79 ≤ dvN s' 800:=by
  obtain ⟨r,er,hr⟩:=dvN_split hok 1 n79
  have er:dvN s' 800 = dvN s' 1 * T79 + r:=er
  have e1:=hw 1 (by omega)
  have e2:mvs s a 1 = (bz s a - 48).toNat:=by
   show 0 * 10 + (bz s (a + 0) - 48).toNat = _
   rw [Nat.add_zero];omega
  rw [er,e1,e2]
  have:1 * T79 ≤ (bz s a - 48).toNat * T79:=Nat.mul_le_mul_right _ (by omega)
  omega
 have hN:0 < mvs s a m:=mvs_pos s a hfr m (by omega)
 have hfrac:mvs s a m * 10 ^ (s'.dp - m).toNat * 10 ^ (800 - s'.dp).toNat = mvs s a m * 10 ^ (800 - m) * 10 ^ ((s'.dp - m).toNat + (800 - s'.dp).toNat - (800 - m)) ∧ (10:Nat) ^ (-(s'.dp - m)).toNat = 10 ^ (m - 800) * 10 ^ ((s'.dp - m).toNat + (800 - s'.dp).toNat - (800 - m)):=by
  constructor
  ·rw [Nat.mul_assoc,← Nat.pow_add,Nat.mul_assoc,← Nat.pow_add];congr 2;omega
  ·rw [← Nat.pow_add];congr 1;omega
 have hT:0 < 10 ^ ((s'.dp - m).toNat + (800 - s'.dp).toNat - (800 - m)):=Nat.pow_pos (by decide)
 have hY:0 < 10 ^ (-(s'.dp - m)).toNat:=Nat.pow_pos (by decide)
 have eL:dvN s' 800 = mvs s a m * 10 ^ (s'.dp - m).toNat * 10 ^ (800 - s'.dp).toNat / 10 ^ (-(s'.dp - m)).toNat:=by
  rw [hfrac.1,hfrac.2,Nat.mul_div_mul_right _ _ hT];exact hL.1
 have eT:s'.tr = decide (mvs s a m * 10 ^ (s'.dp - m).toNat * 10 ^ (800 - s'.dp).toNat % 10 ^ (-(s'.dp - m)).toNat ≠ 0):=by
  rw [hfrac.1,hfrac.2,Nat.mul_mod_mul_right,hL.2]
  apply decide_eq_decide.2
  rw [Ne,Ne,Nat.mul_eq_zero]
  constructor
  ·rintro q (q1 | q1)
   ·exact q q1
   ·omega
  ·intro q q1;exact q (Or.inl q1)
 refine ⟨⟨hok,hn8,hlead⟩,Nat.mul_pos hN (Nat.pow_pos (by decide)),hY,hp,?_,Nat.le_refl _,?_⟩
 ·rw [eL];exact Gr.start hY (Nat.le_refl _)
 ·rw [eL,eT];exact Ex.start hY
end Go.Proofs.YtjlaoeigfokkiaaGreatDoor.dcm
namespace Go.Proofs.YtjlaoeigfokkiaaGreatDoor.fto
open Go.ChangeShapes Go.WideShapes Go.ChangeAt Go.RowKit
open mem Go.Sort
open ints (hide unhide)
set_option linter.unusedVariables false
theorem and_top {m:Nat} (h:m < 9223372036854775808):m &&& 9223372036854775808 = 0:=by
 apply Nat.eq_of_testBit_eq
 intro i
 rw [show (9223372036854775808:Nat) = 2 ^ 63 from rfl,Nat.testBit_and,Nat.testBit_two_pow,Nat.zero_testBit]
 by_cases e:63 = i
 ·subst e
  rw [Nat.testBit_lt_two_pow (show m < 2 ^ 63 from h),Bool.false_and]
 ·rw [decide_eq_false e,Bool.and_false]
set_option maxHeartbeats 1000000 in
set_option maxRecDepth 100000 in
theorem pk_inf (S r:Nat) (x:Int) (w:World) (hS:S = 0 ∨ S = 9223372036854775808) (hr:r < 4503599627370496) (hx:972 ≤ x):Calls Tryz.prog 182 #[.int .u64 ((S + (4503599627370496 + r):Nat):Int),.int .i64 x] w fun e w' => e = .returned (.tuple #[.float .f64 (S + infR),(Value.iface 96 (.int .i64 1))]) ∧ w' = w:=by
 have a:=and52 S (4503599627370496 + r) hS (by omega)
 rw [if_neg (by omega)] at a
 have b:bits .and .u64 ((S + (4503599627370496 + r):Nat):Int) 9223372036854775808 = (S:Int):=by
  have h:=u64_and_nat (S + (4503599627370496 + r)) 9223372036854775808 (by omega) (by decide)
  refine h.trans ?_
  congr 1
  rcases hS with rfl | rfl
  ·rw [Nat.zero_add]
   exact and_top (by omega)
  ·rw [← or_sgn 9223372036854775808 _ (Or.inr rfl) (show 4503599627370496 + r < 9223372036854775808 by omega),Nat.and_or_distrib_right]
   rw [and_top (show 4503599627370496 + r < 9223372036854775808 by omega)]
   rfl
 have c:bits .or .u64 (S:Int) 9218868437227405312 = ((S + infR:Nat):Int):=by
  rcases hS with rfl | rfl <;> decide
 obtain ⟨V,hV⟩:∃ V,V = S + (4503599627370496 + r):=⟨_,rfl⟩
 obtain ⟨V2,hV2⟩:∃ V,V = S + infR:=⟨_,rfl⟩
 have hi0:infR = 9218868437227405312:=rfl
 have l1:V < 18446744073709551616:=by omega
 have l2:V2 < 18446744073709551616:=by omega
 rw [← hV] at a b ⊢
 rw [← hV2] at c ⊢
 have rb:=run_fromb (V2:Int) w
 rw [Int.toNat_natCast] at rb
 clear hV hV2 hi0
 go_enter Tryz.func182,Tryz.ntmps182
 go_wp2
 go_ret2
 exact ⟨rfl,rfl⟩
set_option maxHeartbeats 2000000 in
set_option maxRecDepth 100000 in
theorem parse_loI (d b c s i S U m X R:Nat) (p lp e:Int) (w:World) (hT:PT w) (hg:15 < w.heap.size) (hd0:1 ≤ d) (hd:d < 18446744073709551616) (hb:Lib.bitLen d = b) (hb1:1 ≤ b) (hb2:b ≤ 64) (hc:b + c = 64)
  (hp:-345 ≤ p ∧ p ≤ 310) (hlp:lp = p * 108853 / 32768) (he:min 1074 (53 - (b:Int) - lp) = e) (hi:(i:Int) = p + 348) (hs:-(e - (c:Int) + lp + 3) = (s:Int)) (hs2:s < 64) (hX:d * 2 ^ c = X) (hX2:X < 18446744073709551616) (kk:1 ≤ X * rowH i / 18446744073709551616)
  (hh:rowH i < 18446744073709551616) (hl:rowL i < 18446744073709551616) (hU:U = us X (rowH i) (rowL i) s) (bU:U < 36028797018963966) (hm:m = (U + 1 + U / 4 % 2) / 4) (hm2:m < 9007199254740992) (hS:S = 0 ∨ S = 9223372036854775808)
  (PK:∀ w,Calls Tryz.prog 182 #[.int .u64 ((S + m:Nat):Int),.int .i64 (-e)] w fun e w' => e = .returned (.tuple #[.float .f64 R,(Value.iface 96 (.int .i64 1))]) ∧ w' = w) :
  Calls Tryz.prog 158 #[.int .u64 d,.int .i64 p,.int .u64 S] w fun ed w' => ed = .returned (.tuple #[.float .f64 R,(Value.iface 96 (.int .i64 1))]) ∧ Below w.heap.size w w':=by
 have HPK:=hide PK
 have C2:=hide (fun W => l2_ok p W (by omega))
 rw [← hlp] at C2
 have lpb:-1200 ≤ lp ∧ lp ≤ 1200:=by omega
 have T1:=hide (fun W B hc => uscale_ok X (rowH i) (rowL i) s B W hX2 hh hl hs2 kk hc)
 rw [← hU] at T1
 have N5:=hide (fun W => round_ok U W (by omega))
 rw [← hm] at N5
 have UM:=hide unmin_ok
 have BI:=hide b2i_no
 have nub:decide ((36028797018963966:Int) ≤ (U:Int)) = false:=decide_eq_false (by omega)
 have LN:=hide (fun W => Tryz.bits_Len64 d W (by omega) (by omega))
 have x1:IntKind.u64.wrap ((d:Int) * 2 ^ c) = (X:Int):=by
  have e1:((d:Int) * 2 ^ c) = (X:Int):=by rw [← hX];simp
  rw [e1,IntKind.wrap_u64];omega
 have hc63:(c:Int) < 64:=by omega
 have i7:(64:Int) - (b:Int) = (c:Int):=by omega
 have HS:=hide hs
 have HI:=hide hi
 have HB0:=hide hb
 have eb:-2000 ≤ e ∧ e ≤ 1074:=by omega
 have h1a:=and_one U (by omega)
 have h1b:bits .or .u64 (U:Int) ((U % 2:Nat):Int) = (U:Int):=by
  have h:=u64_or_nat U (U % 2) (by omega) (by omega)
  refine h.trans ?_
  congr 1
  rcases Nat.mod_two_eq_zero_or_one U with h0 | h0
  ·rw [h0,Nat.or_zero]
  ·rw [h0];have:=mem.or_one U;omega
 have hSm:bits .or .u64 (S:Int) (m:Int) = ((S + m:Nat):Int):=by
  refine (u64_or_nat S m (by omega) (by omega)).trans ?_
  rw [or_sgn S m hS (by omega)]
 obtain ⟨V,hV⟩:∃ V,V = S + m:=⟨_,rfl⟩
 rw [← hV] at hSm HPK
 obtain ⟨U2,hU2⟩:∃ U2,U2 = U % 2:=⟨_,rfl⟩
 rw [← hU2] at h1a h1b
 have hSb:S < 18446744073709551616:=by omega
 have hVb:V < 18446744073709551616:=by omega
 have hub:(U:Int) < 36028797018963966:=by omega
 have hi2:i < 696:=by omega
 have HE:=hide he
 clear PK hU hm hX hs hi hb hlp hS hV hU2 kk hh hl he hc
 go_enter Tryz.func158,Tryz.ntmps158
 go_wp2_with fail
 refine (unhide LN _).mono ?_
 rintro ed w1' ⟨rfl,hw⟩
 subst w1'
 rw [Int.toNat_natCast,unhide HB0]
 clear LN
 go_wp2_with fail
 refine (unhide C2 _).mono ?_
 rintro ed w1' ⟨rfl,hw⟩
 subst w1'
 clear C2
 have he:=unhide HE
 go_wp2_with fail
 have HB:=hide (heap_alloc_new w (.cells #[.int .u64 0,.int .u64 0,.int .i64 0] 213))
 have b0:=(Below.refl w.heap.size w).alloc (Nat.le_refl _) (.cells #[.int .u64 0,.int .u64 0,.int .i64 0] 213)
 have HT:PT _:=fun j hj => ⟨(b0.cell (p:=⟨15,2 * j,none⟩) hg).trans (hT j hj).1,(b0.cell (p:=⟨15,2 * j + 1,none⟩) hg).trans (hT j hj).2⟩
 have hne:w.heap.size ≠ 15:=by omega
 refine (prescale_ok w.heap.size _ _ _ _ (e - (c:Int)) p lp i s _ (unhide HB) HT hne (unhide HI) hi2 (unhide HS) (by omega) (by omega)).mono ?_
 rintro ed w3 ⟨rfl,hB3,b3⟩
 have S3:=Sca.of_heap hB3
 have s2:=S3.sh
 have b3':=b0.trans b3
 clear HB HT hB3 b0 b3 hT he
 have hsz3:w.heap.size ≤ w3.heap.size:=b3'.size
 have is2:(s:Int) < 64:=by omega
 have HBD:=hide (⟨bU,hub,hm2,hSb,hVb⟩:U < 36028797018963966 ∧ (U:Int) < 36028797018963966 ∧ m < 9007199254740992 ∧ S < 18446744073709551616 ∧ V < 18446744073709551616)
 clear bU hub hm2 hX2 hd hSb hVb
 go_wp2_with fail
 refine (unhide T1 _ _ S3).mono ?_
 rintro ed w4 ⟨rfl,b4⟩
 have b4':=hide (b3'.trans (b4.mono hsz3))
 clear T1 S3 b4 b3' hsz3 s2
 obtain ⟨bU,hub,hm2,hSb,hVb⟩:=unhide HBD
 go_wp2_with fail
 refine (unhide UM _).mono ?_
 rintro ed w5 ⟨rfl,hw⟩
 subst w5
 go_wp2_with fail
 refine (unhide BI _).mono ?_
 rintro ed w5 ⟨rfl,hw⟩
 subst w5
 go_wp2_with fail
 refine (unhide N5 _).mono ?_
 rintro ed w5 ⟨rfl,hw⟩
 subst w5
 go_wp2_with fail
 refine (unhide HPK _).mono ?_
 rintro ed w5 ⟨rfl,hw⟩
 subst w5
 go_wp2
 go_ret2
 exact ⟨rfl,unhide b4'⟩
set_option maxHeartbeats 2000000 in
set_option maxRecDepth 100000 in
theorem parse_hiI (d b c s i S U m X R:Nat) (p lp e:Int) (w:World) (hT:PT w) (hg:15 < w.heap.size) (hd0:1 ≤ d) (hd:d < 18446744073709551616) (hb:Lib.bitLen d = b) (hb1:1 ≤ b) (hb2:b ≤ 64) (hc:b + c = 64)
  (hp:-345 ≤ p ∧ p ≤ 310) (hlp:lp = p * 108853 / 32768) (he:min 1074 (53 - (b:Int) - lp) = e) (hi:(i:Int) = p + 348) (hs:-(e - (c:Int) + lp + 3) = (s:Int)) (hs2:s < 64) (hX:d * 2 ^ c = X) (hX2:X < 18446744073709551616) (kk:1 ≤ X * rowH i / 18446744073709551616)
  (hh:rowH i < 18446744073709551616) (hl:rowL i < 18446744073709551616) (hU:U = us X (rowH i) (rowL i) s) (bU:36028797018963966 ≤ U) (bU2:U < 9223372036854775808) (hm:m = (((U / 2) ||| (U % 2)) + 1 + ((U / 2) ||| (U % 2)) / 4 % 2) / 4) (hm2:m < 9007199254740992) (hS:S = 0 ∨ S = 9223372036854775808)
  (PK:∀ w,Calls Tryz.prog 182 #[.int .u64 ((S + m:Nat):Int),.int .i64 (-(e - 1))] w fun e w' => e = .returned (.tuple #[.float .f64 R,(Value.iface 96 (.int .i64 1))]) ∧ w' = w) :
  Calls Tryz.prog 158 #[.int .u64 d,.int .i64 p,.int .u64 S] w fun ed w' => ed = .returned (.tuple #[.float .f64 R,(Value.iface 96 (.int .i64 1))]) ∧ Below w.heap.size w w':=by
 have HPK:=hide PK
 have C2:=hide (fun W => l2_ok p W (by omega))
 rw [← hlp] at C2
 have lpb:-1200 ≤ lp ∧ lp ≤ 1200:=by omega
 have T1:=hide (fun W B hc => uscale_ok X (rowH i) (rowL i) s B W hX2 hh hl hs2 kk hc)
 rw [← hU] at T1
 have hV3:(U / 2) ||| (U % 2) < 9223372036854775808:=Nat.or_lt_two_pow (n:=63) (by omega) (by omega)
 have N5:=hide (fun W => round_ok ((U / 2) ||| (U % 2)) W (by omega))
 rw [← hm] at N5
 have UM:=hide unmin_ok
 have BI:=hide b2i_yes
 have nub:decide ((36028797018963966:Int) ≤ (U:Int)) = true:=decide_eq_true (by omega)
 have LN:=hide (fun W => Tryz.bits_Len64 d W (by omega) (by omega))
 have x1:IntKind.u64.wrap ((d:Int) * 2 ^ c) = (X:Int):=by
  have e1:((d:Int) * 2 ^ c) = (X:Int):=by rw [← hX];simp
  rw [e1,IntKind.wrap_u64];omega
 have hc63:(c:Int) < 64:=by omega
 have i7:(64:Int) - (b:Int) = (c:Int):=by omega
 have HS:=hide hs
 have HI:=hide hi
 have HB0:=hide hb
 have eb:-2000 ≤ e ∧ e ≤ 1074:=by omega
 have h1a:=and_one U (by omega)
 have h1b:bits .or .u64 ((U:Int) / 2) ((U % 2:Nat):Int) = (((U / 2) ||| (U % 2):Nat):Int):=u64_or_nat (U / 2) (U % 2) (by omega) (by omega)
 obtain ⟨V3,hV3e⟩:∃ V3,V3 = (U / 2) ||| (U % 2):=⟨_,rfl⟩
 rw [← hV3e] at h1b N5 hV3
 have hSm:bits .or .u64 (S:Int) (m:Int) = ((S + m:Nat):Int):=by
  refine (u64_or_nat S m (by omega) (by omega)).trans ?_
  rw [or_sgn S m hS (by omega)]
 obtain ⟨V,hV⟩:∃ V,V = S + m:=⟨_,rfl⟩
 rw [← hV] at hSm HPK
 obtain ⟨U2,hU2⟩:∃ U2,U2 = U % 2:=⟨_,rfl⟩
 rw [← hU2] at h1a h1b
 have hSb:S < 18446744073709551616:=by omega
 have hVb:V < 18446744073709551616:=by omega
 have hub:(36028797018963966:Int) ≤ (U:Int):=by omega
 have hUi:(U:Int) < 9223372036854775808:=by omega
 have hV3i:V3 < 18446744073709551616:=by omega
 have hi2:i < 696:=by omega
 have HE:=hide he
 clear hV3e hV3 PK hU hm hX hs hi hb hlp hS hV hU2 kk hh hl he hc
 go_enter Tryz.func158,Tryz.ntmps158
 go_wp2_with fail
 refine (unhide LN _).mono ?_
 rintro ed w1' ⟨rfl,hw⟩
 subst w1'
 rw [Int.toNat_natCast,unhide HB0]
 clear LN
 go_wp2_with fail
 refine (unhide C2 _).mono ?_
 rintro ed w1' ⟨rfl,hw⟩
 subst w1'
 clear C2
 have he:=unhide HE
 go_wp2_with fail
 have HB:=hide (heap_alloc_new w (.cells #[.int .u64 0,.int .u64 0,.int .i64 0] 213))
 have b0:=(Below.refl w.heap.size w).alloc (Nat.le_refl _) (.cells #[.int .u64 0,.int .u64 0,.int .i64 0] 213)
 have HT:PT _:=fun j hj => ⟨(b0.cell (p:=⟨15,2 * j,none⟩) hg).trans (hT j hj).1,(b0.cell (p:=⟨15,2 * j + 1,none⟩) hg).trans (hT j hj).2⟩
 have hne:w.heap.size ≠ 15:=by omega
 refine (prescale_ok w.heap.size _ _ _ _ (e - (c:Int)) p lp i s _ (unhide HB) HT hne (unhide HI) hi2 (unhide HS) (by omega) (by omega)).mono ?_
 rintro ed w3 ⟨rfl,hB3,b3⟩
 have S3:=Sca.of_heap hB3
 have s2:=S3.sh
 have b3':=b0.trans b3
 clear HB HT hB3 b0 b3 hT he
 have hsz3:w.heap.size ≤ w3.heap.size:=b3'.size
 have is2:(s:Int) < 64:=by omega
 have HBD:=hide (⟨bU,hub,hUi,hV3i,hm2,hSb,hVb⟩:36028797018963966 ≤ U ∧ (36028797018963966:Int) ≤ (U:Int) ∧ (U:Int) < 9223372036854775808 ∧ V3 < 18446744073709551616 ∧ m < 9007199254740992 ∧ S < 18446744073709551616 ∧ V < 18446744073709551616)
 clear bU bU2 hub hUi hV3i hm2 hX2 hd hSb hVb
 go_wp2_with fail
 refine (unhide T1 _ _ S3).mono ?_
 rintro ed w4 ⟨rfl,b4⟩
 have b4':=hide (b3'.trans (b4.mono hsz3))
 clear T1 S3 b4 b3' hsz3 s2
 obtain ⟨bU,hub,hUi,hV3i,hm2,hSb,hVb⟩:=unhide HBD
 go_wp2_with fail
 refine (unhide UM _).mono ?_
 rintro ed w5 ⟨rfl,hw⟩
 subst w5
 go_wp2_with fail
 refine (unhide BI _).mono ?_
 rintro ed w5 ⟨rfl,hw⟩
 subst w5
 go_wp2_with fail
 refine (unhide N5 _).mono ?_
 rintro ed w5 ⟨rfl,hw⟩
 subst w5
 go_wp2_with fail
 refine (unhide HPK _).mono ?_
 rintro ed w5 ⟨rfl,hw⟩
 subst w5
 go_wp2
 go_ret2
 exact ⟨rfl,unhide b4'⟩
theorem parse_inf (d S:Nat) (p:Int) (hd0:1 ≤ d) (hd:d < 18446744073709551616) (hp:-345 ≤ p ∧ p ≤ 310) (hS:S = 0 ∨ S = 9223372036854775808) :
  ∃ lo,Lo (d * 10 ^ p.toNat * k74) (10 ^ (-p).toNat) lo ∧ (roundR (d * 10 ^ p.toNat * k74) (10 ^ (-p).toNat) lo ≥ infR → ∀ w,PT w → 15 < w.heap.size →
   Calls Tryz.prog 158 #[.int .u64 d,.int .i64 p,.int .u64 S] w fun ed w' => ed = .returned (.tuple #[.float .f64 (S + infR),(Value.iface 96 (.int .i64 1))]) ∧ Below w.heap.size w w'):=by
 obtain ⟨k,hk⟩:∃ k,k = Nat.log2 d:=⟨_,rfl⟩
 have k0:2 ^ k ≤ d:=by rw [hk];exact Nat.log2_self_le (by omega)
 have k1:d < 2 ^ (k + 1):=by rw [hk];exact Nat.lt_log2_self
 have k63:k ≤ 63:=by
  rcases Nat.lt_or_ge 63 k with h | h
  ·have:=Nat.pow_le_pow_right (by decide:0 < 2) (show 64 ≤ k from h)
   have e:(2:Nat) ^ 64 = 18446744073709551616:=rfl
   omega
  ·exact h
 obtain ⟨c,hc⟩:∃ c,c = 63 - k:=⟨_,rfl⟩
 obtain ⟨b,hb⟩:∃ b,b = k + 1:=⟨_,rfl⟩
 have hbl:Lib.bitLen d = b:=by rw [hb];exact bitLen_at k0 k1 hd
 have hbc:b + c = 64:=by omega
 have hx0:9223372036854775808 ≤ d * 2 ^ c:=by
  have:=Nat.mul_le_mul_right (2 ^ c) k0
  rw [← Nat.pow_add,show k + c = 63 by omega] at this
  exact this
 have hx:d * 2 ^ c < 18446744073709551616:=by
  have:=Nat.mul_lt_mul_of_pos_right k1 (Nat.two_pow_pos c)
  rw [← Nat.pow_add,show k + 1 + c = 64 by omega] at this
  exact this
 obtain ⟨lp,hlp⟩:∃ lp,lp = p * 108853 / 32768:=⟨_,rfl⟩
 obtain ⟨e,he⟩:∃ e:Int,e = min 1074 (53 - (b:Int) - lp):=⟨_,rfl⟩
 obtain ⟨s,hs⟩:∃ s:Nat,(s:Int) = 61 - (b:Int) - e - lp:=⟨(61 - (b:Int) - e - lp).toNat,by omega⟩
 obtain ⟨K,hK⟩:∃ K:Nat,(K:Int) = 1074 - e:=⟨(1074 - e).toNat,by omega⟩
 obtain ⟨i,hi⟩:∃ i:Nat,(i:Int) = p + 348:=⟨(p + 348).toNat,by omega⟩
 have hs8:8 ≤ s:=by omega
 have hc64:64 - b = c:=by omega
 obtain ⟨U,hU⟩:∃ U,U = un (d * 2 ^ c * eA p) (q64 * q64 * eB p * 2 ^ s):=⟨_,rfl⟩
 obtain ⟨lo,hlo,A1,A2,A3⟩:=prs_ok d b s K p e (by omega) (by omega) (by omega) (by rw [hc64];exact hx0) (by rw [hc64];exact hx) (by rw [he,hlp];rfl) (by rw [hs,hlp];rfl) hK U (by rw [hc64];exact hU)
 refine ⟨lo,hlo,fun hR w hT hg => ?_⟩
 have hs':-(e - (c:Int) + lp + 3) = (s:Int):=by omega
 rcases Nat.lt_or_ge s 64 with h64 | h64
 ·have hie:i = (p + 348).toNat:=by omega
  have hh:=tab_hi p (by omega) (by omega)
  have hHi:rowH i = tabH p:=by rw [hie];rfl
  have hLi:rowL i = tabL p:=by rw [hie];rfl
  have hUs:U = us (d * 2 ^ c) (rowH i) (rowL i) s:=by rw [hU,hHi,hLi];exact (uscale_read p (by omega) (by omega) _ s hx0 hx hs8).symm
  have kk:1 ≤ d * 2 ^ c * rowH i / 18446744073709551616:=by
   rw [hHi]
   have:=Nat.mul_le_mul hx0 hh.1
   omega
  have q:q64 = 18446744073709551616:=rfl
  have e52:b52 = 4503599627370496:=rfl
  have e53:b53 = 9007199254740992:=rfl
  have eI:infR = 9218868437227405312:=rfl
  generalize roundR (d * 10 ^ p.toNat * k74) (10 ^ (-p).toNat) lo = R at *
  rcases Nat.lt_or_ge U 36028797018963966 with hlt | hge
  ·obtain ⟨r1,r2,r3⟩:=A1 (by omega)
   obtain ⟨m,hm⟩:∃ m,m = (U + 1 + U / 4 % 2) / 4:=⟨_,rfl⟩
   rw [← hm] at r1 r2 r3
   simp only [e52] at r1
   refine parse_loI d b c s i S U m (d * 2 ^ c) (S + infR) p lp e w hT hg hd0 hd hbl (by omega) (by omega) hbc hp hlp he.symm hi hs' h64 rfl hx kk (by rw [hHi];omega) (by rw [hLi];omega) hUs hlt hm (by omega) hS ?_
   intro W
   have:=pk_inf S (m - 4503599627370496) (-e) W hS (by omega) (by omega)
   rw [show 4503599627370496 + (m - 4503599627370496) = m by omega] at this
   exact this
  ·obtain ⟨r1,r2,r3⟩:=A2 (by omega)
   obtain ⟨m,hm⟩:∃ m,m = (((U / 2) ||| (U % 2)) + 1 + ((U / 2) ||| (U % 2)) / 4 % 2) / 4:=⟨_,rfl⟩
   rw [← hm] at r1 r2 r3
   simp only [e52] at r1
   have hle:U / 2 ≤ (U / 2) ||| (U % 2):=Nat.left_le_or
   refine parse_hiI d b c s i S U m (d * 2 ^ c) (S + infR) p lp e w hT hg hd0 hd hbl (by omega) (by omega) hbc hp hlp he.symm hi hs' h64 rfl hx kk (by rw [hHi];omega) (by rw [hLi];omega) hUs hge (by omega) hm (by omega) hS ?_
   intro W
   have:=pk_inf S (m - 4503599627370496) (-(e - 1)) W hS (by omega) (by omega)
   rw [show 4503599627370496 + (m - 4503599627370496) = m by omega] at this
   exact this
 ·rw [A3 h64] at hR
  exact absurd hR (by decide)
end Go.Proofs.YtjlaoeigfokkiaaGreatDoor.fto
namespace Go.Proofs
open Go.Shelf
def Tryz.laysC245_ren:Go.Shelf.Ren:=⟨fun | 245 => 38 | 279 => 58 | 280 => 59 | 281 => 60 | 282 => 61 | 316 => 91 | 171 => 93 | 205 => 92 | 243 => 118 | 246 => 56 | 283 => 85 | 284 => 86 | 285 => 87 | 286 => 88 | 129 => 114 | 317 => 113 | 318 => 115 | 319 => 116 | 320 => 117 | 337 => 142 | 338 => 143 | n => n,fun | 9 => 9 | 3 => 3 | 75 => 53 | 167 => 96 | 4 => 4 | 168 => 100 | 210 => 137 | 37 => 45 | 0 => 0 | 127 => 153 | 145 => 164 | 143 => 162 | 2 => 2 | 171 => 129 | 53 => 31 | 5 => 5 | 173 => 132 | 212 => 159 | 51 => 114 | 20 => 20 | 213 => 160 | 46 => 99 | 232 => 174 | 233 => 224 | 80 => 124 | n => n,fun | 15 => 1 | 16 => 2 | 17 => 3 | 18 => 10 | 19 => 11 | n => n⟩
theorem Tryz.laysC245:Go.Proofs.LaysC.n245 Tryz.prog Tryz.laysC245_ren:={
  mixed:=by kernel_rfl
  f129:=Tryz.func114.trans (congrArg some (by kernel_rfl))
  f171:=Tryz.func93.trans (congrArg some (by kernel_rfl))
  f205:=Tryz.func92.trans (congrArg some (by kernel_rfl))
  f243:=Tryz.func118.trans (congrArg some (by kernel_rfl))
  f245:=Tryz.func38.trans (congrArg some (by kernel_rfl))
  f246:=Tryz.func56.trans (congrArg some (by kernel_rfl))
  f279:=Tryz.func58.trans (congrArg some (by kernel_rfl))
  f280:=Tryz.func59.trans (congrArg some (by kernel_rfl))
  f281:=Tryz.func60.trans (congrArg some (by kernel_rfl))
  f282:=Tryz.func61.trans (congrArg some (by kernel_rfl))
  f283:=Tryz.func85.trans (congrArg some (by kernel_rfl))
  f284:=Tryz.func86.trans (congrArg some (by kernel_rfl))
  f285:=Tryz.func87.trans (congrArg some (by kernel_rfl))
  f286:=Tryz.func88.trans (congrArg some (by kernel_rfl))
  f316:=Tryz.func91.trans (congrArg some (by kernel_rfl))
  f317:=Tryz.func113.trans (congrArg some (by kernel_rfl))
  f318:=Tryz.func115.trans (congrArg some (by kernel_rfl))
  f319:=Tryz.func116.trans (congrArg some (by kernel_rfl))
  f320:=Tryz.func117.trans (congrArg some (by kernel_rfl))
  f337:=Tryz.func142.trans (congrArg some (by kernel_rfl))
  f338:=Tryz.func143.trans (congrArg some (by kernel_rfl))
  t0:=Tryz.underlying0
  a0:=Tryz.isAgg0
  z0:=Tryz.sizeOf0
  v0:=Tryz.zeroValue0
  t2:=Tryz.underlying2
  a2:=Tryz.isAgg2
  z2:=Tryz.sizeOf2
  v2:=Tryz.zeroValue2
  t3:=Tryz.underlying3
  a3:=Tryz.isAgg3
  z3:=Tryz.sizeOf3
  v3:=Tryz.zeroValue3
  t4:=Tryz.underlying4
  a4:=Tryz.isAgg4
  z4:=Tryz.sizeOf4
  v4:=Tryz.zeroValue4
  t5:=Tryz.underlying5
  a5:=Tryz.isAgg5
  z5:=Tryz.sizeOf5
  v5:=Tryz.zeroValue5
  t9:=Tryz.underlying9
  a9:=Tryz.isAgg9
  z9:=Tryz.sizeOf9
  v9:=Tryz.zeroValue9
  t20:=Tryz.underlying20
  a20:=Tryz.isAgg20
  z20:=Tryz.sizeOf20
  v20:=Tryz.zeroValue20
  t37:=Tryz.underlying45
  a37:=Tryz.isAgg45
  z37:=Tryz.sizeOf45
  v37:=Tryz.zeroValue45
  t46:=Tryz.underlying99
  a46:=Tryz.isAgg99
  z46:=Tryz.sizeOf99
  v46:=Tryz.zeroValue99
  t51:=Tryz.underlying114
  a51:=Tryz.isAgg114
  z51:=Tryz.sizeOf114
  v51:=Tryz.zeroValue114
  t53:=Tryz.underlying31
  a53:=Tryz.isAgg31
  z53:=Tryz.sizeOf31
  v53:=Tryz.zeroValue31
  t75:=Tryz.underlying53
  a75:=Tryz.isAgg53
  z75:=Tryz.sizeOf53
  v75:=Tryz.zeroValue53
  t127:=Tryz.underlying153
  a127:=Tryz.isAgg153
  z127:=Tryz.sizeOf153
  v127:=Tryz.zeroValue153
  t143:=Tryz.underlying162
  a143:=Tryz.isAgg162
  z143:=Tryz.sizeOf162
  v143:=Tryz.zeroValue162
  t145:=Tryz.underlying164
  a145:=Tryz.isAgg164
  z145:=Tryz.sizeOf164
  v145:=Tryz.zeroValue164
  t167:=Tryz.underlying96
  a167:=Tryz.isAgg96
  z167:=Tryz.sizeOf96
  v167:=Tryz.zeroValue96
  t168:=Tryz.underlying100
  a168:=Tryz.isAgg100
  z168:=Tryz.sizeOf100
  v168:=Tryz.zeroValue100
  t171:=Tryz.underlying129
  a171:=Tryz.isAgg129
  z171:=Tryz.sizeOf129
  v171:=Tryz.zeroValue129
  t173:=Tryz.underlying132
  a173:=Tryz.isAgg132
  z173:=Tryz.sizeOf132
  v173:=Tryz.zeroValue132
  t210:=Tryz.underlying137
  a210:=Tryz.isAgg137
  z210:=Tryz.sizeOf137
  v210:=Tryz.zeroValue137
  t212:=Tryz.underlying159
  a212:=Tryz.isAgg159
  z212:=Tryz.sizeOf159
  v212:=Tryz.zeroValue159
  t213:=Tryz.underlying160
  a213:=Tryz.isAgg160
  z213:=Tryz.sizeOf160
  t232:=Tryz.underlying174
  a232:=Tryz.isAgg174
  z232:=Tryz.sizeOf174
  v232:=Tryz.zeroValue174
  t233:=Tryz.underlying224
  a233:=Tryz.isAgg224
  z233:=Tryz.sizeOf224
  v233:=Tryz.zeroValue224
  g15:=by kernel_rfl
  g16:=by kernel_rfl
  g17:=by kernel_rfl
  g18:=by kernel_rfl
  g19:=by kernel_rfl
  t80:=Tryz.underlying124
  a80:=Tryz.isAgg124
  z80:=Tryz.sizeOf124
  v80:=Tryz.zeroValue124
  i0:=by kernel_rfl
  i2:=by kernel_rfl
  i3:=by kernel_rfl
  i4:=by kernel_rfl
  i5:=by kernel_rfl
  i9:=by kernel_rfl
  i20:=by kernel_rfl
  i37:=by kernel_rfl
  i46:=by kernel_rfl
  i51:=by kernel_rfl
  i53:=by kernel_rfl
  i75:=by kernel_rfl
  i80:=by kernel_rfl
  i127:=by kernel_rfl
  i143:=by kernel_rfl
  i145:=by kernel_rfl
  i167:=by kernel_rfl
  i168:=by kernel_rfl
  i171:=by kernel_rfl
  i173:=by kernel_rfl
  i210:=by kernel_rfl
  i212:=by kernel_rfl
  i232:=by kernel_rfl
  i233:=by kernel_rfl
  m15:=by kernel_rfl
  m16:=by kernel_rfl
  m17:=by kernel_rfl
  m18:=by kernel_rfl
  m19:=by kernel_rfl
  c0:=by kernel_rfl
  c2:=by kernel_rfl
  c3:=by kernel_rfl
  c4:=by kernel_rfl
  c5:=by kernel_rfl
  c9:=by kernel_rfl
  c20:=by kernel_rfl
  c37:=by kernel_rfl
  c46:=by kernel_rfl
  c51:=by kernel_rfl
  c53:=by kernel_rfl
  c75:=by kernel_rfl
  c80:=by kernel_rfl
  c127:=by kernel_rfl
  c143:=by kernel_rfl
  c145:=by kernel_rfl
  c167:=by kernel_rfl
  c168:=by kernel_rfl
  c171:=by kernel_rfl
  c173:=by kernel_rfl
  c210:=by kernel_rfl
  c212:=by kernel_rfl
  c213:=by kernel_rfl
  c232:=by kernel_rfl
  c233:=by kernel_rfl }
open Go.RowKit in
theorem Tryz.strconv_toError_range (fn s:ByteArray) (base bits:Int) (ev:Value) (w:World) (hlim:s.size ≤ 281474976710656) (hv:w.cell? ⟨2,0,none⟩ = some ev) (hev:ev = .nilIface ∨ ∃ te pe,ev = .iface te pe) :
    Calls Tryz.prog 38 #[.string fn,.string s,.int .i64 base,.int .i64 bits,.iface 96 (.int .i64 1)] w fun e w' => ∃ N,e = .returned (.iface 100 (.pointer (some ⟨N,0,none⟩))) ∧ w.heap.size ≤ N ∧ w'.heap[N]? = some (.cells #[.string fn,.string s,ev] 137 (0,0)) ∧ Below w.heap.size w w':=Any.strconv_toError_range Tryz.laysC245 fn s base bits ev w hlim hv hev
end Go.Proofs
