import Derived.Test.YtdogjghalplohaaGreatDoorJs19
import Derived.Test.YtdogjghalplohaaGreatDoorJs16
import Derived.Test.YtdogjghalplohaaGreatDoorJs17
import Derived.Test.YtdogjghalplohaaGreatDoorJs18
import Derived.Test.YtdogjghalplohaaGreatDoorJs14
namespace Go.Proofs.YtdogjghalplohaaGreatDoor.fto
open Go.ChangeShapes Go.WideShapes Go.ChangeAt Go.RowKit
open mem Go.Sort
open ints (hide unhide)
set_option linter.unusedVariables false
theorem unmin_ok (w:World):Calls Tryz.prog 205 #[.int .u64 9007199254740992] w fun e w' => e = .returned (.int .u64 36028797018963966) ∧ w' = w:=by
 go_enter Tryz.func205,Tryz.ntmps205
 go_wp2
 go_ret
 exact ⟨rfl,rfl⟩
theorem b2i_no (w:World):Calls Tryz.prog 162 #[.bool false] w fun e w' => e = .returned (.int .i64 0) ∧ w' = w:=by
 go_enter Tryz.func162,Tryz.ntmps162
 go_wp2
 go_ret
 exact ⟨rfl,rfl⟩
theorem b2i_yes (w:World):Calls Tryz.prog 162 #[.bool true] w fun e w' => e = .returned (.int .i64 1) ∧ w' = w:=by
 go_enter Tryz.func162,Tryz.ntmps162
 go_wp2
 go_ret
 exact ⟨rfl,rfl⟩
set_option maxHeartbeats 2000000 in
set_option maxRecDepth 100000 in
theorem parse_lo (d b c s i S U m X R:Nat) (p lp e:Int) (w:World) (hT:PT w) (hg:15 < w.heap.size) (hd0:1 ≤ d) (hd:d < 18446744073709551616) (hb:Lib.bitLen d = b) (hb1:1 ≤ b) (hb2:b ≤ 64) (hc:b + c = 64)
  (hp:-345 ≤ p ∧ p ≤ 310) (hlp:lp = p * 108853 / 32768) (he:min 1074 (53 - (b:Int) - lp) = e) (hi:(i:Int) = p + 348) (hs:-(e - (c:Int) + lp + 3) = (s:Int)) (hs2:s < 64) (hX:d * 2 ^ c = X) (hX2:X < 18446744073709551616) (kk:1 ≤ X * rowH i / 18446744073709551616)
  (hh:rowH i < 18446744073709551616) (hl:rowL i < 18446744073709551616) (hU:U = us X (rowH i) (rowL i) s) (bU:U < 36028797018963966) (hm:m = (U + 1 + U / 4 % 2) / 4) (hm2:m < 9007199254740992) (hS:S = 0 ∨ S = 9223372036854775808)
  (PK:∀ w,Calls Tryz.prog 210 #[.int .u64 ((S + m:Nat):Int),.int .i64 (-e)] w fun e w' => e = .returned (.tuple #[.float .f64 R,.nilIface]) ∧ w' = w) :
  Calls Tryz.prog 186 #[.int .u64 d,.int .i64 p,.int .u64 S] w fun ed w' => ed = .returned (.tuple #[.float .f64 R,.nilIface]) ∧ Below w.heap.size w w':=by
 have HPK:=hide PK
 have C2:=hide (fun W => l2_ok p W (by omega))
 rw [← hlp] at C2
 have lpb:-1200 ≤ lp ∧ lp ≤ 1200:=by omega
 have T1:=hide (fun W B hc => uscale_ok X (rowH i) (rowL i) s B W hX2 hh hl hs2 kk hc)
 rw [← hU] at T1
 have N5:=hide (fun W => round_ok U W (by omega))
 rw [← hm] at N5
 have UM:=hide unmin_ok
 have BI:=hide b2i_no
 have nub:decide ((36028797018963966:Int) ≤ (U:Int)) = false:=decide_eq_false (by omega)
 have LN:=hide (fun W => Tryz.bits_Len64 d W (by omega) (by omega))
 have x1:IntKind.u64.wrap ((d:Int) * 2 ^ c) = (X:Int):=by
  have e1:((d:Int) * 2 ^ c) = (X:Int):=by rw [← hX];simp
  rw [e1,IntKind.wrap_u64];omega
 have hc63:(c:Int) < 64:=by omega
 have i7:(64:Int) - (b:Int) = (c:Int):=by omega
 have HS:=hide hs
 have HI:=hide hi
 have HB0:=hide hb
 have eb:-2000 ≤ e ∧ e ≤ 1074:=by omega
 have h1a:=and_one U (by omega)
 have h1b:bits .or .u64 (U:Int) ((U % 2:Nat):Int) = (U:Int):=by
  have h:=u64_or_nat U (U % 2) (by omega) (by omega)
  refine h.trans ?_
  congr 1
  rcases Nat.mod_two_eq_zero_or_one U with h0 | h0
  ·rw [h0,Nat.or_zero]
  ·rw [h0];have:=mem.or_one U;omega
 have hSm:bits .or .u64 (S:Int) (m:Int) = ((S + m:Nat):Int):=by
  refine (u64_or_nat S m (by omega) (by omega)).trans ?_
  rw [or_sgn S m hS (by omega)]
 obtain ⟨V,hV⟩:∃ V,V = S + m:=⟨_,rfl⟩
 rw [← hV] at hSm HPK
 obtain ⟨U2,hU2⟩:∃ U2,U2 = U % 2:=⟨_,rfl⟩
 rw [← hU2] at h1a h1b
 have hSb:S < 18446744073709551616:=by omega
 have hVb:V < 18446744073709551616:=by omega
 have hub:(U:Int) < 36028797018963966:=by omega
 have hi2:i < 696:=by omega
 have HE:=hide he
 clear PK hU hm hX hs hi hb hlp hS hV hU2 kk hh hl he hc
 go_enter Tryz.func186,Tryz.ntmps186
 go_wp2_with fail
 refine (unhide LN _).mono ?_
 rintro ed w1' ⟨rfl,hw⟩
 subst w1'
 rw [Int.toNat_natCast,unhide HB0]
 clear LN
 go_wp2_with fail
 refine (unhide C2 _).mono ?_
 rintro ed w1' ⟨rfl,hw⟩
 subst w1'
 clear C2
 have he:=unhide HE
 go_wp2_with fail
 have HB:=hide (heap_alloc_new w (.cells #[.int .u64 0,.int .u64 0,.int .i64 0] 249))
 have b0:=(Below.refl w.heap.size w).alloc (Nat.le_refl _) (.cells #[.int .u64 0,.int .u64 0,.int .i64 0] 249)
 have HT:PT _:=fun j hj => ⟨(b0.cell (p:=⟨15,2 * j,none⟩) hg).trans (hT j hj).1,(b0.cell (p:=⟨15,2 * j + 1,none⟩) hg).trans (hT j hj).2⟩
 have hne:w.heap.size ≠ 15:=by omega
 refine (prescale_ok w.heap.size _ _ _ _ (e - (c:Int)) p lp i s _ (unhide HB) HT hne (unhide HI) hi2 (unhide HS) (by omega) (by omega)).mono ?_
 rintro ed w3 ⟨rfl,hB3,b3⟩
 have S3:=Sca.of_heap hB3
 have s2:=S3.sh
 have b3':=b0.trans b3
 clear HB HT hB3 b0 b3 hT he
 have hsz3:w.heap.size ≤ w3.heap.size:=b3'.size
 have is2:(s:Int) < 64:=by omega
 have HBD:=hide (⟨bU,hub,hm2,hSb,hVb⟩:U < 36028797018963966 ∧ (U:Int) < 36028797018963966 ∧ m < 9007199254740992 ∧ S < 18446744073709551616 ∧ V < 18446744073709551616)
 clear bU hub hm2 hX2 hd hSb hVb
 go_wp2_with fail
 refine (unhide T1 _ _ S3).mono ?_
 rintro ed w4 ⟨rfl,b4⟩
 have b4':=hide (b3'.trans (b4.mono hsz3))
 clear T1 S3 b4 b3' hsz3 s2
 obtain ⟨bU,hub,hm2,hSb,hVb⟩:=unhide HBD
 go_wp2_with fail
 refine (unhide UM _).mono ?_
 rintro ed w5 ⟨rfl,hw⟩
 subst w5
 go_wp2_with fail
 refine (unhide BI _).mono ?_
 rintro ed w5 ⟨rfl,hw⟩
 subst w5
 go_wp2_with fail
 refine (unhide N5 _).mono ?_
 rintro ed w5 ⟨rfl,hw⟩
 subst w5
 go_wp2_with fail
 refine (unhide HPK _).mono ?_
 rintro ed w5 ⟨rfl,hw⟩
 subst w5
 go_wp2
 go_ret2
 exact ⟨rfl,unhide b4'⟩
set_option maxHeartbeats 2000000 in
set_option maxRecDepth 100000 in
theorem parse_hi (d b c s i S U m X R:Nat) (p lp e:Int) (w:World) (hT:PT w) (hg:15 < w.heap.size) (hd0:1 ≤ d) (hd:d < 18446744073709551616) (hb:Lib.bitLen d = b) (hb1:1 ≤ b) (hb2:b ≤ 64) (hc:b + c = 64)
  (hp:-345 ≤ p ∧ p ≤ 310) (hlp:lp = p * 108853 / 32768) (he:min 1074 (53 - (b:Int) - lp) = e) (hi:(i:Int) = p + 348) (hs:-(e - (c:Int) + lp + 3) = (s:Int)) (hs2:s < 64) (hX:d * 2 ^ c = X) (hX2:X < 18446744073709551616) (kk:1 ≤ X * rowH i / 18446744073709551616)
  (hh:rowH i < 18446744073709551616) (hl:rowL i < 18446744073709551616) (hU:U = us X (rowH i) (rowL i) s) (bU:36028797018963966 ≤ U) (bU2:U < 9223372036854775808) (hm:m = (((U / 2) ||| (U % 2)) + 1 + ((U / 2) ||| (U % 2)) / 4 % 2) / 4) (hm2:m < 9007199254740992) (hS:S = 0 ∨ S = 9223372036854775808)
  (PK:∀ w,Calls Tryz.prog 210 #[.int .u64 ((S + m:Nat):Int),.int .i64 (-(e - 1))] w fun e w' => e = .returned (.tuple #[.float .f64 R,.nilIface]) ∧ w' = w) :
  Calls Tryz.prog 186 #[.int .u64 d,.int .i64 p,.int .u64 S] w fun ed w' => ed = .returned (.tuple #[.float .f64 R,.nilIface]) ∧ Below w.heap.size w w':=by
 have HPK:=hide PK
 have C2:=hide (fun W => l2_ok p W (by omega))
 rw [← hlp] at C2
 have lpb:-1200 ≤ lp ∧ lp ≤ 1200:=by omega
 have T1:=hide (fun W B hc => uscale_ok X (rowH i) (rowL i) s B W hX2 hh hl hs2 kk hc)
 rw [← hU] at T1
 have hV3:(U / 2) ||| (U % 2) < 9223372036854775808:=Nat.or_lt_two_pow (n:=63) (by omega) (by omega)
 have N5:=hide (fun W => round_ok ((U / 2) ||| (U % 2)) W (by omega))
 rw [← hm] at N5
 have UM:=hide unmin_ok
 have BI:=hide b2i_yes
 have nub:decide ((36028797018963966:Int) ≤ (U:Int)) = true:=decide_eq_true (by omega)
 have LN:=hide (fun W => Tryz.bits_Len64 d W (by omega) (by omega))
 have x1:IntKind.u64.wrap ((d:Int) * 2 ^ c) = (X:Int):=by
  have e1:((d:Int) * 2 ^ c) = (X:Int):=by rw [← hX];simp
  rw [e1,IntKind.wrap_u64];omega
 have hc63:(c:Int) < 64:=by omega
 have i7:(64:Int) - (b:Int) = (c:Int):=by omega
 have HS:=hide hs
 have HI:=hide hi
 have HB0:=hide hb
 have eb:-2000 ≤ e ∧ e ≤ 1074:=by omega
 have h1a:=and_one U (by omega)
 have h1b:bits .or .u64 ((U:Int) / 2) ((U % 2:Nat):Int) = (((U / 2) ||| (U % 2):Nat):Int):=u64_or_nat (U / 2) (U % 2) (by omega) (by omega)
 obtain ⟨V3,hV3e⟩:∃ V3,V3 = (U / 2) ||| (U % 2):=⟨_,rfl⟩
 rw [← hV3e] at h1b N5 hV3
 have hSm:bits .or .u64 (S:Int) (m:Int) = ((S + m:Nat):Int):=by
  refine (u64_or_nat S m (by omega) (by omega)).trans ?_
  rw [or_sgn S m hS (by omega)]
 obtain ⟨V,hV⟩:∃ V,V = S + m:=⟨_,rfl⟩
 rw [← hV] at hSm HPK
 obtain ⟨U2,hU2⟩:∃ U2,U2 = U % 2:=⟨_,rfl⟩
 rw [← hU2] at h1a h1b
 have hSb:S < 18446744073709551616:=by omega
 have hVb:V < 18446744073709551616:=by omega
 have hub:(36028797018963966:Int) ≤ (U:Int):=by omega
 have hUi:(U:Int) < 9223372036854775808:=by omega
 have hV3i:V3 < 18446744073709551616:=by omega
 have hi2:i < 696:=by omega
 have HE:=hide he
 clear hV3e hV3 PK hU hm hX hs hi hb hlp hS hV hU2 kk hh hl he hc
 go_enter Tryz.func186,Tryz.ntmps186
 go_wp2_with fail
 refine (unhide LN _).mono ?_
 rintro ed w1' ⟨rfl,hw⟩
 subst w1'
 rw [Int.toNat_natCast,unhide HB0]
 clear LN
 go_wp2_with fail
 refine (unhide C2 _).mono ?_
 rintro ed w1' ⟨rfl,hw⟩
 subst w1'
 clear C2
 have he:=unhide HE
 go_wp2_with fail
 have HB:=hide (heap_alloc_new w (.cells #[.int .u64 0,.int .u64 0,.int .i64 0] 249))
 have b0:=(Below.refl w.heap.size w).alloc (Nat.le_refl _) (.cells #[.int .u64 0,.int .u64 0,.int .i64 0] 249)
 have HT:PT _:=fun j hj => ⟨(b0.cell (p:=⟨15,2 * j,none⟩) hg).trans (hT j hj).1,(b0.cell (p:=⟨15,2 * j + 1,none⟩) hg).trans (hT j hj).2⟩
 have hne:w.heap.size ≠ 15:=by omega
 refine (prescale_ok w.heap.size _ _ _ _ (e - (c:Int)) p lp i s _ (unhide HB) HT hne (unhide HI) hi2 (unhide HS) (by omega) (by omega)).mono ?_
 rintro ed w3 ⟨rfl,hB3,b3⟩
 have S3:=Sca.of_heap hB3
 have s2:=S3.sh
 have b3':=b0.trans b3
 clear HB HT hB3 b0 b3 hT he
 have hsz3:w.heap.size ≤ w3.heap.size:=b3'.size
 have is2:(s:Int) < 64:=by omega
 have HBD:=hide (⟨bU,hub,hUi,hV3i,hm2,hSb,hVb⟩:36028797018963966 ≤ U ∧ (36028797018963966:Int) ≤ (U:Int) ∧ (U:Int) < 9223372036854775808 ∧ V3 < 18446744073709551616 ∧ m < 9007199254740992 ∧ S < 18446744073709551616 ∧ V < 18446744073709551616)
 clear bU bU2 hub hUi hV3i hm2 hX2 hd hSb hVb
 go_wp2_with fail
 refine (unhide T1 _ _ S3).mono ?_
 rintro ed w4 ⟨rfl,b4⟩
 have b4':=hide (b3'.trans (b4.mono hsz3))
 clear T1 S3 b4 b3' hsz3 s2
 obtain ⟨bU,hub,hUi,hV3i,hm2,hSb,hVb⟩:=unhide HBD
 go_wp2_with fail
 refine (unhide UM _).mono ?_
 rintro ed w5 ⟨rfl,hw⟩
 subst w5
 go_wp2_with fail
 refine (unhide BI _).mono ?_
 rintro ed w5 ⟨rfl,hw⟩
 subst w5
 go_wp2_with fail
 refine (unhide N5 _).mono ?_
 rintro ed w5 ⟨rfl,hw⟩
 subst w5
 go_wp2_with fail
 refine (unhide HPK _).mono ?_
 rintro ed w5 ⟨rfl,hw⟩
 subst w5
 go_wp2
 go_ret2
 exact ⟨rfl,unhide b4'⟩
set_option maxHeartbeats 2000000 in
set_option maxRecDepth 100000 in
theorem parse_tiny (d b c s i S:Nat) (p lp e:Int) (w:World) (hT:PT w) (hg:15 < w.heap.size) (hd0:1 ≤ d) (hd:d < 18446744073709551616) (hb:Lib.bitLen d = b) (hb1:1 ≤ b) (hb2:b ≤ 64) (hc:b + c = 64)
  (hp:-345 ≤ p ∧ p ≤ 310) (hlp:lp = p * 108853 / 32768) (he:min 1074 (53 - (b:Int) - lp) = e) (hi:(i:Int) = p + 348) (hs:-(e - (c:Int) + lp + 3) = (s:Int)) (hs2:64 ≤ s) (hS:S = 0 ∨ S = 9223372036854775808) :
  Calls Tryz.prog 186 #[.int .u64 d,.int .i64 p,.int .u64 S] w fun ed w' => ed = .returned (.tuple #[.float .f64 S,.nilIface]) ∧ Below w.heap.size w w':=by
 have C2:=hide (fun W => l2_ok p W (by omega))
 rw [← hlp] at C2
 have lpb:-1200 ≤ lp ∧ lp ≤ 1200:=by omega
 have LN:=hide (fun W => Tryz.bits_Len64 d W (by omega) (by omega))
 have i7:(64:Int) - (b:Int) = (c:Int):=by omega
 have HS:=hide hs
 have HI:=hide hi
 have HB0:=hide hb
 have eb:-2000 ≤ e ∧ e ≤ 1074:=by omega
 have hS0:bits .or .u64 (S:Int) 0 = (S:Int):=(or_zero S (by omega)).trans (by rw [Nat.or_zero])
 have hi2:i < 696:=by omega
 have rb:=run_fromb (S:Int)
 simp only [Int.toNat_natCast] at rb
 have HE:=hide he
 clear hs hi hb hlp hS he hc
 go_enter Tryz.func186,Tryz.ntmps186
 go_wp2_with fail
 refine (unhide LN _).mono ?_
 rintro ed w1' ⟨rfl,hw⟩
 subst w1'
 rw [Int.toNat_natCast,unhide HB0]
 clear LN
 go_wp2_with fail
 refine (unhide C2 _).mono ?_
 rintro ed w1' ⟨rfl,hw⟩
 subst w1'
 clear C2
 have he:=unhide HE
 go_wp2_with fail
 have HB:=hide (heap_alloc_new w (.cells #[.int .u64 0,.int .u64 0,.int .i64 0] 249))
 have b0:=(Below.refl w.heap.size w).alloc (Nat.le_refl _) (.cells #[.int .u64 0,.int .u64 0,.int .i64 0] 249)
 have HT:PT _:=fun j hj => ⟨(b0.cell (p:=⟨15,2 * j,none⟩) hg).trans (hT j hj).1,(b0.cell (p:=⟨15,2 * j + 1,none⟩) hg).trans (hT j hj).2⟩
 have hne:w.heap.size ≠ 15:=by omega
 refine (prescale_ok w.heap.size _ _ _ _ (e - (c:Int)) p lp i s _ (unhide HB) HT hne (unhide HI) hi2 (unhide HS) (by omega) (by omega)).mono ?_
 rintro ed w3 ⟨rfl,hB3,b3⟩
 have S3:=Sca.of_heap hB3
 have s2:=S3.sh
 have b3':=b0.trans b3
 clear HB HT hB3 b0 b3 hT he
 have hsz3:w.heap.size ≤ w3.heap.size:=b3'.size
 have is2:(64:Int) ≤ (s:Int):=by omega
 have HB4:=hide b3'
 clear hd hsz3 S3 b3'
 go_wp2
 go_ret2
 exact ⟨rfl,unhide HB4⟩
end Go.Proofs.YtdogjghalplohaaGreatDoor.fto
namespace Go.Proofs.YtdogjghalplohaaGreatDoor.fto
open Go.ChangeShapes Go.WideShapes Go.ChangeAt Go.RowKit
open mem Go.Sort
open ints (hide unhide)
set_option linter.unusedVariables false
theorem parse_any (d S:Nat) (p:Int) (hd0:1 ≤ d) (hd:d < 18446744073709551616) (hp:-345 ≤ p ∧ p ≤ 310) (hS:S = 0 ∨ S = 9223372036854775808) :
  ∃ lo,Lo (d * 10 ^ p.toNat * k74) (10 ^ (-p).toNat) lo ∧ (roundR (d * 10 ^ p.toNat * k74) (10 ^ (-p).toNat) lo < infR → ∀ w,PT w → 15 < w.heap.size →
   Calls Tryz.prog 186 #[.int .u64 d,.int .i64 p,.int .u64 S] w fun ed w' => ed = .returned (.tuple #[.float .f64 (S + roundR (d * 10 ^ p.toNat * k74) (10 ^ (-p).toNat) lo),.nilIface]) ∧ Below w.heap.size w w'):=by
 obtain ⟨k,hk⟩:∃ k,k = Nat.log2 d:=⟨_,rfl⟩
 have k0:2 ^ k ≤ d:=by rw [hk];exact Nat.log2_self_le (by omega)
 have k1:d < 2 ^ (k + 1):=by rw [hk];exact Nat.lt_log2_self
 have k63:k ≤ 63:=by
  rcases Nat.lt_or_ge 63 k with h | h
  ·have:=Nat.pow_le_pow_right (by decide:0 < 2) (show 64 ≤ k from h)
   have e:(2:Nat) ^ 64 = 18446744073709551616:=rfl
   omega
  ·exact h
 obtain ⟨c,hc⟩:∃ c,c = 63 - k:=⟨_,rfl⟩
 obtain ⟨b,hb⟩:∃ b,b = k + 1:=⟨_,rfl⟩
 have hbl:Lib.bitLen d = b:=by rw [hb];exact bitLen_at k0 k1 hd
 have hbc:b + c = 64:=by omega
 have hx0:9223372036854775808 ≤ d * 2 ^ c:=by
  have:=Nat.mul_le_mul_right (2 ^ c) k0
  rw [← Nat.pow_add,show k + c = 63 by omega] at this
  exact this
 have hx:d * 2 ^ c < 18446744073709551616:=by
  have:=Nat.mul_lt_mul_of_pos_right k1 (Nat.two_pow_pos c)
  rw [← Nat.pow_add,show k + 1 + c = 64 by omega] at this
  exact this
 obtain ⟨lp,hlp⟩:∃ lp,lp = p * 108853 / 32768:=⟨_,rfl⟩
 obtain ⟨e,he⟩:∃ e:Int,e = min 1074 (53 - (b:Int) - lp):=⟨_,rfl⟩
 obtain ⟨s,hs⟩:∃ s:Nat,(s:Int) = 61 - (b:Int) - e - lp:=⟨(61 - (b:Int) - e - lp).toNat,by omega⟩
 obtain ⟨K,hK⟩:∃ K:Nat,(K:Int) = 1074 - e:=⟨(1074 - e).toNat,by omega⟩
 obtain ⟨i,hi⟩:∃ i:Nat,(i:Int) = p + 348:=⟨(p + 348).toNat,by omega⟩
 have hs8:8 ≤ s:=by omega
 have hc64:64 - b = c:=by omega
 obtain ⟨U,hU⟩:∃ U,U = un (d * 2 ^ c * eA p) (q64 * q64 * eB p * 2 ^ s):=⟨_,rfl⟩
 obtain ⟨lo,hlo,A1,A2,A3⟩:=prs_ok d b s K p e (by omega) (by omega) (by omega) (by rw [hc64];exact hx0) (by rw [hc64];exact hx) (by rw [he,hlp];rfl) (by rw [hs,hlp];rfl) hK U (by rw [hc64];exact hU)
 refine ⟨lo,hlo,fun hR w hT hg => ?_⟩
 have hs':-(e - (c:Int) + lp + 3) = (s:Int):=by omega
 rcases Nat.lt_or_ge s 64 with h64 | h64
 ·have hie:i = (p + 348).toNat:=by omega
  have hh:=tab_hi p (by omega) (by omega)
  have hHi:rowH i = tabH p:=by rw [hie];rfl
  have hLi:rowL i = tabL p:=by rw [hie];rfl
  have hUs:U = us (d * 2 ^ c) (rowH i) (rowL i) s:=by rw [hU,hHi,hLi];exact (uscale_read p (by omega) (by omega) _ s hx0 hx hs8).symm
  have kk:1 ≤ d * 2 ^ c * rowH i / 18446744073709551616:=by
   rw [hHi]
   have:=Nat.mul_le_mul hx0 hh.1
   omega
  have q:q64 = 18446744073709551616:=rfl
  have e52:b52 = 4503599627370496:=rfl
  have e53:b53 = 9007199254740992:=rfl
  have eI:infR = 9218868437227405312:=rfl
  generalize roundR (d * 10 ^ p.toNat * k74) (10 ^ (-p).toNat) lo = R at *
  rcases Nat.lt_or_ge U 36028797018963966 with hlt | hge
  ·obtain ⟨r1,r2,r3⟩:=A1 (by omega)
   obtain ⟨m,hm⟩:∃ m,m = (U + 1 + U / 4 % 2) / 4:=⟨_,rfl⟩
   rw [← hm] at r1 r2 r3
   simp only [e52] at r1
   refine parse_lo d b c s i S U m (d * 2 ^ c) (S + R) p lp e w hT hg hd0 hd hbl (by omega) (by omega) hbc hp hlp he.symm hi hs' h64 rfl hx kk (by rw [hHi];omega) (by rw [hLi];omega) hUs hlt hm (by omega) hS ?_
   intro W
   by_cases hm52:m < 4503599627370496
   ·have hK0:K = 0:=by omega
    have:=pk_lo S m (-e) W hS hm52
    rw [r1,hK0,Nat.zero_mul,Nat.add_zero]
    exact this
   ·have:=pk_hi S (m - 4503599627370496) (K + 1) (-e) W hS (by omega) (by omega) (by omega)
    rw [show 4503599627370496 + (m - 4503599627370496) = m by omega] at this
    rw [r1,show S + (m + K * 4503599627370496) = S + (m - 4503599627370496 + (K + 1) * 4503599627370496) by omega]
    exact this
  ·obtain ⟨r1,r2,r3⟩:=A2 (by omega)
   obtain ⟨m,hm⟩:∃ m,m = (((U / 2) ||| (U % 2)) + 1 + ((U / 2) ||| (U % 2)) / 4 % 2) / 4:=⟨_,rfl⟩
   rw [← hm] at r1 r2 r3
   simp only [e52] at r1
   have hle:U / 2 ≤ (U / 2) ||| (U % 2):=Nat.left_le_or
   refine parse_hi d b c s i S U m (d * 2 ^ c) (S + R) p lp e w hT hg hd0 hd hbl (by omega) (by omega) hbc hp hlp he.symm hi hs' h64 rfl hx kk (by rw [hHi];omega) (by rw [hLi];omega) hUs hge (by omega) hm (by omega) hS ?_
   intro W
   have:=pk_hi S (m - 4503599627370496) (K + 2) (-(e - 1)) W hS (by omega) (by omega) (by omega)
   rw [show 4503599627370496 + (m - 4503599627370496) = m by omega] at this
   rw [r1,show S + (m + (K + 1) * 4503599627370496) = S + (m - 4503599627370496 + (K + 2) * 4503599627370496) by omega]
   exact this
 ·rw [A3 h64,Nat.add_zero]
  exact parse_tiny d b c s i S p lp e w hT hg hd0 hd hbl (by omega) (by omega) hbc hp hlp he.symm hi hs' h64 hS
end Go.Proofs.YtdogjghalplohaaGreatDoor.fto
namespace Go.Proofs.YtdogjghalplohaaGreatDoor.fto
open Go.ChangeShapes Go.WideShapes Go.ChangeAt Go.RowKit
open mem Go.Sort
open ints (hide unhide)
set_option linter.unusedVariables false
theorem cpl_no (s:ByteArray) (w:World) (h:0 < s.size) (hm:s.size ≤ 2000000) (hc:((s[0]'h).toNat:Int) = 48):Calls Tryz.prog 199 #[.string s,.string ⟨#[105,110,102,105,110,105,116,121]⟩] w fun e w' => e = .returned (.int .i64 0) ∧ w' = w:=by
 have i1:(0:Int) < (s.size:Int):=by omega
 have hse:s ≠ ByteArray.empty:=by intro he;subst he;exact absurd h (by decide)
 obtain ⟨N,hN⟩:∃ N:Int,N = min 8 (s.size:Int):=⟨_,rfl⟩
 have hN1:0 < N:=by omega
 have hN2:N ≤ 8:=by omega
 go_enter Tryz.func199,Tryz.ntmps199
 go_wp2
 go_loopw [6] (fun vi wr => w = wr ∧ vi = .int .i64 0) (fun _ _ => 0)
 case atStart => exact ⟨rfl,rfl⟩
 case round =>
  obtain ⟨hw,rfl⟩:=hrel
  subst hw
  go_wp2
  go_ret
  exact ⟨rfl,rfl⟩
theorem special0 (s:ByteArray) (w:World) (h:0 < s.size) (hc:((s[0]'h).toNat:Int) = 48):Calls Tryz.prog 174 #[.string s] w fun e w' => e = .returned (.tuple #[.float .f64 0,.int .i64 0,.bool false]) ∧ w' = w:=by
 have i1:(0:Int) < (s.size:Int):=by omega
 have hse:s ≠ ByteArray.empty:=by intro he;subst he;exact absurd h (by decide)
 go_enter Tryz.func174,Tryz.ntmps174
 go_wp2
 go_ret3
 exact ⟨rfl,rfl⟩
theorem special1 (s:ByteArray) (w:World) (h:1 < s.size) (hm:s.size ≤ 2000000) (h0:0 < s.size) (hc:((s[0]'h0).toNat:Int) = 45) (hd:((s[1]'h).toNat:Int) = 48):Calls Tryz.prog 174 #[.string s] w fun e w' => e = .returned (.tuple #[.float .f64 0,.int .i64 0,.bool false]) ∧ w' = w:=by
 have i1:(0:Int) < (s.size:Int):=by omega
 have i2:(1:Int) < (s.size:Int):=by omega
 have hse:s ≠ ByteArray.empty:=by intro he;subst he;exact absurd h (by decide)
 go_enter Tryz.func174,Tryz.ntmps174
 have ht:(s.extract 1 s.size).size = s.size - 1:=by simp
 have ht0:0 < (s.extract 1 s.size).size:=by omega
 have htc:(((s.extract 1 s.size)[0]'ht0).toNat:Int) = 48:=by
  rw [ByteArray.getElem_extract]
  exact hd
 have CP:=hide (cpl_no (s.extract 1 s.size) w ht0 (by omega) htc)
 clear ht ht0 htc
 go_wp2_with fail
 refine (unhide CP).mono ?_
 rintro e w1 ⟨rfl,hw⟩
 subst w1
 go_wp2
 go_ret3
 exact ⟨rfl,rfl⟩
end Go.Proofs.YtdogjghalplohaaGreatDoor.fto
namespace Go.Proofs.YtdogjghalplohaaGreatDoor.fto
open Go.ChangeShapes Go.WideShapes Go.ChangeAt Go.RowKit
open mem Go.Sort
open ints (hide unhide)
set_option linter.unusedVariables false
theorem pf_in (s:ByteArray) (F:Nat) (w:World) (hs:s.size ≤ 2000000)
  (AT:Calls Tryz.prog 155 #[.string s] w fun e w' => e = .returned (.tuple #[.float .f64 F,.int .i64 s.size,.nilIface]) ∧ Below w.heap.size w w') :
  Calls Tryz.prog 75 #[.string s,.int .i64 64] w fun e w' => e = .returned (.tuple #[.float .f64 F,.nilIface]) ∧ Below w.heap.size w w':=by
 have P1:Calls Tryz.prog 131 #[.string s,.int .i64 64] w fun e w' => e = .returned (.tuple #[.float .f64 F,.int .i64 s.size,.nilIface]) ∧ Below w.heap.size w w':=by
  have HA:=hide AT
  clear AT
  go_enter Tryz.func131,Tryz.ntmps131
  go_wp2_with fail
  refine (unhide HA).mono ?_
  rintro e w1 ⟨rfl,b1⟩
  have HB:=hide b1
  clear b1
  go_wp2
  go_ret3
  exact ⟨rfl,unhide HB⟩
 have P2:Calls Tryz.prog 106 #[.string s,.int .i64 64] w fun e w' => e = .returned (.tuple #[.float .f64 F,.nilIface]) ∧ Below w.heap.size w w':=by
  have HA:=hide P1
  clear P1 AT
  go_enter Tryz.func106,Tryz.ntmps106
  go_wp2_with fail
  refine (unhide HA).mono ?_
  rintro e w1 ⟨rfl,b1⟩
  have HB:=hide b1
  clear b1
  go_wp2
  go_ret2
  exact ⟨rfl,unhide HB⟩
 have HA:=hide P2
 clear P1 P2 AT
 go_enter Tryz.func75,Tryz.ntmps75
 go_wp2_with fail
 refine (unhide HA).mono ?_
 rintro e w1 ⟨rfl,b1⟩
 have HB:=hide b1
 clear b1
 go_wp2
 go_ret2
 exact ⟨rfl,unhide HB⟩
end Go.Proofs.YtdogjghalplohaaGreatDoor.fto
namespace Go.Proofs.YtdogjghalplohaaGreatDoor.fto
open Go.ChangeShapes Go.WideShapes Go.ChangeAt Go.RowKit
open mem Go.Sort
open ints (hide unhide)
set_option linter.unusedVariables false
theorem ex_long (d:Nat) (p:Int) (ng:Bool) (w:World) (hd:4503599627370496 ≤ d) (hd1:d < 18446744073709551616) (hi:w.cell? ⟨9,0,none⟩ = some (.int .u64 52)) :
  Calls Tryz.prog 185 #[.int .u64 d,.int .i64 p,.bool ng] w fun e w' => e = .returned (.tuple #[.float .f64 0,.bool false]) ∧ w' = w:=by
 have i1:((d:Int) / 4503599627370496 != 0) = true:=by simp;omega
 go_enter Tryz.func185,Tryz.ntmps185
 go_wp2
 go_ret2
 exact ⟨rfl,rfl⟩
theorem ex_far (d:Nat) (p:Int) (ng:Bool) (w:World) (hd:d < 4503599627370496) (hp:p < -22 ∨ 37 < p) (hp1:-10000 ≤ p ∧ p ≤ 10000) (hi:w.cell? ⟨9,0,none⟩ = some (.int .u64 52)) :
  Calls Tryz.prog 185 #[.int .u64 d,.int .i64 p,.bool ng] w fun e w' => (∃ G:Nat,e = .returned (.tuple #[.float .f64 G,.bool false])) ∧ w' = w:=by
 have i1:(d:Int) / 4503599627370496 = 0:=by omega
 have i2:(p == 0) = false:=by rw [beq_eq_false_iff_ne];omega
 obtain ⟨G,hG⟩:∃ G:Nat,(Op.unary UnOp.neg (Value.float FloatKind.f64 (floatOfInt FloatKind.f64 (d:Int)))).run Tryz.prog w = .ok (.float .f64 G) w:=⟨_,rfl⟩
 rcases hp with h | h
 ·have j1:¬ (0:Int) < p:=by omega
  have j2:p < 0:=by omega
  have j3:¬ (-22:Int) ≤ p:=by omega
  cases ng
  all_goals
   go_enter Tryz.func185,Tryz.ntmps185
   go_wp2
   go_ret2
   exact ⟨⟨_,rfl⟩,rfl⟩
 ·have j1:(0:Int) < p:=by omega
  have j2:¬ p < 0:=by omega
  have j3:¬ p ≤ 37:=by omega
  cases ng
  all_goals
   go_enter Tryz.func185,Tryz.ntmps185
   go_wp2
   go_ret2
   exact ⟨⟨_,rfl⟩,rfl⟩
end Go.Proofs.YtdogjghalplohaaGreatDoor.fto
namespace Go.Proofs.YtdogjghalplohaaGreatDoor.mem
set_option linter.unusedVariables false
theorem rne_one (X:Nat):rne X 1 = X:=by
 unfold rne
 rw [Nat.mod_one,Nat.div_one,if_neg (by omega)]
theorem kept_rne (neg:Bool) (n:Nat) (h:n ≠ 0):Ieee.Toward.even.cut neg (n <<< (52 - n.log2)) (n.log2 - 52) = rne (n * 2 ^ (52 - n.log2)) (2 ^ (n.log2 - 52)):=by
 rcases Nat.lt_or_ge 52 n.log2 with hl | hl
 ·rw [show 52 - n.log2 = 0 by omega,Nat.shiftLeft_zero,cut_some neg (by omega),Nat.pow_zero,Nat.mul_one]
  unfold rne
  generalize 2 ^ (n.log2 - 52) = g
  generalize n % g = t
  generalize n / g = q
  by_cases c1:g < 2 * t
  ·simp [c1]
  ·by_cases c2:2 * t = g
   ·by_cases c3:q % 2 = 1
    ·simp [c2,c3]
    ·rw [if_neg (by omega)]
     have:(q % 2 == 1) = false:=by rw [beq_eq_false_iff_ne];exact c3
     simp [c1,this]
   ·rw [if_neg (by omega)]
    have:(g == 2 * t) = false:=by rw [beq_eq_false_iff_ne];omega
    simp [c1,this]
 ·rw [show n.log2 - 52 = 0 by omega,cut_none,Nat.pow_zero,rne_one,Nat.shiftLeft_eq]
theorem q_bd2 {n:Nat} (h:n ≠ 0):b52 ≤ n * 2 ^ (52 - n.log2) / 2 ^ (n.log2 - 52) ∧ n * 2 ^ (52 - n.log2) / 2 ^ (n.log2 - 52) < b53:=by
 have h1:=Nat.log2_self_le h
 have h2:=Nat.lt_log2_self (n:=n)
 have hp:=Nat.two_pow_pos (n.log2 - 52)
 rw [Nat.le_div_iff_mul_le hp,Nat.div_lt_iff_lt_mul hp]
 have e52:b52 = 2 ^ 52:=rfl
 have e53:b53 = 2 ^ 53:=rfl
 rw [e52,e53,← Nat.pow_add,← Nat.pow_add]
 rcases Nat.lt_or_ge 52 n.log2 with hl | hl
 ·rw [show 52 - n.log2 = 0 by omega,Nat.pow_zero,Nat.mul_one,show 52 + (n.log2 - 52) = n.log2 by omega,show 53 + (n.log2 - 52) = n.log2 + 1 by omega]
  exact ⟨h1,h2⟩
 ·have hg:=Nat.two_pow_pos (52 - n.log2)
  have a1:=Nat.mul_le_mul_right (2 ^ (52 - n.log2)) h1
  have a2:=Nat.mul_lt_mul_of_pos_right h2 hg
  rw [← Nat.pow_add] at a1 a2
  rw [show n.log2 + (52 - n.log2) = 52 by omega] at a1
  rw [show n.log2 + 1 + (52 - n.log2) = 53 by omega] at a2
  rw [show 52 + (n.log2 - 52) = 52 by omega,show 53 + (n.log2 - 52) = 53 by omega]
  exact ⟨a1,a2⟩
theorem rung_parts {q k:Nat} (h1:b52 ≤ q) (h2:q < b53):mantR (q + k * b52) = q ∧ exR (q + k * b52) = k ∧ q % 2 = (q + k * b52) % 2:=by
 unfold mantR exR
 unfold b52 b53 at *
 refine ⟨?_,by omega,by omega⟩
 rw [if_neg (by omega)]
 omega
theorem near_rne (neg:Bool) (n k:Nat) (pl:Int) (h:n ≠ 0) (hk:(k:Int) = pl + n.log2 + 1022) :
  Ieee.double.nearest neg n pl = Ieee.double.word neg (min (rne (n * 2 ^ (52 - n.log2)) (2 ^ (n.log2 - 52)) + k * b52) infR):=by
 unfold Ieee.Format.nearest
 rw [if_neg h]
 have hlast:max (pl + n.log2 - Ieee.double.fractionBits) (-1074) = pl + n.log2 - 52:=by
  unfold Ieee.double
  simp only
  omega
 have hlp:Ieee.double.leastPlace = -1074:=by rfl
 have hbn:Ieee.double.binade = b52:=by rfl
 have hinf:Ieee.double.infRung = infR:=by rfl
 simp only [hlp,hlast,hbn,hinf]
 refine congrArg (Ieee.double.word neg) ?_
 have hT:(pl + n.log2 - 52 - -1074).toNat = k:=by omega
 have e1:(pl - (pl + n.log2 - 52)).toNat = 52 - n.log2:=by omega
 have e2:(pl + n.log2 - 52 - pl).toNat = n.log2 - 52:=by omega
 rw [hT,e1,e2,kept_rne neg n h,Nat.add_comm]
theorem rne_sticky (X W D:Nat) (hW:0 < W) (hD:0 < D) (he:D % 2 = 0):rne (2 * (X / W) + (X % W != 0).toNat) (2 * D) = rne X (W * D):=by
 obtain ⟨E,rfl⟩:∃ E,D = 2 * E:=⟨D / 2,by omega⟩
 have hml:=Nat.mod_lt X hW
 obtain ⟨F,hF⟩:∃ F,F = X / W:=⟨_,rfl⟩
 obtain ⟨t,ht⟩:∃ t,t = X % W:=⟨_,rfl⟩
 have hdm:W * F + t = X:=by rw [hF,ht];exact Nat.div_add_mod X W
 rw [← hF,← ht]
 rw [← ht] at hml
 obtain ⟨s,hs⟩:∃ s,s = (t != 0).toNat:=⟨_,rfl⟩
 have hs0:s ≤ 1:=by rw [hs];exact Bool.toNat_le _
 have hst:s = 0 ↔ t = 0:=by
  rw [hs]
  by_cases c:t = 0
  ·simp [c]
  ·simp [c]
 rw [← hs]
 have hfd:=Nat.div_add_mod F (2 * E)
 have hfl:=Nat.mod_lt F (show 0 < 2 * E by omega)
 have q1:(2 * F + s) / (2 * (2 * E)) = F / (2 * E):=by
  rw [← Nat.div_div_eq_div_mul,show (2 * F + s) / 2 = F by omega]
 have q2:X / (W * (2 * E)) = F / (2 * E):=by rw [← Nat.div_div_eq_div_mul,← hF]
 have r1:(2 * F + s) % (2 * (2 * E)) = 2 * (F % (2 * E)) + s:=by
  have e:2 * F + s = 2 * (2 * E) * (F / (2 * E)) + (2 * (F % (2 * E)) + s):=by
   rw [Nat.mul_assoc 2 (2 * E)];omega
  rw [e,Nat.mul_add_mod]
  exact Nat.mod_eq_of_lt (by omega)
 have r2:X % (W * (2 * E)) = F % (2 * E) * W + t:=by
  have e:X = W * (2 * E) * (F / (2 * E)) + (F % (2 * E) * W + t):=by
   rw [← hdm]
   conv => lhs;rw [← hfd,Nat.mul_add,← Nat.mul_assoc,Nat.mul_comm W (F % (2 * E))]
   omega
  rw [e,Nat.mul_add_mod]
  refine Nat.mod_eq_of_lt ?_
  have:=Nat.mul_le_mul_right W (show F % (2 * E) + 1 ≤ 2 * E by omega)
  rw [Nat.add_mul,Nat.one_mul,Nat.mul_comm (2 * E) W] at this
  omega
 unfold rne
 rw [q1,q2,r1,r2]
 generalize F % (2 * E) = r at *
 have c1:W * (2 * E) < 2 * (r * W + t) ↔ E < r ∨ (E = r ∧ 0 < t):=by
  rw [Nat.mul_left_comm,Nat.mul_comm W E]
  rcases Nat.lt_trichotomy E r with h | h | h
  ·have:=Nat.mul_le_mul_right W (show E + 1 ≤ r from h)
   rw [Nat.add_mul,Nat.one_mul] at this
   constructor
   ·intro _;exact Or.inl h
   ·intro _;omega
  ·subst h
   constructor
   ·intro _;exact Or.inr ⟨rfl,by omega⟩
   ·intro _;omega
  ·have:=Nat.mul_le_mul_right W (show r + 1 ≤ E from h)
   rw [Nat.add_mul,Nat.one_mul] at this
   constructor <;> intro _ <;> omega
 have c2:2 * (r * W + t) = W * (2 * E) ↔ E = r ∧ t = 0:=by
  rw [Nat.mul_left_comm,Nat.mul_comm W E]
  rcases Nat.lt_trichotomy E r with h | h | h
  ·have:=Nat.mul_le_mul_right W (show E + 1 ≤ r from h)
   rw [Nat.add_mul,Nat.one_mul] at this
   constructor <;> intro _ <;> omega
  ·subst h
   constructor
   ·intro _;exact ⟨rfl,by omega⟩
   ·intro _;omega
  ·have:=Nat.mul_le_mul_right W (show r + 1 ≤ E from h)
   rw [Nat.add_mul,Nat.one_mul] at this
   constructor <;> intro _ <;> omega
 simp only [c1,c2]
 generalize F / (2 * E) = q at *
 by_cases g:(E < r ∨ (E = r ∧ 0 < t)) ∨ ((E = r ∧ t = 0) ∧ q % 2 = 1)
 ·rw [if_pos g,if_pos (by omega)]
 ·rw [if_neg g,if_neg (by omega)]
theorem read_word (ng:Bool) (r:Nat) (h:r < infR):Ieee.double.read (Ieee.double.word ng r) = .number ng (mantR r) ((exR r:Int) - 1074):=dec_fin ng r h
theorem pow_shift {P Q u v a b:Nat} (h:P * 2 ^ u = Q * 2 ^ v) (e:v + a = b + u):P * 2 ^ a = Q * 2 ^ b:=by
 have h1:P * 2 ^ a * 2 ^ u = Q * 2 ^ b * 2 ^ u:=by
  rw [Nat.mul_assoc,← Nat.pow_add,Nat.add_comm a u,Nat.pow_add,← Nat.mul_assoc,h,Nat.mul_assoc,← Nat.pow_add,e,Nat.pow_add,← Nat.mul_assoc]
 exact Nat.eq_of_mul_eq_mul_right (Nat.two_pow_pos u) h1
theorem mul_R (s t:Bool) (a b P:Nat) (ha:a < infR) (hb:b < infR) (hP:P * k74 = vR a * vR b) (h52:b52 ≤ P) :
  ∃ lo,Lo P 1 lo ∧ Ieee.double.mul (Ieee.double.word s a) (Ieee.double.word t b) = some (Ieee.double.word (s ^^ t) (min (roundR P 1 lo) infR)):=by
 have hv:vR a * vR b = mantR a * mantR b * 2 ^ (exR a + exR b):=by
  unfold vR
  rw [Nat.pow_add,Nat.mul_assoc,Nat.mul_assoc,Nat.mul_left_comm (2 ^ exR a)]
 obtain ⟨E,hE,hk74⟩:∃ E,E = 1074 ∧ k74 = 2 ^ E:=⟨52 + e22,rfl,rfl⟩
 obtain ⟨n,hn⟩:∃ n,n = mantR a * mantR b:=⟨_,rfl⟩
 rw [hv,← hn] at hP
 have hn0:n ≠ 0:=by
  intro h0
  rw [h0,Nat.zero_mul] at hP
  have:0 < P * k74:=Nat.mul_pos (by unfold b52 at h52;omega) (by rw [hk74];exact Nat.two_pow_pos _)
  omega
 have hL:1126 ≤ n.log2 + (exR a + exR b):=by
  have h2:=Nat.lt_log2_self (n:=n)
  rcases Nat.lt_or_ge (n.log2 + (exR a + exR b)) 1126 with hh | hh
  ·have a1:b52 * k74 ≤ P * k74:=Nat.mul_le_mul_right _ h52
   have a2:=Nat.mul_lt_mul_of_pos_right h2 (Nat.two_pow_pos (exR a + exR b))
   rw [← Nat.pow_add] at a2
   have a3:=Nat.pow_le_pow_right (by decide:0 < 2) (show n.log2 + 1 + (exR a + exR b) ≤ 52 + E by omega)
   have a4:b52 * k74 = 2 ^ (52 + E):=by rw [hk74,b52_eq,← Nat.pow_add]
   omega
  ·exact hh
 obtain ⟨k,hk⟩:∃ k:Nat,(k:Int) = ((exR a:Int) - 1074 + ((exR b:Int) - 1074)) + n.log2 + 1022:=⟨n.log2 + (exR a + exR b) - 1126,by omega⟩
 obtain ⟨q1,q2⟩:=q_bd2 hn0
 obtain ⟨p1,p2,p3⟩:=rung_parts (k:=k) q1 q2
 have hid:P * 2 ^ (n.log2 - 52) = n * 2 ^ (52 - n.log2) * 1 * 2 ^ k:=by
  rw [Nat.mul_one,Nat.mul_assoc,← Nat.pow_add]
  rw [hk74] at hP
  exact pow_shift hP (by omega)
 obtain ⟨l1,l2⟩:=rung_of (Nat.two_pow_pos _) (by decide:0 < 1) hid rfl p1 p2 p3
 refine ⟨_,l1,?_⟩
 unfold Ieee.Format.mul
 rw [read_word s a ha,read_word t b hb]
 simp only [Ieee.Datum.product,Option.map_some,Ieee.Format.write]
 rw [← hn,near_rne (s ^^ t) n k _ hn0 hk,l2]
theorem div_R (s t:Bool) (a b P Bn:Nat) (ha:a < infR) (hb:b < infR) (hB:0 < Bn) (hb0:vR b ≠ 0) (hP:P * vR b = vR a * k74 * Bn) (h52:Bn * b52 ≤ P) :
  ∃ lo,Lo P Bn lo ∧ Ieee.double.div (Ieee.double.word s a) (Ieee.double.word t b) = some (Ieee.double.word (s ^^ t) (min (roundR P Bn lo) infR)):=by
 obtain ⟨E,hE,hk74⟩:∃ E,E = 1074 ∧ k74 = 2 ^ E:=⟨52 + e22,rfl,rfl⟩
 obtain ⟨m,hm⟩:∃ m,m = mantR a:=⟨_,rfl⟩
 obtain ⟨n,hn⟩:∃ n,n = mantR b:=⟨_,rfl⟩
 obtain ⟨i,hi⟩:∃ i,i = exR a:=⟨_,rfl⟩
 obtain ⟨j,hj⟩:∃ j,j = exR b:=⟨_,rfl⟩
 have hva:vR a = m * 2 ^ i:=by rw [hm,hi];rfl
 have hvb:vR b = n * 2 ^ j:=by rw [hn,hj];rfl
 rw [hva,hvb] at hP
 have hn0:n ≠ 0:=by
  intro h0
  rw [hvb,h0,Nat.zero_mul] at hb0
  exact hb0 rfl
 have hPp:0 < P:=Nat.lt_of_lt_of_le (Nat.mul_pos hB (by decide)) h52
 have hm0:m ≠ 0:=by
  intro h0
  rw [h0,Nat.zero_mul,Nat.zero_mul,Nat.zero_mul] at hP
  have:=Nat.mul_pos hPp (Nat.mul_pos (Nat.pos_of_ne_zero hn0) (Nat.two_pow_pos j))
  omega
 have hn1:0 < n:=Nat.pos_of_ne_zero hn0
 obtain ⟨mo,hmo⟩:∃ mo,mo = 52 + 2 + n.log2 - m.log2:=⟨_,rfl⟩
 obtain ⟨X,hX⟩:∃ X,X = m * 2 ^ mo:=⟨_,rfl⟩
 have hXn:2 ^ 53 ≤ X / n:=by
  rw [Nat.le_div_iff_mul_le hn1]
  have a1:=Nat.log2_self_le hm0
  have a2:=Nat.lt_log2_self (n:=n)
  have a3:=Nat.mul_le_mul_right (2 ^ mo) a1
  rw [← Nat.pow_add,← hX] at a3
  have a4:2 ^ 53 * n ≤ 2 ^ 53 * 2 ^ (n.log2 + 1):=Nat.mul_le_mul_left _ (Nat.le_of_lt a2)
  rw [← Nat.pow_add] at a4
  have a5:=Nat.pow_le_pow_right (by decide:0 < 2) (show 53 + (n.log2 + 1) ≤ m.log2 + mo by omega)
  omega
 obtain ⟨Q,hQ⟩:∃ Q,Q = 2 * (X / n) + (X % n != 0).toNat:=⟨_,rfl⟩
 have hQ54:2 ^ 54 ≤ Q:=by
  have:(2:Nat) ^ 54 = 2 * 2 ^ 53:=by rfl
  omega
 have hQ0:Q ≠ 0:=by
  have:=Nat.two_pow_pos 54
  omega
 have hQL:54 ≤ Q.log2:=by rw [Nat.le_log2 hQ0];exact hQ54
 have hL0:52 - Q.log2 = 0:=by omega
 obtain ⟨D,hD⟩:∃ D,D = 2 ^ (Q.log2 - 53):=⟨_,rfl⟩
 have hD2:2 ^ (Q.log2 - 52) = 2 * D:=by rw [hD,show Q.log2 - 52 = (Q.log2 - 53) + 1 by omega,Nat.pow_succ,Nat.mul_comm]
 have hDe:D % 2 = 0:=by rw [hD,show Q.log2 - 53 = (Q.log2 - 54) + 1 by omega,Nat.pow_succ];omega
 have hDp:0 < D:=by rw [hD];exact Nat.two_pow_pos _
 have hst:=rne_sticky X n D hn1 hDp hDe
 rw [← hQ] at hst
 have hLo:Q < 2 ^ (Q.log2 + 1):=Nat.lt_log2_self
 have hid0:P * n * 2 ^ (j + mo) = X * Bn * 2 ^ (i + E):=by
  have e1:P * n * 2 ^ (j + mo) = P * (n * 2 ^ j) * 2 ^ mo:=by rw [Nat.pow_add,← Nat.mul_assoc,← Nat.mul_assoc]
  rw [e1,hP,hX,hk74,Nat.pow_add]
  generalize 2 ^ E = z
  generalize 2 ^ i = y
  generalize 2 ^ mo = x
  rw [Nat.mul_right_comm (m * y * z) Bn x,Nat.mul_right_comm (m * y) z x,Nat.mul_right_comm m y x,Nat.mul_right_comm (m * x * y) z Bn,Nat.mul_right_comm (m * x) y Bn,Nat.mul_assoc (m * x * Bn)]
 have hbig:2 ^ (52 + (j + mo)) * n ≤ X * 2 ^ (i + E):=by
  have a1:Bn * b52 * (n * 2 ^ (j + mo)) ≤ P * (n * 2 ^ (j + mo)):=Nat.mul_le_mul_right _ h52
  rw [← Nat.mul_assoc P,hid0,b52_eq] at a1
  have a2:Bn * 2 ^ 52 * (n * 2 ^ (j + mo)) = 2 ^ (52 + (j + mo)) * n * Bn:=by
   rw [Nat.pow_add 2 52]
   generalize 2 ^ 52 = z
   generalize 2 ^ (j + mo) = y
   rw [Nat.mul_comm Bn z,Nat.mul_right_comm z Bn,Nat.mul_comm n y,Nat.mul_assoc z y n]
  rw [a2,Nat.mul_right_comm X Bn] at a1
  exact Nat.le_of_mul_le_mul_right a1 hB
 have hXL:X < 2 ^ Q.log2 * n:=by
  have e1:=Nat.div_add_mod X n
  have e2:=Nat.mod_lt X hn1
  have e4:X / n + 1 ≤ 2 ^ Q.log2:=by rw [Nat.pow_succ] at hLo;omega
  have e3:=Nat.mul_le_mul_right n e4
  rw [Nat.add_mul,Nat.one_mul,Nat.mul_comm] at e3
  omega
 have hpl:52 + (j + mo) < Q.log2 + (i + E):=by
  have a1:=Nat.mul_lt_mul_of_pos_right hXL (Nat.two_pow_pos (i + E))
  rw [Nat.mul_right_comm,← Nat.pow_add] at a1
  have a2:2 ^ (52 + (j + mo)) * n < 2 ^ (Q.log2 + (i + E)) * n:=Nat.lt_of_le_of_lt hbig a1
  exact (Nat.pow_lt_pow_iff_right (by decide:1 < 2)).1 (Nat.lt_of_mul_lt_mul_right a2)
 obtain ⟨k,hk⟩:∃ k:Nat,k + (j + mo) = i + Q.log2 + 1021:=⟨i + Q.log2 + 1021 - (j + mo),by omega⟩
 obtain ⟨q1,q2⟩:=q_bd2 hQ0
 have hqq:Q * 2 ^ (52 - Q.log2) / 2 ^ (Q.log2 - 52) = X / (n * D):=by
  rw [hL0,Nat.pow_zero,Nat.mul_one,hD2,← Nat.div_div_eq_div_mul,← Nat.div_div_eq_div_mul]
  have:Q / 2 = X / n:=by have:=Bool.toNat_le (X % n != 0);omega
  rw [this]
 rw [hqq] at q1 q2
 obtain ⟨p1,p2,p3⟩:=rung_parts (k:=k) q1 q2
 have hid:P * (n * D) = X * Bn * 2 ^ k:=by
  rw [← Nat.mul_assoc,hD]
  exact pow_shift hid0 (by omega)
 obtain ⟨l1,l2⟩:=rung_of (Nat.mul_pos hn1 hDp) hB hid rfl p1 p2 p3
 refine ⟨_,l1,?_⟩
 unfold Ieee.Format.div
 rw [read_word s a ha,read_word t b hb]
 simp only [Ieee.Datum.quotient]
 rw [← hn,← hm,← hi,← hj,if_neg hn0]
 have hfb:Ieee.double.fractionBits = 52:=rfl
 simp only [hfb,Option.map_some,Ieee.Format.write,Nat.shiftLeft_eq]
 rw [← hmo,← hX,← hQ,near_rne (s ^^ t) Q k _ hQ0 (by omega),hL0,hD2,Nat.pow_zero,Nat.mul_one,hst,l2]
end Go.Proofs.YtdogjghalplohaaGreatDoor.mem
namespace Go.Proofs.YtdogjghalplohaaGreatDoor.mem
set_option linter.unusedVariables false
def tens:List Nat:=[4607182418800017408,4621819117588971520,4636737291354636288,4652007308841189376,4666723172467343360,4681608360884174848,4696837146684686336,4711630319722168320,4726483295884279808,4741671816366391296,4756540486875873280,4771362005757984768,4786511204640096256,4801453603149578240,4816244402031689728,4831355200913801216,4846369599423283200,4861130398305394688,4876203697187506176,4891288408196988160,4906019910204099648,4921056587992461136,4936209963552724370]
theorem ten_ok (i:Nat) (h:i ≤ 22):∃ r,tens[i]? = some r ∧ r < infR ∧ vR r = 10 ^ i * k74:=by
 have key:(List.range 23).all (fun i => match tens[i]? with | some r => decide (r < infR) && (vR r == 10 ^ i * k74) | none => false) = true:=by decide +kernel
 have:=List.all_eq_true.1 key i (by rw [List.mem_range];omega)
 revert this
 cases tens[i]? with
 | none => simp
 | some r =>
  simp only [Bool.and_eq_true,decide_eq_true_eq,beq_iff_eq]
  rintro ⟨h1,h2⟩
  exact ⟨r,rfl,h1,h2⟩
theorem loN_exact {n:Nat} (h:n ≠ 0) (h53:n < 9007199254740992):vR (loN n) = n * k74 ∧ loN n < infR:=by
 obtain ⟨p1,p2,p3⟩:=loN_parts h
 obtain ⟨b1,b2⟩:=q_bd h
 have hL:n.log2 ≤ 52:=by
  have:=(Nat.log2_lt h).2 (show n < 2 ^ 53 from h53)
  omega
 have hp:=Nat.two_pow_pos n.log2
 have eb:b52 = 2 ^ (52 - n.log2) * 2 ^ n.log2:=by rw [← Nat.pow_add,show 52 - n.log2 + n.log2 = 52 by omega];rfl
 have eq:n * b52 / 2 ^ n.log2 = n * 2 ^ (52 - n.log2):=by
  rw [eb,← Nat.mul_assoc,Nat.mul_div_cancel _ hp]
 constructor
 ·unfold vR
  rw [p1,p2,eq,k74_eq,← Nat.mul_assoc,eb,Nat.pow_add,show 2 ^ e22 = k22 from rfl,← Nat.mul_assoc,← Nat.mul_assoc]
 ·unfold loN
  have:=e22_eq
  unfold b52 b53 infR at *
  omega
theorem float_of (d:Nat) (h:d ≠ 0) (h53:d < 9007199254740992):FloatKind.f64.nearest (d:Int) = loN d:=by
 have e:FloatKind.f64.nearest (d:Int) = Ieee.double.nearest (decide ((d:Int) < 0)) (d:Int).natAbs 0:=rfl
 have hf:decide ((d:Int) < 0) = false:=by rw [decide_eq_false_iff_not];omega
 rw [e,hf,Int.natAbs_natCast,nearest_int false h (by omega),round_exact (loN_exact h h53).1.symm]
 rfl
theorem k74_pos:0 < k74:=Nat.two_pow_pos _
theorem small_exact (x lo:Nat) (hx:x ≠ 0) (hl:Lo (x * k74) 1 lo) (hr:vR (roundR (x * k74) 1 lo) ≤ 1000000000000000 * k74):x < 9007199254740992 ∧ roundR (x * k74) 1 lo = loN x:=by
 have hk:=k74_pos
 have h53:x < 9007199254740992:=by
  rcases Nat.lt_or_ge x 9007199254740992 with h | h
  ·exact h
  ·exfalso
   have c:vR 4845873199050653696 = 9007199254740992 * k74:=by decide +kernel
   have a1:9007199254740992 * k74 ≤ x * k74:=Nat.mul_le_mul_right _ h
   have a2:vR 4845873199050653696 < vR (lo + 1):=by have:=hl.2;rw [Nat.one_mul] at this;omega
   have a3:4845873199050653696 ≤ lo:=by
    rcases Nat.lt_or_ge lo 4845873199050653696 with g | g
    ·have:=vR_mono_le (show lo + 1 ≤ 4845873199050653696 from g);omega
    ·exact g
   have a4:lo ≤ roundR (x * k74) 1 lo:=by unfold roundR;split <;> omega
   have a5:=vR_mono_le (Nat.le_trans a3 a4)
   have a6:1000000000000000 * k74 < 9007199254740992 * k74:=Nat.mul_lt_mul_of_pos_right (by decide) hk
   omega
 obtain ⟨e1,e2⟩:=loN_exact hx h53
 refine ⟨h53,?_⟩
 rw [Lo.unique hl (loN_lo hx),round_exact e1.symm]
end Go.Proofs.YtdogjghalplohaaGreatDoor.mem
