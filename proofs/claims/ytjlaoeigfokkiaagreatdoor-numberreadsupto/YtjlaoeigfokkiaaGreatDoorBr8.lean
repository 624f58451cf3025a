import Derived.Test.YtjlaoeigfokkiaaGreatDoorBr7
import Derived.Test.YtjlaoeigfokkiaaGreatDoorBr4
import Derived.Lib.ItoaLen
import Derived.Lib.AppendIntMem
namespace Go.Proofs.YtjlaoeigfokkiaaGreatDoor.fto
open Go.ChangeShapes Go.WideShapes Go.ChangeAt Go.RowKit
open mem
open ints (hide unhide)
set_option linter.unusedVariables false
set_option maxHeartbeats 8000000 in
set_option maxRecDepth 100000 in
theorem sf_c (m M1 mn mx z:Nat) (e L p lp:Int) (i s od:Nat) (w:World) (hT:PT w) (hm:9223372036854775808 ≤ m) (hm2:m < 18446744073709550592) (he:e < -1085) (he2:-1137 ≤ e) (eM:((m:Int) == 9223372036854775808) = false) (hz:11 + (-1085 - e) = (z:Int)) (A:Nat) (hA:A = 2 ^ (z - 1))
  (hL:L = -1074 * 78913 / 262144) (hp:-L = p) (hlp:lp = p * 108853 / 32768) (hi:(i:Int) = p + 348) (hi2:i < 696) (hs:-(e + lp + 3) = (s:Int)) (hs2:s < 64) (hM1:M1 = m / 2 ^ z) (o2:M1 ≤ 9007199254740992) (a2:bits .and .i64 (M1:Int) 1 = (od:Int)) (hA1:1 ≤ A) (hA2:A ≤ m) (hmn:mn = m - A) (hmx:mx = m + A) (hmx2:m + A < 18446744073709551616)
  (hod:od ≤ 1) (hg:15 < w.heap.size) (U1 U2 U3 D1 D2:Nat) (hU1:U1 = us mn (rowH i) (rowL i) s) (hU2:U2 = us mx (rowH i) (rowL i) s) (hU3:U3 = us m (rowH i) (rowL i) s) (hD1:D1 = (U1 + od + 3) / 4) (hD2:D2 = (U2 - od) / 4)
  (bU1:U1 + 8 < 18446744073709551616) (bU2:U2 + 8 < 18446744073709551616) (bU3:U3 + 8 < 18446744073709551616) (oU2:od ≤ U2) (hh:rowH i < 18446744073709551616) (hl:rowL i < 18446744073709551616)
  (k1:1 ≤ mn * rowH i / 18446744073709551616) (k2:1 ≤ mx * rowH i / 18446744073709551616) (k3:1 ≤ m * rowH i / 18446744073709551616) (d:Nat) (q:Int)
  (hd:(D1 ≤ D2 / 10 * 10 ∧ d = D2 / 10 ∧ q = -(p - 1)) ∨ (¬ D1 ≤ D2 / 10 * 10 ∧ D1 < D2 ∧ d = (U3 + 1 + U3 / 4 % 2) / 4 ∧ q = -p) ∨ (¬ D1 ≤ D2 / 10 * 10 ∧ ¬ D1 < D2 ∧ d = D1 ∧ q = -p)) :
  Calls Tryz.prog 139 #[.int .u64 m,.int .i64 e] w fun ed w' => ed = .returned (.tuple #[.int .u64 d,.int .i64 q]) ∧ Below w.heap.size w w':=by
 have C1:=hide (fun W => lg_ok (-1074) W (by omega))
 rw [← hL] at C1
 have pb:-348 ≤ p ∧ p ≤ 347:=by omega
 have C2:=hide (fun W => l2_ok p W (by omega))
 rw [← hlp] at C2
 have hz12:12 ≤ z ∧ z ≤ 63:=by omega
 have hez:e + (z:Int) = -1074:=by omega
 have x1:IntKind.u64.wrap ((2:Int) ^ (z - 1)) = (A:Int):=by
  have e1:((2:Int) ^ (z - 1)) = (A:Int):=by rw [hA];simp
  rw [e1,IntKind.wrap_u64];omega
 have x2:IntKind.u64.wrap ((m:Int) - (A:Int)) = (mn:Int):=by rw [IntKind.wrap_u64];omega
 have x3:IntKind.u64.wrap ((m:Int) + (A:Int)) = (mx:Int):=by rw [IntKind.wrap_u64];omega
 have x4:(m:Int) / 2 ^ z = (M1:Int):=by rw [hM1];simp
 have lpb:-100000 ≤ lp ∧ lp ≤ 100000:=by omega
 have T1:=hide (fun W B hc => uscale_ok mn (rowH i) (rowL i) s B W (by omega) hh hl hs2 k1 hc)
 have T2:=hide (fun W B hc => uscale_ok mx (rowH i) (rowL i) s B W (by omega) hh hl hs2 k2 hc)
 have T3:=hide (fun W B hc => uscale_ok m (rowH i) (rowL i) s B W (by omega) hh hl hs2 k3 hc)
 rw [← hU1] at T1
 rw [← hU2] at T2
 rw [← hU3] at T3
 have N1:=hide (fun W => up_ok U1 od W (by omega) hod)
 have N2:=hide (fun W => ceil_ok (U1 + od) W (by omega))
 have N3:=hide (fun W => dn_ok U2 od W (by omega) hod oU2)
 have N4:=hide (fun W => floor_ok (U2 - od) W (by omega))
 have N5:=hide (fun W => round_ok U3 W (by omega))
 rw [← hD1] at N2
 rw [← hD2] at N4
 have bD1:D1 < 4611686018427387904:=by omega
 have bD2:D2 < 4611686018427387904:=by omega
 obtain ⟨V1,hV1⟩:∃ V1,V1 = U1 + od:=⟨_,rfl⟩
 rw [← hV1] at N1 N2
 obtain ⟨V2,hV2⟩:∃ V2,V2 = U2 - od:=⟨_,rfl⟩
 rw [← hV2] at N3 N4
 have HD:=hide hd
 clear hU1 hU2 hU3 hD1 hD2 bU1 bU2 bU3 oU2 k1 k2 k3 hV1 hV2 hd hh hl
 have HL:=hide hL
 have HI:=hide hi
 have HS:=hide hs
 have HLP:=hide hlp
 clear hL hi hs hlp hM1 hA hmn hmx hmx2
 go_enter Tryz.func139,Tryz.ntmps139
 go_wp2_with fail
 refine (unhide C1 _).mono ?_
 rintro ed w1' ⟨rfl,rfl⟩
 clear C1
 go_wp2_with fail
 refine (unhide C2 _).mono ?_
 rintro ed w2' ⟨rfl,rfl⟩
 clear C2
 have HB:=hide (heap_alloc_new w1' (.cells #[.int .u64 0,.int .u64 0,.int .i64 0] 213))
 have HT:=hide (fun j (hj:j < 696) => (⟨(((Below.refl w1'.heap.size w1').alloc (Nat.le_refl _) (.cells #[.int .u64 0,.int .u64 0,.int .i64 0] 213)).cell (p:=⟨15,2 * j,none⟩) hg).trans (hT j hj).1,(((Below.refl w1'.heap.size w1').alloc (Nat.le_refl _) (.cells #[.int .u64 0,.int .u64 0,.int .i64 0] 213)).cell (p:=⟨15,2 * j + 1,none⟩) hg).trans (hT j hj).2⟩:_ ∧ _))
 have b0:=(Below.refl w1'.heap.size w1').alloc (Nat.le_refl _) (.cells #[.int .u64 0,.int .u64 0,.int .i64 0] 213)
 have hne:w1'.heap.size ≠ 15:=by omega
 clear hT
 go_wp2_with fail
 refine (prescale_ok w1'.heap.size _ _ _ _ e p lp i s _ (unhide HB) (unhide HT) hne (unhide HI) hi2 (unhide HS) (by omega) lpb).mono ?_
 rintro ed w3 ⟨rfl,hB3,b3⟩
 have S3:=Sca.of_heap hB3
 have b3':=b0.trans b3
 clear HB HT hB3 b0 b3
 have hsz3:w1'.heap.size ≤ w3.heap.size:=b3'.size
 go_wp2_with fail
 refine (unhide T1 _ _ S3).mono ?_
 rintro ed w4 ⟨rfl,b4⟩
 have S4:=S3.below b4
 have b4':=hide (b3'.trans (b4.mono hsz3))
 clear T1 S3 b4 b3' hsz3
 go_wp2_with fail
 refine (unhide N1 _).mono ?_
 rintro ed w5 ⟨rfl,rfl⟩
 clear N1
 go_wp2_with fail
 refine (unhide N2 _).mono ?_
 rintro ed w6 ⟨rfl,rfl⟩
 clear N2
 go_wp2_with fail
 refine (unhide T2 _ _ S4).mono ?_
 rintro ed w7 ⟨rfl,b7⟩
 have S7:=S4.below b7
 have b7':=hide ((unhide b4').trans (b7.mono (unhide b4').size))
 clear T2 S4 b7 b4'
 go_wp2_with fail
 refine (unhide N3 _).mono ?_
 rintro ed w8 ⟨rfl,rfl⟩
 clear N3
 go_wp2_with fail
 refine (unhide N4 _).mono ?_
 rintro ed w9 ⟨rfl,rfl⟩
 clear N4
 obtain ⟨Qd,hQd⟩:∃ Qd,Qd = D2 / 10:=⟨_,rfl⟩
 have hd:=unhide HD
 rw [← hQd] at hd
 have q1:(D2:Int) / 10 = (Qd:Int):=by omega
 have q2:(Qd:Int) ≤ 461168601842738790:=by omega
 clear HD hQd
 rcases hd with ⟨h1,rfl,hq⟩ | ⟨h1,h2,hd,hq⟩ | ⟨h1,h2,hd,hq⟩
 ·have g1:(D1:Int) ≤ (d:Int) * 10:=by omega
  have Hq:=hide hq
  clear hq T3 N5
  go_wp2
  go_ret2
  refine ⟨?_,unhide b7'⟩
  rw [unhide Hq]
  rfl
 ·have g1:¬ (D1:Int) ≤ (Qd:Int) * 10:=by omega
  have g2:(D1:Int) < (D2:Int):=by omega
  have Hq:=hide hq
  have Hd:=hide hd
  rw [← hd] at N5
  clear hq hd
  go_wp2_with fail
  refine (unhide T3 _ _ S7).mono ?_
  rintro ed wa ⟨rfl,ba⟩
  have ba':=hide ((unhide b7').trans (ba.mono (unhide b7').size))
  clear T3 S7 ba b7'
  go_wp2_with fail
  refine (unhide N5 _).mono ?_
  rintro ed wb ⟨rfl,rfl⟩
  clear N5
  go_wp2
  go_ret2
  refine ⟨?_,unhide ba'⟩
  rw [unhide Hq]
  rfl
 ·have g1:¬ (D1:Int) ≤ (Qd:Int) * 10:=by omega
  have g2:¬ (D1:Int) < (D2:Int):=by omega
  subst hd
  have Hq:=hide hq
  clear hq T3 N5
  go_wp2
  go_ret2
  refine ⟨?_,unhide b7'⟩
  rw [unhide Hq]
  rfl
set_option maxHeartbeats 8000000 in
set_option maxRecDepth 100000 in
theorem sf_c0 (m M1 mn mx z:Nat) (e L p lp:Int) (i s od:Nat) (w:World) (hT:PT w) (hm:9223372036854775808 ≤ m) (hm2:m < 18446744073709550592) (he:e < -1085) (he2:-1137 ≤ e) (eM:((m:Int) == 9223372036854775808) = true) (hz:11 + (-1085 - e) = (z:Int)) (A:Nat) (hA:A = 2 ^ (z - 1))
  (hL:L = -1074 * 78913 / 262144) (hp:-L = p) (hlp:lp = p * 108853 / 32768) (hi:(i:Int) = p + 348) (hi2:i < 696) (hs:-(e + lp + 3) = (s:Int)) (hs2:s < 64) (hM1:M1 = m / 2 ^ z) (o2:M1 ≤ 9007199254740992) (a2:bits .and .i64 (M1:Int) 1 = (od:Int)) (hA1:1 ≤ A) (hA2:A ≤ m) (hmn:mn = m - A) (hmx:mx = m + A) (hmx2:m + A < 18446744073709551616)
  (hod:od ≤ 1) (hg:15 < w.heap.size) (U1 U2 U3 D1 D2:Nat) (hU1:U1 = us mn (rowH i) (rowL i) s) (hU2:U2 = us mx (rowH i) (rowL i) s) (hU3:U3 = us m (rowH i) (rowL i) s) (hD1:D1 = (U1 + od + 3) / 4) (hD2:D2 = (U2 - od) / 4)
  (bU1:U1 + 8 < 18446744073709551616) (bU2:U2 + 8 < 18446744073709551616) (bU3:U3 + 8 < 18446744073709551616) (oU2:od ≤ U2) (hh:rowH i < 18446744073709551616) (hl:rowL i < 18446744073709551616)
  (k1:1 ≤ mn * rowH i / 18446744073709551616) (k2:1 ≤ mx * rowH i / 18446744073709551616) (k3:1 ≤ m * rowH i / 18446744073709551616) (d:Nat) (q:Int)
  (hd:(D1 ≤ D2 / 10 * 10 ∧ d = D2 / 10 ∧ q = -(p - 1)) ∨ (¬ D1 ≤ D2 / 10 * 10 ∧ D1 < D2 ∧ d = (U3 + 1 + U3 / 4 % 2) / 4 ∧ q = -p) ∨ (¬ D1 ≤ D2 / 10 * 10 ∧ ¬ D1 < D2 ∧ d = D1 ∧ q = -p)) :
  Calls Tryz.prog 139 #[.int .u64 m,.int .i64 e] w fun ed w' => ed = .returned (.tuple #[.int .u64 d,.int .i64 q]) ∧ Below w.heap.size w w':=by
 have C1:=hide (fun W => lg_ok (-1074) W (by omega))
 rw [← hL] at C1
 have pb:-348 ≤ p ∧ p ≤ 347:=by omega
 have C2:=hide (fun W => l2_ok p W (by omega))
 rw [← hlp] at C2
 have hz12:12 ≤ z ∧ z ≤ 63:=by omega
 have hez:e + (z:Int) = -1074:=by omega
 have x1:IntKind.u64.wrap ((2:Int) ^ (z - 1)) = (A:Int):=by
  have e1:((2:Int) ^ (z - 1)) = (A:Int):=by rw [hA];simp
  rw [e1,IntKind.wrap_u64];omega
 have x2:IntKind.u64.wrap ((m:Int) - (A:Int)) = (mn:Int):=by rw [IntKind.wrap_u64];omega
 have x3:IntKind.u64.wrap ((m:Int) + (A:Int)) = (mx:Int):=by rw [IntKind.wrap_u64];omega
 have x4:(m:Int) / 2 ^ z = (M1:Int):=by rw [hM1];simp
 have lpb:-100000 ≤ lp ∧ lp ≤ 100000:=by omega
 have T1:=hide (fun W B hc => uscale_ok mn (rowH i) (rowL i) s B W (by omega) hh hl hs2 k1 hc)
 have T2:=hide (fun W B hc => uscale_ok mx (rowH i) (rowL i) s B W (by omega) hh hl hs2 k2 hc)
 have T3:=hide (fun W B hc => uscale_ok m (rowH i) (rowL i) s B W (by omega) hh hl hs2 k3 hc)
 rw [← hU1] at T1
 rw [← hU2] at T2
 rw [← hU3] at T3
 have N1:=hide (fun W => up_ok U1 od W (by omega) hod)
 have N2:=hide (fun W => ceil_ok (U1 + od) W (by omega))
 have N3:=hide (fun W => dn_ok U2 od W (by omega) hod oU2)
 have N4:=hide (fun W => floor_ok (U2 - od) W (by omega))
 have N5:=hide (fun W => round_ok U3 W (by omega))
 rw [← hD1] at N2
 rw [← hD2] at N4
 have bD1:D1 < 4611686018427387904:=by omega
 have bD2:D2 < 4611686018427387904:=by omega
 obtain ⟨V1,hV1⟩:∃ V1,V1 = U1 + od:=⟨_,rfl⟩
 rw [← hV1] at N1 N2
 obtain ⟨V2,hV2⟩:∃ V2,V2 = U2 - od:=⟨_,rfl⟩
 rw [← hV2] at N3 N4
 have HD:=hide hd
 clear hU1 hU2 hU3 hD1 hD2 bU1 bU2 bU3 oU2 k1 k2 k3 hV1 hV2 hd hh hl
 have HL:=hide hL
 have HI:=hide hi
 have HS:=hide hs
 have HLP:=hide hlp
 clear hL hi hs hlp hM1 hA hmn hmx hmx2
 go_enter Tryz.func139,Tryz.ntmps139
 go_wp2_with fail
 refine (unhide C1 _).mono ?_
 rintro ed w1' ⟨rfl,rfl⟩
 clear C1
 go_wp2_with fail
 refine (unhide C2 _).mono ?_
 rintro ed w2' ⟨rfl,rfl⟩
 clear C2
 have HB:=hide (heap_alloc_new w1' (.cells #[.int .u64 0,.int .u64 0,.int .i64 0] 213))
 have HT:=hide (fun j (hj:j < 696) => (⟨(((Below.refl w1'.heap.size w1').alloc (Nat.le_refl _) (.cells #[.int .u64 0,.int .u64 0,.int .i64 0] 213)).cell (p:=⟨15,2 * j,none⟩) hg).trans (hT j hj).1,(((Below.refl w1'.heap.size w1').alloc (Nat.le_refl _) (.cells #[.int .u64 0,.int .u64 0,.int .i64 0] 213)).cell (p:=⟨15,2 * j + 1,none⟩) hg).trans (hT j hj).2⟩:_ ∧ _))
 have b0:=(Below.refl w1'.heap.size w1').alloc (Nat.le_refl _) (.cells #[.int .u64 0,.int .u64 0,.int .i64 0] 213)
 have hne:w1'.heap.size ≠ 15:=by omega
 clear hT
 go_wp2_with fail
 refine (prescale_ok w1'.heap.size _ _ _ _ e p lp i s _ (unhide HB) (unhide HT) hne (unhide HI) hi2 (unhide HS) (by omega) lpb).mono ?_
 rintro ed w3 ⟨rfl,hB3,b3⟩
 have S3:=Sca.of_heap hB3
 have b3':=b0.trans b3
 clear HB HT hB3 b0 b3
 have hsz3:w1'.heap.size ≤ w3.heap.size:=b3'.size
 go_wp2_with fail
 refine (unhide T1 _ _ S3).mono ?_
 rintro ed w4 ⟨rfl,b4⟩
 have S4:=S3.below b4
 have b4':=hide (b3'.trans (b4.mono hsz3))
 clear T1 S3 b4 b3' hsz3
 go_wp2_with fail
 refine (unhide N1 _).mono ?_
 rintro ed w5 ⟨rfl,rfl⟩
 clear N1
 go_wp2_with fail
 refine (unhide N2 _).mono ?_
 rintro ed w6 ⟨rfl,rfl⟩
 clear N2
 go_wp2_with fail
 refine (unhide T2 _ _ S4).mono ?_
 rintro ed w7 ⟨rfl,b7⟩
 have S7:=S4.below b7
 have b7':=hide ((unhide b4').trans (b7.mono (unhide b4').size))
 clear T2 S4 b7 b4'
 go_wp2_with fail
 refine (unhide N3 _).mono ?_
 rintro ed w8 ⟨rfl,rfl⟩
 clear N3
 go_wp2_with fail
 refine (unhide N4 _).mono ?_
 rintro ed w9 ⟨rfl,rfl⟩
 clear N4
 obtain ⟨Qd,hQd⟩:∃ Qd,Qd = D2 / 10:=⟨_,rfl⟩
 have hd:=unhide HD
 rw [← hQd] at hd
 have q1:(D2:Int) / 10 = (Qd:Int):=by omega
 have q2:(Qd:Int) ≤ 461168601842738790:=by omega
 clear HD hQd
 rcases hd with ⟨h1,rfl,hq⟩ | ⟨h1,h2,hd,hq⟩ | ⟨h1,h2,hd,hq⟩
 ·have g1:(D1:Int) ≤ (d:Int) * 10:=by omega
  have Hq:=hide hq
  clear hq T3 N5
  go_wp2
  go_ret2
  refine ⟨?_,unhide b7'⟩
  rw [unhide Hq]
  rfl
 ·have g1:¬ (D1:Int) ≤ (Qd:Int) * 10:=by omega
  have g2:(D1:Int) < (D2:Int):=by omega
  have Hq:=hide hq
  have Hd:=hide hd
  rw [← hd] at N5
  clear hq hd
  go_wp2_with fail
  refine (unhide T3 _ _ S7).mono ?_
  rintro ed wa ⟨rfl,ba⟩
  have ba':=hide ((unhide b7').trans (ba.mono (unhide b7').size))
  clear T3 S7 ba b7'
  go_wp2_with fail
  refine (unhide N5 _).mono ?_
  rintro ed wb ⟨rfl,rfl⟩
  clear N5
  go_wp2
  go_ret2
  refine ⟨?_,unhide ba'⟩
  rw [unhide Hq]
  rfl
 ·have g1:¬ (D1:Int) ≤ (Qd:Int) * 10:=by omega
  have g2:¬ (D1:Int) < (D2:Int):=by omega
  subst hd
  have Hq:=hide hq
  clear hq T3 N5
  go_wp2
  go_ret2
  refine ⟨?_,unhide b7'⟩
  rw [unhide Hq]
  rfl
end Go.Proofs.YtjlaoeigfokkiaaGreatDoor.fto
namespace Go.Proofs.YtjlaoeigfokkiaaGreatDoor.fto
open Go.ChangeShapes Go.WideShapes Go.ChangeAt Go.RowKit
open mem
open ints (hide unhide)
set_option linter.unusedVariables false
theorem ofI64 (a:Nat) (ha:a < 18446744073709551616):(BitVec.ofInt 64 (a:Int)).toNat = a:=by
 rw [BitVec.ofInt_natCast,BitVec.toNat_ofNat];exact Nat.mod_eq_of_lt (by omega)
theorem iand1 (a:Nat) (ha:a < 9223372036854775808):bits .and .i64 (a:Int) 1 = ((a % 2:Nat):Int):=by
 have e:bits .and .i64 (a:Int) 1 = IntKind.i64.wrap ((BitVec.ofInt 64 (a:Int) &&& BitVec.ofInt 64 (1:Int)).toNat:Int):=rfl
 rw [e,BitVec.toNat_and,ofI64 a (by omega),show (BitVec.ofInt 64 (1:Int)).toNat = 1 from by decide,Nat.and_one_is_mod,IntKind.wrap_i64]
 omega
theorem rows_at {p:Int} (h0:-348 ≤ p):rowH (p + 348).toNat = tabH p ∧ rowL (p + 348).toNat = tabL p:=⟨rfl,rfl⟩
theorem us_at {p:Int} (h0:-348 ≤ p) (h1:p ≤ 347) {x y t W:Nat} (hx:x = 512 * y) (hy0:0 < y) (hy:y < 36028797018963968) (ht:5 ≤ t) (hW:W = q64 * q64 * eB p * 2 ^ t):us x (rowH (p + 348).toNat) (rowL (p + 348).toNat) t = un (x * eA p) W:=by
 rw [(rows_at h0).1,(rows_at h0).2,hx,uscale_write p h0 h1 y t hy0 hy ht,hW]
theorem k_at {p:Int} (h0:-348 ≤ p) (h1:p ≤ 347) {x:Nat} (hx:2 ≤ x):1 ≤ x * rowH (p + 348).toNat / 18446744073709551616:=by
 obtain ⟨h,-,-⟩:=tab_hi p h0 h1
 rw [(rows_at h0).1]
 refine (Nat.le_div_iff_mul_le (by decide)).2 ?_
 have:2 * 9223372036854775808 ≤ x * tabH p:=Nat.mul_le_mul hx h
 omega
set_option maxRecDepth 100000 in
theorem sf_norm (a:Nat) (hb:b52 ≤ a) (hai:a < infR):∃ (t:Nat) (p:Int) (W dmin dmax r:Nat),ShF a 11 t p (mantR a * 2 ^ 11 * eA p) W dmin dmax r ∧
  ∀ w,PT w → 15 < w.heap.size → Calls Tryz.prog 139 #[.int .u64 ((mantR a * 2048:Nat):Int),.int .i64 ((exR a:Int) - 1085)] w fun ed w' => ed = .returned (.tuple #[.int .u64 (chD dmin dmax r:Nat),.int .i64 (chQ dmin dmax p)]) ∧ Below w.heap.size w w':=by
 have ha:0 < a:=by unfold b52 at hb;omega
 obtain ⟨m0,m1,hk,hodd⟩:=mant_rng ha hai
 have hm52:b52 ≤ mantR a:=by unfold mantR;rw [if_neg (by omega)];omega
 unfold b53 at m1
 have hm52':4503599627370496 ≤ mantR a:=hm52
 have hs0:9223372036854775808 ≤ mantR a * 2 ^ 11:=by omega
 have hs1:mantR a * 2 ^ 11 < q64:=by unfold q64;omega
 by_cases hsk:mantR a = b52 ∧ 0 < exR a
 ·obtain ⟨p,hp⟩:∃ p,p = pS (exR a):=⟨_,rfl⟩
  obtain ⟨t,ht⟩:∃ t,t = (1082 - (exR a:Int) - lpZ p).toNat:=⟨_,rfl⟩
  obtain ⟨W,hW⟩:∃ W,W = q64 * q64 * eB p * 2 ^ t:=⟨_,rfl⟩
  obtain ⟨F,t5,t64⟩:=skew_facts a t p ha hai hsk hp ht hW rfl rfl rfl
  refine ⟨t,p,W,_,_,_,F,fun w hT hg => ?_⟩
  obtain ⟨p1,p2⟩:=F.pv
  have hev:=((ex_pre ha).2 hsk).2
  obtain ⟨hm,hk0⟩:=hsk
  have hm':mantR a = 4503599627370496:=hm
  have hh:=tab_hi p p1 p2
  have e1:mantR a * 2048 - 512 = 9223372036854775296:=by omega
  have e2:mantR a * 2048 + 1024 = 9223372036854776832:=by omega
  have e3:mantR a * 2048 = 9223372036854775808:=by omega
  have tv:=F.tv
  have hd:=ch_or ((un ((mantR a * 2048 - 512) * eA p) W + a % 2 + 3) / 4) ((un ((mantR a * 2048 + 1024) * eA p) W - a % 2) / 4) ((un (mantR a * 2048 * eA p) W + 1 + un (mantR a * 2048 * eA p) W / 4 % 2) / 4) p
  rw [hev] at hd ⊢
  exact sf_a (mantR a * 2048) (mantR a * 2048 - 512) (mantR a * 2048 + 1024) e3 ((exR a:Int) - 1085) _ p (lpZ p) (p + 348).toNat t 0 rfl w hT (by omega) (by omega) rfl (by rw [hp];unfold pS skZ;rw [show (exR a:Int) - 1085 + 11 = (exR a:Int) - 1074 by omega]) rfl (by omega) (by omega) (by omega) t64 e1 e2 (by decide) hg _ _ _ _ _ (us_at p1 p2 (y:=18014398509481983) (by omega) (by decide) (by decide) t5 hW).symm (us_at p1 p2 (y:=18014398509481986) (by omega) (by decide) (by decide) t5 hW).symm (us_at p1 p2 (y:=18014398509481984) (by omega) (by decide) (by decide) t5 hW).symm rfl rfl (un_small p1 p2 (by unfold q64;omega) t5 hW) (un_small p1 p2 (by unfold q64;omega) t5 hW) (un_small p1 p2 (by unfold q64;omega) t5 hW) (Nat.zero_le _) hh.2.1 hh.2.2 (k_at p1 p2 (by omega)) (k_at p1 p2 (by omega)) (k_at p1 p2 (by omega)) _ _ hd
 ·obtain ⟨p,hp⟩:∃ p,p = pG (exR a):=⟨_,rfl⟩
  obtain ⟨t,ht⟩:∃ t,t = (1071 + ((11:Nat):Int) - (exR a:Int) - lpZ p).toNat:=⟨_,rfl⟩
  obtain ⟨W,hW⟩:∃ W,W = q64 * q64 * eB p * 2 ^ t:=⟨_,rfl⟩
  obtain ⟨F,t5,t64⟩:=sho_facts a 11 t p ha hai hs0 hs1 hsk hp ht hW rfl rfl rfl
  refine ⟨t,p,W,_,_,_,F,fun w hT hg => ?_⟩
  obtain ⟨p1,p2⟩:=F.pv
  have hh:=tab_hi p p1 p2
  have tv:=F.tv
  have hd:=ch_or ((un ((mantR a * 2 ^ 11 - 2 ^ (11 - 1)) * eA p) W + a % 2 + 3) / 4) ((un ((mantR a * 2 ^ 11 + 2 ^ (11 - 1)) * eA p) W - a % 2) / 4) ((un (mantR a * 2 ^ 11 * eA p) W + 1 + un (mantR a * 2 ^ 11 * eA p) W / 4 % 2) / 4) p
  have s1:(2:Nat) ^ 11 = 2048:=rfl
  have s2:(2:Nat) ^ (11 - 1) = 1024:=rfl
  rw [s1,s2] at hd ⊢
  have hA:=eA_pos p1 p2
  have hUp:∀ X,0 < X → 0 < X * eA p:=fun X hX => Nat.mul_pos hX hA
  by_cases hm:mantR a = 4503599627370496
  ·have hex:exR a = 0:=by
    rcases Nat.eq_zero_or_pos (exR a) with h | h
    ·exact h
    ·exact absurd ⟨hm,h⟩ hsk
   have hev:a % 2 = 0:=by rw [← hodd,hm]
   rw [hev] at hd ⊢
   rw [hex] at tv ⊢
   exact sf_b0 (mantR a * 2048) (mantR a * 2048 - 1024) (mantR a * 2048 + 1024) (by omega) (((0:Nat):Int) - 1085) _ p (lpZ p) (by omega) (by omega) (p + 348).toNat t 0 rfl w hT rfl (by rw [hp,hex];unfold pG lgZ;rfl) rfl (by omega) (by omega) (by omega) t64 (by omega) (by omega) (by decide) hg _ _ _ _ _ (us_at p1 p2 (y:=4 * mantR a - 2) (by omega) (by omega) (by omega) t5 hW).symm (us_at p1 p2 (y:=4 * mantR a + 2) (by omega) (by omega) (by omega) t5 hW).symm (us_at p1 p2 (y:=4 * mantR a) (by omega) (by omega) (by omega) t5 hW).symm rfl rfl (un_small p1 p2 (by unfold q64;omega) t5 hW) (un_small p1 p2 (by unfold q64;omega) t5 hW) (un_small p1 p2 (by unfold q64;omega) t5 hW) (Nat.zero_le _) hh.2.1 hh.2.2 (k_at p1 p2 (by omega)) (k_at p1 p2 (by omega)) (k_at p1 p2 (by omega)) _ _ hd
  ·exact sf_b (mantR a * 2048) (mantR a) (mantR a * 2048 - 1024) (mantR a * 2048 + 1024) ((exR a:Int) - 1085) _ p (lpZ p) (p + 348).toNat t (a % 2) w hT (by omega) (by omega) (by rw [beq_eq_false_iff_ne];omega) (by omega) (by omega) rfl (by rw [hp];unfold pG lgZ;rw [show (exR a:Int) - 1085 + 11 = (exR a:Int) - 1074 by omega]) rfl (by omega) (by omega) (by omega) t64 (by omega) (by rw [iand1 _ (by omega),hodd]) (by omega) (by omega) (by omega) hg _ _ _ _ _ (us_at p1 p2 (y:=4 * mantR a - 2) (by omega) (by omega) (by omega) t5 hW).symm (us_at p1 p2 (y:=4 * mantR a + 2) (by omega) (by omega) (by omega) t5 hW).symm (us_at p1 p2 (y:=4 * mantR a) (by omega) (by omega) (by omega) t5 hW).symm rfl rfl (un_small p1 p2 (by unfold q64;omega) t5 hW) (un_small p1 p2 (by unfold q64;omega) t5 hW) (un_small p1 p2 (by unfold q64;omega) t5 hW) (by have:=un_pos (W:=W) (hUp (mantR a * 2048 + 1024) (by omega));omega) hh.2.1 hh.2.2 (k_at p1 p2 (by omega)) (k_at p1 p2 (by omega)) (k_at p1 p2 (by omega)) _ _ hd
end Go.Proofs.YtjlaoeigfokkiaaGreatDoor.fto
namespace Go.Proofs.YtjlaoeigfokkiaaGreatDoor.fto
open Go.ChangeShapes Go.WideShapes Go.ChangeAt Go.RowKit
open mem
open ints (hide unhide)
set_option linter.unusedVariables false
set_option maxRecDepth 100000 in
theorem sf_sub (a s:Nat) (ha:0 < a) (hb:a < b52) (hs0:9223372036854775808 ≤ a * 2 ^ s) (hs1:a * 2 ^ s < q64):12 ≤ s ∧ s ≤ 63 ∧ ∃ (t:Nat) (p:Int) (W dmin dmax r:Nat),ShF a s t p (mantR a * 2 ^ s * eA p) W dmin dmax r ∧
  ∀ w,PT w → 15 < w.heap.size → Calls Tryz.prog 139 #[.int .u64 ((a * 2 ^ s:Nat):Int),.int .i64 (-1074 - (s:Int))] w fun ed w' => ed = .returned (.tuple #[.int .u64 (chD dmin dmax r:Nat),.int .i64 (chQ dmin dmax p)]) ∧ Below w.heap.size w w':=by
 have hb':a < 4503599627370496:=hb
 have hai:a < infR:=by unfold infR;omega
 have hm:mantR a = a:=by unfold mantR;rw [if_pos hb]
 have hex:exR a = 0:=by unfold exR b52;omega
 obtain ⟨m0,m1,hk,hodd⟩:=mant_rng ha hai
 obtain ⟨s11,s64⟩:=s_rng m0 m1 (by rw [hm];exact hs0) (by rw [hm];exact hs1)
 have s12:12 ≤ s:=by
  rcases Nat.lt_or_ge s 12 with h | h
  ·exfalso
   have:s = 11:=by omega
   rw [this] at hs0
   omega
  ·exact h
 refine ⟨s12,by omega,?_⟩
 obtain ⟨A,hA⟩:∃ A,A = 2 ^ (s - 1):=⟨_,rfl⟩
 obtain ⟨m,hmm⟩:∃ m,m = a * 2 ^ s:=⟨_,rfl⟩
 obtain ⟨p,hp⟩:∃ p,p = pG (exR a):=⟨_,rfl⟩
 obtain ⟨t,ht⟩:∃ t,t = (1071 + (s:Int) - (exR a:Int) - lpZ p).toNat:=⟨_,rfl⟩
 obtain ⟨W,hW⟩:∃ W,W = q64 * q64 * eB p * 2 ^ t:=⟨_,rfl⟩
 obtain ⟨F,t5,t64⟩:=sho_facts a s t p ha hai (by rw [hm];exact hs0) (by rw [hm];exact hs1) (by rw [hex];omega) hp ht hW rfl rfl rfl
 refine ⟨t,p,W,_,_,_,F,fun w hT hg => ?_⟩
 obtain ⟨p1,p2⟩:=F.pv
 have hh:=tab_hi p p1 p2
 have tv:=F.tv
 have hd:=ch_or ((un ((mantR a * 2 ^ s - 2 ^ (s - 1)) * eA p) W + a % 2 + 3) / 4) ((un ((mantR a * 2 ^ s + 2 ^ (s - 1)) * eA p) W - a % 2) / 4) ((un (mantR a * 2 ^ s * eA p) W + 1 + un (mantR a * 2 ^ s * eA p) W / 4 % 2) / 4) p
 rw [hm,← hA,← hmm] at hd ⊢
 rw [hex] at tv
 have eA':=eA_pos p1 p2
 have e9:2 ^ s = 512 * 2 ^ (s - 9):=by rw [show (512:Nat) = 2 ^ 9 from rfl,← Nat.pow_add];congr 1;omega
 have e10:A = 512 * 2 ^ (s - 10):=by rw [hA,show (512:Nat) = 2 ^ 9 from rfl,← Nat.pow_add];congr 1;omega
 have eA2:2 ^ s = 2 * A:=by rw [hA,← Nat.pow_succ'];congr 1;omega
 have hA1:1 ≤ A:=by rw [hA];exact Nat.two_pow_pos _
 have dm:m % 512 = 0:=by rw [hmm,e9,Nat.mul_left_comm];exact Nat.mul_mod_right _ _
 have dA:A % 512 = 0:=by rw [e10];exact Nat.mul_mod_right _ _
 have hmA:2 * A ≤ m:=by rw [hmm,← eA2];exact Nat.le_mul_of_pos_left _ ha
 have hm63:9223372036854775808 ≤ m:=by rw [hmm];exact hs0
 have hm64:m < 18446744073709551616:=by rw [hmm];exact hs1
 have dA2:A % 2048 = 0:=by
  have:A = 2048 * 2 ^ (s - 12):=by rw [hA,show (2048:Nat) = 2 ^ 11 from rfl,← Nat.pow_add];congr 1;omega
  rw [this];exact Nat.mul_mod_right _ _
 have dm2:m % 2048 = 0:=by
  have:m = 2048 * (a * 2 ^ (s - 11)):=by rw [hmm,Nat.mul_left_comm,show (2048:Nat) = 2 ^ 11 from rfl,← Nat.pow_add];congr 2;omega
  rw [this];exact Nat.mul_mod_right _ _
 have hmx:m + A < 18446744073709551616:=by
  have hdv:∃ k,18446744073709551616 = k * (2 * A):=⟨2 ^ (64 - s),by rw [← eA2,← Nat.pow_add,show 64 - s + s = 64 by omega]⟩
  obtain ⟨k,hk⟩:=hdv
  have h1:a * (2 * A) < k * (2 * A):=by rw [← hk,← eA2,← hmm];exact hm64
  have h2:a < k:=Nat.lt_of_mul_lt_mul_right h1
  have h3:(a + 1) * (2 * A) ≤ k * (2 * A):=Nat.mul_le_mul_right _ h2
  rw [Nat.add_mul,Nat.one_mul,← eA2,← hmm,eA2,← hk] at h3
  omega
 have hM1:a = m / 2 ^ s:=by rw [hmm,Nat.mul_div_cancel _ (Nat.two_pow_pos _)]
 have hUp:0 < (m + A) * eA p:=Nat.mul_pos (by omega) eA'
 by_cases eM:m = 9223372036854775808
 ·exact sf_c0 m a (m - A) (m + A) s (-1074 - (s:Int)) _ p (lpZ p) (p + 348).toNat t (a % 2) w hT hm63 (by omega) (by omega) (by omega) (by rw [beq_iff_eq];omega) (by omega) A hA rfl (by rw [hp,hex];unfold pG lgZ;rfl) rfl (by omega) (by omega) (by omega) t64 hM1 (by omega) (by rw [iand1 _ (by omega)]) hA1 (by omega) rfl rfl hmx (by omega) hg _ _ _ _ _ (us_at p1 p2 (y:=(m - A) / 512) (by omega) (by omega) (by omega) t5 hW).symm (us_at p1 p2 (y:=(m + A) / 512) (by omega) (by omega) (by omega) t5 hW).symm (us_at p1 p2 (y:=m / 512) (by omega) (by omega) (by omega) t5 hW).symm rfl rfl (un_small p1 p2 (by unfold q64;omega) t5 hW) (un_small p1 p2 (by unfold q64;omega) t5 hW) (un_small p1 p2 (by unfold q64;omega) t5 hW) (by have:=un_pos (W:=W) hUp;omega) hh.2.1 hh.2.2 (k_at p1 p2 (by omega)) (k_at p1 p2 (by omega)) (k_at p1 p2 (by omega)) _ _ hd
 ·exact sf_c m a (m - A) (m + A) s (-1074 - (s:Int)) _ p (lpZ p) (p + 348).toNat t (a % 2) w hT hm63 (by omega) (by omega) (by omega) (by rw [beq_eq_false_iff_ne];omega) (by omega) A hA rfl (by rw [hp,hex];unfold pG lgZ;rfl) rfl (by omega) (by omega) (by omega) t64 hM1 (by omega) (by rw [iand1 _ (by omega)]) hA1 (by omega) rfl rfl hmx (by omega) hg _ _ _ _ _ (us_at p1 p2 (y:=(m - A) / 512) (by omega) (by omega) (by omega) t5 hW).symm (us_at p1 p2 (y:=(m + A) / 512) (by omega) (by omega) (by omega) t5 hW).symm (us_at p1 p2 (y:=m / 512) (by omega) (by omega) (by omega) t5 hW).symm rfl rfl (un_small p1 p2 (by unfold q64;omega) t5 hW) (un_small p1 p2 (by unfold q64;omega) t5 hW) (un_small p1 p2 (by unfold q64;omega) t5 hW) (by have:=un_pos (W:=W) hUp;omega) hh.2.1 hh.2.2 (k_at p1 p2 (by omega)) (k_at p1 p2 (by omega)) (k_at p1 p2 (by omega)) _ _ hd
end Go.Proofs.YtjlaoeigfokkiaaGreatDoor.fto
namespace Go.Proofs.YtjlaoeigfokkiaaGreatDoor.fto
open Go.ChangeShapes Go.WideShapes Go.ChangeAt Go.RowKit
open mem Go.Sort
open ints (hide unhide)
set_option linter.unusedVariables false
theorem nd_step {u:Nat} (h:¬ u < 10):Lib.nDigits u = Lib.nDigits (u / 10) + 1:=by rw [Lib.nDigits,dif_neg h]
theorem nd_pow:∀ u:Nat,1 ≤ u → 10 ^ (Lib.nDigits u - 1) ≤ u ∧ u < 10 ^ Lib.nDigits u ∧ 1 ≤ Lib.nDigits u:=by
 intro u
 induction u using Nat.strongRecOn with
 | ind u ih =>
  intro hu
  by_cases h:u < 10
  ·rw [Lib.nDigits_small h];simp;omega
  ·obtain ⟨h1,h2,h3⟩:=ih (u / 10) (by omega) (by omega)
   rw [nd_step h]
   obtain ⟨n,hn⟩:∃ n,Lib.nDigits (u / 10) = n + 1:=⟨Lib.nDigits (u / 10) - 1,by omega⟩
   rw [hn] at h1 h2 ⊢
   simp only [Nat.add_sub_cancel] at h1 ⊢
   have e1:(10:Nat) ^ (n + 1) = 10 ^ n * 10:=Nat.pow_succ _ _
   have e2:(10:Nat) ^ (n + 1 + 1) = 10 ^ (n + 1) * 10:=Nat.pow_succ _ _
   refine ⟨by omega,by omega,by omega⟩
theorem nd_le {u n:Nat} (h1:1 ≤ u) (h2:u < 10 ^ n):Lib.nDigits u ≤ n:=by
 obtain ⟨a,b,c⟩:=nd_pow u h1
 rcases Nat.lt_or_ge n (Lib.nDigits u) with h | h
 ·have:=Nat.pow_le_pow_right (n:=10) (by decide) (show n ≤ Lib.nDigits u - 1 by omega)
  omega
 ·exact h
theorem dgt_eq (u nd j:Nat):dgt u nd j = ((48 + u / 10 ^ (nd - 1 - j) % 10:Nat):Int):=by
 unfold dgt Lib.dg
 have:u / 10 ^ (nd - 1 - j) % 10 < 10:=Nat.mod_lt _ (by decide)
 rw [UInt8.toNat_ofNat_of_lt' (by show _ < 256;omega)]
theorem lead_ne {u:Nat} (h:1 ≤ u):dgt u (Lib.nDigits u) 0 ≠ 48:=by
 obtain ⟨a,b,c⟩:=nd_pow u h
 rw [dgt_eq,Nat.sub_zero]
 have h1:1 ≤ u / 10 ^ (Lib.nDigits u - 1):=(Nat.le_div_iff_mul_le (Nat.pow_pos (by decide))).2 (by omega)
 have h2:u / 10 ^ (Lib.nDigits u - 1) < 10:=(Nat.div_lt_iff_lt_mul (Nat.pow_pos (by decide))).2 (by
  have:(10:Nat) ^ Lib.nDigits u = 10 * 10 ^ (Lib.nDigits u - 1):=by rw [← Nat.pow_succ'];congr 1;omega
  omega)
 omega
theorem bitLen_at {x k:Nat} (h0:2 ^ k ≤ x) (h1:x < 2 ^ (k + 1)) (h2:x < 18446744073709551616):Lib.bitLen x = k + 1:=by
 rw [Lib.bitLen_shift k x h0 h2]
 have:x / 2 ^ k = 1:=by
  have e:2 ^ (k + 1) = 2 ^ k * 2:=Nat.pow_succ _ _
  refine Nat.div_eq_of_lt_le (by omega) (by omega)
 rw [this]
 rfl
theorem iand11 (a:Nat) (ha:a ≤ 2046):bits .and .i64 (a:Int) 2047 = (a:Int):=by
 have e:bits .and .i64 (a:Int) 2047 = IntKind.i64.wrap ((BitVec.ofInt 64 (a:Int) &&& BitVec.ofInt 64 (2047:Int)).toNat:Int):=rfl
 rw [e,BitVec.toNat_and,ofI64 a (by omega),show (BitVec.ofInt 64 (2047:Int)).toNat = 2 ^ 11 - 1 from by decide,Nat.and_two_pow_sub_one_eq_mod,IntKind.wrap_i64]
 omega
structure Fw (w:World):Prop where
 pt:PT w
 g:15 < w.heap.size
 tab : Lib.TabBelow Tryz.prog w.heap.size w "internal/strconv.uint64pow10" .u64 Lib.pow10Tab
theorem PT.below {w W:World} (h:PT w) (hg:15 < w.heap.size) (hb:Below w.heap.size w W):PT W:=fun i hi => ⟨(hb.cell (p:=⟨15,2 * i,none⟩) hg).trans (h i hi).1,(hb.cell (p:=⟨15,2 * i + 1,none⟩) hg).trans (h i hi).2⟩
theorem Fw.below {w W:World} (h:Fw w) (hb:Below w.heap.size w W):Fw W:=⟨h.pt.below h.g hb,Nat.lt_of_lt_of_le h.g hb.size,fun W' hW => h.tab W' (hb.trans (hW.mono hb.size))⟩
def Chosen (a d:Nat) (q:Int):Prop:=∃ (s t:Nat) (p:Int) (Xv W dmin dmax r:Nat),ShF a s t p Xv W dmin dmax r ∧ d = chD dmin dmax r ∧ q = chQ dmin dmax p
theorem Chosen.rng {a d:Nat} {q:Int} (h:Chosen a d q):Rd d q a ∧ 1 ≤ d ∧ d ≤ 100000000000000010 ∧ -347 ≤ q ∧ q ≤ 349:=by
 obtain ⟨s,t,p,Xv,W,dmin,dmax,r,F,rfl,rfl⟩:=h
 obtain ⟨h1,h2⟩:=F.rd
 obtain ⟨h3,h4,h5⟩:=F.d17
 exact ⟨h1,h2,h3,h4,h5⟩
set_option maxRecDepth 100000 in
theorem ftoa_any (a:Nat) (ha:0 < a) (hai:a < infR):∃ d q,Chosen a d q ∧ ∀ (v:Value) (base:Nat) (w:World),Fw w → w.ownsRow base 5 1 v 0 [] → base ≤ w.heap.size →
  Calls Tryz.prog 105 #[v,.float .f64 a,.int .u8 101,.int .i64 (-1)] w fun e w' => ∃ r,e = .returned r ∧ ∃ k:Nat,1 ≤ k ∧ k ≤ Lib.nDigits d ∧ (∀ j,k ≤ j → j < Lib.nDigits d → dgt d (Lib.nDigits d) j = 48) ∧ dgt d (Lib.nDigits d) (k - 1) ≠ 48 ∧ w'.ownsRow base 5 1 r (sTxt d (Lib.nDigits d) k q).length ((sTxt d (Lib.nDigits d) k q).map (Value.int .u8)) ∧ Below base w w':=by
 have hai':a < 9218868437227405312:=hai
 by_cases hb:a < b52
 ·have hb':a < 4503599627370496:=hb
  obtain ⟨k,hk⟩:∃ k,k = Nat.log2 a:=⟨_,rfl⟩
  have k0:2 ^ k ≤ a:=by rw [hk];exact Nat.log2_self_le (by omega)
  have k1:a < 2 ^ (k + 1):=by rw [hk];exact Nat.lt_log2_self
  have k52:k < 52:=by
   rcases Nat.lt_or_ge k 52 with h | h
   ·exact h
   ·have:=Nat.pow_le_pow_right (n:=2) (by decide) h
    have e:(2:Nat) ^ 52 = 4503599627370496:=by decide
    omega
  have e63:2 ^ k * 2 ^ (63 - k) = 9223372036854775808:=by rw [← Nat.pow_add,show k + (63 - k) = 63 by omega]
  have e64:2 ^ (k + 1) * 2 ^ (63 - k) = 18446744073709551616:=by rw [← Nat.pow_add,show k + 1 + (63 - k) = 64 by omega]
  have hs0:9223372036854775808 ≤ a * 2 ^ (63 - k):=by rw [← e63];exact Nat.mul_le_mul_right _ k0
  have hs1:a * 2 ^ (63 - k) < q64:=by show _ < 18446744073709551616;rw [← e64];exact Nat.mul_lt_mul_of_pos_right k1 (Nat.two_pow_pos _)
  obtain ⟨s12,s63,t,p,W,dmin,dmax,r,F,hC⟩:=sf_sub a (63 - k) ha hb hs0 hs1
  have hch:Chosen a (chD dmin dmax r) (chQ dmin dmax p):=⟨_,_,_,_,_,_,_,_,F,rfl,rfl⟩
  refine ⟨_,_,hch,fun v base w hF hown hbase => ?_⟩
  obtain ⟨-,d1,d2,q1,q2⟩:=hch.rng
  obtain ⟨n1,n2,n3⟩:=nd_pow _ d1
  have n4:Lib.nDigits (chD dmin dmax r) ≤ 18:=nd_le d1 (Nat.lt_of_le_of_lt d2 (by decide))
  exact ftoa_s a (a * 2 ^ (63 - k)) (k + 1) (63 - k) _ _ (chQ dmin dmax p) v base w ha hb' (by decide) (by have h:=u64_and_nat a 4503599627370495 (by omega) (by decide);rw [show ((4503599627370495:Nat):Int) = 4503599627370495 from rfl] at h;rw [h,show (4503599627370495:Nat) = 2 ^ 52 - 1 from rfl,Nat.and_two_pow_sub_one_eq_mod,Nat.mod_eq_of_lt (by omega)]) (bitLen_at k0 k1 (by omega)) (by omega) (by omega) (by omega) rfl hs1 hown hbase
   (fun Z hZ => by have:=hC Z (hF.below hZ).pt (hF.below hZ).g;rwa [show (-1074 - ((63 - k:Nat):Int)) = -1022 - ((63 - k:Nat):Int) - 52 by omega] at this)
   (fun Z hZ => Tryz.internal_strconv_numDigits _ d1 (by omega) Z (hF.tab Z hZ)) d1 n2 n3 (by omega) (by omega) (by omega) (fun h => lead_ne d1 (h 0 (by omega) (by omega)))
 ·have hb2:b52 ≤ a:=by omega
  have hb':4503599627370496 ≤ a:=hb2
  obtain ⟨t,p,W,dmin,dmax,r,F,hC⟩:=sf_norm a hb2 hai
  have hch:Chosen a (chD dmin dmax r) (chQ dmin dmax p):=⟨_,_,_,_,_,_,_,_,F,rfl,rfl⟩
  refine ⟨_,_,hch,fun v base w hF hown hbase => ?_⟩
  obtain ⟨-,d1,d2,q1,q2⟩:=hch.rng
  obtain ⟨n1,n2,n3⟩:=nd_pow _ d1
  have n4:Lib.nDigits (chD dmin dmax r) ≤ 18:=nd_le d1 (Nat.lt_of_le_of_lt d2 (by decide))
  obtain ⟨m0,m1,hk,hodd⟩:=mant_rng ha hai
  have m1':mantR a < 9007199254740992:=m1
  have hm:mantR a = 4503599627370496 + a % 4503599627370496:=by unfold mantR;rw [if_neg hb];rfl
  have hx:exR a = a / 4503599627370496 - 1:=rfl
  have hx1:1 ≤ a / 4503599627370496:=by omega
  have a2:bits .and .u64 (a:Int) 4503599627370495 = ((a % 4503599627370496:Nat):Int):=by
   have h:=u64_and_nat a 4503599627370495 (by omega) (by decide)
   rw [show ((4503599627370495:Nat):Int) = 4503599627370495 from rfl] at h
   rw [h,show (4503599627370495:Nat) = 2 ^ 52 - 1 from rfl,Nat.and_two_pow_sub_one_eq_mod]
  have a3:bits .or .u64 ((a % 4503599627370496:Nat):Int) 4503599627370496 = ((mantR a:Nat):Int):=by
   have h:=u64_or_nat (a % 4503599627370496) 4503599627370496 (by omega) (by decide)
   rw [show ((4503599627370496:Nat):Int) = 4503599627370496 from rfl] at h
   have h2:=Nat.two_pow_add_eq_or_of_lt (i:=52) (b:=a % 4503599627370496) (Nat.mod_lt _ (by decide)) 1
   rw [h,hm,Nat.or_comm]
   rw [show 2 ^ 52 * 1 = 4503599627370496 from rfl] at h2
   rw [← h2]
  have b52:(2:Nat) ^ 52 = 4503599627370496:=by decide
  have b53:(2:Nat) ^ (52 + 1) = 9007199254740992:=by decide
  exact ftoa_n a (a / 4503599627370496) (a % 4503599627370496) (mantR a) _ _ (chQ dmin dmax p) v base w rfl hx1 (by omega) (by omega) (iand11 _ (by omega)) a2 a3 (by omega) m1' hown hbase
   (fun Z hZ => by have:=hC Z (hF.below hZ).pt (hF.below hZ).g;rwa [show ((exR a:Nat):Int) - 1085 = ((a / 4503599627370496:Nat):Int) + -1023 - 11 - 52 by omega,Int.natCast_mul] at this)
   (fun Z hZ => Tryz.internal_strconv_numDigits _ d1 (by omega) Z (hF.tab Z hZ)) d1 n2 n3 (by omega) (bitLen_at (k:=52) (by omega) (by omega) (by omega)) (by omega) (by omega) (fun h => lead_ne d1 (h 0 (by omega) (by omega)))
end Go.Proofs.YtjlaoeigfokkiaaGreatDoor.fto
namespace Go.Proofs.YtjlaoeigfokkiaaGreatDoor.fto
open Go.ChangeShapes Go.WideShapes Go.ChangeAt Go.RowKit
open mem Go.Sort
open ints (hide unhide)
set_option linter.unusedVariables false
def Kept (d k:Nat):Prop:=1 ≤ k ∧ k ≤ Lib.nDigits d ∧ (∀ j,k ≤ j → j < Lib.nDigits d → dgt d (Lib.nDigits d) j = 48) ∧ dgt d (Lib.nDigits d) (k - 1) ≠ 48
set_option maxRecDepth 100000 in
theorem ffmt_in (a d:Nat) (q:Int) (w:World) (hF:Fw w)
  (HT:∀ (v:Value) (base:Nat) (w:World),Fw w → w.ownsRow base 5 1 v 0 [] → base ≤ w.heap.size → Calls Tryz.prog 105 #[v,.float .f64 a,.int .u8 101,.int .i64 (-1)] w fun e w' => ∃ r,e = .returned r ∧ ∃ k:Nat,1 ≤ k ∧ k ≤ Lib.nDigits d ∧ (∀ j,k ≤ j → j < Lib.nDigits d → dgt d (Lib.nDigits d) j = 48) ∧ dgt d (Lib.nDigits d) (k - 1) ≠ 48 ∧ w'.ownsRow base 5 1 r (sTxt d (Lib.nDigits d) k q).length ((sTxt d (Lib.nDigits d) k q).map (Value.int .u8)) ∧ Below base w w') :
  Calls Tryz.prog 75 #[.float .f64 a,.int .u8 101,.int .i64 (-1),.int .i64 64] w fun e w' => ∃ k,Kept d k ∧ e = .returned (.string (strOfNums (sTxt d (Lib.nDigits d) k q))) ∧ Below w.heap.size w w':=by
 obtain ⟨i0,hi,hz0,hz1,hz2⟩:=info_parts info8
 have HH:=hide HT
 have HF:=hide hF
 clear HT hF
 have hmx:max (3:Int) 24 = 24:=by decide
 go_enter Tryz.func75,Tryz.ntmps75
 go_wp2_with (at_make;refine wpList_make_own _ rfl _ _ 45 rfl w.heap.size 5 i0 (.int .u8 0) 1 Tryz.underlying45 hi hz0 hz1 .i64 .i64 _ 24 rfl rfl (by first | rfl | decide) (by rw [hz2];omega) (by unfold maxLen;omega) (Nat.le_refl _) ?_;intro w1 hown hgrow)
 have b1:=belowNone hgrow
 refine (unhide HH _ w.heap.size w1 ((unhide HF).below b1) hown b1.size).mono ?_
 rintro e w2 ⟨r,rfl,k,h1,h2,h3,h4,hown2,b2⟩
 obtain ⟨ar,cr,rfl,hrow⟩:=own_row hown2
 have hcv:=row_string (P:=Tryz.prog) hrow 45 9 5 Tryz.underlying45 Tryz.underlying5 Tryz.underlying9
 have R:=hide (⟨⟨h1,h2,h3,h4⟩,b1.trans b2⟩:Kept d k ∧ Below w.heap.size w w2)
 clear h1 h2 h3 h4 hown2 hrow b1 b2 hown hgrow HH HF
 obtain ⟨tx,htx⟩:∃ tx,tx = sTxt d (Lib.nDigits d) k q:=⟨_,rfl⟩
 rw [← htx] at hcv ⊢
 have HX:=hide htx
 clear htx
 go_wp2
 go_ret
 refine ⟨k,(unhide R).1,?_,(unhide R).2⟩
 rw [unhide HX]
 rfl
set_option maxRecDepth 100000 in
theorem ffmt_any (a:Nat) (ha:0 < a) (hai:a < infR):∃ d q,Chosen a d q ∧ ∀ w,Fw w → Calls Tryz.prog 49 #[.float .f64 a,.int .u8 101,.int .i64 (-1),.int .i64 64] w fun e w' => ∃ k,Kept d k ∧ e = .returned (.string (strOfNums (sTxt d (Lib.nDigits d) k q))) ∧ Below w.heap.size w w':=by
 obtain ⟨d,q,hc,H⟩:=ftoa_any a ha hai
 refine ⟨d,q,hc,fun w hF => ?_⟩
 have HI:=hide (ffmt_in a d q w hF H)
 clear H hc
 go_enter Tryz.func49,Tryz.ntmps49
 go_wp2_with fail
 refine (unhide HI).mono ?_
 rintro e w1 ⟨k,hk,rfl,b1⟩
 have R:=hide (⟨hk,b1⟩:Kept d k ∧ Below w.heap.size w w1)
 clear hk b1 HI
 go_wp2
 go_ret
 exact ⟨k,(unhide R).1,rfl,(unhide R).2⟩
end Go.Proofs.YtjlaoeigfokkiaaGreatDoor.fto
