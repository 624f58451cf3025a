import Derived.Test.YtdogjghalplohaaGreatDoorJs25
import Derived.Test.YtdogjghalplohaaGreatDoorJs26
import Derived.Test.YtdogjghalplohaaGreatDoorJs29
import Derived.Test.YtdogjghalplohaaGreatDoorJs19
import Derived.Test.YtdogjghalplohaaGreatDoorJs20
import Derived.Test.YtdogjghalplohaaGreatDoorJs16
import Derived.Test.YtdogjghalplohaaGreatDoorJs21
namespace Go.Proofs.YtdogjghalplohaaGreatDoor.dcm
open Go.ChangeShapes Go.WideShapes Go.ChangeAt Go.RowKit
open mem fto
open ints (hide unhide)
set_option linter.unusedVariables false
set_option linter.unusedSimpArgs false
theorem LC.mono {w:World} {c c':Nat} (h:LC w c) (h1:c ≤ c') (h2:c' ≤ w.heap.size):LC w c':=by
 obtain ⟨tb,o,cap,a1,a2,a3,a4,a5⟩:=h
 exact ⟨tb,o,cap,a1,by omega,by omega,h2,a5⟩
theorem PW.mono {w:World} {c c':Nat} (h:PW w c) (h1:c ≤ c'):PW w c':=by
 obtain ⟨tb,o,cap,a1,a2,a3,a4⟩:=h
 exact ⟨tb,o,cap,a1,by omega,by omega,a4⟩
theorem FI.mono {w:World} {c c':Nat} (h:FI w c) (h1:c ≤ c'):FI w c':=⟨Nat.lt_of_lt_of_le h.1 h1,h.2⟩
def zdc:Dcs:=⟨fun _ => 0,0,0,false,false⟩
theorem zero_is:Tryz.zeroCells229 = (Array.replicate 800 (Value.int .u8 0) ++ #[.int .i64 0,.int .i64 0,.bool false,.bool false]:Array Value):=by kernel_rfl
theorem zero_dec (w:World):Dec (w.alloc (Obj.cells Tryz.zeroCells229 229)) w.heap.size zdc:=by
 refine ⟨Tryz.zeroCells229,229,⟨by show (w.heap.push _)[w.heap.size]? = _;rw [Array.getElem?_push_size],?_,?_,?_,?_,?_,?_⟩⟩
 ·rw [zero_is];simp
 ·intro i hi
  rw [zero_is,Array.getElem?_append_left (by simpa using hi)]
  simp [hi,zdc]
 all_goals rw [zero_is];simp [zdc]
structure Slow (w:World) (c:Nat):Prop where
 lc:LC w c
 pw:PW w c
 fi:FI w c
theorem Slow.at {w W:World} {c:Nat} (h:Slow w c) (hb:Below c w W) (hs:w.heap.size ≤ W.heap.size) {c':Nat} (h1:c ≤ c') (h2:c' ≤ W.heap.size):Slow W c':=
 ⟨(h.lc.below hb hs).mono h1 h2,(h.pw.below hb).mono h1,(h.fi.below hb).mono h1⟩
def errR:Value:=.iface 141 (.int .i64 1)
set_option maxHeartbeats 2000000 in
set_option maxRecDepth 100000 in
theorem atof_same (s:ByteArray) (d S F0 F1:Nat) (p:Int) (ng:Bool) (w:World) (hS:S = if ng then 9223372036854775808 else 0) (hd0:1 ≤ d) (hd:d + 1 < 18446744073709551616) (hp:-345 ≤ p ∧ p ≤ 310) (hn:s.size ≤ 2000000)
  (opt:w.cell? ⟨8,0,none⟩ = some (.bool true))
  (hEq:(FloatKind.f64.format.order F0 F1 == some Ordering.eq) = true)
  (SP:Calls Tryz.prog 174 #[.string s] w fun e w' => e = .returned (.tuple #[.float .f64 0,.int .i64 0,.bool false]) ∧ w' = w)
  (RF:Calls Tryz.prog 175 #[.string s] w fun e w' => e = .returned (.tuple #[.int .u64 d,.int .i64 p,.bool ng,.bool true,.bool false,.int .i64 s.size,.bool true]) ∧ w' = w)
  (e0 e1:Value)
  (PA:Calls Tryz.prog 186 #[.int .u64 d,.int .i64 p,.int .u64 S] w fun e w' => e = .returned (.tuple #[.float .f64 F0,e0]) ∧ Below w.heap.size w w')
  (PB:∀ W,Below w.heap.size w W → Calls Tryz.prog 186 #[.int .u64 ((d + 1:Nat):Int),.int .i64 p,.int .u64 S] W fun e w' => e = .returned (.tuple #[.float .f64 F1,e1]) ∧ Below w.heap.size W w')
  : Calls Tryz.prog 155 #[.string s] w fun e w' => e = .returned (.tuple #[.float .f64 F0,.int .i64 s.size,e0]) ∧ Below w.heap.size w w':=by
 have HSP:=hide SP
 have HRF:=hide RF
 have HPA:=hide PA
 have HPB:=hide PB
 have hdi:((d:Int) == 0) = false:=by rw [beq_eq_false_iff_ne];omega
 have kd1:IntKind.u64.wrap ((d:Int) + 1) = ((d + 1:Nat):Int):=by rw [IntKind.wrap_u64];omega
 have B1:=hide b2_yes
 have B0:=hide b2_no
 have hfb:=run_fromb
 clear SP RF PA PB hd
 go_enter Tryz.func155,Tryz.ntmps155
 go_wp2_with fail
 refine (unhide HSP).mono ?_
 rintro e w1 ⟨rfl,hw⟩
 subst w1
 go_wp2_with fail
 refine (unhide HRF).mono ?_
 rintro e w1 ⟨rfl,hw⟩
 subst w1
 cases ng
 all_goals
  simp only [Bool.false_eq_true,if_false,if_true] at hS
  subst hS
  go_wp2_with fail
  first
   | refine (unhide B0 _).mono ?_
   | refine (unhide B1 _).mono ?_
  rintro e w1 ⟨rfl,hw⟩
  subst w1
  go_wp2_with fail
  refine (unhide HPA).mono ?_
  rintro e w1 ⟨rfl,b1⟩
  have HB1:=hide b1
  clear b1
  go_wp2_with fail
  refine (unhide HPB _ (unhide HB1)).mono ?_
  rintro e w2 ⟨rfl,b2⟩
  have HB2:=hide ((unhide HB1).trans b2)
  clear b2
  go_wp2
  go_ret3
  exact ⟨rfl,unhide HB2⟩
set_option maxHeartbeats 2000000 in
set_option maxRecDepth 100000 in
theorem atof_slow (s:ByteArray) (d S F0 F1 X Y:Nat) (p:Int) (ng:Bool) (w:World) (hS:S = if ng then 9223372036854775808 else 0) (hd0:1 ≤ d) (hd:d + 1 < 18446744073709551616) (hp:-345 ≤ p ∧ p ≤ 310) (hn:s.size ≤ 2000000)
  (opt:w.cell? ⟨8,0,none⟩ = some (.bool true))
  (hEq:(FloatKind.f64.format.order F0 F1 == some Ordering.eq) = false)
  (SP:Calls Tryz.prog 174 #[.string s] w fun e w' => e = .returned (.tuple #[.float .f64 0,.int .i64 0,.bool false]) ∧ w' = w)
  (RF:Calls Tryz.prog 175 #[.string s] w fun e w' => e = .returned (.tuple #[.int .u64 d,.int .i64 p,.bool ng,.bool true,.bool false,.int .i64 s.size,.bool true]) ∧ w' = w)
  (e0 e1:Value)
  (PA:Calls Tryz.prog 186 #[.int .u64 d,.int .i64 p,.int .u64 S] w fun e w' => e = .returned (.tuple #[.float .f64 F0,e0]) ∧ Below w.heap.size w w')
  (PB:∀ W,Below w.heap.size w W → Calls Tryz.prog 186 #[.int .u64 ((d + 1:Nat):Int),.int .i64 p,.int .u64 S] W fun e w' => e = .returned (.tuple #[.float .f64 F1,e1]) ∧ Below w.heap.size W w')
  (hSl:Slow w w.heap.size)
  (SET:∀ W b,Dec W b zdc → Calls Tryz.prog 181 #[.pointer (some ⟨b,0,none⟩),.string s] W fun e w' => e = .returned (.bool true) ∧ (∃ s',Dec w' b s' ∧ St X Y s' (800 - s'.dp).toNat ∧ -330 ≤ s'.dp ∧ s'.ng = ng) ∧ Below b W w' ∧ w'.heap.size = W.heap.size)
  (FB:∀ W b s',Dec W b s' → St X Y s' (800 - s'.dp).toNat → -330 ≤ s'.dp → Slow W b → Calls Tryz.prog 182 #[.pointer (some ⟨b,0,none⟩),.pointer (some ⟨9,0,none⟩)] W fun e w' => FbA X Y s'.ng e ∧ Below b W w')
  : Calls Tryz.prog 155 #[.string s] w fun e w' => (∃ lo R,Lo (X * k74) Y lo ∧ ((roundR (X * k74) Y lo < infR ∧ R = roundR (X * k74) Y lo ∧ e = .returned (.tuple #[.float .f64 (S + R),.int .i64 s.size,.nilIface])) ∨ (infR ≤ roundR (X * k74) Y lo ∧ e = .returned (.tuple #[.float .f64 (S + infR),.int .i64 s.size,errR])))) ∧ Below w.heap.size w w':=by
 have HSP:=hide SP
 have HRF:=hide RF
 have HPA:=hide PA
 have HPB:=hide PB
 have hdi:((d:Int) == 0) = false:=by rw [beq_eq_false_iff_ne];omega
 have kd1:IntKind.u64.wrap ((d:Int) + 1) = ((d + 1:Nat):Int):=by rw [IntKind.wrap_u64];omega
 have B1:=hide b2_yes
 have B0:=hide b2_no
 have hfb:=run_fromb
 have HSET:=hide SET
 have HFB:=hide FB
 have HSl:=hide hSl
 clear SET FB hSl
 clear SP RF PA PB hd
 go_enter Tryz.func155,Tryz.ntmps155
 go_wp2_with fail
 refine (unhide HSP).mono ?_
 rintro e w1 ⟨rfl,hw⟩
 subst w1
 go_wp2_with fail
 refine (unhide HRF).mono ?_
 rintro e w1 ⟨rfl,hw⟩
 subst w1
 cases ng
 all_goals
  simp only [Bool.false_eq_true,if_false,if_true] at hS
  subst hS
  go_wp2_with fail
  first
   | refine (unhide B0 _).mono ?_
   | refine (unhide B1 _).mono ?_
  rintro e w1 ⟨rfl,hw⟩
  subst w1
  go_wp2_with fail
  refine (unhide HPA).mono ?_
  rintro e w1 ⟨rfl,b1⟩
  have HB1:=hide b1
  clear b1
  go_wp2_with fail
  refine (unhide HPB _ (unhide HB1)).mono ?_
  rintro e w2 ⟨rfl,b2⟩
  have HB2:=hide ((unhide HB1).trans b2)
  clear b2
  go_wp2_with fail
  refine (unhide HSET _ _ (zero_dec w2)).mono ?_
  rintro e w3 ⟨rfl,⟨s',hd3,hst,hdp,hng⟩,b3,z3⟩
  have hb13:Below w.heap.size w w3:=((unhide HB2).alloc (unhide HB2).size _).trans (b3.mono (unhide HB2).size)
  have hz3:w2.heap.size ≤ w3.heap.size:=by rw [z3];simp
  have C3:=hide (unhide HFB w3 w2.heap.size s' hd3 hst hdp ((unhide HSl).at hb13 hb13.size (unhide HB2).size hz3))
  have HB3:=hide hb13
  have HZ:=hide (unhide HB2).size
  rw [hng] at C3
  clear hd3 hst hdp hng b3 z3 hb13 hz3
  go_wp2_with fail
  refine (unhide C3).mono ?_
  rintro e w4 ⟨⟨lo,R,ov,hlo,rfl,hov⟩,b4⟩
  have HB4:=hide ((unhide HB3).trans (b4.mono (unhide HZ)))
  clear b4
  cases ov
  ·obtain ⟨r1,r2⟩:roundR (X * k74) Y lo < infR ∧ R = roundR (X * k74) Y lo:=by
    rcases hov with ⟨q1,q2,-⟩ | ⟨-,-,q3⟩
    ·exact ⟨q1,q2⟩
    ·cases q3
   have HR:=hide (⟨r1,r2⟩:roundR (X * k74) Y lo < infR ∧ R = roundR (X * k74) Y lo)
   have HLo:=hide hlo
   clear hov r1 r2 hlo
   go_wp2
   go_ret3
   exact ⟨⟨lo,R,unhide HLo,Or.inl ⟨(unhide HR).1,(unhide HR).2,by simp⟩⟩,unhide HB4⟩
  ·obtain ⟨r1,r2⟩:infR ≤ roundR (X * k74) Y lo ∧ R = infR:=by
    rcases hov with ⟨-,-,q3⟩ | ⟨q1,q2,-⟩
    ·cases q3
    ·exact ⟨q1,q2⟩
   have HR:=hide (⟨r1,r2⟩:infR ≤ roundR (X * k74) Y lo ∧ R = infR)
   have HLo:=hide hlo
   clear hov r1 r2 hlo
   go_wp2
   go_ret3
   refine ⟨⟨lo,R,unhide HLo,Or.inr ⟨(unhide HR).1,?_⟩⟩,unhide HB4⟩
   rw [(unhide HR).2]
   rfl
end Go.Proofs.YtdogjghalplohaaGreatDoor.dcm
namespace Go.Proofs.YtdogjghalplohaaGreatDoor.fto
open Go.ChangeShapes Go.WideShapes Go.ChangeAt Go.RowKit
open mem Go.Sort
open ints (hide unhide)
set_option linter.unusedVariables false
theorem and_top {m:Nat} (h:m < 9223372036854775808):m &&& 9223372036854775808 = 0:=by
 apply Nat.eq_of_testBit_eq
 intro i
 rw [show (9223372036854775808:Nat) = 2 ^ 63 from rfl,Nat.testBit_and,Nat.testBit_two_pow,Nat.zero_testBit]
 by_cases e:63 = i
 ·subst e
  rw [Nat.testBit_lt_two_pow (show m < 2 ^ 63 from h),Bool.false_and]
 ·rw [decide_eq_false e,Bool.and_false]
set_option maxHeartbeats 1000000 in
set_option maxRecDepth 100000 in
theorem pk_inf (S r:Nat) (x:Int) (w:World) (hS:S = 0 ∨ S = 9223372036854775808) (hr:r < 4503599627370496) (hx:972 ≤ x):Calls Tryz.prog 210 #[.int .u64 ((S + (4503599627370496 + r):Nat):Int),.int .i64 x] w fun e w' => e = .returned (.tuple #[.float .f64 (S + infR),(Value.iface 141 (.int .i64 1))]) ∧ w' = w:=by
 have a:=and52 S (4503599627370496 + r) hS (by omega)
 rw [if_neg (by omega)] at a
 have b:bits .and .u64 ((S + (4503599627370496 + r):Nat):Int) 9223372036854775808 = (S:Int):=by
  have h:=u64_and_nat (S + (4503599627370496 + r)) 9223372036854775808 (by omega) (by decide)
  refine h.trans ?_
  congr 1
  rcases hS with rfl | rfl
  ·rw [Nat.zero_add]
   exact and_top (by omega)
  ·rw [← or_sgn 9223372036854775808 _ (Or.inr rfl) (show 4503599627370496 + r < 9223372036854775808 by omega),Nat.and_or_distrib_right]
   rw [and_top (show 4503599627370496 + r < 9223372036854775808 by omega)]
   rfl
 have c:bits .or .u64 (S:Int) 9218868437227405312 = ((S + infR:Nat):Int):=by
  rcases hS with rfl | rfl <;> decide
 obtain ⟨V,hV⟩:∃ V,V = S + (4503599627370496 + r):=⟨_,rfl⟩
 obtain ⟨V2,hV2⟩:∃ V,V = S + infR:=⟨_,rfl⟩
 have hi0:infR = 9218868437227405312:=rfl
 have l1:V < 18446744073709551616:=by omega
 have l2:V2 < 18446744073709551616:=by omega
 rw [← hV] at a b ⊢
 rw [← hV2] at c ⊢
 have rb:=run_fromb (V2:Int) w
 rw [Int.toNat_natCast] at rb
 clear hV hV2 hi0
 go_enter Tryz.func210,Tryz.ntmps210
 go_wp2
 go_ret2
 exact ⟨rfl,rfl⟩
set_option maxHeartbeats 2000000 in
set_option maxRecDepth 100000 in
theorem parse_loI (d b c s i S U m X R:Nat) (p lp e:Int) (w:World) (hT:PT w) (hg:15 < w.heap.size) (hd0:1 ≤ d) (hd:d < 18446744073709551616) (hb:Lib.bitLen d = b) (hb1:1 ≤ b) (hb2:b ≤ 64) (hc:b + c = 64)
  (hp:-345 ≤ p ∧ p ≤ 310) (hlp:lp = p * 108853 / 32768) (he:min 1074 (53 - (b:Int) - lp) = e) (hi:(i:Int) = p + 348) (hs:-(e - (c:Int) + lp + 3) = (s:Int)) (hs2:s < 64) (hX:d * 2 ^ c = X) (hX2:X < 18446744073709551616) (kk:1 ≤ X * rowH i / 18446744073709551616)
  (hh:rowH i < 18446744073709551616) (hl:rowL i < 18446744073709551616) (hU:U = us X (rowH i) (rowL i) s) (bU:U < 36028797018963966) (hm:m = (U + 1 + U / 4 % 2) / 4) (hm2:m < 9007199254740992) (hS:S = 0 ∨ S = 9223372036854775808)
  (PK:∀ w,Calls Tryz.prog 210 #[.int .u64 ((S + m:Nat):Int),.int .i64 (-e)] w fun e w' => e = .returned (.tuple #[.float .f64 R,(Value.iface 141 (.int .i64 1))]) ∧ w' = w) :
  Calls Tryz.prog 186 #[.int .u64 d,.int .i64 p,.int .u64 S] w fun ed w' => ed = .returned (.tuple #[.float .f64 R,(Value.iface 141 (.int .i64 1))]) ∧ Below w.heap.size w w':=by
 have HPK:=hide PK
 have C2:=hide (fun W => l2_ok p W (by omega))
 rw [← hlp] at C2
 have lpb:-1200 ≤ lp ∧ lp ≤ 1200:=by omega
 have T1:=hide (fun W B hc => uscale_ok X (rowH i) (rowL i) s B W hX2 hh hl hs2 kk hc)
 rw [← hU] at T1
 have N5:=hide (fun W => round_ok U W (by omega))
 rw [← hm] at N5
 have UM:=hide unmin_ok
 have BI:=hide b2i_no
 have nub:decide ((36028797018963966:Int) ≤ (U:Int)) = false:=decide_eq_false (by omega)
 have LN:=hide (fun W => Tryz.bits_Len64 d W (by omega) (by omega))
 have x1:IntKind.u64.wrap ((d:Int) * 2 ^ c) = (X:Int):=by
  have e1:((d:Int) * 2 ^ c) = (X:Int):=by rw [← hX];simp
  rw [e1,IntKind.wrap_u64];omega
 have hc63:(c:Int) < 64:=by omega
 have i7:(64:Int) - (b:Int) = (c:Int):=by omega
 have HS:=hide hs
 have HI:=hide hi
 have HB0:=hide hb
 have eb:-2000 ≤ e ∧ e ≤ 1074:=by omega
 have h1a:=and_one U (by omega)
 have h1b:bits .or .u64 (U:Int) ((U % 2:Nat):Int) = (U:Int):=by
  have h:=u64_or_nat U (U % 2) (by omega) (by omega)
  refine h.trans ?_
  congr 1
  rcases Nat.mod_two_eq_zero_or_one U with h0 | h0
  ·rw [h0,Nat.or_zero]
  ·rw [h0];have:=mem.or_one U;omega
 have hSm:bits .or .u64 (S:Int) (m:Int) = ((S + m:Nat):Int):=by
  refine (u64_or_nat S m (by omega) (by omega)).trans ?_
  rw [or_sgn S m hS (by omega)]
 obtain ⟨V,hV⟩:∃ V,V = S + m:=⟨_,rfl⟩
 rw [← hV] at hSm HPK
 obtain ⟨U2,hU2⟩:∃ U2,U2 = U % 2:=⟨_,rfl⟩
 rw [← hU2] at h1a h1b
 have hSb:S < 18446744073709551616:=by omega
 have hVb:V < 18446744073709551616:=by omega
 have hub:(U:Int) < 36028797018963966:=by omega
 have hi2:i < 696:=by omega
 have HE:=hide he
 clear PK hU hm hX hs hi hb hlp hS hV hU2 kk hh hl he hc
 go_enter Tryz.func186,Tryz.ntmps186
 go_wp2_with fail
 refine (unhide LN _).mono ?_
 rintro ed w1' ⟨rfl,hw⟩
 subst w1'
 rw [Int.toNat_natCast,unhide HB0]
 clear LN
 go_wp2_with fail
 refine (unhide C2 _).mono ?_
 rintro ed w1' ⟨rfl,hw⟩
 subst w1'
 clear C2
 have he:=unhide HE
 go_wp2_with fail
 have HB:=hide (heap_alloc_new w (.cells #[.int .u64 0,.int .u64 0,.int .i64 0] 249))
 have b0:=(Below.refl w.heap.size w).alloc (Nat.le_refl _) (.cells #[.int .u64 0,.int .u64 0,.int .i64 0] 249)
 have HT:PT _:=fun j hj => ⟨(b0.cell (p:=⟨15,2 * j,none⟩) hg).trans (hT j hj).1,(b0.cell (p:=⟨15,2 * j + 1,none⟩) hg).trans (hT j hj).2⟩
 have hne:w.heap.size ≠ 15:=by omega
 refine (prescale_ok w.heap.size _ _ _ _ (e - (c:Int)) p lp i s _ (unhide HB) HT hne (unhide HI) hi2 (unhide HS) (by omega) (by omega)).mono ?_
 rintro ed w3 ⟨rfl,hB3,b3⟩
 have S3:=Sca.of_heap hB3
 have s2:=S3.sh
 have b3':=b0.trans b3
 clear HB HT hB3 b0 b3 hT he
 have hsz3:w.heap.size ≤ w3.heap.size:=b3'.size
 have is2:(s:Int) < 64:=by omega
 have HBD:=hide (⟨bU,hub,hm2,hSb,hVb⟩:U < 36028797018963966 ∧ (U:Int) < 36028797018963966 ∧ m < 9007199254740992 ∧ S < 18446744073709551616 ∧ V < 18446744073709551616)
 clear bU hub hm2 hX2 hd hSb hVb
 go_wp2_with fail
 refine (unhide T1 _ _ S3).mono ?_
 rintro ed w4 ⟨rfl,b4⟩
 have b4':=hide (b3'.trans (b4.mono hsz3))
 clear T1 S3 b4 b3' hsz3 s2
 obtain ⟨bU,hub,hm2,hSb,hVb⟩:=unhide HBD
 go_wp2_with fail
 refine (unhide UM _).mono ?_
 rintro ed w5 ⟨rfl,hw⟩
 subst w5
 go_wp2_with fail
 refine (unhide BI _).mono ?_
 rintro ed w5 ⟨rfl,hw⟩
 subst w5
 go_wp2_with fail
 refine (unhide N5 _).mono ?_
 rintro ed w5 ⟨rfl,hw⟩
 subst w5
 go_wp2_with fail
 refine (unhide HPK _).mono ?_
 rintro ed w5 ⟨rfl,hw⟩
 subst w5
 go_wp2
 go_ret2
 exact ⟨rfl,unhide b4'⟩
set_option maxHeartbeats 2000000 in
set_option maxRecDepth 100000 in
theorem parse_hiI (d b c s i S U m X R:Nat) (p lp e:Int) (w:World) (hT:PT w) (hg:15 < w.heap.size) (hd0:1 ≤ d) (hd:d < 18446744073709551616) (hb:Lib.bitLen d = b) (hb1:1 ≤ b) (hb2:b ≤ 64) (hc:b + c = 64)
  (hp:-345 ≤ p ∧ p ≤ 310) (hlp:lp = p * 108853 / 32768) (he:min 1074 (53 - (b:Int) - lp) = e) (hi:(i:Int) = p + 348) (hs:-(e - (c:Int) + lp + 3) = (s:Int)) (hs2:s < 64) (hX:d * 2 ^ c = X) (hX2:X < 18446744073709551616) (kk:1 ≤ X * rowH i / 18446744073709551616)
  (hh:rowH i < 18446744073709551616) (hl:rowL i < 18446744073709551616) (hU:U = us X (rowH i) (rowL i) s) (bU:36028797018963966 ≤ U) (bU2:U < 9223372036854775808) (hm:m = (((U / 2) ||| (U % 2)) + 1 + ((U / 2) ||| (U % 2)) / 4 % 2) / 4) (hm2:m < 9007199254740992) (hS:S = 0 ∨ S = 9223372036854775808)
  (PK:∀ w,Calls Tryz.prog 210 #[.int .u64 ((S + m:Nat):Int),.int .i64 (-(e - 1))] w fun e w' => e = .returned (.tuple #[.float .f64 R,(Value.iface 141 (.int .i64 1))]) ∧ w' = w) :
  Calls Tryz.prog 186 #[.int .u64 d,.int .i64 p,.int .u64 S] w fun ed w' => ed = .returned (.tuple #[.float .f64 R,(Value.iface 141 (.int .i64 1))]) ∧ Below w.heap.size w w':=by
 have HPK:=hide PK
 have C2:=hide (fun W => l2_ok p W (by omega))
 rw [← hlp] at C2
 have lpb:-1200 ≤ lp ∧ lp ≤ 1200:=by omega
 have T1:=hide (fun W B hc => uscale_ok X (rowH i) (rowL i) s B W hX2 hh hl hs2 kk hc)
 rw [← hU] at T1
 have hV3:(U / 2) ||| (U % 2) < 9223372036854775808:=Nat.or_lt_two_pow (n:=63) (by omega) (by omega)
 have N5:=hide (fun W => round_ok ((U / 2) ||| (U % 2)) W (by omega))
 rw [← hm] at N5
 have UM:=hide unmin_ok
 have BI:=hide b2i_yes
 have nub:decide ((36028797018963966:Int) ≤ (U:Int)) = true:=decide_eq_true (by omega)
 have LN:=hide (fun W => Tryz.bits_Len64 d W (by omega) (by omega))
 have x1:IntKind.u64.wrap ((d:Int) * 2 ^ c) = (X:Int):=by
  have e1:((d:Int) * 2 ^ c) = (X:Int):=by rw [← hX];simp
  rw [e1,IntKind.wrap_u64];omega
 have hc63:(c:Int) < 64:=by omega
 have i7:(64:Int) - (b:Int) = (c:Int):=by omega
 have HS:=hide hs
 have HI:=hide hi
 have HB0:=hide hb
 have eb:-2000 ≤ e ∧ e ≤ 1074:=by omega
 have h1a:=and_one U (by omega)
 have h1b:bits .or .u64 ((U:Int) / 2) ((U % 2:Nat):Int) = (((U / 2) ||| (U % 2):Nat):Int):=u64_or_nat (U / 2) (U % 2) (by omega) (by omega)
 obtain ⟨V3,hV3e⟩:∃ V3,V3 = (U / 2) ||| (U % 2):=⟨_,rfl⟩
 rw [← hV3e] at h1b N5 hV3
 have hSm:bits .or .u64 (S:Int) (m:Int) = ((S + m:Nat):Int):=by
  refine (u64_or_nat S m (by omega) (by omega)).trans ?_
  rw [or_sgn S m hS (by omega)]
 obtain ⟨V,hV⟩:∃ V,V = S + m:=⟨_,rfl⟩
 rw [← hV] at hSm HPK
 obtain ⟨U2,hU2⟩:∃ U2,U2 = U % 2:=⟨_,rfl⟩
 rw [← hU2] at h1a h1b
 have hSb:S < 18446744073709551616:=by omega
 have hVb:V < 18446744073709551616:=by omega
 have hub:(36028797018963966:Int) ≤ (U:Int):=by omega
 have hUi:(U:Int) < 9223372036854775808:=by omega
 have hV3i:V3 < 18446744073709551616:=by omega
 have hi2:i < 696:=by omega
 have HE:=hide he
 clear hV3e hV3 PK hU hm hX hs hi hb hlp hS hV hU2 kk hh hl he hc
 go_enter Tryz.func186,Tryz.ntmps186
 go_wp2_with fail
 refine (unhide LN _).mono ?_
 rintro ed w1' ⟨rfl,hw⟩
 subst w1'
 rw [Int.toNat_natCast,unhide HB0]
 clear LN
 go_wp2_with fail
 refine (unhide C2 _).mono ?_
 rintro ed w1' ⟨rfl,hw⟩
 subst w1'
 clear C2
 have he:=unhide HE
 go_wp2_with fail
 have HB:=hide (heap_alloc_new w (.cells #[.int .u64 0,.int .u64 0,.int .i64 0] 249))
 have b0:=(Below.refl w.heap.size w).alloc (Nat.le_refl _) (.cells #[.int .u64 0,.int .u64 0,.int .i64 0] 249)
 have HT:PT _:=fun j hj => ⟨(b0.cell (p:=⟨15,2 * j,none⟩) hg).trans (hT j hj).1,(b0.cell (p:=⟨15,2 * j + 1,none⟩) hg).trans (hT j hj).2⟩
 have hne:w.heap.size ≠ 15:=by omega
 refine (prescale_ok w.heap.size _ _ _ _ (e - (c:Int)) p lp i s _ (unhide HB) HT hne (unhide HI) hi2 (unhide HS) (by omega) (by omega)).mono ?_
 rintro ed w3 ⟨rfl,hB3,b3⟩
 have S3:=Sca.of_heap hB3
 have s2:=S3.sh
 have b3':=b0.trans b3
 clear HB HT hB3 b0 b3 hT he
 have hsz3:w.heap.size ≤ w3.heap.size:=b3'.size
 have is2:(s:Int) < 64:=by omega
 have HBD:=hide (⟨bU,hub,hUi,hV3i,hm2,hSb,hVb⟩:36028797018963966 ≤ U ∧ (36028797018963966:Int) ≤ (U:Int) ∧ (U:Int) < 9223372036854775808 ∧ V3 < 18446744073709551616 ∧ m < 9007199254740992 ∧ S < 18446744073709551616 ∧ V < 18446744073709551616)
 clear bU bU2 hub hUi hV3i hm2 hX2 hd hSb hVb
 go_wp2_with fail
 refine (unhide T1 _ _ S3).mono ?_
 rintro ed w4 ⟨rfl,b4⟩
 have b4':=hide (b3'.trans (b4.mono hsz3))
 clear T1 S3 b4 b3' hsz3 s2
 obtain ⟨bU,hub,hUi,hV3i,hm2,hSb,hVb⟩:=unhide HBD
 go_wp2_with fail
 refine (unhide UM _).mono ?_
 rintro ed w5 ⟨rfl,hw⟩
 subst w5
 go_wp2_with fail
 refine (unhide BI _).mono ?_
 rintro ed w5 ⟨rfl,hw⟩
 subst w5
 go_wp2_with fail
 refine (unhide N5 _).mono ?_
 rintro ed w5 ⟨rfl,hw⟩
 subst w5
 go_wp2_with fail
 refine (unhide HPK _).mono ?_
 rintro ed w5 ⟨rfl,hw⟩
 subst w5
 go_wp2
 go_ret2
 exact ⟨rfl,unhide b4'⟩
theorem parse_inf (d S:Nat) (p:Int) (hd0:1 ≤ d) (hd:d < 18446744073709551616) (hp:-345 ≤ p ∧ p ≤ 310) (hS:S = 0 ∨ S = 9223372036854775808) :
  ∃ lo,Lo (d * 10 ^ p.toNat * k74) (10 ^ (-p).toNat) lo ∧ (roundR (d * 10 ^ p.toNat * k74) (10 ^ (-p).toNat) lo ≥ infR → ∀ w,PT w → 15 < w.heap.size →
   Calls Tryz.prog 186 #[.int .u64 d,.int .i64 p,.int .u64 S] w fun ed w' => ed = .returned (.tuple #[.float .f64 (S + infR),(Value.iface 141 (.int .i64 1))]) ∧ Below w.heap.size w w'):=by
 obtain ⟨k,hk⟩:∃ k,k = Nat.log2 d:=⟨_,rfl⟩
 have k0:2 ^ k ≤ d:=by rw [hk];exact Nat.log2_self_le (by omega)
 have k1:d < 2 ^ (k + 1):=by rw [hk];exact Nat.lt_log2_self
 have k63:k ≤ 63:=by
  rcases Nat.lt_or_ge 63 k with h | h
  ·have:=Nat.pow_le_pow_right (by decide:0 < 2) (show 64 ≤ k from h)
   have e:(2:Nat) ^ 64 = 18446744073709551616:=rfl
   omega
  ·exact h
 obtain ⟨c,hc⟩:∃ c,c = 63 - k:=⟨_,rfl⟩
 obtain ⟨b,hb⟩:∃ b,b = k + 1:=⟨_,rfl⟩
 have hbl:Lib.bitLen d = b:=by rw [hb];exact bitLen_at k0 k1 hd
 have hbc:b + c = 64:=by omega
 have hx0:9223372036854775808 ≤ d * 2 ^ c:=by
  have:=Nat.mul_le_mul_right (2 ^ c) k0
  rw [← Nat.pow_add,show k + c = 63 by omega] at this
  exact this
 have hx:d * 2 ^ c < 18446744073709551616:=by
  have:=Nat.mul_lt_mul_of_pos_right k1 (Nat.two_pow_pos c)
  rw [← Nat.pow_add,show k + 1 + c = 64 by omega] at this
  exact this
 obtain ⟨lp,hlp⟩:∃ lp,lp = p * 108853 / 32768:=⟨_,rfl⟩
 obtain ⟨e,he⟩:∃ e:Int,e = min 1074 (53 - (b:Int) - lp):=⟨_,rfl⟩
 obtain ⟨s,hs⟩:∃ s:Nat,(s:Int) = 61 - (b:Int) - e - lp:=⟨(61 - (b:Int) - e - lp).toNat,by omega⟩
 obtain ⟨K,hK⟩:∃ K:Nat,(K:Int) = 1074 - e:=⟨(1074 - e).toNat,by omega⟩
 obtain ⟨i,hi⟩:∃ i:Nat,(i:Int) = p + 348:=⟨(p + 348).toNat,by omega⟩
 have hs8:8 ≤ s:=by omega
 have hc64:64 - b = c:=by omega
 obtain ⟨U,hU⟩:∃ U,U = un (d * 2 ^ c * eA p) (q64 * q64 * eB p * 2 ^ s):=⟨_,rfl⟩
 obtain ⟨lo,hlo,A1,A2,A3⟩:=prs_ok d b s K p e (by omega) (by omega) (by omega) (by rw [hc64];exact hx0) (by rw [hc64];exact hx) (by rw [he,hlp];rfl) (by rw [hs,hlp];rfl) hK U (by rw [hc64];exact hU)
 refine ⟨lo,hlo,fun hR w hT hg => ?_⟩
 have hs':-(e - (c:Int) + lp + 3) = (s:Int):=by omega
 rcases Nat.lt_or_ge s 64 with h64 | h64
 ·have hie:i = (p + 348).toNat:=by omega
  have hh:=tab_hi p (by omega) (by omega)
  have hHi:rowH i = tabH p:=by rw [hie];rfl
  have hLi:rowL i = tabL p:=by rw [hie];rfl
  have hUs:U = us (d * 2 ^ c) (rowH i) (rowL i) s:=by rw [hU,hHi,hLi];exact (uscale_read p (by omega) (by omega) _ s hx0 hx hs8).symm
  have kk:1 ≤ d * 2 ^ c * rowH i / 18446744073709551616:=by
   rw [hHi]
   have:=Nat.mul_le_mul hx0 hh.1
   omega
  have q:q64 = 18446744073709551616:=rfl
  have e52:b52 = 4503599627370496:=rfl
  have e53:b53 = 9007199254740992:=rfl
  have eI:infR = 9218868437227405312:=rfl
  generalize roundR (d * 10 ^ p.toNat * k74) (10 ^ (-p).toNat) lo = R at *
  rcases Nat.lt_or_ge U 36028797018963966 with hlt | hge
  ·obtain ⟨r1,r2,r3⟩:=A1 (by omega)
   obtain ⟨m,hm⟩:∃ m,m = (U + 1 + U / 4 % 2) / 4:=⟨_,rfl⟩
   rw [← hm] at r1 r2 r3
   simp only [e52] at r1
   refine parse_loI d b c s i S U m (d * 2 ^ c) (S + infR) p lp e w hT hg hd0 hd hbl (by omega) (by omega) hbc hp hlp he.symm hi hs' h64 rfl hx kk (by rw [hHi];omega) (by rw [hLi];omega) hUs hlt hm (by omega) hS ?_
   intro W
   have:=pk_inf S (m - 4503599627370496) (-e) W hS (by omega) (by omega)
   rw [show 4503599627370496 + (m - 4503599627370496) = m by omega] at this
   exact this
  ·obtain ⟨r1,r2,r3⟩:=A2 (by omega)
   obtain ⟨m,hm⟩:∃ m,m = (((U / 2) ||| (U % 2)) + 1 + ((U / 2) ||| (U % 2)) / 4 % 2) / 4:=⟨_,rfl⟩
   rw [← hm] at r1 r2 r3
   simp only [e52] at r1
   have hle:U / 2 ≤ (U / 2) ||| (U % 2):=Nat.left_le_or
   refine parse_hiI d b c s i S U m (d * 2 ^ c) (S + infR) p lp e w hT hg hd0 hd hbl (by omega) (by omega) hbc hp hlp he.symm hi hs' h64 rfl hx kk (by rw [hHi];omega) (by rw [hLi];omega) hUs hge (by omega) hm (by omega) hS ?_
   intro W
   have:=pk_inf S (m - 4503599627370496) (-(e - 1)) W hS (by omega) (by omega)
   rw [show 4503599627370496 + (m - 4503599627370496) = m by omega] at this
   exact this
 ·rw [A3 h64] at hR
  exact absurd hR (by decide)
end Go.Proofs.YtdogjghalplohaaGreatDoor.fto
namespace Go.Proofs.YtdogjghalplohaaGreatDoor.dcm
open Go.ChangeShapes Go.WideShapes Go.ChangeAt Go.RowKit
open mem fto
open ints (hide unhide)
set_option linter.unusedVariables false
set_option linter.unusedSimpArgs false
theorem round_mono {P B P' B' lo lo':Nat} (hB:0 < B) (hB':0 < B') (h:Lo P B lo) (h':Lo P' B' lo') (hle:P * B' ≤ P' * B):roundR P B lo ≤ roundR P' B' lo':=by
 have hlo:lo ≤ lo':=by
  rcases Nat.lt_or_ge lo' lo with g | g
  ·exfalso
   have h1:=vR_mono_le (show lo' + 1 ≤ lo by omega)
   have h2:P' * B < B' * vR (lo' + 1) * B:=Nat.mul_lt_mul_of_pos_right h'.2 hB
   have h3:B' * vR (lo' + 1) * B ≤ B' * vR lo * B:=Nat.mul_le_mul_right _ (Nat.mul_le_mul_left _ h1)
   have h4:B * vR lo * B' ≤ P * B':=Nat.mul_le_mul_right _ h.1
   have e:B' * vR lo * B = B * vR lo * B':=by rw [Nat.mul_comm B',Nat.mul_right_comm,Nat.mul_comm (vR lo)]
   omega
  ·exact g
 have hr':lo' ≤ roundR P' B' lo':=by unfold roundR;split <;> omega
 have hr:roundR P B lo ≤ lo + 1:=by unfold roundR;split <;> omega
 rcases Nat.lt_or_ge lo lo' with g | g
 ·omega
 ·have e:lo = lo':=by omega
  subst e
  unfold roundR
  by_cases c:B * (2 * vR lo + 2 ^ exR lo) < 2 * P ∨ (2 * P = B * (2 * vR lo + 2 ^ exR lo) ∧ lo % 2 = 1)
  ·rw [if_pos c,if_pos]
   ·exact Nat.le_refl _
   ·generalize 2 * vR lo + 2 ^ exR lo = M at *
    have e1:B * M * B' = B' * M * B:=by rw [Nat.mul_right_comm,Nat.mul_comm B B',Nat.mul_right_comm]
    rcases c with c | ⟨c1,c2⟩
    ·left
     have h1:=Nat.mul_lt_mul_of_pos_right c hB'
     have h2:2 * P * B' ≤ 2 * P' * B:=by rw [Nat.mul_assoc,Nat.mul_assoc];exact Nat.mul_le_mul_left 2 hle
     exact Nat.lt_of_mul_lt_mul_right (a:=B) (by omega)
    ·have h1:B' * M * B ≤ 2 * P' * B:=by
      rw [← e1,← c1,Nat.mul_assoc,Nat.mul_assoc];exact Nat.mul_le_mul_left 2 hle
     have h2:=Nat.le_of_mul_le_mul_right h1 hB
     rcases Nat.lt_or_ge (B' * M) (2 * P') with q | q
     ·exact Or.inl q
     ·exact Or.inr ⟨by omega,c2⟩
  ·rw [if_neg c];split <;> omega
theorem pow_cross' (q:Int) (j:Nat):10 ^ j * 10 ^ q.toNat * 10 ^ (-(q + j)).toNat = 10 ^ (q + j).toNat * 10 ^ (-q).toNat:=by
 rw [← Nat.pow_add,← Nat.pow_add,← Nat.pow_add]
 congr 1
 omega
theorem cross_le {d N j:Nat} {q:Int} (h:d * 10 ^ j ≤ N):d * 10 ^ (q + j).toNat * k74 * 10 ^ (-q).toNat ≤ N * 10 ^ q.toNat * k74 * 10 ^ (-(q + j)).toNat:=by
 have e:=pow_cross' q j
 have e1:d * 10 ^ (q + j).toNat * k74 * 10 ^ (-q).toNat = d * 10 ^ j * (10 ^ q.toNat * 10 ^ (-(q + j)).toNat * k74):=by
  rw [Nat.mul_right_comm,Nat.mul_assoc d,← e,Nat.mul_assoc d,Nat.mul_assoc d,Nat.mul_assoc (10 ^ j),Nat.mul_assoc (10 ^ j)]
 have e2:N * 10 ^ q.toNat * k74 * 10 ^ (-(q + j)).toNat = N * (10 ^ q.toNat * 10 ^ (-(q + j)).toNat * k74):=by
  rw [Nat.mul_right_comm,Nat.mul_assoc N,Nat.mul_assoc N]
 rw [e1,e2]
 exact Nat.mul_le_mul_right _ h
theorem cross_ge {d N j:Nat} {q:Int} (h:N ≤ d * 10 ^ j):N * 10 ^ q.toNat * k74 * 10 ^ (-(q + j)).toNat ≤ d * 10 ^ (q + j).toNat * k74 * 10 ^ (-q).toNat:=by
 have e:=pow_cross' q j
 have e1:d * 10 ^ (q + j).toNat * k74 * 10 ^ (-q).toNat = d * 10 ^ j * (10 ^ q.toNat * 10 ^ (-(q + j)).toNat * k74):=by
  rw [Nat.mul_right_comm,Nat.mul_assoc d,← e,Nat.mul_assoc d,Nat.mul_assoc d,Nat.mul_assoc (10 ^ j),Nat.mul_assoc (10 ^ j)]
 have e2:N * 10 ^ q.toNat * k74 * 10 ^ (-(q + j)).toNat = N * (10 ^ q.toNat * 10 ^ (-(q + j)).toNat * k74):=by
  rw [Nat.mul_right_comm,Nat.mul_assoc N,Nat.mul_assoc N]
 rw [e1,e2]
 exact Nat.mul_le_mul_right _ h
def cpR (R:Nat):Nat:=if R < infR then R else infR
def erR (R:Nat):Value:=if R < infR then .nilIface else errR
theorem parse_full (d S:Nat) (p:Int) (hd0:1 ≤ d) (hd:d < 18446744073709551616) (hp:-345 ≤ p ∧ p ≤ 310) (hS:S = 0 ∨ S = 9223372036854775808) :
  ∃ lo,Lo (d * 10 ^ p.toNat * k74) (10 ^ (-p).toNat) lo ∧ ∀ w,PT w → 15 < w.heap.size →
   Calls Tryz.prog 186 #[.int .u64 d,.int .i64 p,.int .u64 S] w fun ed w' => ed = .returned (.tuple #[.float .f64 (S + cpR (roundR (d * 10 ^ p.toNat * k74) (10 ^ (-p).toNat) lo)),erR (roundR (d * 10 ^ p.toNat * k74) (10 ^ (-p).toNat) lo)]) ∧ Below w.heap.size w w':=by
 obtain ⟨lo,hlo,H⟩:=parse_any d S p hd0 hd hp hS
 obtain ⟨lo2,hlo2,H2⟩:=parse_inf d S p hd0 hd hp hS
 obtain rfl:=hlo.unique hlo2
 refine ⟨lo,hlo,fun w hT hg => ?_⟩
 unfold cpR erR
 by_cases hR:roundR (d * 10 ^ p.toNat * k74) (10 ^ (-p).toNat) lo < infR
 ·rw [if_pos hR,if_pos hR];exact H hR w hT hg
 ·rw [if_neg hR,if_neg hR];exact H2 (by omega) w hT hg
theorem cpR_le (R:Nat):cpR R ≤ infR:=by unfold cpR;split <;> omega
theorem cpR_mono {a b:Nat} (h:a ≤ b):cpR a ≤ cpR b:=by unfold cpR;split <;> split <;> omega
theorem erR_same {a b:Nat} (h:cpR a = cpR b):erR a = erR b:=by
 unfold cpR at h
 unfold erR
 by_cases ha:a < infR <;> by_cases hb:b < infR <;> simp only [ha,hb,if_true,if_false] at h ⊢ <;> omega
theorem word_S (S r:Nat) (ng:Bool) (hS:S = if ng then 9223372036854775808 else 0) (hr:r < 9223372036854775808):Ieee.double.word ng r = S + r:=by
 have h:=word_of (S + r) (by subst hS;split <;> omega)
 cases ng
 ·simp only [Bool.false_eq_true,if_false] at hS
  subst hS
  rw [decide_eq_false (by omega),Nat.mod_eq_of_lt (by omega),Nat.zero_add] at h
  rw [h];omega
 ·simp only [if_true] at hS
  subst hS
  rw [decide_eq_true (by omega),show (9223372036854775808 + r) % 9223372036854775808 = r by omega] at h
  exact h
theorem ord_eq (S a b:Nat) (ng:Bool) (hS:S = if ng then 9223372036854775808 else 0) (ha:a ≤ infR) (hb:b ≤ infR):(FloatKind.f64.format.order (S + a) (S + b) == some Ordering.eq) = decide (a = b):=by
 have hi:infR = 9218868437227405312:=rfl
 by_cases e:a = b
 ·subst e
  rw [decide_eq_true rfl]
  have h:=order_self (S + a) (by subst hS;split <;> omega)
  have hn:nanB (S + a) = false:=by
   unfold nanB
   subst hS
   split <;> simp <;> omega
  rw [hn] at h
  cases hc:(FloatKind.f64.format.order (S + a) (S + a) == some Ordering.eq) with
  | true => rfl
  | false => simp [bne,hc] at h
 ·rw [decide_eq_false e]
  rw [← word_S S a ng hS (by omega),← word_S S b ng hS (by omega)]
  by_cases ha':a < infR <;> by_cases hb':b < infR
  ·rw [order_word ng ng a b ha' hb']
   have hne:sv ng (vR a) ≠ sv ng (vR b):=by
    intro g
    have:vR a = vR b:=by
     unfold sv at g
     cases ng <;> simp at g <;> omega
    rcases Nat.lt_trichotomy a b with q | q | q
    ·have:=vR_mono q;omega
    ·exact e q
    ·have:=vR_mono q;omega
   cases hc:compare (sv ng (vR a)) (sv ng (vR b)) with
   | eq => exact absurd (Int.compare_eq_eq.1 hc) hne
   | lt => rfl
   | gt => rfl
  ·have e2:b = infR:=by omega
   subst e2
   show ((FloatKind.f64.decode _).order (FloatKind.f64.decode _) == _) = _
   rw [dec_fin ng a ha',show infR = 9218868437227405312 from rfl,dec_inf]
   cases ng <;> rfl
  ·have e2:a = infR:=by omega
   subst e2
   show ((FloatKind.f64.decode _).order (FloatKind.f64.decode _) == _) = _
   rw [dec_fin ng b hb',show infR = 9218868437227405312 from rfl,dec_inf]
   cases ng <;> rfl
  ·omega
end Go.Proofs.YtdogjghalplohaaGreatDoor.dcm
namespace Go.Proofs.YtdogjghalplohaaGreatDoor.dcm
open Go.ChangeShapes Go.WideShapes Go.ChangeAt Go.RowKit
open mem fto
open ints (hide unhide)
set_option linter.unusedVariables false
set_option linter.unusedSimpArgs false
theorem vR_zero:vR 0 = 0:=by decide
theorem lo_below {P B:Nat}:∀ n,P < B * vR (n + 1) → ∃ lo,Lo P B lo
 | 0,h => ⟨0,by rw [vR_zero];omega,h⟩
 | n + 1,h => by
  rcases Nat.lt_or_ge P (B * vR (n + 1)) with g | g
  ·exact lo_below n g
  ·exact ⟨n + 1,g,h⟩
theorem vR_ge:∀ n,n ≤ vR n
 | 0 => Nat.zero_le _
 | n + 1 => by
  have:=vR_ge n
  rw [vR_succ]
  have:=Nat.two_pow_pos (exR n)
  omega
theorem lo_some (P:Nat) {B:Nat} (hB:0 < B):∃ lo,Lo P B lo:=lo_below P (by
 have h:=vR_ge (P + 1)
 have:1 * vR (P + 1) ≤ B * vR (P + 1):=Nat.mul_le_mul_right _ hB
 omega)
theorem inf_310:vR infR ≤ 10 ^ n31 * k74:=by decide +kernel
theorem round_inf {P B lo:Nat} (h:Lo P B lo) (hB:0 < B) (hv:B * vR infR ≤ P):infR ≤ roundR P B lo:=by
 have h1:infR ≤ lo:=by
  rcases Nat.lt_or_ge lo infR with g | g
  ·exfalso
   have h2:=Nat.mul_le_mul_left B (vR_mono_le (show lo + 1 ≤ infR from g))
   have:=h.2
   omega
  ·exact g
 have:lo ≤ roundR P B lo:=by unfold roundR;split <;> omega
 omega
set_option maxRecDepth 10000 in
theorem atof_cut (k:Nat) (s:ByteArray) (m g z:Nat) (e:Int) (h:Ntx s k m g z) (hk:k ≤ 1) (hm:20 ≤ m) (ht:trs s (k + 2) m = true)
  (he:e = if g = 1 then - (mvs s (k + 3 + m + g) z:Int) else (mvs s (k + 3 + m + g) z:Int)) (hp:-345 ≤ e - 19 ∧ e - 19 ≤ 310) (w:World) (hF:Fy w) (hSl:Slow w w.heap.size) :
  ∃ lo,Lo (mvs s (k + 2) m * 10 ^ (e - m).toNat * k74) (10 ^ (-(e - m)).toNat) lo ∧
   Calls Tryz.prog 155 #[.string s] w fun ed w' => ed = .returned (.tuple #[.float .f64 (k * 9223372036854775808 + cpR (roundR (mvs s (k + 2) m * 10 ^ (e - m).toNat * k74) (10 ^ (-(e - m)).toNat) lo)),.int .i64 s.size,erR (roundR (mvs s (k + 2) m * 10 ^ (e - m).toNat * k74) (10 ^ (-(e - m)).toNat) lo)]) ∧ Below w.heap.size w w':=by
 have hsz1:s.size ≤ 2000000:=by have:=h.sz;have:=h.m1;have:=h.z1;have:=h.g1;omega
 have hsz2:k + 4 ≤ s.size:=by have:=h.sz;have:=h.z0;omega
 have hBq:0 < 10 ^ (-(e - m)).toNat:=Nat.pow_pos (by decide)
 obtain ⟨lo,hlo⟩:=lo_some (mvs s (k + 2) m * 10 ^ (e - m).toNat * k74) hBq
 refine ⟨lo,hlo,?_⟩
 obtain ⟨j,hj⟩:∃ j,m = 19 + j:=⟨m - 19,by omega⟩
 have hpq:e - 19 = (e - m) + (j:Int):=by omega
 obtain ⟨d,hd⟩:∃ d,d = mvs s (k + 2) 19:=⟨_,rfl⟩
 have f1:49 ≤ bz s (k + 2):=by have a1:=h.bf (by omega);have a2:=h.bd 0 (by omega);rw [Nat.add_zero] at a2;omega
 have hd0:1 ≤ d:=by rw [hd];exact mvs_pos s (k + 2) f1 _ (by omega)
 have hd1:d < 10000000000000000000:=by rw [hd];exact mvs_lt s (k + 2) m h.bd 19 (by omega)
 obtain ⟨r,hr,hrj⟩:=dvN_split (tdec_ok h.bd) 19 j
 rw [tdec_dv h.bd 19 (by omega),tdec_dv h.bd (19 + j) (by omega),← hj,← hd] at hr
 have hS2:k * 9223372036854775808 = 0 ∨ k * 9223372036854775808 = 9223372036854775808:=by omega
 obtain ⟨S,hS⟩:∃ S,S = k * 9223372036854775808:=⟨_,rfl⟩
 rw [← hS] at hS2 ⊢
 obtain ⟨lo0,hlo0,PA⟩:=parse_full d S (e - 19) hd0 (by omega) hp hS2
 obtain ⟨lo1,hlo1,PB⟩:=parse_full (d + 1) S (e - 19) (by omega) (by omega) hp hS2
 have hBp:0 < 10 ^ (-(e - 19)).toNat:=Nat.pow_pos (by decide)
 have m0:roundR (d * 10 ^ (e - 19).toNat * k74) (10 ^ (-(e - 19)).toNat) lo0 ≤ roundR (mvs s (k + 2) m * 10 ^ (e - m).toNat * k74) (10 ^ (-(e - m)).toNat) lo:=by
  refine round_mono hBp hBq hlo0 hlo ?_
  rw [hpq]
  exact cross_le (by rw [hr];omega)
 have m1:roundR (mvs s (k + 2) m * 10 ^ (e - m).toNat * k74) (10 ^ (-(e - m)).toNat) lo ≤ roundR ((d + 1) * 10 ^ (e - 19).toNat * k74) (10 ^ (-(e - 19)).toNat) lo1:=by
  refine round_mono hBq hBp hlo hlo1 ?_
  rw [hpq]
  exact cross_ge (by rw [hr,Nat.add_mul];omega)
 have big:310 < e → cpR (roundR (d * 10 ^ (e - 19).toNat * k74) (10 ^ (-(e - 19)).toNat) lo0) = cpR (roundR ((d + 1) * 10 ^ (e - 19).toNat * k74) (10 ^ (-(e - 19)).toNat) lo1):=by
  intro he3
  have hB1:10 ^ (-(e - 19)).toNat = 1:=by rw [show (-(e - 19)).toNat = 0 by omega,Nat.pow_zero]
  have hd18:1000000000000000000 ≤ d:=by
   obtain ⟨r1,hr1,-⟩:=dvN_split (tdec_ok h.bd) 1 18
   rw [show (1 + 18:Nat) = 19 from rfl,tdec_dv h.bd 1 (by omega),tdec_dv h.bd 19 (by omega),← hd] at hr1
   have e1:mvs s (k + 2) 1 = (bz s (k + 2) - 48).toNat:=by
    show 0 * 10 + (bz s (k + 2 + 0) - 48).toNat = _
    rw [Nat.add_zero];omega
   rw [e1] at hr1
   have h4:1 * 10 ^ 18 ≤ (bz s (k + 2) - 48).toNat * 10 ^ 18:=Nat.mul_le_mul_right _ (by omega)
   have h5:(10:Nat) ^ 18 = 1000000000000000000:=by decide
   rw [h5] at h4 hr1
   omega
  have key:∀ (x l:Nat),1000000000000000000 ≤ x → Lo (x * 10 ^ (e - 19).toNat * k74) (10 ^ (-(e - 19)).toNat) l → cpR (roundR (x * 10 ^ (e - 19).toNat * k74) (10 ^ (-(e - 19)).toNat) l) = infR:=by
   intro x l hx hl
   have h5:=round_inf hl hBp (by
    rw [hB1,Nat.one_mul]
    refine Nat.le_trans inf_310 (Nat.mul_le_mul_right _ ?_)
    have h6:(10:Nat) ^ n31 = 10 ^ 18 * 10 ^ (n31 - 18):=by rw [← Nat.pow_add,show 18 + (n31 - 18) = n31 from rfl]
    rw [h6]
    exact Nat.mul_le_mul hx (Nat.pow_le_pow_right (by decide) (by have:n31 = 310:=rfl;omega)))
   unfold cpR
   rw [if_neg (by omega)]
  rw [key d lo0 hd18 hlo0,key (d + 1) lo1 (by omega) hlo1]
 generalize hR0:roundR (d * 10 ^ (e - 19).toNat * k74) (10 ^ (-(e - 19)).toNat) lo0 = R0 at *
 generalize hR1:roundR ((d + 1) * 10 ^ (e - 19).toNat * k74) (10 ^ (-(e - 19)).toNat) lo1 = R1 at *
 obtain ⟨ng,hng⟩:∃ ng:Bool,ng = decide (k = 1):=⟨_,rfl⟩
 have hSn:S = if ng then 9223372036854775808 else 0:=by
  rw [hS,hng]
  have:k = 0 ∨ k = 1:=by omega
  rcases this with rfl | rfl <;> rfl
 have hmin:min m 19 = 19:=by omega
 have m0':¬ m = 0:=by omega
 have SP:Calls Tryz.prog 174 #[.string s] w fun e w' => e = .returned (.tuple #[.float .f64 0,.int .i64 0,.bool false]) ∧ w' = w:=by
  have:k = 0 ∨ k = 1:=by omega
  rcases this with rfl | rfl
  ·exact special0 s w (by omega) (by rw [← bz_at];exact h.b1)
  ·exact special1 s w (by omega) hsz1 (by omega) (by rw [← bz_at];exact h.b0 rfl) (by rw [← bz_at];exact h.b1)
 have RF:Calls Tryz.prog 175 #[.string s] w fun ed w' => ed = .returned (.tuple #[.int .u64 d,.int .i64 (e - 19),.bool ng,.bool true,.bool false,.int .i64 s.size,.bool true]) ∧ w' = w:=by
  have:k = 0 ∨ k = 1:=by omega
  rcases this with rfl | rfl
  ·have RF:=readF0 s m g z w h
   rw [if_neg m0',hmin,ht,← hd,← he] at RF
   rw [hng];exact RF
  ·have RF:=readF1 s m g z w h
   rw [if_neg m0',hmin,ht,← hd,← he] at RF
   rw [hng];exact RF
 have PA':=PA w hF.fx.fw.pt hF.fx.fw.g
 have PB':∀ W,Below w.heap.size w W → Calls Tryz.prog 186 #[.int .u64 ((d + 1:Nat):Int),.int .i64 (e - 19),.int .u64 S] W fun ed w' => ed = .returned (.tuple #[.float .f64 (S + cpR R1),erR R1]) ∧ Below w.heap.size W w':=fun W hW => by
  refine (PB W (hF.below hW).fx.fw.pt (hF.below hW).fx.fw.g).mono ?_
  rintro ed w' ⟨h1,h2⟩
  exact ⟨h1,h2.mono hW.size⟩
 have hord:=ord_eq S (cpR R0) (cpR R1) ng hSn (cpR_le _) (cpR_le _)
 by_cases hsame:cpR R0 = cpR R1
 ·rw [decide_eq_true hsame] at hord
  have C:=atof_same s d S (S + cpR R0) (S + cpR R1) (e - 19) ng w hSn hd0 (by omega) hp hsz1 hF.opt hord SP RF (erR R0) (erR R1) PA' PB'
  refine C.mono ?_
  rintro ed w' ⟨rfl,hb⟩
  have hc:cpR R0 = cpR (roundR (mvs s (k + 2) m * 10 ^ (e - m).toNat * k74) (10 ^ (-(e - m)).toNat) lo):=Nat.le_antisymm (cpR_mono m0) (by rw [hsame];exact cpR_mono m1)
  exact ⟨by rw [hc,erR_same hc],hb⟩
 ·rw [decide_eq_false hsame] at hord
  have he3:e ≤ 310:=by
   rcases Int.lt_or_le 310 e with q | q
   ·exact absurd (big q) hsame
   ·exact q
  have SET:∀ W b,Dec W b zdc → Calls Tryz.prog 181 #[.pointer (some ⟨b,0,none⟩),.string s] W fun ed w' => ed = .returned (.bool true) ∧ (∃ s',Dec w' b s' ∧ St (mvs s (k + 2) m * 10 ^ (e - m).toNat) (10 ^ (-(e - m)).toNat) s' (800 - s'.dp).toNat ∧ -330 ≤ s'.dp ∧ s'.ng = ng) ∧ Below b W w' ∧ w'.heap.size = W.heap.size:=fun W b hz => by
   have fin:∀ ed w',(ed = Ending.returned (.bool true) ∧ (∃ s',Dec w' b s' ∧ SI s (k + 2) s' m ∧ s'.dp = (if g = 1 then - (mvs s (k + 3 + m + g) z:Int) else (mvs s (k + 3 + m + g) z:Int)) ∧ s'.ng = ng) ∧ Below b W w' ∧ w'.heap.size = W.heap.size) → ed = .returned (.bool true) ∧ (∃ s',Dec w' b s' ∧ St (mvs s (k + 2) m * 10 ^ (e - m).toNat) (10 ^ (-(e - m)).toNat) s' (800 - s'.dp).toNat ∧ -330 ≤ s'.dp ∧ s'.ng = ng) ∧ Below b W w' ∧ w'.heap.size = W.heap.size:=by
    rintro ed w' ⟨h1,⟨s',g1,g2,g3,g4⟩,h2,h3⟩
    rw [← he] at g3
    have q:=set_st h.bd (by intro q;omega) (by omega) g2 (by omega)
    rw [g3] at q
    refine ⟨h1,⟨s',g1,?_,by omega,g4⟩,h2,h3⟩
    rw [g3];exact q
   have:k = 0 ∨ k = 1:=by omega
   rcases this with rfl | rfl
   ·rw [hng] at fin ⊢
    exact (set0 s b m g z zdc W h (by omega) hz rfl rfl).mono fin
   ·rw [hng] at fin ⊢
    exact (set1 s b m g z zdc W h (by omega) hz rfl rfl).mono fin
  have FB:∀ W b s',Dec W b s' → St (mvs s (k + 2) m * 10 ^ (e - m).toNat) (10 ^ (-(e - m)).toNat) s' (800 - s'.dp).toNat → -330 ≤ s'.dp → Slow W b → Calls Tryz.prog 182 #[.pointer (some ⟨b,0,none⟩),.pointer (some ⟨9,0,none⟩)] W fun ed w' => FbA (mvs s (k + 2) m * 10 ^ (e - m).toNat) (10 ^ (-(e - m)).toNat) s'.ng ed ∧ Below b W w':=
   fun W b s' h1 h2 h3 h4 => fbits_ok b _ _ s' W h1 h2 h3 h4.lc h4.pw h4.fi
  have C:=atof_slow s d S (S + cpR R0) (S + cpR R1) _ _ (e - 19) ng w hSn hd0 (by omega) hp hsz1 hF.opt hord SP RF (erR R0) (erR R1) PA' PB' hSl SET FB
  refine C.mono ?_
  rintro ed w' ⟨⟨lo2,R,hlo2,hR⟩,hb⟩
  obtain rfl:=hlo.unique hlo2
  refine ⟨?_,hb⟩
  unfold cpR erR
  rcases hR with ⟨r1,r2,r3⟩ | ⟨r1,r3⟩
  ·rw [if_pos r1,if_pos r1,r3,r2]
  ·rw [if_neg (by omega),if_neg (by omega),r3]
end Go.Proofs.YtdogjghalplohaaGreatDoor.dcm
