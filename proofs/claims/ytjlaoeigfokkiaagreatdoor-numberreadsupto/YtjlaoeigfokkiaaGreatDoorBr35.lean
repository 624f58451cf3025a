import Derived.Test.YtjlaoeigfokkiaaGreatDoorBr21
import Derived.Test.YtjlaoeigfokkiaaGreatDoorBr28
import Derived.Test.YtjlaoeigfokkiaaGreatDoorBr29
import Derived.Test.YtjlaoeigfokkiaaGreatDoorBr13
namespace Go.Proofs.YtjlaoeigfokkiaaGreatDoor.dcm
open Go.ChangeShapes Go.WideShapes Go.ChangeAt Go.RowKit
open mem fto
open ints (hide unhide)
set_option linter.unusedVariables false
set_option linter.unusedSimpArgs false
theorem LC.mono {w:World} {c c':Nat} (h:LC w c) (h1:c ≤ c') (h2:c' ≤ w.heap.size):LC w c':=by
 obtain ⟨tb,o,cap,a1,a2,a3,a4,a5⟩:=h
 exact ⟨tb,o,cap,a1,by omega,by omega,h2,a5⟩
theorem PW.mono {w:World} {c c':Nat} (h:PW w c) (h1:c ≤ c'):PW w c':=by
 obtain ⟨tb,o,cap,a1,a2,a3,a4⟩:=h
 exact ⟨tb,o,cap,a1,by omega,by omega,a4⟩
theorem FI.mono {w:World} {c c':Nat} (h:FI w c) (h1:c ≤ c'):FI w c':=⟨Nat.lt_of_lt_of_le h.1 h1,h.2⟩
def zdc:Dcs:=⟨fun _ => 0,0,0,false,false⟩
theorem zero_is:Tryz.zeroCells181 = (Array.replicate 800 (Value.int .u8 0) ++ #[.int .i64 0,.int .i64 0,.bool false,.bool false]:Array Value):=by kernel_rfl
theorem zero_dec (w:World):Dec (w.alloc (Obj.cells Tryz.zeroCells181 181)) w.heap.size zdc:=by
 refine ⟨Tryz.zeroCells181,181,⟨by show (w.heap.push _)[w.heap.size]? = _;rw [Array.getElem?_push_size],?_,?_,?_,?_,?_,?_⟩⟩
 ·rw [zero_is];simp
 ·intro i hi
  rw [zero_is,Array.getElem?_append_left (by simpa using hi)]
  simp [hi,zdc]
 all_goals rw [zero_is];simp [zdc]
structure Slow (w:World) (c:Nat):Prop where
 lc:LC w c
 pw:PW w c
 fi:FI w c
theorem Slow.at {w W:World} {c:Nat} (h:Slow w c) (hb:Below c w W) (hs:w.heap.size ≤ W.heap.size) {c':Nat} (h1:c ≤ c') (h2:c' ≤ W.heap.size):Slow W c':=
 ⟨(h.lc.below hb hs).mono h1 h2,(h.pw.below hb).mono h1,(h.fi.below hb).mono h1⟩
def errR:Value:=.iface 96 (.int .i64 1)
set_option maxHeartbeats 2000000 in
set_option maxRecDepth 100000 in
theorem atof_same (s:ByteArray) (d S F0 F1:Nat) (p:Int) (ng:Bool) (w:World) (hS:S = if ng then 9223372036854775808 else 0) (hd0:1 ≤ d) (hd:d + 1 < 18446744073709551616) (hp:-345 ≤ p ∧ p ≤ 310) (hn:s.size ≤ 2000000)
  (opt:w.cell? ⟨5,0,none⟩ = some (.bool true))
  (hEq:(FloatKind.f64.format.order F0 F1 == some Ordering.eq) = true)
  (SP:Calls Tryz.prog 146 #[.string s] w fun e w' => e = .returned (.tuple #[.float .f64 0,.int .i64 0,.bool false]) ∧ w' = w)
  (RF:Calls Tryz.prog 147 #[.string s] w fun e w' => e = .returned (.tuple #[.int .u64 d,.int .i64 p,.bool ng,.bool true,.bool false,.int .i64 s.size,.bool true]) ∧ w' = w)
  (e0 e1:Value)
  (PA:Calls Tryz.prog 158 #[.int .u64 d,.int .i64 p,.int .u64 S] w fun e w' => e = .returned (.tuple #[.float .f64 F0,e0]) ∧ Below w.heap.size w w')
  (PB:∀ W,Below w.heap.size w W → Calls Tryz.prog 158 #[.int .u64 ((d + 1:Nat):Int),.int .i64 p,.int .u64 S] W fun e w' => e = .returned (.tuple #[.float .f64 F1,e1]) ∧ Below w.heap.size W w')
  : Calls Tryz.prog 126 #[.string s] w fun e w' => e = .returned (.tuple #[.float .f64 F0,.int .i64 s.size,e0]) ∧ Below w.heap.size w w':=by
 have HSP:=hide SP
 have HRF:=hide RF
 have HPA:=hide PA
 have HPB:=hide PB
 have hdi:((d:Int) == 0) = false:=by rw [beq_eq_false_iff_ne];omega
 have kd1:IntKind.u64.wrap ((d:Int) + 1) = ((d + 1:Nat):Int):=by rw [IntKind.wrap_u64];omega
 have B1:=hide b2_yes
 have B0:=hide b2_no
 have hfb:=run_fromb
 clear SP RF PA PB hd
 go_enter Tryz.func126,Tryz.ntmps126
 go_wp2_with fail
 refine (unhide HSP).mono ?_
 rintro e w1 ⟨rfl,hw⟩
 subst w1
 go_wp2_with fail
 refine (unhide HRF).mono ?_
 rintro e w1 ⟨rfl,hw⟩
 subst w1
 cases ng
 all_goals
  simp only [Bool.false_eq_true,if_false,if_true] at hS
  subst hS
  go_wp2_with fail
  first
   | refine (unhide B0 _).mono ?_
   | refine (unhide B1 _).mono ?_
  rintro e w1 ⟨rfl,hw⟩
  subst w1
  go_wp2_with fail
  refine (unhide HPA).mono ?_
  rintro e w1 ⟨rfl,b1⟩
  have HB1:=hide b1
  clear b1
  go_wp2_with fail
  refine (unhide HPB _ (unhide HB1)).mono ?_
  rintro e w2 ⟨rfl,b2⟩
  have HB2:=hide ((unhide HB1).trans b2)
  clear b2
  go_wp2
  go_ret3
  exact ⟨rfl,unhide HB2⟩
set_option maxHeartbeats 2000000 in
set_option maxRecDepth 100000 in
theorem atof_slow (s:ByteArray) (d S F0 F1 X Y:Nat) (p:Int) (ng:Bool) (w:World) (hS:S = if ng then 9223372036854775808 else 0) (hd0:1 ≤ d) (hd:d + 1 < 18446744073709551616) (hp:-345 ≤ p ∧ p ≤ 310) (hn:s.size ≤ 2000000)
  (opt:w.cell? ⟨5,0,none⟩ = some (.bool true))
  (hEq:(FloatKind.f64.format.order F0 F1 == some Ordering.eq) = false)
  (SP:Calls Tryz.prog 146 #[.string s] w fun e w' => e = .returned (.tuple #[.float .f64 0,.int .i64 0,.bool false]) ∧ w' = w)
  (RF:Calls Tryz.prog 147 #[.string s] w fun e w' => e = .returned (.tuple #[.int .u64 d,.int .i64 p,.bool ng,.bool true,.bool false,.int .i64 s.size,.bool true]) ∧ w' = w)
  (e0 e1:Value)
  (PA:Calls Tryz.prog 158 #[.int .u64 d,.int .i64 p,.int .u64 S] w fun e w' => e = .returned (.tuple #[.float .f64 F0,e0]) ∧ Below w.heap.size w w')
  (PB:∀ W,Below w.heap.size w W → Calls Tryz.prog 158 #[.int .u64 ((d + 1:Nat):Int),.int .i64 p,.int .u64 S] W fun e w' => e = .returned (.tuple #[.float .f64 F1,e1]) ∧ Below w.heap.size W w')
  (hSl:Slow w w.heap.size)
  (SET:∀ W b,Dec W b zdc → Calls Tryz.prog 153 #[.pointer (some ⟨b,0,none⟩),.string s] W fun e w' => e = .returned (.bool true) ∧ (∃ s',Dec w' b s' ∧ St X Y s' (800 - s'.dp).toNat ∧ -330 ≤ s'.dp ∧ s'.ng = ng) ∧ Below b W w' ∧ w'.heap.size = W.heap.size)
  (FB:∀ W b s',Dec W b s' → St X Y s' (800 - s'.dp).toNat → -330 ≤ s'.dp → Slow W b → Calls Tryz.prog 154 #[.pointer (some ⟨b,0,none⟩),.pointer (some ⟨9,0,none⟩)] W fun e w' => FbA X Y s'.ng e ∧ Below b W w')
  : Calls Tryz.prog 126 #[.string s] w fun e w' => (∃ lo R,Lo (X * k74) Y lo ∧ ((roundR (X * k74) Y lo < infR ∧ R = roundR (X * k74) Y lo ∧ e = .returned (.tuple #[.float .f64 (S + R),.int .i64 s.size,.nilIface])) ∨ (infR ≤ roundR (X * k74) Y lo ∧ e = .returned (.tuple #[.float .f64 (S + infR),.int .i64 s.size,errR])))) ∧ Below w.heap.size w w':=by
 have HSP:=hide SP
 have HRF:=hide RF
 have HPA:=hide PA
 have HPB:=hide PB
 have hdi:((d:Int) == 0) = false:=by rw [beq_eq_false_iff_ne];omega
 have kd1:IntKind.u64.wrap ((d:Int) + 1) = ((d + 1:Nat):Int):=by rw [IntKind.wrap_u64];omega
 have B1:=hide b2_yes
 have B0:=hide b2_no
 have hfb:=run_fromb
 have HSET:=hide SET
 have HFB:=hide FB
 have HSl:=hide hSl
 clear SET FB hSl
 clear SP RF PA PB hd
 go_enter Tryz.func126,Tryz.ntmps126
 go_wp2_with fail
 refine (unhide HSP).mono ?_
 rintro e w1 ⟨rfl,hw⟩
 subst w1
 go_wp2_with fail
 refine (unhide HRF).mono ?_
 rintro e w1 ⟨rfl,hw⟩
 subst w1
 cases ng
 all_goals
  simp only [Bool.false_eq_true,if_false,if_true] at hS
  subst hS
  go_wp2_with fail
  first
   | refine (unhide B0 _).mono ?_
   | refine (unhide B1 _).mono ?_
  rintro e w1 ⟨rfl,hw⟩
  subst w1
  go_wp2_with fail
  refine (unhide HPA).mono ?_
  rintro e w1 ⟨rfl,b1⟩
  have HB1:=hide b1
  clear b1
  go_wp2_with fail
  refine (unhide HPB _ (unhide HB1)).mono ?_
  rintro e w2 ⟨rfl,b2⟩
  have HB2:=hide ((unhide HB1).trans b2)
  clear b2
  go_wp2_with fail
  refine (unhide HSET _ _ (zero_dec w2)).mono ?_
  rintro e w3 ⟨rfl,⟨s',hd3,hst,hdp,hng⟩,b3,z3⟩
  have hb13:Below w.heap.size w w3:=((unhide HB2).alloc (unhide HB2).size _).trans (b3.mono (unhide HB2).size)
  have hz3:w2.heap.size ≤ w3.heap.size:=by rw [z3];simp
  have C3:=hide (unhide HFB w3 w2.heap.size s' hd3 hst hdp ((unhide HSl).at hb13 hb13.size (unhide HB2).size hz3))
  have HB3:=hide hb13
  have HZ:=hide (unhide HB2).size
  rw [hng] at C3
  clear hd3 hst hdp hng b3 z3 hb13 hz3
  go_wp2_with fail
  refine (unhide C3).mono ?_
  rintro e w4 ⟨⟨lo,R,ov,hlo,rfl,hov⟩,b4⟩
  have HB4:=hide ((unhide HB3).trans (b4.mono (unhide HZ)))
  clear b4
  cases ov
  ·obtain ⟨r1,r2⟩:roundR (X * k74) Y lo < infR ∧ R = roundR (X * k74) Y lo:=by
    rcases hov with ⟨q1,q2,-⟩ | ⟨-,-,q3⟩
    ·exact ⟨q1,q2⟩
    ·cases q3
   have HR:=hide (⟨r1,r2⟩:roundR (X * k74) Y lo < infR ∧ R = roundR (X * k74) Y lo)
   have HLo:=hide hlo
   clear hov r1 r2 hlo
   go_wp2
   go_ret3
   exact ⟨⟨lo,R,unhide HLo,Or.inl ⟨(unhide HR).1,(unhide HR).2,by simp⟩⟩,unhide HB4⟩
  ·obtain ⟨r1,r2⟩:infR ≤ roundR (X * k74) Y lo ∧ R = infR:=by
    rcases hov with ⟨-,-,q3⟩ | ⟨q1,q2,-⟩
    ·cases q3
    ·exact ⟨q1,q2⟩
   have HR:=hide (⟨r1,r2⟩:infR ≤ roundR (X * k74) Y lo ∧ R = infR)
   have HLo:=hide hlo
   clear hov r1 r2 hlo
   go_wp2
   go_ret3
   refine ⟨⟨lo,R,unhide HLo,Or.inr ⟨(unhide HR).1,?_⟩⟩,unhide HB4⟩
   rw [(unhide HR).2]
   rfl
end Go.Proofs.YtjlaoeigfokkiaaGreatDoor.dcm
