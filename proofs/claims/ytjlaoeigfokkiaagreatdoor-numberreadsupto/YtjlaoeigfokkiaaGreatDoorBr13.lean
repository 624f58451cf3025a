import Derived.Test.YtjlaoeigfokkiaaGreatDoorBr4
import Derived.Test.YtjlaoeigfokkiaaGreatDoorBr9
import Derived.Laws.Cover2
import Derived.Laws.FloatArith
import Derived.Laws.Externs
import Derived.Laws.BitsAllLaws
import Derived.Test.YtjlaoeigfokkiaaGreatDoorBr6
import Derived.Test.YtjlaoeigfokkiaaGreatDoorBr8
namespace Go.Proofs.YtjlaoeigfokkiaaGreatDoor.mem
set_option linter.unusedVariables false
def sv (ng:Bool) (v:Nat):Int:=if ng then -(v:Int) else (v:Int)
theorem dec_fin (ng:Bool) (r:Nat) (h:r < 9218868437227405312):FloatKind.f64.decode (Ieee.double.word ng r) = .number ng (mantR r) ((exR r:Int) - 1074):=by
 have hs:Ieee.double.signWeight = 9223372036854775808:=by rfl
 have hb:Ieee.double.binade = b52:=by rfl
 have hi:Ieee.double.infRung = 9218868437227405312:=by rfl
 have hl:Ieee.double.leastPlace = -1074:=by rfl
 have e1:Ieee.double.word ng r / 9223372036854775808 % 2 = ng.toNat ∧ Ieee.double.word ng r % 9223372036854775808 = r:=by
  unfold Ieee.Format.word
  rw [hs]
  cases ng
  ·simp;omega
  ·simp;omega
 show Ieee.double.read _ = _
 unfold Ieee.Format.read
 simp only [hs,hb,hi,hl,e1.1,e1.2]
 have e2:(ng.toNat == 1) = ng:=by cases ng <;> rfl
 rw [e2]
 unfold mantR exR
 by_cases h0:r < b52
 ·rw [if_pos h0,if_pos h0]
  have:r / b52 = 0:=Nat.div_eq_of_lt h0
  rw [this];rfl
 ·rw [if_neg h0,if_neg h0,if_pos h]
  have:1 ≤ r / b52:=Nat.div_pos (by omega) (by decide)
  congr 1
theorem dec_inf (ng:Bool):FloatKind.f64.decode (Ieee.double.word ng 9218868437227405312) = .infinity ng:=by
 have hs:Ieee.double.signWeight = 9223372036854775808:=by rfl
 have hb:Ieee.double.binade = b52:=by rfl
 have hi:Ieee.double.infRung = 9218868437227405312:=by rfl
 have e1:Ieee.double.word ng 9218868437227405312 / 9223372036854775808 % 2 = ng.toNat ∧ Ieee.double.word ng 9218868437227405312 % 9223372036854775808 = 9218868437227405312:=by
  unfold Ieee.Format.word
  rw [hs]
  cases ng <;> simp
 show Ieee.double.read _ = _
 unfold Ieee.Format.read
 simp only [hs,hb,hi,e1.1,e1.2]
 have e2:(ng.toNat == 1) = ng:=by cases ng <;> rfl
 rw [e2,if_neg (by unfold b52;omega),if_neg (by omega)]
 simp only [if_true]
theorem dec_nan (ng:Bool) (r:Nat) (h:9218868437227405312 < r) (h2:r < 9223372036854775808):∃ f,FloatKind.f64.decode (Ieee.double.word ng r) = .nan ng f:=by
 have hs:Ieee.double.signWeight = 9223372036854775808:=by rfl
 have hb:Ieee.double.binade = b52:=by rfl
 have hi:Ieee.double.infRung = 9218868437227405312:=by rfl
 have e1:Ieee.double.word ng r / 9223372036854775808 % 2 = ng.toNat ∧ Ieee.double.word ng r % 9223372036854775808 = r:=by
  unfold Ieee.Format.word
  rw [hs]
  cases ng
  ·simp;omega
  ·simp;omega
 refine ⟨r - 9218868437227405312,?_⟩
 show Ieee.double.read _ = _
 unfold Ieee.Format.read
 simp only [hs,hb,hi,e1.1,e1.2]
 have e2:(ng.toNat == 1) = ng:=by cases ng <;> rfl
 rw [e2,if_neg (by unfold b52;omega),if_neg (by omega),if_neg (by omega)]
theorem word_of (x:Nat) (h:x < 18446744073709551616):Ieee.double.word (decide (9223372036854775808 ≤ x)) (x % 9223372036854775808) = x:=by
 have hs:Ieee.double.signWeight = 9223372036854775808:=by rfl
 unfold Ieee.Format.word
 rw [hs]
 by_cases hx:9223372036854775808 ≤ x
 ·simp [hx];omega
 ·simp [hx];omega
theorem signed_eq (ng:Bool) (m u:Nat):Ieee.signed ng m u = sv ng (m * 2 ^ u):=by
 unfold Ieee.signed sv
 rw [Nat.shiftLeft_eq]
theorem sv_mul (ng:Bool) (v k:Nat):sv ng (v * k) = sv ng v * (k:Int):=by
 unfold sv
 cases ng
 ·simp
 ·simp only [if_true];rw [Int.natCast_mul,Int.neg_mul]
theorem compare_mul (a b:Int) (k:Nat) (hk:0 < k):compare (a * (k:Int)) (b * (k:Int)) = compare a b:=by
 have hk':(0:Int) < (k:Int):=by omega
 rcases Int.lt_trichotomy a b with h | h | h
 ·rw [Int.compare_eq_lt.2 h,Int.compare_eq_lt.2 (Int.mul_lt_mul_of_pos_right h hk')]
 ·subst h;rw [Int.compare_eq_eq.2 rfl,Int.compare_eq_eq.2 rfl]
 ·rw [Int.compare_eq_gt.2 h,Int.compare_eq_gt.2 (Int.mul_lt_mul_of_pos_right h hk')]
theorem order_fin (s t:Bool) (m n i j:Nat):(Ieee.Datum.number s m ((i:Int) - 1074)).order (.number t n ((j:Int) - 1074)) = some (compare (sv s (m * 2 ^ i)) (sv t (n * 2 ^ j))):=by
 unfold Ieee.Datum.order
 simp only [signed_eq,Option.some.injEq]
 have e1:((i:Int) - 1074 - min ((i:Int) - 1074) ((j:Int) - 1074)).toNat = i - min i j:=by omega
 have e2:((j:Int) - 1074 - min ((i:Int) - 1074) ((j:Int) - 1074)).toNat = j - min i j:=by omega
 rw [e1,e2,← compare_mul _ _ (2 ^ min i j) (Nat.two_pow_pos _),← sv_mul,← sv_mul,Nat.mul_assoc,Nat.mul_assoc,← Nat.pow_add,← Nat.pow_add,
  show i - min i j + min i j = i by omega,show j - min i j + min i j = j by omega]
theorem order_word (s t:Bool) (a b:Nat) (ha:a < 9218868437227405312) (hb:b < 9218868437227405312):FloatKind.f64.format.order (Ieee.double.word s a) (Ieee.double.word t b) = some (compare (sv s (vR a)) (sv t (vR b))):=by
 show (FloatKind.f64.decode _).order (FloatKind.f64.decode _) = _
 rw [dec_fin s a ha,dec_fin t b hb,order_fin]
 rfl
end Go.Proofs.YtjlaoeigfokkiaaGreatDoor.mem
namespace Go.Proofs.YtjlaoeigfokkiaaGreatDoor.fto
open Go.ChangeShapes Go.WideShapes Go.ChangeAt Go.RowKit
open mem Go.Sort
open ints (hide unhide)
set_option linter.unusedVariables false
set_option linter.unusedSimpArgs false
def badF (x:Nat):Bool:=decide (9218868437227405312 ≤ x % 9223372036854775808)
def nanB (x:Nat):Bool:=decide (9218868437227405312 < x % 9223372036854775808)
theorem order_self (x:Nat) (h:x < 18446744073709551616):(FloatKind.f64.format.order x x != some Ordering.eq) = nanB x:=by
 have hw:=word_of x h
 obtain ⟨r,hr⟩:∃ r,r = x % 9223372036854775808:=⟨_,rfl⟩
 obtain ⟨ng,hng⟩:∃ ng,ng = decide (9223372036854775808 ≤ x):=⟨_,rfl⟩
 have hrl:r < 9223372036854775808:=by omega
 unfold nanB
 rw [← hr]
 rw [← hr,← hng] at hw
 clear hr hng
 rw [← hw]
 show ((FloatKind.f64.decode _).order (FloatKind.f64.decode _) != some Ordering.eq) = _
 rcases Nat.lt_trichotomy r 9218868437227405312 with h1 | h1 | h1
 ·rw [dec_fin ng r h1,order_fin,Int.compare_eq_eq.2 rfl,decide_eq_false (by omega)];rfl
 ·subst h1
  rw [dec_inf,decide_eq_false (by omega)]
  cases ng <;> rfl
 ·obtain ⟨f,hf⟩:=dec_nan ng r h1 hrl
  rw [hf,decide_eq_true h1];rfl
theorem gt_max (r:Nat) (h:r ≤ 9218868437227405312):(FloatKind.f64.format.order r 9218868437227405311 == some Ordering.gt) = decide (9218868437227405312 ≤ r):=by
 have e1:r = Ieee.double.word false r:=rfl
 by_cases hr:r = 9218868437227405312
 ·subst hr
  rfl
 ·rw [decide_eq_false (by omega)]
  have:=order_word false false r 9218868437227405311 (by omega) (by omega)
  have e2:FloatKind.f64.format.order r 9218868437227405311 = some (compare (sv false (vR r)) (sv false (vR 9218868437227405311))):=this
  rw [e2]
  have hle:vR r ≤ vR 9218868437227405311:=mem.vR_mono_le (by omega)
  have:compare (sv false (vR r)) (sv false (vR 9218868437227405311)) ≠ Ordering.gt:=by
   intro hc
   rw [Int.compare_eq_gt] at hc
   unfold sv at hc
   simp at hc
   omega
  cases hc:compare (sv false (vR r)) (sv false (vR 9218868437227405311)) with
  | gt => exact absurd hc this
  | lt => rfl
  | eq => rfl
theorem andNotSign (b:Nat) (h:b < 18446744073709551616):bits .andNot .u64 (b:Int) 9223372036854775808 = ((b % 9223372036854775808:Nat):Int):=by
 have:=u64_andNot_nat b 9223372036854775808 (by omega) (by omega)
 rw [show 18446744073709551615 - 9223372036854775808 = 9223372036854775807 from rfl,nat_mask63] at this
 exact this
theorem run_tobits (x:Nat) (w:World):(callFunc 12 #[.float .f64 x]).run Tryz.prog w = .ok (.value (.int .u64 x)) w:=by
 rw [run_callFunc_extern (e:=Extern.MathFloatBits.float64bits) Tryz.func12 (by kernel_rfl) (by kernel_rfl) (by kernel_rfl) (by kernel_rfl)]
 rfl
theorem run_frombits (x:Int) (w:World):(callFunc 52 #[.int .u64 x]).run Tryz.prog w = .ok (.value (.float .f64 x.toNat)) w:=by
 rw [run_callFunc_extern (e:=Extern.MathFloatBits.float64frombits) Tryz.func52 (by kernel_rfl) (by kernel_rfl) (by kernel_rfl) (by kernel_rfl)]
 rfl
theorem abs_ok (x:Nat) (w:World) (h:x < 18446744073709551616):Calls Tryz.prog 28 #[.float .f64 x] w fun e w' => e = .returned (.float .f64 (x % 9223372036854775808)) ∧ w = w':=by
 have T1:=run_tobits x w
 have e2:=andNotSign x h
 have T2:=run_frombits ((x % 9223372036854775808:Nat):Int) w
 rw [Int.toNat_natCast] at T2
 generalize x % 9223372036854775808 = r at *
 go_enter Tryz.func28,Tryz.ntmps28
 go_wp2
 go_ret
 exact ⟨rfl,rfl⟩
theorem isInf_ok (x:Nat) (w:World) (h:x < 18446744073709551616) (hn:nanB x = false):Calls Tryz.prog 21 #[.float .f64 x,.int .i64 0] w fun e w' => e = .returned (.bool (badF x)) ∧ w = w':=by
 have A:=hide (fun W => abs_ok x W h)
 have hg:=gt_max (x % 9223372036854775808) (by unfold nanB at hn;simpa using hn)
 have hB:=hide (show badF x = decide (9218868437227405312 ≤ x % 9223372036854775808) from rfl)
 clear hn h
 generalize x % 9223372036854775808 = r at *
 rw [← unhide hB] at hg
 clear hB
 generalize badF x = B at *
 go_enter Tryz.func21,Tryz.ntmps21
 go_wp2_with fail
 refine (unhide A _).mono ?_
 rintro e w1 ⟨rfl,rfl⟩
 clear A
 go_wp2
 go_ret
 exact ⟨by first | rfl | (rw [← hg];rfl),rfl⟩
end Go.Proofs.YtjlaoeigfokkiaaGreatDoor.fto
namespace Go.Proofs.YtjlaoeigfokkiaaGreatDoor.fto
open Go.ChangeShapes Go.WideShapes Go.ChangeAt Go.RowKit
open mem Go.Sort
open ints (hide unhide)
set_option linter.unusedVariables false
set_option linter.unusedSimpArgs false
theorem isNaN_any (x:Nat) (w:World) (h:x < 18446744073709551616):Calls Tryz.prog 25 #[.float .f64 x] w fun e w' => e = .returned (.bool (nanB x)) ∧ w' = w:=by
 have ho:=order_self x h
 generalize nanB x = N at *
 go_enter Tryz.func25,Tryz.ntmps25
 go_wp2
 go_ret
 exact ⟨by first | rfl | (rw [← ho];rfl),rfl⟩
theorem sgn64 (x:Nat) (h:x < 18446744073709551616):decide (wrap64 (x:Int) < 0) = decide (9223372036854775808 ≤ x):=by
 have e:wrap64 (x:Int) = ((x:Int) + 9223372036854775808) % 18446744073709551616 - 9223372036854775808:=by simp [wrap64]
 rw [e]
 by_cases hx:9223372036854775808 ≤ x
 ·rw [decide_eq_true hx];exact decide_eq_true (by omega)
 ·rw [decide_eq_false hx];exact decide_eq_false (by omega)
set_option maxRecDepth 100000 in
theorem sign_ok (x:Nat) (w:World) (h:x < 18446744073709551616):Calls Tryz.prog 26 #[.float .f64 x] w fun e w' => e = .returned (.bool (decide (9223372036854775808 ≤ x))) ∧ w' = w:=by
 have T1:=run_tobits x w
 rw [← sgn64 x h]
 clear h
 go_enter Tryz.func26,Tryz.ntmps26
 go_wp2
 go_ret
 exact ⟨rfl,rfl⟩
theorem eq_nought (x:Nat) (h:x < 18446744073709551616) (hb:badF x = false):(FloatKind.f64.format.order x 0 == some Ordering.eq) = decide (x % 9223372036854775808 = 0):=by
 have hw:=word_of x h
 have hr:x % 9223372036854775808 < 9218868437227405312:=by unfold badF at hb;simpa using hb
 generalize decide (9223372036854775808 ≤ x) = ng at hw
 generalize x % 9223372036854775808 = r at *
 rw [← hw]
 have e:=order_word ng false r 0 hr (by decide)
 rw [show Ieee.double.word false 0 = 0 from rfl] at e
 rw [e]
 have hv:vR 0 = 0:=rfl
 by_cases h0:r = 0
 ·subst h0
  rw [hv]
  cases ng <;> rfl
 ·have hp:0 < vR r:=by
   have hm:0 < mantR r:=by unfold mantR;split <;> first | omega | (unfold b52;omega)
   unfold vR
   exact Nat.mul_pos hm (Nat.two_pow_pos _)
  rw [decide_eq_false h0,hv]
  cases ng
  ·have:compare (sv false (vR r)) (sv false 0) = Ordering.gt:=by
    rw [Int.compare_eq_gt];unfold sv;simp;omega
   rw [this];rfl
  ·have:compare (sv true (vR r)) (sv false 0) = Ordering.lt:=by
    rw [Int.compare_eq_lt];unfold sv;simp;omega
   rw [this];rfl
def sgB (x:Nat):ByteArray:=if 9223372036854775808 ≤ x then ⟨#[45]⟩ else ⟨#[]⟩
theorem nan_bad {x:Nat} (hb:badF x = false):nanB x = false:=by
 unfold badF at hb
 unfold nanB
 have:=of_decide_eq_false hb
 exact decide_eq_false (by omega)
end Go.Proofs.YtjlaoeigfokkiaaGreatDoor.fto
namespace Go.Proofs.YtjlaoeigfokkiaaGreatDoor.fto
open Go.ChangeShapes Go.WideShapes Go.ChangeAt Go.RowKit
open mem Go.Sort
open ints (hide unhide)
set_option linter.unusedVariables false
theorem run_fromb (x:Int) (w:World):(callFunc 156 #[.int .u64 x]).run Tryz.prog w = .ok (.value (.float .f64 x.toNat)) w:=by
  rw [run_callFunc_extern (e:=Extern.MathFloatBits.float64frombits) Tryz.func156 (by kernel_rfl) (by kernel_rfl) (by kernel_rfl) (by kernel_rfl)]
  rfl
theorem and_key (V:Nat):V &&& 2 ^ 52 = if V / 2 ^ 52 % 2 = 1 then 2 ^ 52 else 0:=by
  apply Nat.eq_of_testBit_eq
  intro i
  rw [Nat.testBit_and,Nat.testBit_two_pow]
  by_cases hi:52 = i
  · subst hi
    rw [decide_eq_true rfl,Bool.and_true,Nat.testBit_eq_decide_div_mod_eq]
    split
    · rename_i h;rw [decide_eq_true h,Nat.testBit_two_pow_self]
    · rename_i h;rw [decide_eq_false h,Nat.zero_testBit]
  · rw [decide_eq_false hi,Bool.and_false]
    split
    · rw [Nat.testBit_two_pow,decide_eq_false hi]
    · rw [Nat.zero_testBit]
/-- the bit 52 of a number below 2^53,with or without a sign -/
theorem and52 (S m:Nat) (hS:S = 0 ∨ S = 9223372036854775808) (hm:m < 9007199254740992):bits .and .u64 ((S + m:Nat):Int) 4503599627370496 = (((if m < 4503599627370496 then 0 else 4503599627370496):Nat):Int):=by
  have h:=u64_and_nat (S + m) 4503599627370496 (by omega) (by decide)
  refine h.trans ?_
  congr 1
  have k:=and_key (S + m)
  rw [show (2:Nat) ^ 52 = 4503599627370496 from rfl] at k
  rw [k]
  by_cases h1:m < 4503599627370496
  · rw [if_pos h1,if_neg (by omega)]
  · rw [if_neg h1,if_pos (by omega)]
theorem or_sgn (S m:Nat) (hS:S = 0 ∨ S = 9223372036854775808) (hm:m < 9223372036854775808):S ||| m = S + m:=by
  rcases hS with rfl | rfl
  · rw [Nat.zero_or,Nat.zero_add]
  · have:=Nat.two_pow_add_eq_or_of_lt (i:=63) (b:=m) hm 1
    rw [Nat.mul_one] at this
    exact this.symm
theorem low52 (r z:Nat) (hr:r < 4503599627370496) (hz:4503599627370495 &&& z = 4503599627370495):r &&& z = r:=by
  have h1:r &&& 4503599627370495 = r:=by
    have:=Nat.and_two_pow_sub_one_eq_mod r 52
    rw [show 2 ^ 52 - 1 = 4503599627370495 from rfl] at this
    rw [this]
    exact Nat.mod_eq_of_lt hr
  calc r &&& z = (r &&& 4503599627370495) &&& z:=by rw [h1]
    _ = r &&& (4503599627370495 &&& z):=Nat.and_assoc _ _ _
    _ = r:=by rw [hz,h1]
theorem not52 (S r:Nat) (hS:S = 0 ∨ S = 9223372036854775808) (hr:r < 4503599627370496):bits .andNot .u64 ((S + (4503599627370496 + r):Nat):Int) 4503599627370496 = ((S + r:Nat):Int):=by
  have h:=u64_andNot_nat (S + (4503599627370496 + r)) 4503599627370496 (by omega) (by decide)
  refine h.trans ?_
  congr 1
  have e1:4503599627370496 + r = 4503599627370496 ||| r:=by
    have:=Nat.two_pow_add_eq_or_of_lt (i:=52) (b:=r) hr 1
    rw [Nat.mul_one] at this
    exact this
  rw [← or_sgn S _ hS (by omega),← or_sgn S r hS (by omega),e1,Nat.and_or_distrib_right,Nat.and_or_distrib_right,low52 r _ hr (by decide)]
  rcases hS with rfl | rfl
  · rw [Nat.zero_and,show (4503599627370496 &&& (18446744073709551615 - 4503599627370496):Nat) = 0 by decide,Nat.zero_or]
  · rw [show (4503599627370496 &&& (18446744073709551615 - 4503599627370496):Nat) = 0 by decide,show (9223372036854775808 &&& (18446744073709551615 - 4503599627370496):Nat) = 9223372036854775808 by decide,Nat.zero_or]
theorem or_exp (S r E:Nat) (hS:S = 0 ∨ S = 9223372036854775808) (hr:r < 4503599627370496) (hE:E ≤ 2046):bits .or .u64 ((S + r:Nat):Int) ((E * 4503599627370496:Nat):Int) = ((S + (r + E * 4503599627370496):Nat):Int):=by
  have h:=u64_or_nat (S + r) (E * 4503599627370496) (by omega) (by omega)
  refine h.trans ?_
  congr 1
  have e1:r + E * 4503599627370496 = r ||| E * 4503599627370496:=by
    have:=Nat.two_pow_add_eq_or_of_lt (i:=52) (b:=r) hr E
    rw [show 2 ^ 52 = 4503599627370496 from rfl] at this
    rw [Nat.or_comm,Nat.mul_comm,← this]
    omega
  rw [← or_sgn S r hS (by omega),Nat.or_assoc,← e1,or_sgn S _ hS (by omega)]
theorem pk_lo (S m:Nat) (x:Int) (w:World) (hS:S = 0 ∨ S = 9223372036854775808) (hm:m < 4503599627370496):Calls Tryz.prog 182 #[.int .u64 ((S + m:Nat):Int),.int .i64 x] w fun e w' => e = .returned (.tuple #[.float .f64 (S + m),.nilIface]) ∧ w' = w:=by
  have a:=and52 S m hS (by omega)
  rw [if_pos hm] at a
  obtain ⟨V,hV⟩:∃ V,V = S + m:=⟨_,rfl⟩
  rw [← hV] at a ⊢
  have hV1:V < 18446744073709551616:=by omega
  have rb:=run_fromb (V:Int)
  clear hV
  go_enter Tryz.func182,Tryz.ntmps182
  go_wp2
  go_ret2
  exact ⟨rfl,rfl⟩
set_option maxHeartbeats 1000000 in
set_option maxRecDepth 100000 in
theorem pk_hi (S r E:Nat) (x:Int) (w:World) (hS:S = 0 ∨ S = 9223372036854775808) (hr:r < 4503599627370496) (hE:1075 + x = (E:Int)) (hE1:E ≤ 2046):Calls Tryz.prog 182 #[.int .u64 ((S + (4503599627370496 + r):Nat):Int),.int .i64 x] w fun e w' => e = .returned (.tuple #[.float .f64 (S + (r + E * 4503599627370496)),.nilIface]) ∧ w' = w:=by
  have a:=and52 S (4503599627370496 + r) hS (by omega)
  rw [if_neg (by omega)] at a
  have b:=not52 S r hS hr
  have c:=or_exp S r E hS hr hE1
  obtain ⟨V,hV⟩:∃ V,V = S + (4503599627370496 + r):=⟨_,rfl⟩
  obtain ⟨V1,hV1⟩:∃ V,V = S + r:=⟨_,rfl⟩
  obtain ⟨V2,hV2⟩:∃ V,V = S + (r + E * 4503599627370496):=⟨_,rfl⟩
  rw [← hV] at a b ⊢
  rw [← hV1] at b c
  rw [← hV2] at c ⊢
  have rb:=run_fromb (V2:Int) w
  rw [Int.toNat_natCast] at rb
  have l1:V < 18446744073709551616:=by omega
  have l2:V1 < 18446744073709551616:=by omega
  have hx:x = (E:Int) - 1075:=by omega
  have hx1:(E:Int) ≤ 2046:=by omega
  rw [Int.natCast_mul] at c
  have c':bits .or .u64 (V1:Int) ((1075 + ((E:Int) - 1075)) * 4503599627370496) = (V2:Int):=by rw [show 1075 + ((E:Int) - 1075) = E by omega];exact c
  clear c
  subst hx
  clear hV hV1 hV2 hE
  go_enter Tryz.func182,Tryz.ntmps182
  go_wp2
  go_ret2
  exact ⟨rfl,rfl⟩
end Go.Proofs.YtjlaoeigfokkiaaGreatDoor.fto
namespace Go.Proofs.YtjlaoeigfokkiaaGreatDoor.fto
open Go.ChangeShapes Go.WideShapes Go.ChangeAt Go.RowKit
open mem Go.Sort
open ints (hide unhide)
set_option linter.unusedVariables false
theorem unmin_ok (w:World):Calls Tryz.prog 169 #[.int .u64 9007199254740992] w fun e w' => e = .returned (.int .u64 36028797018963966) ∧ w' = w:=by
 go_enter Tryz.func169,Tryz.ntmps169
 go_wp2
 go_ret
 exact ⟨rfl,rfl⟩
theorem b2i_no (w:World):Calls Tryz.prog 115 #[.bool false] w fun e w' => e = .returned (.int .i64 0) ∧ w' = w:=by
 go_enter Tryz.func115,Tryz.ntmps115
 go_wp2
 go_ret
 exact ⟨rfl,rfl⟩
theorem b2i_yes (w:World):Calls Tryz.prog 115 #[.bool true] w fun e w' => e = .returned (.int .i64 1) ∧ w' = w:=by
 go_enter Tryz.func115,Tryz.ntmps115
 go_wp2
 go_ret
 exact ⟨rfl,rfl⟩
set_option maxHeartbeats 2000000 in
set_option maxRecDepth 100000 in
theorem parse_lo (d b c s i S U m X R:Nat) (p lp e:Int) (w:World) (hT:PT w) (hg:15 < w.heap.size) (hd0:1 ≤ d) (hd:d < 18446744073709551616) (hb:Lib.bitLen d = b) (hb1:1 ≤ b) (hb2:b ≤ 64) (hc:b + c = 64)
  (hp:-345 ≤ p ∧ p ≤ 310) (hlp:lp = p * 108853 / 32768) (he:min 1074 (53 - (b:Int) - lp) = e) (hi:(i:Int) = p + 348) (hs:-(e - (c:Int) + lp + 3) = (s:Int)) (hs2:s < 64) (hX:d * 2 ^ c = X) (hX2:X < 18446744073709551616) (kk:1 ≤ X * rowH i / 18446744073709551616)
  (hh:rowH i < 18446744073709551616) (hl:rowL i < 18446744073709551616) (hU:U = us X (rowH i) (rowL i) s) (bU:U < 36028797018963966) (hm:m = (U + 1 + U / 4 % 2) / 4) (hm2:m < 9007199254740992) (hS:S = 0 ∨ S = 9223372036854775808)
  (PK:∀ w,Calls Tryz.prog 182 #[.int .u64 ((S + m:Nat):Int),.int .i64 (-e)] w fun e w' => e = .returned (.tuple #[.float .f64 R,.nilIface]) ∧ w' = w) :
  Calls Tryz.prog 158 #[.int .u64 d,.int .i64 p,.int .u64 S] w fun ed w' => ed = .returned (.tuple #[.float .f64 R,.nilIface]) ∧ Below w.heap.size w w':=by
 have HPK:=hide PK
 have C2:=hide (fun W => l2_ok p W (by omega))
 rw [← hlp] at C2
 have lpb:-1200 ≤ lp ∧ lp ≤ 1200:=by omega
 have T1:=hide (fun W B hc => uscale_ok X (rowH i) (rowL i) s B W hX2 hh hl hs2 kk hc)
 rw [← hU] at T1
 have N5:=hide (fun W => round_ok U W (by omega))
 rw [← hm] at N5
 have UM:=hide unmin_ok
 have BI:=hide b2i_no
 have nub:decide ((36028797018963966:Int) ≤ (U:Int)) = false:=decide_eq_false (by omega)
 have LN:=hide (fun W => Tryz.bits_Len64 d W (by omega) (by omega))
 have x1:IntKind.u64.wrap ((d:Int) * 2 ^ c) = (X:Int):=by
  have e1:((d:Int) * 2 ^ c) = (X:Int):=by rw [← hX];simp
  rw [e1,IntKind.wrap_u64];omega
 have hc63:(c:Int) < 64:=by omega
 have i7:(64:Int) - (b:Int) = (c:Int):=by omega
 have HS:=hide hs
 have HI:=hide hi
 have HB0:=hide hb
 have eb:-2000 ≤ e ∧ e ≤ 1074:=by omega
 have h1a:=and_one U (by omega)
 have h1b:bits .or .u64 (U:Int) ((U % 2:Nat):Int) = (U:Int):=by
  have h:=u64_or_nat U (U % 2) (by omega) (by omega)
  refine h.trans ?_
  congr 1
  rcases Nat.mod_two_eq_zero_or_one U with h0 | h0
  ·rw [h0,Nat.or_zero]
  ·rw [h0];have:=mem.or_one U;omega
 have hSm:bits .or .u64 (S:Int) (m:Int) = ((S + m:Nat):Int):=by
  refine (u64_or_nat S m (by omega) (by omega)).trans ?_
  rw [or_sgn S m hS (by omega)]
 obtain ⟨V,hV⟩:∃ V,V = S + m:=⟨_,rfl⟩
 rw [← hV] at hSm HPK
 obtain ⟨U2,hU2⟩:∃ U2,U2 = U % 2:=⟨_,rfl⟩
 rw [← hU2] at h1a h1b
 have hSb:S < 18446744073709551616:=by omega
 have hVb:V < 18446744073709551616:=by omega
 have hub:(U:Int) < 36028797018963966:=by omega
 have hi2:i < 696:=by omega
 have HE:=hide he
 clear PK hU hm hX hs hi hb hlp hS hV hU2 kk hh hl he hc
 go_enter Tryz.func158,Tryz.ntmps158
 go_wp2_with fail
 refine (unhide LN _).mono ?_
 rintro ed w1' ⟨rfl,hw⟩
 subst w1'
 rw [Int.toNat_natCast,unhide HB0]
 clear LN
 go_wp2_with fail
 refine (unhide C2 _).mono ?_
 rintro ed w1' ⟨rfl,hw⟩
 subst w1'
 clear C2
 have he:=unhide HE
 go_wp2_with fail
 have HB:=hide (heap_alloc_new w (.cells #[.int .u64 0,.int .u64 0,.int .i64 0] 213))
 have b0:=(Below.refl w.heap.size w).alloc (Nat.le_refl _) (.cells #[.int .u64 0,.int .u64 0,.int .i64 0] 213)
 have HT:PT _:=fun j hj => ⟨(b0.cell (p:=⟨15,2 * j,none⟩) hg).trans (hT j hj).1,(b0.cell (p:=⟨15,2 * j + 1,none⟩) hg).trans (hT j hj).2⟩
 have hne:w.heap.size ≠ 15:=by omega
 refine (prescale_ok w.heap.size _ _ _ _ (e - (c:Int)) p lp i s _ (unhide HB) HT hne (unhide HI) hi2 (unhide HS) (by omega) (by omega)).mono ?_
 rintro ed w3 ⟨rfl,hB3,b3⟩
 have S3:=Sca.of_heap hB3
 have s2:=S3.sh
 have b3':=b0.trans b3
 clear HB HT hB3 b0 b3 hT he
 have hsz3:w.heap.size ≤ w3.heap.size:=b3'.size
 have is2:(s:Int) < 64:=by omega
 have HBD:=hide (⟨bU,hub,hm2,hSb,hVb⟩:U < 36028797018963966 ∧ (U:Int) < 36028797018963966 ∧ m < 9007199254740992 ∧ S < 18446744073709551616 ∧ V < 18446744073709551616)
 clear bU hub hm2 hX2 hd hSb hVb
 go_wp2_with fail
 refine (unhide T1 _ _ S3).mono ?_
 rintro ed w4 ⟨rfl,b4⟩
 have b4':=hide (b3'.trans (b4.mono hsz3))
 clear T1 S3 b4 b3' hsz3 s2
 obtain ⟨bU,hub,hm2,hSb,hVb⟩:=unhide HBD
 go_wp2_with fail
 refine (unhide UM _).mono ?_
 rintro ed w5 ⟨rfl,hw⟩
 subst w5
 go_wp2_with fail
 refine (unhide BI _).mono ?_
 rintro ed w5 ⟨rfl,hw⟩
 subst w5
 go_wp2_with fail
 refine (unhide N5 _).mono ?_
 rintro ed w5 ⟨rfl,hw⟩
 subst w5
 go_wp2_with fail
 refine (unhide HPK _).mono ?_
 rintro ed w5 ⟨rfl,hw⟩
 subst w5
 go_wp2
 go_ret2
 exact ⟨rfl,unhide b4'⟩
set_option maxHeartbeats 2000000 in
set_option maxRecDepth 100000 in
theorem parse_hi (d b c s i S U m X R:Nat) (p lp e:Int) (w:World) (hT:PT w) (hg:15 < w.heap.size) (hd0:1 ≤ d) (hd:d < 18446744073709551616) (hb:Lib.bitLen d = b) (hb1:1 ≤ b) (hb2:b ≤ 64) (hc:b + c = 64)
  (hp:-345 ≤ p ∧ p ≤ 310) (hlp:lp = p * 108853 / 32768) (he:min 1074 (53 - (b:Int) - lp) = e) (hi:(i:Int) = p + 348) (hs:-(e - (c:Int) + lp + 3) = (s:Int)) (hs2:s < 64) (hX:d * 2 ^ c = X) (hX2:X < 18446744073709551616) (kk:1 ≤ X * rowH i / 18446744073709551616)
  (hh:rowH i < 18446744073709551616) (hl:rowL i < 18446744073709551616) (hU:U = us X (rowH i) (rowL i) s) (bU:36028797018963966 ≤ U) (bU2:U < 9223372036854775808) (hm:m = (((U / 2) ||| (U % 2)) + 1 + ((U / 2) ||| (U % 2)) / 4 % 2) / 4) (hm2:m < 9007199254740992) (hS:S = 0 ∨ S = 9223372036854775808)
  (PK:∀ w,Calls Tryz.prog 182 #[.int .u64 ((S + m:Nat):Int),.int .i64 (-(e - 1))] w fun e w' => e = .returned (.tuple #[.float .f64 R,.nilIface]) ∧ w' = w) :
  Calls Tryz.prog 158 #[.int .u64 d,.int .i64 p,.int .u64 S] w fun ed w' => ed = .returned (.tuple #[.float .f64 R,.nilIface]) ∧ Below w.heap.size w w':=by
 have HPK:=hide PK
 have C2:=hide (fun W => l2_ok p W (by omega))
 rw [← hlp] at C2
 have lpb:-1200 ≤ lp ∧ lp ≤ 1200:=by omega
 have T1:=hide (fun W B hc => uscale_ok X (rowH i) (rowL i) s B W hX2 hh hl hs2 kk hc)
 rw [← hU] at T1
 have hV3:(U / 2) ||| (U % 2) < 9223372036854775808:=Nat.or_lt_two_pow (n:=63) (by omega) (by omega)
 have N5:=hide (fun W => round_ok ((U / 2) ||| (U % 2)) W (by omega))
 rw [← hm] at N5
 have UM:=hide unmin_ok
 have BI:=hide b2i_yes
 have nub:decide ((36028797018963966:Int) ≤ (U:Int)) = true:=decide_eq_true (by omega)
 have LN:=hide (fun W => Tryz.bits_Len64 d W (by omega) (by omega))
 have x1:IntKind.u64.wrap ((d:Int) * 2 ^ c) = (X:Int):=by
  have e1:((d:Int) * 2 ^ c) = (X:Int):=by rw [← hX];simp
  rw [e1,IntKind.wrap_u64];omega
 have hc63:(c:Int) < 64:=by omega
 have i7:(64:Int) - (b:Int) = (c:Int):=by omega
 have HS:=hide hs
 have HI:=hide hi
 have HB0:=hide hb
 have eb:-2000 ≤ e ∧ e ≤ 1074:=by omega
 have h1a:=and_one U (by omega)
 have h1b:bits .or .u64 ((U:Int) / 2) ((U % 2:Nat):Int) = (((U / 2) ||| (U % 2):Nat):Int):=u64_or_nat (U / 2) (U % 2) (by omega) (by omega)
 obtain ⟨V3,hV3e⟩:∃ V3,V3 = (U / 2) ||| (U % 2):=⟨_,rfl⟩
 rw [← hV3e] at h1b N5 hV3
 have hSm:bits .or .u64 (S:Int) (m:Int) = ((S + m:Nat):Int):=by
  refine (u64_or_nat S m (by omega) (by omega)).trans ?_
  rw [or_sgn S m hS (by omega)]
 obtain ⟨V,hV⟩:∃ V,V = S + m:=⟨_,rfl⟩
 rw [← hV] at hSm HPK
 obtain ⟨U2,hU2⟩:∃ U2,U2 = U % 2:=⟨_,rfl⟩
 rw [← hU2] at h1a h1b
 have hSb:S < 18446744073709551616:=by omega
 have hVb:V < 18446744073709551616:=by omega
 have hub:(36028797018963966:Int) ≤ (U:Int):=by omega
 have hUi:(U:Int) < 9223372036854775808:=by omega
 have hV3i:V3 < 18446744073709551616:=by omega
 have hi2:i < 696:=by omega
 have HE:=hide he
 clear hV3e hV3 PK hU hm hX hs hi hb hlp hS hV hU2 kk hh hl he hc
 go_enter Tryz.func158,Tryz.ntmps158
 go_wp2_with fail
 refine (unhide LN _).mono ?_
 rintro ed w1' ⟨rfl,hw⟩
 subst w1'
 rw [Int.toNat_natCast,unhide HB0]
 clear LN
 go_wp2_with fail
 refine (unhide C2 _).mono ?_
 rintro ed w1' ⟨rfl,hw⟩
 subst w1'
 clear C2
 have he:=unhide HE
 go_wp2_with fail
 have HB:=hide (heap_alloc_new w (.cells #[.int .u64 0,.int .u64 0,.int .i64 0] 213))
 have b0:=(Below.refl w.heap.size w).alloc (Nat.le_refl _) (.cells #[.int .u64 0,.int .u64 0,.int .i64 0] 213)
 have HT:PT _:=fun j hj => ⟨(b0.cell (p:=⟨15,2 * j,none⟩) hg).trans (hT j hj).1,(b0.cell (p:=⟨15,2 * j + 1,none⟩) hg).trans (hT j hj).2⟩
 have hne:w.heap.size ≠ 15:=by omega
 refine (prescale_ok w.heap.size _ _ _ _ (e - (c:Int)) p lp i s _ (unhide HB) HT hne (unhide HI) hi2 (unhide HS) (by omega) (by omega)).mono ?_
 rintro ed w3 ⟨rfl,hB3,b3⟩
 have S3:=Sca.of_heap hB3
 have s2:=S3.sh
 have b3':=b0.trans b3
 clear HB HT hB3 b0 b3 hT he
 have hsz3:w.heap.size ≤ w3.heap.size:=b3'.size
 have is2:(s:Int) < 64:=by omega
 have HBD:=hide (⟨bU,hub,hUi,hV3i,hm2,hSb,hVb⟩:36028797018963966 ≤ U ∧ (36028797018963966:Int) ≤ (U:Int) ∧ (U:Int) < 9223372036854775808 ∧ V3 < 18446744073709551616 ∧ m < 9007199254740992 ∧ S < 18446744073709551616 ∧ V < 18446744073709551616)
 clear bU bU2 hub hUi hV3i hm2 hX2 hd hSb hVb
 go_wp2_with fail
 refine (unhide T1 _ _ S3).mono ?_
 rintro ed w4 ⟨rfl,b4⟩
 have b4':=hide (b3'.trans (b4.mono hsz3))
 clear T1 S3 b4 b3' hsz3 s2
 obtain ⟨bU,hub,hUi,hV3i,hm2,hSb,hVb⟩:=unhide HBD
 go_wp2_with fail
 refine (unhide UM _).mono ?_
 rintro ed w5 ⟨rfl,hw⟩
 subst w5
 go_wp2_with fail
 refine (unhide BI _).mono ?_
 rintro ed w5 ⟨rfl,hw⟩
 subst w5
 go_wp2_with fail
 refine (unhide N5 _).mono ?_
 rintro ed w5 ⟨rfl,hw⟩
 subst w5
 go_wp2_with fail
 refine (unhide HPK _).mono ?_
 rintro ed w5 ⟨rfl,hw⟩
 subst w5
 go_wp2
 go_ret2
 exact ⟨rfl,unhide b4'⟩
set_option maxHeartbeats 2000000 in
set_option maxRecDepth 100000 in
theorem parse_tiny (d b c s i S:Nat) (p lp e:Int) (w:World) (hT:PT w) (hg:15 < w.heap.size) (hd0:1 ≤ d) (hd:d < 18446744073709551616) (hb:Lib.bitLen d = b) (hb1:1 ≤ b) (hb2:b ≤ 64) (hc:b + c = 64)
  (hp:-345 ≤ p ∧ p ≤ 310) (hlp:lp = p * 108853 / 32768) (he:min 1074 (53 - (b:Int) - lp) = e) (hi:(i:Int) = p + 348) (hs:-(e - (c:Int) + lp + 3) = (s:Int)) (hs2:64 ≤ s) (hS:S = 0 ∨ S = 9223372036854775808) :
  Calls Tryz.prog 158 #[.int .u64 d,.int .i64 p,.int .u64 S] w fun ed w' => ed = .returned (.tuple #[.float .f64 S,.nilIface]) ∧ Below w.heap.size w w':=by
 have C2:=hide (fun W => l2_ok p W (by omega))
 rw [← hlp] at C2
 have lpb:-1200 ≤ lp ∧ lp ≤ 1200:=by omega
 have LN:=hide (fun W => Tryz.bits_Len64 d W (by omega) (by omega))
 have i7:(64:Int) - (b:Int) = (c:Int):=by omega
 have HS:=hide hs
 have HI:=hide hi
 have HB0:=hide hb
 have eb:-2000 ≤ e ∧ e ≤ 1074:=by omega
 have hS0:bits .or .u64 (S:Int) 0 = (S:Int):=(or_zero S (by omega)).trans (by rw [Nat.or_zero])
 have hi2:i < 696:=by omega
 have rb:=run_fromb (S:Int)
 simp only [Int.toNat_natCast] at rb
 have HE:=hide he
 clear hs hi hb hlp hS he hc
 go_enter Tryz.func158,Tryz.ntmps158
 go_wp2_with fail
 refine (unhide LN _).mono ?_
 rintro ed w1' ⟨rfl,hw⟩
 subst w1'
 rw [Int.toNat_natCast,unhide HB0]
 clear LN
 go_wp2_with fail
 refine (unhide C2 _).mono ?_
 rintro ed w1' ⟨rfl,hw⟩
 subst w1'
 clear C2
 have he:=unhide HE
 go_wp2_with fail
 have HB:=hide (heap_alloc_new w (.cells #[.int .u64 0,.int .u64 0,.int .i64 0] 213))
 have b0:=(Below.refl w.heap.size w).alloc (Nat.le_refl _) (.cells #[.int .u64 0,.int .u64 0,.int .i64 0] 213)
 have HT:PT _:=fun j hj => ⟨(b0.cell (p:=⟨15,2 * j,none⟩) hg).trans (hT j hj).1,(b0.cell (p:=⟨15,2 * j + 1,none⟩) hg).trans (hT j hj).2⟩
 have hne:w.heap.size ≠ 15:=by omega
 refine (prescale_ok w.heap.size _ _ _ _ (e - (c:Int)) p lp i s _ (unhide HB) HT hne (unhide HI) hi2 (unhide HS) (by omega) (by omega)).mono ?_
 rintro ed w3 ⟨rfl,hB3,b3⟩
 have S3:=Sca.of_heap hB3
 have s2:=S3.sh
 have b3':=b0.trans b3
 clear HB HT hB3 b0 b3 hT he
 have hsz3:w.heap.size ≤ w3.heap.size:=b3'.size
 have is2:(64:Int) ≤ (s:Int):=by omega
 have HB4:=hide b3'
 clear hd hsz3 S3 b3'
 go_wp2
 go_ret2
 exact ⟨rfl,unhide HB4⟩
end Go.Proofs.YtjlaoeigfokkiaaGreatDoor.fto
namespace Go.Proofs.YtjlaoeigfokkiaaGreatDoor.fto
open Go.ChangeShapes Go.WideShapes Go.ChangeAt Go.RowKit
open mem Go.Sort
open ints (hide unhide)
set_option linter.unusedVariables false
theorem parse_any (d S:Nat) (p:Int) (hd0:1 ≤ d) (hd:d < 18446744073709551616) (hp:-345 ≤ p ∧ p ≤ 310) (hS:S = 0 ∨ S = 9223372036854775808) :
  ∃ lo,Lo (d * 10 ^ p.toNat * k74) (10 ^ (-p).toNat) lo ∧ (roundR (d * 10 ^ p.toNat * k74) (10 ^ (-p).toNat) lo < infR → ∀ w,PT w → 15 < w.heap.size →
   Calls Tryz.prog 158 #[.int .u64 d,.int .i64 p,.int .u64 S] w fun ed w' => ed = .returned (.tuple #[.float .f64 (S + roundR (d * 10 ^ p.toNat * k74) (10 ^ (-p).toNat) lo),.nilIface]) ∧ Below w.heap.size w w'):=by
 obtain ⟨k,hk⟩:∃ k,k = Nat.log2 d:=⟨_,rfl⟩
 have k0:2 ^ k ≤ d:=by rw [hk];exact Nat.log2_self_le (by omega)
 have k1:d < 2 ^ (k + 1):=by rw [hk];exact Nat.lt_log2_self
 have k63:k ≤ 63:=by
  rcases Nat.lt_or_ge 63 k with h | h
  ·have:=Nat.pow_le_pow_right (by decide:0 < 2) (show 64 ≤ k from h)
   have e:(2:Nat) ^ 64 = 18446744073709551616:=rfl
   omega
  ·exact h
 obtain ⟨c,hc⟩:∃ c,c = 63 - k:=⟨_,rfl⟩
 obtain ⟨b,hb⟩:∃ b,b = k + 1:=⟨_,rfl⟩
 have hbl:Lib.bitLen d = b:=by rw [hb];exact bitLen_at k0 k1 hd
 have hbc:b + c = 64:=by omega
 have hx0:9223372036854775808 ≤ d * 2 ^ c:=by
  have:=Nat.mul_le_mul_right (2 ^ c) k0
  rw [← Nat.pow_add,show k + c = 63 by omega] at this
  exact this
 have hx:d * 2 ^ c < 18446744073709551616:=by
  have:=Nat.mul_lt_mul_of_pos_right k1 (Nat.two_pow_pos c)
  rw [← Nat.pow_add,show k + 1 + c = 64 by omega] at this
  exact this
 obtain ⟨lp,hlp⟩:∃ lp,lp = p * 108853 / 32768:=⟨_,rfl⟩
 obtain ⟨e,he⟩:∃ e:Int,e = min 1074 (53 - (b:Int) - lp):=⟨_,rfl⟩
 obtain ⟨s,hs⟩:∃ s:Nat,(s:Int) = 61 - (b:Int) - e - lp:=⟨(61 - (b:Int) - e - lp).toNat,by omega⟩
 obtain ⟨K,hK⟩:∃ K:Nat,(K:Int) = 1074 - e:=⟨(1074 - e).toNat,by omega⟩
 obtain ⟨i,hi⟩:∃ i:Nat,(i:Int) = p + 348:=⟨(p + 348).toNat,by omega⟩
 have hs8:8 ≤ s:=by omega
 have hc64:64 - b = c:=by omega
 obtain ⟨U,hU⟩:∃ U,U = un (d * 2 ^ c * eA p) (q64 * q64 * eB p * 2 ^ s):=⟨_,rfl⟩
 obtain ⟨lo,hlo,A1,A2,A3⟩:=prs_ok d b s K p e (by omega) (by omega) (by omega) (by rw [hc64];exact hx0) (by rw [hc64];exact hx) (by rw [he,hlp];rfl) (by rw [hs,hlp];rfl) hK U (by rw [hc64];exact hU)
 refine ⟨lo,hlo,fun hR w hT hg => ?_⟩
 have hs':-(e - (c:Int) + lp + 3) = (s:Int):=by omega
 rcases Nat.lt_or_ge s 64 with h64 | h64
 ·have hie:i = (p + 348).toNat:=by omega
  have hh:=tab_hi p (by omega) (by omega)
  have hHi:rowH i = tabH p:=by rw [hie];rfl
  have hLi:rowL i = tabL p:=by rw [hie];rfl
  have hUs:U = us (d * 2 ^ c) (rowH i) (rowL i) s:=by rw [hU,hHi,hLi];exact (uscale_read p (by omega) (by omega) _ s hx0 hx hs8).symm
  have kk:1 ≤ d * 2 ^ c * rowH i / 18446744073709551616:=by
   rw [hHi]
   have:=Nat.mul_le_mul hx0 hh.1
   omega
  have q:q64 = 18446744073709551616:=rfl
  have e52:b52 = 4503599627370496:=rfl
  have e53:b53 = 9007199254740992:=rfl
  have eI:infR = 9218868437227405312:=rfl
  generalize roundR (d * 10 ^ p.toNat * k74) (10 ^ (-p).toNat) lo = R at *
  rcases Nat.lt_or_ge U 36028797018963966 with hlt | hge
  ·obtain ⟨r1,r2,r3⟩:=A1 (by omega)
   obtain ⟨m,hm⟩:∃ m,m = (U + 1 + U / 4 % 2) / 4:=⟨_,rfl⟩
   rw [← hm] at r1 r2 r3
   simp only [e52] at r1
   refine parse_lo d b c s i S U m (d * 2 ^ c) (S + R) p lp e w hT hg hd0 hd hbl (by omega) (by omega) hbc hp hlp he.symm hi hs' h64 rfl hx kk (by rw [hHi];omega) (by rw [hLi];omega) hUs hlt hm (by omega) hS ?_
   intro W
   by_cases hm52:m < 4503599627370496
   ·have hK0:K = 0:=by omega
    have:=pk_lo S m (-e) W hS hm52
    rw [r1,hK0,Nat.zero_mul,Nat.add_zero]
    exact this
   ·have:=pk_hi S (m - 4503599627370496) (K + 1) (-e) W hS (by omega) (by omega) (by omega)
    rw [show 4503599627370496 + (m - 4503599627370496) = m by omega] at this
    rw [r1,show S + (m + K * 4503599627370496) = S + (m - 4503599627370496 + (K + 1) * 4503599627370496) by omega]
    exact this
  ·obtain ⟨r1,r2,r3⟩:=A2 (by omega)
   obtain ⟨m,hm⟩:∃ m,m = (((U / 2) ||| (U % 2)) + 1 + ((U / 2) ||| (U % 2)) / 4 % 2) / 4:=⟨_,rfl⟩
   rw [← hm] at r1 r2 r3
   simp only [e52] at r1
   have hle:U / 2 ≤ (U / 2) ||| (U % 2):=Nat.left_le_or
   refine parse_hi d b c s i S U m (d * 2 ^ c) (S + R) p lp e w hT hg hd0 hd hbl (by omega) (by omega) hbc hp hlp he.symm hi hs' h64 rfl hx kk (by rw [hHi];omega) (by rw [hLi];omega) hUs hge (by omega) hm (by omega) hS ?_
   intro W
   have:=pk_hi S (m - 4503599627370496) (K + 2) (-(e - 1)) W hS (by omega) (by omega) (by omega)
   rw [show 4503599627370496 + (m - 4503599627370496) = m by omega] at this
   rw [r1,show S + (m + (K + 1) * 4503599627370496) = S + (m - 4503599627370496 + (K + 2) * 4503599627370496) by omega]
   exact this
 ·rw [A3 h64,Nat.add_zero]
  exact parse_tiny d b c s i S p lp e w hT hg hd0 hd hbl (by omega) (by omega) hbc hp hlp he.symm hi hs' h64 hS
end Go.Proofs.YtjlaoeigfokkiaaGreatDoor.fto
namespace Go.Proofs.YtjlaoeigfokkiaaGreatDoor.fto
open Go.ChangeShapes Go.WideShapes Go.ChangeAt Go.RowKit
open mem Go.Sort
open ints (hide unhide)
set_option linter.unusedVariables false
set_option maxHeartbeats 1000000 in
set_option maxRecDepth 100000 in
theorem atof_in (s:ByteArray) (n:Int) (d S F:Nat) (p:Int) (ng:Bool) (w:World) (hS:S = if ng then 9223372036854775808 else 0) (hd0:1 ≤ d) (hd:d < 18446744073709551616) (hp:-345 ≤ p ∧ p ≤ 310) (hn:0 ≤ n ∧ n ≤ 2000000)
  (opt:w.cell? ⟨5,0,none⟩ = some (.bool true))
  (SP:Calls Tryz.prog 146 #[.string s] w fun e w' => e = .returned (.tuple #[.float .f64 0,.int .i64 0,.bool false]) ∧ w' = w)
  (RF:Calls Tryz.prog 147 #[.string s] w fun e w' => e = .returned (.tuple #[.int .u64 d,.int .i64 p,.bool ng,.bool false,.bool false,.int .i64 n,.bool true]) ∧ w' = w)
  (EX:Calls Tryz.prog 157 #[.int .u64 d,.int .i64 p,.bool ng] w fun e w' => (∃ (G:Nat) (ok:Bool),e = .returned (.tuple #[.float .f64 G,.bool ok]) ∧ (ok = true → G = F)) ∧ w' = w)
  (PA:Calls Tryz.prog 158 #[.int .u64 d,.int .i64 p,.int .u64 S] w fun e w' => e = .returned (.tuple #[.float .f64 F,.nilIface]) ∧ Below w.heap.size w w') :
  Calls Tryz.prog 126 #[.string s] w fun e w' => e = .returned (.tuple #[.float .f64 F,.int .i64 n,.nilIface]) ∧ Below w.heap.size w w':=by
 have HSP:=hide SP
 have HRF:=hide RF
 have HEX:=hide EX
 have HPA:=hide PA
 have hdi:((d:Int) == 0) = false:=by rw [beq_eq_false_iff_ne];omega
 have B1:=hide b2_yes
 have B0:=hide b2_no
 clear SP RF EX PA hd
 go_enter Tryz.func126,Tryz.ntmps126
 go_wp2_with fail
 refine (unhide HSP).mono ?_
 rintro e w1 ⟨rfl,hw⟩
 subst w1
 go_wp2_with fail
 refine (unhide HRF).mono ?_
 rintro e w1 ⟨rfl,hw⟩
 subst w1
 cases ng
 all_goals
  simp only [Bool.false_eq_true,if_false,if_true] at hS
  subst hS
  go_wp2_with fail
  first
   | refine (unhide B0 _).mono ?_
   | refine (unhide B1 _).mono ?_
  rintro e w1 ⟨rfl,hw⟩
  subst w1
  go_wp2_with fail
  refine (unhide HEX).mono ?_
  rintro e w1 ⟨⟨G,ok,rfl,hok⟩,hw⟩
  subst w1
  cases ok
  ·go_wp2_with fail
   refine (unhide HPA).mono ?_
   rintro e w1 ⟨rfl,b1⟩
   have HB:=hide b1
   clear b1
   go_wp2
   go_ret3
   exact ⟨rfl,unhide HB⟩
  ·have hG:=hok rfl
   subst hG
   go_wp2
   go_ret3
   exact ⟨rfl,Below.refl _ _⟩
end Go.Proofs.YtjlaoeigfokkiaaGreatDoor.fto
namespace Go.Proofs.YtjlaoeigfokkiaaGreatDoor.fto
open Go.ChangeShapes Go.WideShapes Go.ChangeAt Go.RowKit
open mem Go.Sort
open ints (hide unhide)
set_option linter.unusedVariables false
theorem cpl_no (s:ByteArray) (w:World) (h:0 < s.size) (hm:s.size ≤ 2000000) (hc:((s[0]'h).toNat:Int) = 48):Calls Tryz.prog 177 #[.string s,.string ⟨#[105,110,102,105,110,105,116,121]⟩] w fun e w' => e = .returned (.int .i64 0) ∧ w' = w:=by
 have i1:(0:Int) < (s.size:Int):=by omega
 have hse:s ≠ ByteArray.empty:=by intro he;subst he;exact absurd h (by decide)
 obtain ⟨N,hN⟩:∃ N:Int,N = min 8 (s.size:Int):=⟨_,rfl⟩
 have hN1:0 < N:=by omega
 have hN2:N ≤ 8:=by omega
 go_enter Tryz.func177,Tryz.ntmps177
 go_wp2
 go_loopw [6] (fun vi wr => w = wr ∧ vi = .int .i64 0) (fun _ _ => 0)
 case atStart => exact ⟨rfl,rfl⟩
 case round =>
  obtain ⟨hw,rfl⟩:=hrel
  subst hw
  go_wp2
  go_ret
  exact ⟨rfl,rfl⟩
theorem special0 (s:ByteArray) (w:World) (h:0 < s.size) (hc:((s[0]'h).toNat:Int) = 48):Calls Tryz.prog 146 #[.string s] w fun e w' => e = .returned (.tuple #[.float .f64 0,.int .i64 0,.bool false]) ∧ w' = w:=by
 have i1:(0:Int) < (s.size:Int):=by omega
 have hse:s ≠ ByteArray.empty:=by intro he;subst he;exact absurd h (by decide)
 go_enter Tryz.func146,Tryz.ntmps146
 go_wp2
 go_ret3
 exact ⟨rfl,rfl⟩
theorem special1 (s:ByteArray) (w:World) (h:1 < s.size) (hm:s.size ≤ 2000000) (h0:0 < s.size) (hc:((s[0]'h0).toNat:Int) = 45) (hd:((s[1]'h).toNat:Int) = 48):Calls Tryz.prog 146 #[.string s] w fun e w' => e = .returned (.tuple #[.float .f64 0,.int .i64 0,.bool false]) ∧ w' = w:=by
 have i1:(0:Int) < (s.size:Int):=by omega
 have i2:(1:Int) < (s.size:Int):=by omega
 have hse:s ≠ ByteArray.empty:=by intro he;subst he;exact absurd h (by decide)
 go_enter Tryz.func146,Tryz.ntmps146
 have ht:(s.extract 1 s.size).size = s.size - 1:=by simp
 have ht0:0 < (s.extract 1 s.size).size:=by omega
 have htc:(((s.extract 1 s.size)[0]'ht0).toNat:Int) = 48:=by
  rw [ByteArray.getElem_extract]
  exact hd
 have CP:=hide (cpl_no (s.extract 1 s.size) w ht0 (by omega) htc)
 clear ht ht0 htc
 go_wp2_with fail
 refine (unhide CP).mono ?_
 rintro e w1 ⟨rfl,hw⟩
 subst w1
 go_wp2
 go_ret3
 exact ⟨rfl,rfl⟩
end Go.Proofs.YtjlaoeigfokkiaaGreatDoor.fto
