import Derived.Test.YtechaplindbfoaaGreatDoorJpa6
import Derived.Laws.Cover2
import Derived.Laws.FloatArith
import Derived.Laws.Externs
import Derived.Laws.BitsAllLaws
import Derived.Test.YtechaplindbfoaaGreatDoorJpa1
import Derived.WalkLawsBesides
import Derived.Laws.RangeAny
import Derived.Laws.IdiomStrings
namespace Go.Proofs.YtechaplindbfoaaGreatDoor.fto
open Go.ChangeShapes Go.WideShapes Go.ChangeAt Go.RowKit
open mem Go.Sort
open ints (hide unhide)
set_option linter.unusedVariables false
set_option linter.unusedSimpArgs false
/-- no number, or one without bound -/
def badF (x : Nat) : Bool := decide (9218868437227405312 ≤ x % 9223372036854775808)
def nanB (x : Nat) : Bool := decide (9218868437227405312 < x % 9223372036854775808)
theorem order_self (x : Nat) (h : x < 18446744073709551616) : (FloatKind.f64.format.order x x != some Ordering.eq) = nanB x := by
  have hw := word_of x h
  obtain ⟨r, hr⟩ : ∃ r, r = x % 9223372036854775808 := ⟨_, rfl⟩
  obtain ⟨ng, hng⟩ : ∃ ng, ng = decide (9223372036854775808 ≤ x) := ⟨_, rfl⟩
  have hrl : r < 9223372036854775808 := by omega
  unfold nanB
  rw [← hr]
  rw [← hr, ← hng] at hw
  clear hr hng
  rw [← hw]
  show ((FloatKind.f64.decode _).order (FloatKind.f64.decode _) != some Ordering.eq) = _
  rcases Nat.lt_trichotomy r 9218868437227405312 with h1 | h1 | h1
  · rw [dec_fin ng r h1, order_fin, Int.compare_eq_eq.2 rfl, decide_eq_false (by omega)]; rfl
  · subst h1
    rw [dec_inf, decide_eq_false (by omega)]
    cases ng <;> rfl
  · obtain ⟨f, hf⟩ := dec_nan ng r h1 hrl
    rw [hf, decide_eq_true h1]; rfl
theorem gt_max (r : Nat) (h : r ≤ 9218868437227405312) : (FloatKind.f64.format.order r 9218868437227405311 == some Ordering.gt) = decide (9218868437227405312 ≤ r) := by
  have e1 : r = Ieee.double.word false r := rfl
  by_cases hr : r = 9218868437227405312
  · subst hr
    rfl
  · rw [decide_eq_false (by omega)]
    have := order_word false false r 9218868437227405311 (by omega) (by omega)
    have e2 : FloatKind.f64.format.order r 9218868437227405311 = some (compare (sv false (vR r)) (sv false (vR 9218868437227405311))) := this
    rw [e2]
    have hle : vR r ≤ vR 9218868437227405311 := mem.vR_mono_le (by omega)
    have : compare (sv false (vR r)) (sv false (vR 9218868437227405311)) ≠ Ordering.gt := by
      intro hc
      rw [Int.compare_eq_gt] at hc
      unfold sv at hc
      simp at hc
      omega
    cases hc : compare (sv false (vR r)) (sv false (vR 9218868437227405311)) with
    | gt => exact absurd hc this
    | lt => rfl
    | eq => rfl
theorem andNotSign (b : Nat) (h : b < 18446744073709551616) : bits .andNot .u64 (b : Int) 9223372036854775808 = ((b % 9223372036854775808 : Nat) : Int) := by
  have := u64_andNot_nat b 9223372036854775808 (by omega) (by omega)
  rw [show 18446744073709551615 - 9223372036854775808 = 9223372036854775807 from rfl, nat_mask63] at this
  exact this
theorem run_tobits (x : Nat) (w : World) : (callFunc 88 #[.float .f64 x]).run Tryz.prog w = .ok (.value (.int .u64 x)) w := by
  rw [run_callFunc_extern (e := Extern.MathFloatBits.float64bits) Tryz.func88 (by kernel_rfl) (by kernel_rfl) (by kernel_rfl) (by kernel_rfl)]
  rfl
theorem run_frombits (x : Int) (w : World) : (callFunc 112 #[.int .u64 x]).run Tryz.prog w = .ok (.value (.float .f64 x.toNat)) w := by
  rw [run_callFunc_extern (e := Extern.MathFloatBits.float64frombits) Tryz.func112 (by kernel_rfl) (by kernel_rfl) (by kernel_rfl) (by kernel_rfl)]
  rfl
theorem abs_ok (x : Nat) (w : World) (h : x < 18446744073709551616) : Calls Tryz.prog 93 #[.float .f64 x] w fun e w' => e = .returned (.float .f64 (x % 9223372036854775808)) ∧ w = w' := by
  have T1 := run_tobits x w
  have e2 := andNotSign x h
  have T2 := run_frombits ((x % 9223372036854775808 : Nat) : Int) w
  rw [Int.toNat_natCast] at T2
  generalize x % 9223372036854775808 = r at *
  go_enter Tryz.func93, Tryz.ntmps93
  go_wp2
  go_ret
  exact ⟨rfl, rfl⟩
theorem isInf_ok (x : Nat) (w : World) (h : x < 18446744073709551616) (hn : nanB x = false) : Calls Tryz.prog 79 #[.float .f64 x, .int .i64 0] w fun e w' => e = .returned (.bool (badF x)) ∧ w = w' := by
  have A := hide (fun W => abs_ok x W h)
  have hg := gt_max (x % 9223372036854775808) (by unfold nanB at hn; simpa using hn)
  have hB := hide (show badF x = decide (9218868437227405312 ≤ x % 9223372036854775808) from rfl)
  clear hn h
  generalize x % 9223372036854775808 = r at *
  rw [← unhide hB] at hg
  clear hB
  generalize badF x = B at *
  go_enter Tryz.func79, Tryz.ntmps79
  go_wp2_with fail
  refine (unhide A _).mono ?_
  rintro e w1 ⟨rfl, rfl⟩
  clear A
  go_wp2
  go_ret
  exact ⟨by first | rfl | (rw [← hg]; rfl), rfl⟩
end Go.Proofs.YtechaplindbfoaaGreatDoor.fto
namespace Go.Proofs.YtechaplindbfoaaGreatDoor.fto
open Go.ChangeShapes Go.WideShapes Go.ChangeAt Go.RowKit
open mem Go.Sort
open ints (hide unhide)
set_option linter.unusedVariables false
set_option linter.unusedSimpArgs false
theorem isNaN_any (x : Nat) (w : World) (h : x < 18446744073709551616) : Calls Tryz.prog 78 #[.float .f64 x] w fun e w' => e = .returned (.bool (nanB x)) ∧ w' = w := by
  have ho := order_self x h
  generalize nanB x = N at *
  go_enter Tryz.func78, Tryz.ntmps78
  go_wp2
  go_ret
  exact ⟨by first | rfl | (rw [← ho]; rfl), rfl⟩

theorem sgn64 (x : Nat) (h : x < 18446744073709551616) : decide (wrap64 (x : Int) < 0) = decide (9223372036854775808 ≤ x) := by
  have e : wrap64 (x : Int) = ((x : Int) + 9223372036854775808) % 18446744073709551616 - 9223372036854775808 := by simp [wrap64]
  rw [e]
  by_cases hx : 9223372036854775808 ≤ x
  · rw [decide_eq_true hx]; exact decide_eq_true (by omega)
  · rw [decide_eq_false hx]; exact decide_eq_false (by omega)
set_option maxRecDepth 100000 in
theorem sign_ok (x : Nat) (w : World) (h : x < 18446744073709551616) : Calls Tryz.prog 76 #[.float .f64 x] w fun e w' => e = .returned (.bool (decide (9223372036854775808 ≤ x))) ∧ w' = w := by
  have T1 := run_tobits x w
  rw [← sgn64 x h]
  clear h
  go_enter Tryz.func76, Tryz.ntmps76
  go_wp2
  go_ret
  exact ⟨rfl, rfl⟩
theorem eq_nought (x : Nat) (h : x < 18446744073709551616) (hb : badF x = false) : (FloatKind.f64.format.order x 0 == some Ordering.eq) = decide (x % 9223372036854775808 = 0) := by
  have hw := word_of x h
  have hr : x % 9223372036854775808 < 9218868437227405312 := by unfold badF at hb; simpa using hb
  generalize decide (9223372036854775808 ≤ x) = ng at hw
  generalize x % 9223372036854775808 = r at *
  rw [← hw]
  have e := order_word ng false r 0 hr (by decide)
  rw [show Ieee.double.word false 0 = 0 from rfl] at e
  rw [e]
  have hv : vR 0 = 0 := rfl
  by_cases h0 : r = 0
  · subst h0
    rw [hv]
    cases ng <;> rfl
  · have hp : 0 < vR r := by
      have hm : 0 < mantR r := by unfold mantR; split <;> first | omega | (unfold b52; omega)
      unfold vR
      exact Nat.mul_pos hm (Nat.two_pow_pos _)
    rw [decide_eq_false h0, hv]
    cases ng
    · have : compare (sv false (vR r)) (sv false 0) = Ordering.gt := by
        rw [Int.compare_eq_gt]; unfold sv; simp; omega
      rw [this]; rfl
    · have : compare (sv true (vR r)) (sv false 0) = Ordering.lt := by
        rw [Int.compare_eq_lt]; unfold sv; simp; omega
      rw [this]; rfl
def sgB (x : Nat) : ByteArray := if 9223372036854775808 ≤ x then ⟨#[45]⟩ else ⟨#[]⟩
/-- the text of a float: none -/
theorem ftext_bad (x : Nat) (w : World) (h : x < 18446744073709551616) (hb : badF x = true) : Calls Tryz.prog 70 #[.float .f64 x] w fun e w' => e = .returned (.string ⟨#[]⟩) ∧ Below w.heap.size w w' := by
  have NA := hide (isNaN_any x w h)
  cases hn : nanB x
  · have IN := hide (isInf_ok x w h hn)
    rw [hn] at NA
    rw [hb] at IN
    clear hb hn h
    go_enter Tryz.func70, Tryz.ntmps70
    go_wp2_with fail
    refine (unhide NA).mono ?_
    rintro e w1 ⟨rfl, hw⟩
    subst hw
    go_wp2_with fail
    refine (unhide IN).mono ?_
    rintro e w1 ⟨rfl, hw⟩
    subst hw
    go_wp2
    go_ret
    exact ⟨rfl, Below.refl _ _⟩
  · rw [hn] at NA
    clear hb hn h
    go_enter Tryz.func70, Tryz.ntmps70
    go_wp2_with fail
    refine (unhide NA).mono ?_
    rintro e w1 ⟨rfl, hw⟩
    subst hw
    go_wp2
    go_ret
    exact ⟨rfl, Below.refl _ _⟩
theorem nan_bad {x : Nat} (hb : badF x = false) : nanB x = false := by
  unfold badF at hb
  unfold nanB
  have := of_decide_eq_false hb
  exact decide_eq_false (by omega)
/-- the text of a nought -/
theorem ftext_nought (x : Nat) (w : World) (h : x < 18446744073709551616) (h0 : x % 9223372036854775808 = 0) : Calls Tryz.prog 70 #[.float .f64 x] w fun e w' => e = .returned (.string (sgB x ++ ⟨#[48, 46, 48]⟩)) ∧ Below w.heap.size w w' := by
  have hb : badF x = false := by unfold badF; rw [h0]; rfl
  have hn := nan_bad hb
  have NA := hide (isNaN_any x w h)
  have IN := hide (isInf_ok x w h hn)
  have SG := hide (sign_ok x w h)
  have EQ := eq_nought x h hb
  rw [hn] at NA
  rw [hb] at IN
  rw [decide_eq_true h0] at EQ
  have hs : (sgB x).size ≤ 1 := by unfold sgB; split <;> decide
  have HG := hide (show sgB x = if 9223372036854775808 ≤ x then ⟨#[45]⟩ else ⟨#[]⟩ from rfl)
  by_cases hx : 9223372036854775808 ≤ x
  · rw [decide_eq_true hx] at SG
    rw [unhide HG, if_pos hx]
    clear hx hb hn h h0 HG hs
    go_enter Tryz.func70, Tryz.ntmps70
    go_wp2_with fail
    refine (unhide NA).mono ?_
    rintro e w1 ⟨rfl, hw⟩
    subst hw
    go_wp2_with fail
    refine (unhide IN).mono ?_
    rintro e w1 ⟨rfl, hw⟩
    subst hw
    go_wp2_with fail
    refine (unhide SG).mono ?_
    rintro e w1 ⟨rfl, hw⟩
    subst hw
    go_wp2
    go_ret
    exact ⟨rfl, Below.refl _ _⟩
  · rw [decide_eq_false hx] at SG
    rw [unhide HG, if_neg hx]
    clear hx hb hn h h0 HG hs
    go_enter Tryz.func70, Tryz.ntmps70
    go_wp2_with fail
    refine (unhide NA).mono ?_
    rintro e w1 ⟨rfl, hw⟩
    subst hw
    go_wp2_with fail
    refine (unhide IN).mono ?_
    rintro e w1 ⟨rfl, hw⟩
    subst hw
    go_wp2_with fail
    refine (unhide SG).mono ?_
    rintro e w1 ⟨rfl, hw⟩
    subst hw
    go_wp2
    go_ret
    exact ⟨rfl, Below.refl _ _⟩
end Go.Proofs.YtechaplindbfoaaGreatDoor.fto
namespace Go.Proofs.YtechaplindbfoaaGreatDoor.fto
open Go.ChangeShapes Go.WideShapes Go.ChangeAt Go.RowKit
open mem Go.Sort
open ints (hide unhide)
set_option linter.unusedVariables false
set_option linter.unusedSimpArgs false
theorem layB_size (D : ByteArray) (p : Int) (hD : D.size ≤ 100) (p0 : -5000 ≤ p) (p1 : p ≤ 5000) : (layB D p).size ≤ 1000 := by
  unfold layB expB
  have := itB_size (p - 1) (by omega) (by omega)
  have := sz_ext D 0 1
  have := sz_ext D 1 D.size
  have := sz_ext D 0 p.toNat
  have := sz_ext D p.toNat D.size
  have e1 : (⟨#[46]⟩ : ByteArray).size = 1 := rfl
  have e2 : (⟨#[101]⟩ : ByteArray).size = 1 := rfl
  have e3 : (⟨#[48, 46]⟩ : ByteArray).size = 2 := rfl
  have e4 : (⟨#[46, 48]⟩ : ByteArray).size = 2 := rfl
  repeat' split
  all_goals simp only [ByteArray.size_append, rpB_size, e1, e2, e3, e4]
  all_goals omega
/-- the text of a float -/
def ftB (x d k : Nat) (q : Int) : ByteArray := sgB x ++ layB (strOfNums (dgs d k)) ((Lib.nDigits d : Int) + q)
set_option maxRecDepth 100000 in
theorem ftext_any (x : Nat) (h : x < 18446744073709551616) (hb : badF x = false) (h0 : x % 9223372036854775808 ≠ 0) : ∃ d q, Chosen (x % 9223372036854775808) d q ∧ ∀ w, Fx w → Calls Tryz.prog 70 #[.float .f64 x] w fun e w' => ∃ k, Kept d k ∧ e = .returned (.string (ftB x d k q)) ∧ Below w.heap.size w w' := by
  have hr : x % 9223372036854775808 < infR := by unfold badF at hb; have := of_decide_eq_false hb; unfold infR; omega
  obtain ⟨d, q, hc, HS⟩ := shortest_any (x % 9223372036854775808) (by omega) hr
  refine ⟨d, q, hc, fun w hF => ?_⟩
  obtain ⟨-, d1, d2, q1, q2⟩ := hc.rng
  have n4 : Lib.nDigits d ≤ 18 := nd_le d1 (Nat.lt_of_le_of_lt d2 (by decide))
  have n1 := (nd_pow d d1).2.2
  have hn := nan_bad hb
  have NA := hide (isNaN_any x w h)
  have IN := hide (isInf_ok x w h hn)
  have SG := hide (sign_ok x w h)
  have EQ := eq_nought x h hb
  have AB := hide (abs_ok x w h)
  rw [hn] at NA
  rw [hb] at IN
  rw [decide_eq_false h0] at EQ
  generalize x % 9223372036854775808 = r at *
  have SH := hide (HS w hF)
  have HF := hide hF
  have LY := hide (fun (k : Nat) (W : World) (hk : Kept d k) (hW : Fx W) => lay_ok (strOfNums (dgs d k)) ((Lib.nDigits d : Int) + q) W hW (by rw [strOfNums_size, dgs_len]; exact hk.1) (by rw [strOfNums_size, dgs_len]; have := hk.2.1; omega) (by omega) (by omega))
  have LS := hide (fun (k : Nat) (hk : Kept d k) => layB_size (strOfNums (dgs d k)) ((Lib.nDigits d : Int) + q) (by rw [strOfNums_size, dgs_len]; have := hk.2.1; omega) (by omega) (by omega))
  have HT := hide (fun k : Nat => show ftB x d k q = sgB x ++ layB (strOfNums (dgs d k)) ((Lib.nDigits d : Int) + q) from rfl)
  have HG := hide (show sgB x = if 9223372036854775808 ≤ x then ⟨#[45]⟩ else ⟨#[]⟩ from rfl)
  obtain ⟨P, hP⟩ : ∃ P : Int, P = (Lib.nDigits d : Int) + q := ⟨_, rfl⟩
  rw [← hP] at SH LY LS HT
  clear hc HS hF d1 d2 n4 n1 hP q1 q2 hr
  by_cases hx : 9223372036854775808 ≤ x
  · rw [decide_eq_true hx] at SG
    rw [if_pos hx] at HG
    clear hx hb hn h h0
    go_enter Tryz.func70, Tryz.ntmps70
    go_wp2_with fail
    refine (unhide NA).mono ?_
    rintro e w1 ⟨rfl, hw⟩
    subst w1
    go_wp2_with fail
    refine (unhide IN).mono ?_
    rintro e w1 ⟨rfl, hw⟩
    subst w1
    go_wp2_with fail
    refine (unhide SG).mono ?_
    rintro e w1 ⟨rfl, hw⟩
    subst w1
    go_wp2_with fail
    refine (unhide AB).mono ?_
    rintro e w1 ⟨rfl, hw⟩
    subst w1
    go_wp2_with fail
    refine (unhide SH).mono ?_
    rintro e w1 ⟨k, hk, rfl, b1⟩
    have L := hide (unhide LY k w1 hk ((unhide HF).below b1))
    have hl := unhide LS k hk
    have R := hide (⟨hk, b1⟩ : Kept d k ∧ Below w.heap.size w w1)
    have HT' := hide (unhide HT k)
    rw [unhide HG] at HT'
    generalize layB (strOfNums (dgs d k)) P = T at *
    generalize strOfNums (dgs d k) = D at *
    clear hk b1 LY LS HT HG SH AB SG IN NA HF
    go_wp2_with fail
    refine (unhide L).mono ?_
    rintro e w2 ⟨rfl, b2⟩
    go_wp2
    go_ret
    refine ⟨k, (unhide R).1, ?_, (unhide R).2.trans (b2.mono (unhide R).2.size)⟩
    rw [unhide HT']
    rfl
  · rw [decide_eq_false hx] at SG
    rw [if_neg hx] at HG
    clear hx hb hn h h0
    go_enter Tryz.func70, Tryz.ntmps70
    go_wp2_with fail
    refine (unhide NA).mono ?_
    rintro e w1 ⟨rfl, hw⟩
    subst w1
    go_wp2_with fail
    refine (unhide IN).mono ?_
    rintro e w1 ⟨rfl, hw⟩
    subst w1
    go_wp2_with fail
    refine (unhide SG).mono ?_
    rintro e w1 ⟨rfl, hw⟩
    subst w1
    go_wp2_with fail
    refine (unhide AB).mono ?_
    rintro e w1 ⟨rfl, hw⟩
    subst w1
    go_wp2_with fail
    refine (unhide SH).mono ?_
    rintro e w1 ⟨k, hk, rfl, b1⟩
    have L := hide (unhide LY k w1 hk ((unhide HF).below b1))
    have hl := unhide LS k hk
    have R := hide (⟨hk, b1⟩ : Kept d k ∧ Below w.heap.size w w1)
    have HT' := hide (unhide HT k)
    rw [unhide HG] at HT'
    generalize layB (strOfNums (dgs d k)) P = T at *
    generalize strOfNums (dgs d k) = D at *
    clear hk b1 LY LS HT HG SH AB SG IN NA HF
    go_wp2_with fail
    refine (unhide L).mono ?_
    rintro e w2 ⟨rfl, b2⟩
    go_wp2
    go_ret
    refine ⟨k, (unhide R).1, ?_, (unhide R).2.trans (b2.mono (unhide R).2.size)⟩
    rw [unhide HT']
    rfl
end Go.Proofs.YtechaplindbfoaaGreatDoor.fto
namespace Go.Proofs.YtechaplindbfoaaGreatDoor.mem
open Go.ChangeShapes Go.WideShapes Go.ChangeAt Go.RowKit
open ints (hide unhide)
set_option linter.unusedVariables false

def scP (c : Int) : Prop := (0 ≤ c ∧ c ≤ 55295) ∨ (57344 ≤ c ∧ c ≤ 1114111)
def scB (c : Int) : Bool := (decide (0 ≤ c) && decide (c ≤ 55295)) || (decide (57344 ≤ c) && decide (c ≤ 1114111))
theorem scB_iff (c : Int) : scB c = true ↔ scP c := by simp [scB, scP]
def putB (c : Int) : List Int :=
  if c < 128 then [c]
  else if c < 2048 then [192 + c / 64, 128 + c % 64]
  else if c < 65536 then [224 + c / 4096, 128 + c / 64 % 64, 128 + c % 64]
  else [240 + c / 262144, 128 + c / 4096 % 64, 128 + c / 64 % 64, 128 + c % 64]
theorem putB_len (c : Int) : 1 ≤ (putB c).length ∧ (putB c).length ≤ 4 := by
  unfold putB; repeat' split
  all_goals simp
theorem putB_1 {c : Int} (h : c < 128) : putB c = [c] := if_pos h
theorem putB_2 {c : Int} (h0 : 128 ≤ c) (h : c < 2048) : putB c = [192 + c / 64, 128 + c % 64] := by
  unfold putB; rw [if_neg (by omega), if_pos h]
theorem putB_3 {c : Int} (h0 : 2048 ≤ c) (h : c < 65536) : putB c = [224 + c / 4096, 128 + c / 64 % 64, 128 + c % 64] := by
  unfold putB; rw [if_neg (by omega), if_neg (by omega), if_pos h]
theorem putB_4 {c : Int} (h0 : 65536 ≤ c) : putB c = [240 + c / 262144, 128 + c / 4096 % 64, 128 + c / 64 % 64, 128 + c % 64] := by
  unfold putB; rw [if_neg (by omega), if_neg (by omega), if_neg (by omega)]

end Go.Proofs.YtechaplindbfoaaGreatDoor.mem
namespace Go.Proofs.YtechaplindbfoaaGreatDoor.mem
open Go.ChangeShapes Go.WideShapes Go.ChangeAt Go.RowKit
open ints (hide unhide)
set_option linter.unusedVariables false

def encS (zs : List Int) : ByteArray := if zs.all scB = true then strOfNums (zs.flatMap putB) else ⟨#[]⟩
theorem encS_yes {zs : List Int} (h : zs.all scB = true) : encS zs = strOfNums (zs.flatMap putB) := if_pos h
theorem encS_no {zs : List Int} (h : zs.all scB = false) : encS zs = ⟨#[]⟩ := if_neg (by rw [h]; simp)
def flat (zs : List Int) (k : Nat) : List Int := (zs.take k).flatMap putB
theorem flat_zero (zs : List Int) : flat zs 0 = [] := rfl
theorem flat_succ (zs : List Int) (k : Nat) (h : k < zs.length) : flat zs (k + 1) = flat zs k ++ putB (zs.getD k 0) := by
  unfold flat
  rw [List.take_succ_eq_append_getElem h, List.flatMap_append]
  simp [List.getD, h]
theorem flat_len (zs : List Int) (k : Nat) : (flat zs k).length ≤ 4 * k := by
  unfold flat
  have : ∀ l : List Int, (l.flatMap putB).length ≤ 4 * l.length := by
    intro l
    induction l with
    | nil => simp
    | cons a l ih => have := putB_len a; rw [List.flatMap_cons, List.length_append, List.length_cons]; omega
  have h1 := this (zs.take k)
  have h2 : (zs.take k).length ≤ k := List.length_take_le _ _
  omega
theorem flat_all (zs : List Int) (k : Nat) (h : zs.length ≤ k) : flat zs k = zs.flatMap putB := by
  unfold flat; rw [List.take_of_length_le h]
theorem all_of (zs : List Int) (h : ∀ j, j < zs.length → scP (zs.getD j 0)) : zs.all scB = true := by
  rw [List.all_eq_true]
  intro x hx
  obtain ⟨i, hi, rfl⟩ := List.mem_iff_getElem.1 hx
  have := h i hi
  rw [scB_iff]
  simpa [List.getD, hi] using this
theorem not_all (zs : List Int) (k : Nat) (hk : k < zs.length) (h : ¬ scP (zs.getD k 0)) : zs.all scB = false := by
  rw [List.all_eq_false]
  refine ⟨zs.getD k 0, by simp [List.getD, hk], ?_⟩
  intro e
  exact h ((scB_iff _).1 e)

end Go.Proofs.YtechaplindbfoaaGreatDoor.mem
namespace Go.Proofs.YtechaplindbfoaaGreatDoor.mem
open Go.ChangeShapes Go.WideShapes Go.ChangeAt Go.RowKit
open ints (hide unhide)
set_option linter.unusedVariables false

def oneQ (n : Nat) (b0 b1 b2 b3 : Int) : Int × Nat :=
  if 0 < n ∧ b0 < 128 then (b0, 1)
  else if 1 < n ∧ b0 / 32 = 6 ∧ b1 / 64 = 2 ∧ 128 ≤ b0 % 32 * 64 + b1 % 64 then (b0 % 32 * 64 + b1 % 64, 2)
  else if 2 < n ∧ b0 / 16 = 14 ∧ b1 / 64 = 2 ∧ b2 / 64 = 2 ∧ 2048 ≤ b0 % 16 * 4096 + b1 % 64 * 64 + b2 % 64 ∧ (b0 % 16 * 4096 + b1 % 64 * 64 + b2 % 64 ≤ 55295 ∨ 57344 ≤ b0 % 16 * 4096 + b1 % 64 * 64 + b2 % 64) then (b0 % 16 * 4096 + b1 % 64 * 64 + b2 % 64, 3)
  else if 3 < n ∧ b0 / 8 = 30 ∧ b1 / 64 = 2 ∧ b2 / 64 = 2 ∧ b3 / 64 = 2 ∧ 65536 ≤ b0 % 8 * 262144 + b1 % 64 * 4096 + b2 % 64 * 64 + b3 % 64 ∧ b0 % 8 * 262144 + b1 % 64 * 4096 + b2 % 64 * 64 + b3 % 64 ≤ 1114111 then (b0 % 8 * 262144 + b1 % 64 * 4096 + b2 % 64 * 64 + b3 % 64, 4)
  else (0, 0)
def oneL (l : List Int) : Int × Nat := oneQ l.length (l.getD 0 0) (l.getD 1 0) (l.getD 2 0) (l.getD 3 0)
def Byt (l : List Int) : Prop := ∀ z ∈ l, 0 ≤ z ∧ z ≤ 255

theorem byt_getD {l : List Int} (h : Byt l) (i : Nat) : 0 ≤ l.getD i 0 ∧ l.getD i 0 ≤ 255 := by
  by_cases hi : i < l.length
  · have := h (l.getD i 0) (by simp [List.getD, hi])
    exact this
  · simp [List.getD, List.getElem?_eq_none (show l.length ≤ i by omega)]
theorem byt_drop {l : List Int} (h : Byt l) (i : Nat) : Byt (l.drop i) := fun z hz => h z (List.mem_of_mem_drop hz)
theorem putB_byt {c : Int} (h : scP c) : Byt (putB c) := by
  intro z hz
  unfold scP at h
  unfold putB at hz
  repeat' split at hz
  all_goals simp at hz
  all_goals omega

/-- What is written is read. -/
theorem one_put (c : Int) (h : scP c) (r : List Int) : oneL (putB c ++ r) = (c, (putB c).length) := by
  unfold scP at h
  by_cases h1 : c < 128
  · rw [putB_1 h1]
    simp only [oneL, oneQ, List.cons_append, List.nil_append, List.length_cons, List.length_nil, List.getD_cons_zero]
    rw [if_pos (by omega)]
  by_cases h2 : c < 2048
  · rw [putB_2 (by omega) h2]
    simp only [oneL, oneQ, List.cons_append, List.nil_append, List.length_cons, List.length_nil, List.getD_cons_zero, List.getD_cons_succ]
    rw [if_neg (by omega), if_pos (by omega)]
    refine Prod.ext ?_ rfl
    show _ = c
    omega
  by_cases h3 : c < 65536
  · rw [putB_3 (by omega) h3]
    simp only [oneL, oneQ, List.cons_append, List.nil_append, List.length_cons, List.length_nil, List.getD_cons_zero, List.getD_cons_succ]
    rw [if_neg (by omega), if_neg (by omega), if_pos (by omega)]
    refine Prod.ext ?_ rfl
    show _ = c
    omega
  · rw [putB_4 (by omega)]
    simp only [oneL, oneQ, List.cons_append, List.nil_append, List.length_cons, List.length_nil, List.getD_cons_zero, List.getD_cons_succ]
    rw [if_neg (by omega), if_neg (by omega), if_neg (by omega), if_pos (by omega)]
    refine Prod.ext ?_ rfl
    show _ = c
    omega
/-- What is read was so written. -/
theorem one_back (l : List Int) (hb : Byt l) (h : (oneL l).2 ≠ 0) : scP (oneL l).1 ∧ l = putB (oneL l).1 ++ l.drop (oneL l).2 ∧ (oneL l).2 = (putB (oneL l).1).length := by
  have g0 := byt_getD hb 0
  have g1 := byt_getD hb 1
  have g2 := byt_getD hb 2
  have g3 := byt_getD hb 3
  match l, hb, h, g0, g1, g2, g3 with
  | [], _, h, _, _, _, _ => exact absurd rfl h
  | [b0], _, h, g0, _, _, _ =>
    simp only [List.getD_cons_zero] at g0
    by_cases c1 : b0 < 128
    · have e : oneL [b0] = (b0, 1) := by simp only [oneL, oneQ, List.length_cons, List.length_nil, List.getD_cons_zero]; rw [if_pos (by omega)]
      rw [e, putB_1 c1]
      exact ⟨by unfold scP; simp only; omega, rfl, rfl⟩
    · have e : oneL [b0] = (0, 0) := by
        simp only [oneL, oneQ, List.length_cons, List.length_nil, List.getD_cons_zero]
        rw [if_neg (by omega), if_neg (by omega), if_neg (by omega), if_neg (by omega)]
      rw [e] at h; exact absurd rfl h
  | [b0, b1], _, h, g0, g1, _, _ =>
    simp only [List.getD_cons_zero, List.getD_cons_succ] at g0 g1
    by_cases c1 : b0 < 128
    · have e : oneL [b0, b1] = (b0, 1) := by simp only [oneL, oneQ, List.length_cons, List.length_nil, List.getD_cons_zero]; rw [if_pos (by omega)]
      rw [e, putB_1 c1]
      exact ⟨by unfold scP; simp only; omega, rfl, rfl⟩
    by_cases c2 : b0 / 32 = 6 ∧ b1 / 64 = 2 ∧ 128 ≤ b0 % 32 * 64 + b1 % 64
    · have e : oneL [b0, b1] = (b0 % 32 * 64 + b1 % 64, 2) := by
        simp only [oneL, oneQ, List.length_cons, List.length_nil, List.getD_cons_zero, List.getD_cons_succ]; rw [if_neg (by omega), if_pos (by omega)]
      rw [e, putB_2 (by simp only; omega) (by simp only; omega)]
      refine ⟨by unfold scP; simp only; omega, ?_, rfl⟩
      simp
      omega
    · have e : oneL [b0, b1] = (0, 0) := by
        simp only [oneL, oneQ, List.length_cons, List.length_nil, List.getD_cons_zero, List.getD_cons_succ]
        rw [if_neg (by omega), if_neg (by omega), if_neg (by omega), if_neg (by omega)]
      rw [e] at h; exact absurd rfl h
  | [b0, b1, b2], _, h, g0, g1, g2, _ =>
    simp only [List.getD_cons_zero, List.getD_cons_succ] at g0 g1 g2
    by_cases c1 : b0 < 128
    · have e : oneL [b0, b1, b2] = (b0, 1) := by simp only [oneL, oneQ, List.length_cons, List.length_nil, List.getD_cons_zero]; rw [if_pos (by omega)]
      rw [e, putB_1 c1]
      exact ⟨by unfold scP; simp only; omega, rfl, rfl⟩
    by_cases c2 : b0 / 32 = 6 ∧ b1 / 64 = 2 ∧ 128 ≤ b0 % 32 * 64 + b1 % 64
    · have e : oneL [b0, b1, b2] = (b0 % 32 * 64 + b1 % 64, 2) := by
        simp only [oneL, oneQ, List.length_cons, List.length_nil, List.getD_cons_zero, List.getD_cons_succ]; rw [if_neg (by omega), if_pos (by omega)]
      rw [e, putB_2 (by simp only; omega) (by simp only; omega)]
      refine ⟨by unfold scP; simp only; omega, ?_, rfl⟩
      simp
      omega
    by_cases c3 : b0 / 16 = 14 ∧ b1 / 64 = 2 ∧ b2 / 64 = 2 ∧ 2048 ≤ b0 % 16 * 4096 + b1 % 64 * 64 + b2 % 64 ∧ (b0 % 16 * 4096 + b1 % 64 * 64 + b2 % 64 ≤ 55295 ∨ 57344 ≤ b0 % 16 * 4096 + b1 % 64 * 64 + b2 % 64)
    · have e : oneL [b0, b1, b2] = (b0 % 16 * 4096 + b1 % 64 * 64 + b2 % 64, 3) := by
        simp only [oneL, oneQ, List.length_cons, List.length_nil, List.getD_cons_zero, List.getD_cons_succ]; rw [if_neg (by omega), if_neg (by omega), if_pos (by omega)]
      rw [e, putB_3 (by simp only; omega) (by simp only; omega)]
      refine ⟨by unfold scP; simp only; omega, ?_, rfl⟩
      simp
      omega
    · have e : oneL [b0, b1, b2] = (0, 0) := by
        simp only [oneL, oneQ, List.length_cons, List.length_nil, List.getD_cons_zero, List.getD_cons_succ]
        rw [if_neg (by omega), if_neg (by omega), if_neg (by omega), if_neg (by omega)]
      rw [e] at h; exact absurd rfl h
  | b0 :: b1 :: b2 :: b3 :: r, _, h, g0, g1, g2, g3 =>
    simp only [List.getD_cons_zero, List.getD_cons_succ] at g0 g1 g2 g3
    by_cases c1 : b0 < 128
    · have e : oneL (b0 :: b1 :: b2 :: b3 :: r) = (b0, 1) := by simp only [oneL, oneQ, List.length_cons, List.getD_cons_zero]; rw [if_pos (by omega)]
      rw [e, putB_1 c1]
      exact ⟨by unfold scP; simp only; omega, rfl, rfl⟩
    by_cases c2 : b0 / 32 = 6 ∧ b1 / 64 = 2 ∧ 128 ≤ b0 % 32 * 64 + b1 % 64
    · have e : oneL (b0 :: b1 :: b2 :: b3 :: r) = (b0 % 32 * 64 + b1 % 64, 2) := by
        simp only [oneL, oneQ, List.length_cons, List.getD_cons_zero, List.getD_cons_succ]; rw [if_neg (by omega), if_pos (by omega)]
      rw [e, putB_2 (by simp only; omega) (by simp only; omega)]
      refine ⟨by unfold scP; simp only; omega, ?_, rfl⟩
      simp
      omega
    by_cases c3 : b0 / 16 = 14 ∧ b1 / 64 = 2 ∧ b2 / 64 = 2 ∧ 2048 ≤ b0 % 16 * 4096 + b1 % 64 * 64 + b2 % 64 ∧ (b0 % 16 * 4096 + b1 % 64 * 64 + b2 % 64 ≤ 55295 ∨ 57344 ≤ b0 % 16 * 4096 + b1 % 64 * 64 + b2 % 64)
    · have e : oneL (b0 :: b1 :: b2 :: b3 :: r) = (b0 % 16 * 4096 + b1 % 64 * 64 + b2 % 64, 3) := by
        simp only [oneL, oneQ, List.length_cons, List.getD_cons_zero, List.getD_cons_succ]; rw [if_neg (by omega), if_neg (by omega), if_pos (by omega)]
      rw [e, putB_3 (by simp only; omega) (by simp only; omega)]
      refine ⟨by unfold scP; simp only; omega, ?_, rfl⟩
      simp
      omega
    by_cases c4 : b0 / 8 = 30 ∧ b1 / 64 = 2 ∧ b2 / 64 = 2 ∧ b3 / 64 = 2 ∧ 65536 ≤ b0 % 8 * 262144 + b1 % 64 * 4096 + b2 % 64 * 64 + b3 % 64 ∧ b0 % 8 * 262144 + b1 % 64 * 4096 + b2 % 64 * 64 + b3 % 64 ≤ 1114111
    · have e : oneL (b0 :: b1 :: b2 :: b3 :: r) = (b0 % 8 * 262144 + b1 % 64 * 4096 + b2 % 64 * 64 + b3 % 64, 4) := by
        simp only [oneL, oneQ, List.length_cons, List.getD_cons_zero, List.getD_cons_succ]; rw [if_neg (by omega), if_neg (by omega), if_neg (by omega), if_pos (by omega)]
      rw [e, putB_4 (by simp only; omega)]
      refine ⟨by unfold scP; simp only; omega, ?_, rfl⟩
      simp
      omega
    · have e : oneL (b0 :: b1 :: b2 :: b3 :: r) = (0, 0) := by
        simp only [oneL, oneQ, List.length_cons, List.getD_cons_zero, List.getD_cons_succ]
        rw [if_neg (by omega), if_neg (by omega), if_neg (by omega), if_neg (by omega)]
      rw [e] at h; exact absurd rfl h

/-- Decoding: the characters and the length of the good beginning. -/
def decF : Nat → List Int → List Int × Nat
  | 0, _ => ([], 0)
  | f + 1, l => if (oneL l).2 = 0 then ([], 0) else ((oneL l).1 :: (decF f (l.drop (oneL l).2)).1, (oneL l).2 + (decF f (l.drop (oneL l).2)).2)
def decZ (l : List Int) : List Int × Nat := decF l.length l
theorem decF_end (f : Nat) (l : List Int) (h : (oneL l).2 = 0) : decF f l = ([], 0) := by
  cases f with
  | zero => rfl
  | succ f => simp [decF, h]
theorem decF_go (f : Nat) (l : List Int) (h : (oneL l).2 ≠ 0) : decF (f + 1) l = ((oneL l).1 :: (decF f (l.drop (oneL l).2)).1, (oneL l).2 + (decF f (l.drop (oneL l).2)).2) := by
  simp [decF, h]
theorem oneL_le (l : List Int) : (oneL l).2 ≤ l.length := by
  unfold oneL oneQ
  repeat' split
  all_goals simp only
  all_goals omega
theorem oneL_4 (l : List Int) : (oneL l).2 ≤ 4 := by
  unfold oneL oneQ
  repeat' split
  all_goals simp
theorem take_of (l p r : List Int) (k : Nat) (h : l = p ++ r) (hk : k = p.length) : l.take k = p := by subst h hk; simp
/-- What decoding answers: scalar values, written as the good beginning. -/
theorem decF_flat : ∀ (f : Nat) (l : List Int), Byt l → ((decF f l).1.flatMap putB = l.take (decF f l).2 ∧ (decF f l).2 ≤ l.length ∧ ((decF f l).1).all scB = true ∧ ((decF f l).1.flatMap putB).length = (decF f l).2)
  | 0, l, _ => by simp [decF]
  | f + 1, l, hb => by
    by_cases h : (oneL l).2 = 0
    · rw [decF_end _ _ h]; simp
    · rw [decF_go f l h]
      obtain ⟨h1, h2, h3⟩ := one_back l hb h
      obtain ⟨i1, i2, i3, i4⟩ := decF_flat f (l.drop (oneL l).2) (byt_drop hb _)
      have hle := oneL_le l
      simp only [List.flatMap_cons]
      refine ⟨?_, ?_, ?_, ?_⟩
      · rw [i1, List.take_add]
        rw [take_of l _ _ _ h2 h3]
      · simp at i2; omega
      · simp [i3, (scB_iff _).2 h1]
      · rw [List.length_append, i4, ← h3]
/-- ... and behind it no character stands. -/
theorem decF_stop : ∀ (f : Nat) (l : List Int), l.length ≤ f → (oneL (l.drop (decF f l).2)).2 = 0
  | 0, l, h => by
    have : l = [] := List.eq_nil_of_length_eq_zero (by omega)
    subst this; rfl
  | f + 1, l, h => by
    by_cases h0 : (oneL l).2 = 0
    · rw [decF_end _ _ h0]; simpa using h0
    · rw [decF_go f l h0]
      have := decF_stop f (l.drop (oneL l).2) (by simp; omega)
      rw [List.drop_drop] at this
      exact this
end Go.Proofs.YtechaplindbfoaaGreatDoor.mem
namespace Go.Proofs.YtechaplindbfoaaGreatDoor.mem
open Go.ChangeShapes Go.WideShapes Go.ChangeAt Go.RowKit
open ints (hide unhide)
set_option linter.unusedVariables false

def bytesZ (s : ByteArray) : List Int := s.data.toList.map fun b => (b.toNat : Int)
theorem bytesZ_len (s : ByteArray) : (bytesZ s).length = s.size := by unfold bytesZ; rw [List.length_map, Array.length_toList]; rfl
theorem bytesZ_byt (s : ByteArray) : Byt (bytesZ s) := by
  intro z hz
  obtain ⟨b, _, rfl⟩ := List.mem_map.1 hz
  have := b.toNat_lt
  omega
theorem bytesZ_str (zs : List Int) (h : Byt zs) : bytesZ (strOfNums zs) = zs := by
  unfold bytesZ
  rw [strOfNums_data, List.map_map]
  conv => rhs; rw [← List.map_id zs]
  apply List.map_congr_left
  intro z hz
  have := h z hz
  simp
  omega
theorem bytesZ_get (s : ByteArray) (i : Nat) : (bytesZ s).getD i 0 = ((s.get! i).toNat : Int) := by
  unfold bytesZ
  have e : s.get! i = s.data[i]! := rfl
  rw [e]
  by_cases h : i < s.data.size
  · rw [getElem!_pos s.data i h]
    simp [List.getD, Array.getElem?_eq_getElem h]
  · rw [getElem!_neg s.data i h]
    simp [List.getD, Array.getElem?_eq_none (Nat.le_of_not_lt h)]
    rfl
theorem drop_getD (l : List Int) (p k : Nat) : (l.drop p).getD k 0 = l.getD (p + k) 0 := by simp [List.getD]
theorem oneL_at (s : ByteArray) (p : Nat) : oneL ((bytesZ s).drop p) = oneQ (s.size - p) ((s.get! p).toNat : Int) ((s.get! (p + 1)).toNat : Int) ((s.get! (p + 2)).toNat : Int) ((s.get! (p + 3)).toNat : Int) := by
  unfold oneL
  rw [drop_getD, drop_getD, drop_getD, drop_getD, bytesZ_get, bytesZ_get, bytesZ_get, bytesZ_get]
  simp [bytesZ_len]
theorem oneQ_bad {n : Nat} {b0 : Int} (b1 b2 b3 : Int) (h0 : 128 ≤ b0) (h : b0 < 192 ∨ 248 ≤ b0) : oneQ n b0 b1 b2 b3 = (0, 0) := by
  unfold oneQ
  rw [if_neg (by omega), if_neg (by omega), if_neg (by omega), if_neg (by omega)]
theorem oneQ_2 {n : Nat} {b0 : Int} (b1 b2 b3 : Int) (h0 : 192 ≤ b0) (h1 : b0 < 224) : oneQ n b0 b1 b2 b3 = if 1 < n ∧ b1 / 64 = 2 ∧ 128 ≤ b0 % 32 * 64 + b1 % 64 then (b0 % 32 * 64 + b1 % 64, 2) else (0, 0) := by
  unfold oneQ
  have e1 : b0 / 32 = 6 := by omega
  have e2 : ¬ b0 / 16 = 14 := by omega
  have e3 : ¬ b0 / 8 = 30 := by omega
  rw [if_neg (by omega)]
  simp only [e1, e2, e3, true_and, false_and, and_false, if_false]
theorem oneQ_3 {n : Nat} {b0 : Int} (b1 b2 b3 : Int) (h0 : 224 ≤ b0) (h1 : b0 < 240) : oneQ n b0 b1 b2 b3 = if 2 < n ∧ b1 / 64 = 2 ∧ b2 / 64 = 2 ∧ 2048 ≤ b0 % 16 * 4096 + b1 % 64 * 64 + b2 % 64 ∧ (b0 % 16 * 4096 + b1 % 64 * 64 + b2 % 64 ≤ 55295 ∨ 57344 ≤ b0 % 16 * 4096 + b1 % 64 * 64 + b2 % 64) then (b0 % 16 * 4096 + b1 % 64 * 64 + b2 % 64, 3) else (0, 0) := by
  unfold oneQ
  have e1 : ¬ b0 / 32 = 6 := by omega
  have e2 : b0 / 16 = 14 := by omega
  have e3 : ¬ b0 / 8 = 30 := by omega
  rw [if_neg (by omega)]
  simp only [e1, e2, e3, true_and, false_and, and_false, if_false]
theorem oneQ_4 {n : Nat} {b0 : Int} (b1 b2 b3 : Int) (h0 : 240 ≤ b0) (h1 : b0 < 248) : oneQ n b0 b1 b2 b3 = if 3 < n ∧ b1 / 64 = 2 ∧ b2 / 64 = 2 ∧ b3 / 64 = 2 ∧ 65536 ≤ b0 % 8 * 262144 + b1 % 64 * 4096 + b2 % 64 * 64 + b3 % 64 ∧ b0 % 8 * 262144 + b1 % 64 * 4096 + b2 % 64 * 64 + b3 % 64 ≤ 1114111 then (b0 % 8 * 262144 + b1 % 64 * 4096 + b2 % 64 * 64 + b3 % 64, 4) else (0, 0) := by
  unfold oneQ
  have e1 : ¬ b0 / 32 = 6 := by omega
  have e2 : ¬ b0 / 16 = 14 := by omega
  have e3 : b0 / 8 = 30 := by omega
  rw [if_neg (by omega)]
  simp only [e1, e2, e3, true_and, false_and, and_false, if_false]
/-- The model's own decoding, of four bytes and how many there are. -/
def decQ (n b0 b1 b2 b3 : Nat) : Nat × Nat :=
  if b0 < 128 then (b0, 1)
  else if (b0 / 32 == 6 && (decide (1 < n) && b1 / 64 == 2)) = true then (if b0 % 32 * 64 + b1 % 64 ≥ 128 then (b0 % 32 * 64 + b1 % 64, 2) else (65533, 1))
  else if (b0 / 16 == 14 && (decide (1 < n) && b1 / 64 == 2) && (decide (2 < n) && b2 / 64 == 2)) = true then
    (if (decide (b0 % 16 * 4096 + b1 % 64 * 64 + b2 % 64 ≥ 2048) && Utf8.valid ((b0 % 16 * 4096 + b1 % 64 * 64 + b2 % 64 : Nat) : Int)) = true then (b0 % 16 * 4096 + b1 % 64 * 64 + b2 % 64, 3) else (65533, 1))
  else if (b0 / 8 == 30 && (decide (1 < n) && b1 / 64 == 2) && (decide (2 < n) && b2 / 64 == 2) && (decide (3 < n) && b3 / 64 == 2)) = true then
    (if (decide (b0 % 8 * 262144 + b1 % 64 * 4096 + b2 % 64 * 64 + b3 % 64 ≥ 65536) && Utf8.valid ((b0 % 8 * 262144 + b1 % 64 * 4096 + b2 % 64 * 64 + b3 % 64 : Nat) : Int)) = true then (b0 % 8 * 262144 + b1 % 64 * 4096 + b2 % 64 * 64 + b3 % 64, 4) else (65533, 1))
  else (65533, 1)
theorem decide_lt_sub (p k n : Nat) : decide (p + k < n) = decide (k < n - p) := by
  rw [decide_eq_decide]; omega
theorem decode_Q (s : ByteArray) (p : Nat) : Utf8.decode s p = decQ (s.size - p) (s.get! p).toNat (s.get! (p + 1)).toNat (s.get! (p + 2)).toNat (s.get! (p + 3)).toNat := by
  unfold Utf8.decode decQ
  simp only [Nat.add_zero, decide_lt_sub, Utf8.runeError]
theorem valid_iff (c : Nat) : Utf8.valid (c : Int) = true ↔ (c ≤ 55295 ∨ 57344 ≤ c ∧ c ≤ 1114111) := by
  simp [Utf8.valid]; omega
theorem decQ_bad {n b0 : Nat} (b1 b2 b3 : Nat) (h0 : 128 ≤ b0) (h : b0 < 192 ∨ 248 ≤ b0) : decQ n b0 b1 b2 b3 = (65533, 1) := by
  unfold decQ
  have e1 : (b0 / 32 == 6) = false := by simp; omega
  have e2 : (b0 / 16 == 14) = false := by simp; omega
  have e3 : (b0 / 8 == 30) = false := by simp; omega
  rw [if_neg (by omega)]
  simp [e1, e2, e3]
theorem decQ_2 {n b0 : Nat} (b1 b2 b3 : Nat) (h0 : 192 ≤ b0) (h1 : b0 < 224) : decQ n b0 b1 b2 b3 = if (1 < n ∧ b1 / 64 = 2) ∧ 128 ≤ b0 % 32 * 64 + b1 % 64 then (b0 % 32 * 64 + b1 % 64, 2) else (65533, 1) := by
  unfold decQ
  have e1 : (b0 / 32 == 6) = true := by simp; omega
  have e2 : (b0 / 16 == 14) = false := by simp; omega
  have e3 : (b0 / 8 == 30) = false := by simp; omega
  rw [if_neg (by omega)]
  simp only [e1, e2, e3, Bool.true_and, Bool.false_and, Bool.and_eq_true, decide_eq_true_eq, beq_iff_eq, Bool.false_eq_true, if_false, ge_iff_le]
  by_cases a : 1 < n ∧ b1 / 64 = 2
  · by_cases b : 128 ≤ b0 % 32 * 64 + b1 % 64
    · rw [if_pos a, if_pos b, if_pos ⟨a, b⟩]
    · rw [if_pos a, if_neg b, if_neg (fun h => b h.2)]
  · rw [if_neg a, if_neg (fun h => a h.1)]
theorem decQ_3 {n b0 : Nat} (b1 b2 b3 : Nat) (h0 : 224 ≤ b0) (h1 : b0 < 240) : decQ n b0 b1 b2 b3 = if ((1 < n ∧ b1 / 64 = 2) ∧ 2 < n ∧ b2 / 64 = 2) ∧ 2048 ≤ b0 % 16 * 4096 + b1 % 64 * 64 + b2 % 64 ∧ (b0 % 16 * 4096 + b1 % 64 * 64 + b2 % 64 ≤ 55295 ∨ 57344 ≤ b0 % 16 * 4096 + b1 % 64 * 64 + b2 % 64 ∧ b0 % 16 * 4096 + b1 % 64 * 64 + b2 % 64 ≤ 1114111) then (b0 % 16 * 4096 + b1 % 64 * 64 + b2 % 64, 3) else (65533, 1) := by
  unfold decQ
  have e1 : (b0 / 32 == 6) = false := by simp; omega
  have e2 : (b0 / 16 == 14) = true := by simp; omega
  have e3 : (b0 / 8 == 30) = false := by simp; omega
  rw [if_neg (by omega)]
  simp only [e1, e2, e3, Bool.true_and, Bool.false_and, Bool.and_eq_true, decide_eq_true_eq, beq_iff_eq, Bool.false_eq_true, if_false, ge_iff_le, valid_iff]
  generalize b0 % 16 * 4096 + b1 % 64 * 64 + b2 % 64 = C
  by_cases a : (1 < n ∧ b1 / 64 = 2) ∧ 2 < n ∧ b2 / 64 = 2
  · by_cases b : 2048 ≤ C ∧ (C ≤ 55295 ∨ 57344 ≤ C ∧ C ≤ 1114111)
    · rw [if_pos a, if_pos b, if_pos ⟨a, b⟩]
    · rw [if_pos a, if_neg b, if_neg (fun h => b h.2)]
  · rw [if_neg a, if_neg (fun h => a h.1)]
theorem decQ_4 {n b0 : Nat} (b1 b2 b3 : Nat) (h0 : 240 ≤ b0) (h1 : b0 < 248) : decQ n b0 b1 b2 b3 = if (((1 < n ∧ b1 / 64 = 2) ∧ 2 < n ∧ b2 / 64 = 2) ∧ 3 < n ∧ b3 / 64 = 2) ∧ 65536 ≤ b0 % 8 * 262144 + b1 % 64 * 4096 + b2 % 64 * 64 + b3 % 64 ∧ (b0 % 8 * 262144 + b1 % 64 * 4096 + b2 % 64 * 64 + b3 % 64 ≤ 55295 ∨ 57344 ≤ b0 % 8 * 262144 + b1 % 64 * 4096 + b2 % 64 * 64 + b3 % 64 ∧ b0 % 8 * 262144 + b1 % 64 * 4096 + b2 % 64 * 64 + b3 % 64 ≤ 1114111) then (b0 % 8 * 262144 + b1 % 64 * 4096 + b2 % 64 * 64 + b3 % 64, 4) else (65533, 1) := by
  unfold decQ
  have e1 : (b0 / 32 == 6) = false := by simp; omega
  have e2 : (b0 / 16 == 14) = false := by simp; omega
  have e3 : (b0 / 8 == 30) = true := by simp; omega
  rw [if_neg (by omega)]
  simp only [e1, e2, e3, Bool.true_and, Bool.false_and, Bool.and_eq_true, decide_eq_true_eq, beq_iff_eq, Bool.false_eq_true, if_false, ge_iff_le, valid_iff]
  generalize b0 % 8 * 262144 + b1 % 64 * 4096 + b2 % 64 * 64 + b3 % 64 = C
  by_cases a : ((1 < n ∧ b1 / 64 = 2) ∧ 2 < n ∧ b2 / 64 = 2) ∧ 3 < n ∧ b3 / 64 = 2
  · by_cases b : 65536 ≤ C ∧ (C ≤ 55295 ∨ 57344 ≤ C ∧ C ≤ 1114111)
    · rw [if_pos a, if_pos b, if_pos ⟨a, b⟩]
    · rw [if_pos a, if_neg b, if_neg (fun h => b h.2)]
  · rw [if_neg a, if_neg (fun h => a h.1)]
theorem decQ_one (n b0 b1 b2 b3 : Nat) (hn : 0 < n) (l0 : b0 < 256) : decQ n b0 b1 b2 b3 = if (oneQ n b0 b1 b2 b3).2 = 0 then (65533, 1) else ((oneQ n b0 b1 b2 b3).1.toNat, (oneQ n b0 b1 b2 b3).2) := by
  by_cases h1 : b0 < 128
  · have e : oneQ n b0 b1 b2 b3 = ((b0 : Int), 1) := by unfold oneQ; rw [if_pos (by omega)]
    rw [e]
    unfold decQ
    rw [if_pos h1]
    simp
  by_cases h2 : b0 < 192 ∨ 248 ≤ b0
  · rw [decQ_bad b1 b2 b3 (by omega) h2, oneQ_bad (b0 := (b0 : Int)) _ _ _ (by omega) (by omega)]
    simp
  by_cases h3 : b0 < 224
  · rw [decQ_2 b1 b2 b3 (by omega) h3]
    by_cases c : (1 < n ∧ b1 / 64 = 2) ∧ 128 ≤ b0 % 32 * 64 + b1 % 64
    · have e : oneQ n b0 b1 b2 b3 = ((b0 : Int) % 32 * 64 + (b1 : Int) % 64, 2) := by rw [oneQ_2 (b0 := (b0 : Int)) _ _ _ (by omega) (by omega), if_pos (by omega)]
      rw [if_pos c, e]
      simp
      omega
    · have e : oneQ n b0 b1 b2 b3 = (0, 0) := by rw [oneQ_2 (b0 := (b0 : Int)) _ _ _ (by omega) (by omega), if_neg (by omega)]
      rw [if_neg c, e]
      simp
  by_cases h4 : b0 < 240
  · rw [decQ_3 b1 b2 b3 (by omega) h4]
    by_cases c : ((1 < n ∧ b1 / 64 = 2) ∧ 2 < n ∧ b2 / 64 = 2) ∧ 2048 ≤ b0 % 16 * 4096 + b1 % 64 * 64 + b2 % 64 ∧ (b0 % 16 * 4096 + b1 % 64 * 64 + b2 % 64 ≤ 55295 ∨ 57344 ≤ b0 % 16 * 4096 + b1 % 64 * 64 + b2 % 64 ∧ b0 % 16 * 4096 + b1 % 64 * 64 + b2 % 64 ≤ 1114111)
    · have e : oneQ n b0 b1 b2 b3 = ((b0 : Int) % 16 * 4096 + (b1 : Int) % 64 * 64 + (b2 : Int) % 64, 3) := by rw [oneQ_3 (b0 := (b0 : Int)) _ _ _ (by omega) (by omega), if_pos (by omega)]
      rw [if_pos c, e]
      simp
      omega
    · have e : oneQ n b0 b1 b2 b3 = (0, 0) := by rw [oneQ_3 (b0 := (b0 : Int)) _ _ _ (by omega) (by omega), if_neg (by omega)]
      rw [if_neg c, e]
      simp
  · rw [decQ_4 b1 b2 b3 (by omega) (by omega)]
    by_cases c : (((1 < n ∧ b1 / 64 = 2) ∧ 2 < n ∧ b2 / 64 = 2) ∧ 3 < n ∧ b3 / 64 = 2) ∧ 65536 ≤ b0 % 8 * 262144 + b1 % 64 * 4096 + b2 % 64 * 64 + b3 % 64 ∧ (b0 % 8 * 262144 + b1 % 64 * 4096 + b2 % 64 * 64 + b3 % 64 ≤ 55295 ∨ 57344 ≤ b0 % 8 * 262144 + b1 % 64 * 4096 + b2 % 64 * 64 + b3 % 64 ∧ b0 % 8 * 262144 + b1 % 64 * 4096 + b2 % 64 * 64 + b3 % 64 ≤ 1114111)
    · have e : oneQ n b0 b1 b2 b3 = ((b0 : Int) % 8 * 262144 + (b1 : Int) % 64 * 4096 + (b2 : Int) % 64 * 64 + (b3 : Int) % 64, 4) := by rw [oneQ_4 (b0 := (b0 : Int)) _ _ _ (by omega) (by omega), if_pos (by omega)]
      rw [if_pos c, e]
      simp
      omega
    · have e : oneQ n b0 b1 b2 b3 = (0, 0) := by rw [oneQ_4 (b0 := (b0 : Int)) _ _ _ (by omega) (by omega), if_neg (by omega)]
      rw [if_neg c, e]
      simp
theorem decode_one (s : ByteArray) (p : Nat) (h : p < s.size) :
    Utf8.decode s p = if (oneL ((bytesZ s).drop p)).2 = 0 then (65533, 1) else ((oneL ((bytesZ s).drop p)).1.toNat, (oneL ((bytesZ s).drop p)).2) := by
  rw [oneL_at, decode_Q]
  exact decQ_one _ _ _ _ _ (by omega) (s.get! p).toNat_lt
end Go.Proofs.YtechaplindbfoaaGreatDoor.mem
namespace Go.Proofs.YtechaplindbfoaaGreatDoor.jsn
open Go.ChangeShapes Go.WideShapes Go.ChangeAt Go.RowKit
set_option linter.unusedVariables false

def hxU (d : UInt8) : UInt8 := if d < 10 then 48 + d else 87 + d
def std (c : UInt8) : Bool := decide (32 ≤ c) && decide (c ≠ 34) && decide (c ≠ 92)
/-- what stands in a text for one byte -/
def escU (c : UInt8) : List UInt8 :=
  if c = 34 then [92, 34] else if c = 92 then [92, 92] else if c = 8 then [92, 98] else if c = 9 then [92, 116] else if c = 10 then [92, 110]
  else if c = 12 then [92, 102] else if c = 13 then [92, 114] else if 32 ≤ c then [c] else [92, 117, 48, 48, hxU (c >>> 4), hxU (c &&& 15)]
def body (l : List UInt8) : List UInt8 := l.flatMap escU
def txt (l : List UInt8) : List UInt8 := 34 :: (body l ++ [34])
theorem body_app (a b : List UInt8) : body (a ++ b) = body a ++ body b := by simp [body]
theorem body_nil : body [] = [] := rfl
theorem body_one (c : UInt8) : body [c] = escU c := by simp [body]
theorem esc_std (c : UInt8) (h : std c = true) : escU c = [c] := by
  have : ∀ n, n < 256 → std (UInt8.ofNat n) = true → escU (UInt8.ofNat n) = [UInt8.ofNat n] := by decide +kernel
  have e : UInt8.ofNat c.toNat = c := UInt8.ofNat_toNat
  have := this c.toNat (UInt8.toNat_lt c)
  rw [e] at this
  exact this h
theorem body_std : ∀ (l : List UInt8), (∀ c ∈ l, std c = true) → body l = l
  | [], _ => rfl
  | c :: l, h => by
    have e : body (c :: l) = escU c ++ body l := by simp [body]
    rw [e, esc_std c (h c (by simp)), body_std l (fun d hd => h d (by simp [hd]))]
    rfl
theorem esc_len (c : UInt8) : (escU c).length ≤ 6 := by unfold escU; repeat (first | split | simp)
theorem body_len : ∀ (l : List UInt8), (body l).length ≤ 6 * l.length
  | [] => by simp [body]
  | c :: l => by
    have e : body (c :: l) = escU c ++ body l := by simp [body]
    have := esc_len c
    have := body_len l
    rw [e, List.length_append, List.length_cons]
    omega
/-- one step of the loop where the byte stands as it is: nothing is laid -/
theorem body_step {l : List UInt8} {f i : Nat} (hf : f ≤ i) (hi : i < l.length) (h : ∀ c ∈ (l.drop f).take (i - f), std c = true) :
    body (l.take i) = body (l.take f) ++ (l.drop f).take (i - f) := by
  have e : l.take i = l.take f ++ (l.drop f).take (i - f) := by
    rw [← List.take_add]; congr 1; omega
  rw [e, body_app, body_std _ h]
theorem body_last {l : List UInt8} {f : Nat} (h : ∀ c ∈ l.drop f, std c = true) : body l = body (l.take f) ++ l.drop f := by
  have e : l = l.take f ++ l.drop f := (List.take_append_drop f l).symm
  conv => lhs; rw [e, body_app, body_std _ h]
theorem body_snoc {l : List UInt8} {i : Nat} (hi : i < l.length) : body (l.take (i + 1)) = body (l.take i) ++ escU (l.getD i 0) := by
  have e : l.take (i + 1) = l.take i ++ [l.getD i 0] := by
    rw [List.take_add_one]; simp [List.getD, hi]
  rw [e, body_app, body_one]
theorem std_more {l : List UInt8} {f i : Nat} (hf : f ≤ i) (hi : i < l.length) (h : ∀ c ∈ (l.drop f).take (i - f), std c = true) (hc : std (l.getD i 0) = true) :
    ∀ c ∈ (l.drop f).take (i + 1 - f), std c = true := by
  have e : (l.drop f).take (i + 1 - f) = (l.drop f).take (i - f) ++ [l.getD i 0] := by
    have : i + 1 - f = (i - f) + 1 := by omega
    rw [this, List.take_add_one]
    have hh : f + (i - f) = i := by omega
    simp [List.getD, hi, List.getElem?_drop, hh]
  rw [e]
  intro c hm
  rcases List.mem_append.1 hm with hm | hm
  · exact h c hm
  · simp only [List.mem_singleton] at hm
    rw [hm]; exact hc
theorem std_full {l : List UInt8} {f : Nat} (h : ∀ c ∈ (l.drop f).take (l.length - f), std c = true) : ∀ c ∈ l.drop f, std c = true := by
  rw [List.take_of_length_le (by simp)] at h
  exact h
end Go.Proofs.YtechaplindbfoaaGreatDoor.jsn
namespace Go.Proofs.YtechaplindbfoaaGreatDoor.mem
open Go.ChangeShapes Go.WideShapes Go.ChangeAt Go.RowKit
open ints (hide unhide)
set_option linter.unusedVariables false

def hpB (t p : ByteArray) : Bool := decide (p.size ≤ t.size) && ((t.extract 0 p.size).toList == p.toList)
theorem hp_in (t p : ByteArray) (w : World) (ht : t.size ≤ 9223372036854775807) (hp : p.size ≤ 9223372036854775807) :
    Calls Tryz.prog 97 #[.string t, .string p] w fun e w' => e = .returned (.bool (hpB t p)) ∧ w' = w := by
  by_cases h : p.size ≤ t.size
  · have hb := hide (show hpB t p = ((t.extract 0 p.size).toList == p.toList) from by simp [hpB, h])
    have h1 : (p.size : Int) ≤ (t.size : Int) := by omega
    go_enter Tryz.func97, Tryz.ntmps97
    go_wp2
    go_ret
    rw [unhide hb]
    exact ⟨rfl, rfl⟩
  · have hb := hide (show hpB t p = false from by simp [hpB, h])
    have h1 : ¬ (p.size : Int) ≤ (t.size : Int) := by omega
    go_enter Tryz.func97, Tryz.ntmps97
    go_wp2
    go_ret
    rw [unhide hb]
    exact ⟨rfl, rfl⟩
theorem hp_any (t p : ByteArray) (w : World) (ht : t.size ≤ 9223372036854775807) (hp : p.size ≤ 9223372036854775807) :
    Calls Tryz.prog 82 #[.string t, .string p] w fun e w' => e = .returned (.bool (hpB t p)) ∧ w' = w := by
  go_enter Tryz.func82, Tryz.ntmps82
  go_wp2_with fail
  refine (hp_in _ _ _ ht hp).mono ?_
  rintro e w' ⟨rfl, rfl⟩
  go_wp2
  go_ret
  exact ⟨rfl, rfl⟩

theorem extract_list (s : ByteArray) (a b : Nat) : (s.extract a b).data.toList = (s.data.toList.drop a).take (b - a) := by
  rw [ByteArray.data_extract, Array.toList_extract]
theorem bytesZ_extract (s : ByteArray) (a b : Nat) : bytesZ (s.extract a b) = ((bytesZ s).drop a).take (b - a) := by
  unfold bytesZ
  rw [extract_list, List.map_take, List.map_drop]
theorem hp_fffd (s : ByteArray) (p : Nat) (h : p ≤ s.size) : hpB (s.extract p s.size) ⟨#[239, 191, 189]⟩ = decide (((bytesZ s).drop p).take 3 = [239, 191, 189]) := by
  have hz : (s.extract p s.size).size = s.size - p := by simp
  have hp3 : (⟨#[239, 191, 189]⟩ : ByteArray).size = 3 := rfl
  have hl : s.data.toList.length = s.size := by rw [Array.length_toList]; rfl
  unfold hpB
  rw [hz, hp3, ByteArray.toList_eq, ByteArray.toList_eq, extract_list, extract_list]
  rw [List.take_of_length_le (l := s.data.toList.drop p) (by simp)]
  unfold bytesZ
  rw [← List.map_drop]
  have hd : (s.data.toList.drop p).length = s.size - p := by rw [List.length_drop, hl]
  rw [← hd]
  generalize s.data.toList.drop p = L
  rw [Bool.eq_iff_iff]
  match L with
  | [] => simp
  | [a] => simp
  | [a, b] => simp
  | a :: b :: c :: r =>
    simp only [List.drop_zero, Nat.sub_zero, List.length_cons, List.take_succ_cons, List.take_zero, List.map_cons, Bool.and_eq_true, decide_eq_true_eq, beq_iff_eq, List.cons.injEq, and_true]
    constructor
    · rintro ⟨_, rfl, rfl, rfl⟩
      exact ⟨rfl, rfl, rfl⟩
    · rintro ⟨h1, h2, h3⟩
      refine ⟨by omega, ?_, ?_, ?_⟩
      all_goals apply UInt8.toNat_inj.1
      · show _ = 239
        omega
      · show _ = 191
        omega
      · show _ = 189
        omega
theorem put_fffd : putB 65533 = [239, 191, 189] := by decide
theorem hp_yes (s : ByteArray) (p : Nat) (h : p ≤ s.size) (ho : (oneL ((bytesZ s).drop p)).2 ≠ 0) (hc : (oneL ((bytesZ s).drop p)).1 = 65533) : hpB (s.extract p s.size) ⟨#[239, 191, 189]⟩ = true := by
  rw [hp_fffd s p h, decide_eq_true_iff]
  obtain ⟨h1, h2, h3⟩ := one_back _ (byt_drop (bytesZ_byt s) p) ho
  rw [hc, put_fffd] at h2
  rw [h2]
  rfl
theorem hp_no (s : ByteArray) (p : Nat) (h : p ≤ s.size) (ho : (oneL ((bytesZ s).drop p)).2 = 0) : hpB (s.extract p s.size) ⟨#[239, 191, 189]⟩ = false := by
  rw [hp_fffd s p h, decide_eq_false_iff_not]
  intro e
  have h1 : (oneL (putB 65533 ++ ((bytesZ s).drop p).drop 3)).2 = 3 := by rw [one_put 65533 (by unfold scP; omega)]; rfl
  rw [put_fffd, ← e, List.take_append_drop, ho] at h1
  cases h1
theorem below_iter (w : World) (s : ByteArray) (p : Nat) : Below w.heap.size w (w.iter s p) := (Below.refl _ _).alloc (Nat.le_refl _) _
set_option maxHeartbeats 1000000 in
theorem good_any (s : ByteArray) (w : World) (hs : s.size ≤ 9223372036854775807) :
    Calls Tryz.prog 58 #[.string s] w fun e w' => e = .returned (.int .i64 ((decZ (bytesZ s)).2 : Int)) ∧ Below w.heap.size w w' := by
  go_enter Tryz.func58, Tryz.ntmps58
  go_wp2
  go_loopw [3] (fun _ wr => ∃ pos f : Nat, wr = w.iter s pos ∧ pos ≤ s.size ∧ s.size - pos ≤ f ∧ Hid (pos + (decF f ((bytesZ s).drop pos)).2 = (decZ (bytesZ s)).2)) (fun _ wr => s.size - wr.iterPos w.heap.size)
  case atStart => exact ⟨0, (bytesZ s).length, rfl, Nat.zero_le _, by rw [bytesZ_len]; omega, hide (by simp [decZ])⟩
  case round =>
    obtain ⟨pos, f, rfl, hpl, hf, hr⟩ := hrel
    by_cases hp : pos < s.size
    · have hd := hide (decode_one s pos hp)
      obtain ⟨ch, wd, hdec⟩ : ∃ ch wd : Nat, Utf8.decode s pos = (ch, wd) := ⟨_, _, rfl⟩
      have hnx : ∀ ty, (Instr.next (.pointer (some ⟨w.heap.size, 0, none⟩)) true ty).run Tryz.prog (w.iter s pos) = .ok (.tuple #[.bool true, .int .i64 pos, .int .i32 (ch : Int)]) (w.iter s (pos + wd)) := fun ty => by
        have := run_next_any (P := Tryz.prog) w s pos ty hp
        rw [hdec] at this
        exact this
      rw [hdec] at hd
      have hex : (s.extract pos s.size).size ≤ 9223372036854775807 := by simp; omega
      by_cases ho : (oneL ((bytesZ s).drop pos)).2 = 0
      · have hd' := unhide hd
        rw [if_pos ho] at hd'
        simp only [Prod.mk.injEq] at hd'
        obtain ⟨rfl, rfl⟩ := hd'
        have hfin := hide (show (decZ (bytesZ s)).2 = pos from by have := unhide hr; rw [decF_end _ _ ho] at this; simpa using this.symm)
        have hh := hide (hp_no s pos (by omega) ho)
        clear hd hdec ho hr
        go_wp2_with fail
        refine (hp_any _ _ _ hex (by show 3 ≤ _; omega)).mono ?_
        rintro e w' ⟨rfl, rfl⟩
        rw [unhide hh]
        go_wp2
        go_ret
        rw [unhide hfin]
        exact ⟨rfl, below_iter _ _ _⟩
      · have hd' := unhide hd
        rw [if_neg ho] at hd'
        simp only [Prod.mk.injEq] at hd'
        obtain ⟨hch, hwd⟩ := hd'
        obtain ⟨f', rfl⟩ : ∃ f', f = f' + 1 := ⟨f - 1, by omega⟩
        obtain ⟨hsc, _, _⟩ := one_back _ (byt_drop (bytesZ_byt s) pos) ho
        have hle := oneL_le ((bytesZ s).drop pos)
        rw [List.length_drop, bytesZ_len] at hle
        have hstep := hide (show pos + wd + (decF f' ((bytesZ s).drop (pos + wd))).2 = (decZ (bytesZ s)).2 from by
          have := unhide hr
          rw [decF_go _ _ ho] at this
          simp only at this
          rw [← hwd, List.drop_drop] at this
          omega)
        have w1 : 1 ≤ wd := by omega
        have w2 : pos + wd ≤ s.size := by omega
        have hcz : (ch : Int) = (oneL ((bytesZ s).drop pos)).1 := by unfold scP at hsc; omega
        by_cases hff : ch = 65533
        · have hh := hide (hp_yes s pos (by omega) ho (by omega))
          have hb : ((ch : Int) == 65533) = true := by simp; omega
          clear hd hdec ho hr hch hwd hsc hcz hle hff
          go_wp2_with fail
          refine (hp_any _ _ _ hex (by show 3 ≤ _; omega)).mono ?_
          rintro e w' ⟨rfl, rfl⟩
          rw [unhide hh]
          go_wp2
          go_roundw
          case rel => exact ⟨pos + wd, f', rfl, w2, by omega, hstep⟩
          case measure => simp; omega
        · have hb : ((ch : Int) == 65533) = false := by simp; omega
          clear hd hdec ho hr hch hwd hsc hcz hle hff
          go_wp2
          go_roundw
          case rel => exact ⟨pos + wd, f', rfl, w2, by omega, hstep⟩
          case measure => simp; omega
    · have hfin := hide (show (decZ (bytesZ s)).2 = s.size from by
        have := unhide hr
        have e : (bytesZ s).drop pos = [] := List.drop_eq_nil_of_le (by rw [bytesZ_len]; omega)
        rw [decF_end _ _ (by rw [e]; rfl)] at this
        simp at this
        omega)
      have hnx : ∀ ty, (Instr.next (.pointer (some ⟨w.heap.size, 0, none⟩)) true ty).run Tryz.prog (w.iter s pos) = .ok (.tuple #[.bool false]) (w.iter s pos) := fun ty => run_next_end w s pos ty hp
      clear hr
      go_wp2
      go_ret
      rw [unhide hfin]
      exact ⟨rfl, below_iter _ _ _⟩
end Go.Proofs.YtechaplindbfoaaGreatDoor.mem
