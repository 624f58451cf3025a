import Derived.Test.YtdfdicgfldcngaaWhW
import Derived.Test.YtdfdicgfldcngaaRdZ
namespace Go.Proofs.Ytdfdicgfldcngaa.mem
open Go.ChangeShapes Go.WideShapes Go.ChangeAt Go.RowKit
open ints (hide unhide)
set_option linter.unusedVariables false

/-- float64(n). -/
def fOf (n : Int) : Nat := Ieee.double.nearest (decide (n < 0)) n.natAbs 0
def rOf (n : Int) : Nat := if n.natAbs = 0 then 0 else roundR (n.natAbs * k74) 1 (loN n.natAbs)
theorem fOf_word (n : Int) (h : n.natAbs < 2 ^ 64) : fOf n = Ieee.double.word (decide (n < 0)) (rOf n) := by
  unfold fOf rOf
  by_cases h0 : n.natAbs = 0
  · rw [if_pos h0, h0]; rfl
  · rw [if_neg h0, nearest_int _ h0 h]
theorem rOf_lt (n : Int) (h : n.natAbs < 2 ^ 64) : rOf n < 9218868437227405312 := by
  unfold rOf
  by_cases h0 : n.natAbs = 0
  · rw [if_pos h0]; decide
  · rw [if_neg h0]
    have := roundR_le (n.natAbs * k74) 1 (loN n.natAbs)
    have := loN_le h0 h
    omega
theorem word_lt (ng : Bool) (r : Nat) (h : r < 9223372036854775808) : Ieee.double.word ng r < 18446744073709551616 ∧ decide (9223372036854775808 ≤ Ieee.double.word ng r) = ng ∧ Ieee.double.word ng r % 9223372036854775808 = r := by
  have hs : Ieee.double.signWeight = 9223372036854775808 := by rfl
  unfold Ieee.Format.word
  rw [hs]
  cases ng
  · refine ⟨by simp; omega, by simp; omega, by simp; omega⟩
  · refine ⟨by simp; omega, by simp, by simp; omega⟩
def jst (n : Int) : Bool := okW (decide (n < 0)) (rOf n) && (wholeV (decide (n < 0)) (rOf n) == n)
theorem ofWhole_any (n : Int) (w : World) (h0 : -9223372036854775808 ≤ n) (h1 : n ≤ 9223372036854775807) :
    Calls Try.prog 8 #[.int .i64 n] w fun e w' => e = .returned (.tuple #[.float .f64 (fOf n), .bool (jst n)]) ∧ w' = w := by
  have hw := fOf_word n (by omega)
  have hl := rOf_lt n (by omega)
  have W := hide (whole_any (decide (n < 0)) (rOf n) w (by omega))
  rw [← hw] at W
  have HJ := hide (show jst n = (okW (decide (n < 0)) (rOf n) && (wholeV (decide (n < 0)) (rOf n) == n)) from rfl)
  have hcv : ∀ W', (convert 2 36 (.int .i64 n)).run Try.prog W' = .ok (.float .f64 (fOf n)) W' := fun W' => by
    rw [run_convert_int_float (P := Try.prog) W' 2 36 .i64 .f64 n (by rw [Try.underlying2]; rfl) Try.underlying36]
    rfl
  generalize okW (decide (n < 0)) (rOf n) = OK at *
  generalize wholeV (decide (n < 0)) (rOf n) = V at *
  generalize fOf n = F at *
  clear hw hl
  cases OK
  · cases hv : (V == n)
    all_goals
      go_enter Try.func8, Try.ntmps8
      go_wp2_with fail
      refine (unhide W).mono ?_
      rintro e w1 ⟨rfl, rfl⟩
      go_wp2
      go_ret2
      exact ⟨by rw [unhide HJ, hv]; rfl, rfl⟩
  · cases hv : (V == n)
    all_goals
      go_enter Try.func8, Try.ntmps8
      go_wp2_with fail
      refine (unhide W).mono ?_
      rintro e w1 ⟨rfl, rfl⟩
      go_wp2
      go_ret2
      exact ⟨by rw [unhide HJ, hv]; rfl, rfl⟩
theorem sign_text (n : Int) (k : Nat) (hk : k ≤ 20) : bytesZ (strOfNums (signL n ++ topD n.natAbs k)) = (if decide (n < 0) then [45] else []) ++ topD n.natAbs k := by
  rw [bytesZ_str]
  · unfold signL
    by_cases h : n < 0 <;> simp [h]
  · intro z hz
    rcases List.mem_append.1 hz with h | h
    · unfold signL at h
      split at h
      · simp at h; omega
      · simp at h
    · exact dig_byt (topD_dig _ _) z h
theorem jst_zero : jst 0 = true := by
  have hr : rOf 0 = 0 := rfl
  have hv : vR 0 = 0 := rfl
  have ho : okW (decide ((0 : Int) < 0)) (rOf 0) = true := by
    rw [hr]; unfold okW; rw [hv]; simp
  unfold jst wholeV
  rw [ho]
  simp only [if_true]
  unfold valW
  rw [hr, hv]
  simp
set_option maxRecDepth 4000 in
theorem ofWholeBits_any (n : Int) (w : World) (h0 : -9223372036854775808 ≤ n) (h1 : n ≤ 9223372036854775807) :
    Calls Try.prog 14 #[.int .i64 n] w fun e w' => e = .returned (.tuple #[.int .u64 (fOf n : Nat), .bool (jst n)]) ∧ Below w.heap.size w w' := by
  by_cases hz : n = 0
  · subst hz
    have HJ := hide jst_zero
    have HF := hide (show fOf 0 = 0 from rfl)
    go_enter Try.func14, Try.ntmps14
    go_wp2
    go_ret2
    exact ⟨by rw [unhide HJ, unhide HF]; rfl, Below.refl _ _⟩
  · have hzi : (n == 0) = false := by simpa using hz
    have hw := fOf_word n (by omega)
    have hl := rOf_lt n (by omega)
    obtain ⟨l1, l2, l3⟩ := word_lt (decide (n < 0)) (rOf n) (by omega)
    rw [← hw] at l1 l2 l3
    have WT := hide (fun W => wholeText_any n W h0 h1)
    have RB := hide (fun (k : Nat) (hk : Dec10 n.natAbs k) W => readBits_whole (strOfNums (signL n ++ topD n.natAbs k)) (decide (n < 0)) n.natAbs k W (by omega) (by omega) hk (sign_text n k hk.le))
    have WB := hide (fun W => wholeBits_any (fOf n) W l1 (decide (n < 0)) (rOf n) l2.symm l3.symm)
    have HJ := hide (show jst n = (okW (decide (n < 0)) (rOf n) && (wholeV (decide (n < 0)) (rOf n) == n)) from rfl)
    have HWV := hide (show okW (decide (n < 0)) (rOf n) = true → wholeV (decide (n < 0)) (rOf n) = valW (decide (n < 0)) (rOf n) from fun h => by unfold wholeV; rw [h]; rfl)
    have HFO := hide (show Ieee.double.nearest (decide (n < 0)) n.natAbs 0 = fOf n from rfl)
    rw [unhide HFO] at RB
    clear hw hl l1 l2 l3 hz h0 h1
    generalize okW (decide (n < 0)) (rOf n) = OK at *
    generalize wholeV (decide (n < 0)) (rOf n) = V at *
    generalize valW (decide (n < 0)) (rOf n) = V2 at *
    generalize fOf n = F at *
    go_enter Try.func14, Try.ntmps14
    go_wp2_with fail
    refine (unhide WT _).mono ?_
    rintro e w1 ⟨k, hk, rfl, b1⟩
    have R1 := hide (unhide RB k hk w1)
    generalize strOfNums (signL n ++ topD n.natAbs k) = S at *
    clear WT RB hk
    go_wp2_with fail
    refine (unhide R1).mono ?_
    rintro e w2 ⟨rfl, b2⟩
    have hb2 := b1.trans (b2.mono b1.size)
    clear R1 b1 b2
    go_wp2_with fail
    refine (unhide WB w2).mono ?_
    rintro e w3 ⟨⟨v, rfl, hv⟩, b3⟩
    have hb3 := hb2.trans (b3.mono hb2.size)
    clear WB b3 hb2
    cases OK
    · clear hv
      go_wp2
      go_ret2
      exact ⟨by rw [unhide HJ]; rfl, hb3⟩
    · have hv2 : v = V := by rw [hv rfl, unhide HWV rfl]
      subst hv2
      clear hv
      cases hvn : (v == n)
      all_goals
        go_wp2
        go_ret2
        exact ⟨by rw [unhide HJ, hvn]; rfl, hb3⟩
end Go.Proofs.Ytdfdicgfldcngaa.mem
