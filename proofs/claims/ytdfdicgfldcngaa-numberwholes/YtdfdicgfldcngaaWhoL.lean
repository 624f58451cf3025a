import Derived.Test.YtdfdicgfldcngaaSamL
import Derived.Deep.RegionHeld3
namespace Go.Proofs.Ytdfdicgfldcngaa.mem
open Go.ChangeShapes Go.WideShapes Go.ChangeAt Go.RowKit
open ints (hide unhide)
set_option linter.unusedVariables false

def sgnX (x : Nat) : Bool := decide (9223372036854775808 ≤ x)
def rngX (x : Nat) : Nat := x % 9223372036854775808
theorem whole_nat (x : Nat) (w : World) (h : x < 18446744073709551616) :
    Calls Try.prog 7 #[.float .f64 x] w fun e w' => e = .returned (.tuple #[.int .i64 (wholeV (sgnX x) (rngX x)), .bool (okW (sgnX x) (rngX x))]) ∧ w' = w := by
  have := whole_any (sgnX x) (rngX x) w (by unfold rngX; omega)
  unfold sgnX rngX at *
  rw [word_of x h] at this
  exact this
theorem aw1 : wholeV (sgnX 13839561654909534208) (rngX 13839561654909534208) = -4 ∧ okW (sgnX 13839561654909534208) (rngX 13839561654909534208) = true := by decide +kernel
theorem aw2 : fOf 5 = 4617315517961601024 ∧ jst 5 = true := by decide +kernel
theorem aw3 : (FloatKind.f64.format.order 4617315517961601024 4617315517961601024 != some Ordering.eq) = false := by decide +kernel
theorem aw4 : fitB (-2147483648) = true := by decide
theorem aw5 : sameB 4602678819172646912 4602678819172646912 = true := by decide +kernel
theorem wf_u64 {zs : List Int} (h : ∀ z ∈ zs, (Lit.int .u64 z).wf = true) : ∀ z ∈ zs, 0 ≤ z ∧ z < 18446744073709551616 := fun z hz => by
  have := h z hz
  simp [Lit.wf, IntKind.min, IntKind.max, IntKind.signed, IntKind.bits] at this
  omega
theorem wf_i64 {zs : List Int} (h : ∀ z ∈ zs, (Lit.int .i64 z).wf = true) : ∀ z ∈ zs, -9223372036854775808 ≤ z ∧ z ≤ 9223372036854775807 := fun z hz => by
  have := h z hz
  simp [Lit.wf, IntKind.min, IntKind.max, IntKind.signed, IntKind.bits] at this
  omega
set_option maxRecDepth 4000 in
set_option maxHeartbeats 4000000 in
theorem numberWholes_true (a a' : Option Addr) (n c n' c' : Nat) (zs ys : List Int) (w : World) (h : Row .u64 w a n c zs) (h' : Row .i64 w a' n' c' ys)
    (hz : ∀ z ∈ zs, 0 ≤ z ∧ z < 18446744073709551616) (hy : ∀ z ∈ ys, -9223372036854775808 ≤ z ∧ z ≤ 9223372036854775807) (hn : n ≤ 140737488351232) (hn' : n' ≤ 140737488351232) :
    Calls Try.prog 4 #[.slice a n c, .slice a' n' c'] w fun e w' => e = .returned (.bool true) ∧ Below w.heap.size w w' := by
  have A1 := hide (whole_nat 13839561654909534208 w (by decide))
  rw [aw1.1, aw1.2] at A1
  have A2 := hide (ofWhole_any 5 w (by decide) (by decide))
  rw [aw2.1, aw2.2] at A2
  have A4 := hide (fits_any (-2147483648) w)
  rw [aw4] at A4
  have A5 := hide (same_any 4602678819172646912 4602678819172646912 w (by decide) (by decide))
  rw [aw5] at A5
  have A3 := aw3
  have HZ := hide hz
  have HY := hide hy
  have HL := hide h.len
  have HL' := hide h'.len
  clear hz hy
  go_enter Try.func4, Try.ntmps4
  go_wp2_with fail
  refine (unhide A1).mono ?_
  rintro e w1 ⟨rfl, rfl⟩
  go_wp2_with fail
  refine (unhide A2).mono ?_
  rintro e w2 ⟨rfl, rfl⟩
  go_wp2_with fail
  refine (unhide A4).mono ?_
  rintro e w3 ⟨rfl, rfl⟩
  go_wp2_with fail
  refine (unhide A5).mono ?_
  rintro e w4 ⟨rfl, rfl⟩
  clear A1 A2 A4 A5
  go_wp2
  go_loopw [9] (fun x wr => ∃ k : Nat, k ≤ n ∧ x = .int .i64 k ∧ Below w4.heap.size w4 wr) (fun x _ => n - (intOf x).toNat)
  case atStart => exact ⟨0, Nat.zero_le _, rfl, Below.refl _ _⟩
  case round =>
    obtain ⟨k, hk, rfl, hbel⟩ := hrel
    by_cases hlt : k < n
    · have ki : (k : Int) < (n : Int) := by omega
      rcases h.at_ with h0 | ⟨b, off, rfl, hbw, hcell⟩
      · omega
      obtain ⟨J, hJ⟩ : ∃ J, J = (k + 1) % n := ⟨_, rfl⟩
      have hJn : J < n := by rw [hJ]; exact Nat.mod_lt _ (by omega)
      have hJi : ((k : Int) + 1) % (n : Int) = (J : Int) := by rw [hJ, Int.natCast_emod, Int.natCast_add]; rfl
      have hJl : (J : Int) < (n : Int) := by omega
      have hn0 : ((n : Int) == 0) = false := by simp; omega
      have c1 := (hbel.cell (p := ⟨b, off + k, none⟩) hbw).trans (hcell k hlt)
      have c2 := (hbel.cell (p := ⟨b, off + J, none⟩) hbw).trans (hcell J hJn)
      have z1 := (unhide HZ) _ (getD_mem0 (zs := zs) (k := k) (by rw [unhide HL]; exact hlt))
      have z2 := (unhide HZ) _ (getD_mem0 (zs := zs) (k := J) (by rw [unhide HL]; exact hJn))
      obtain ⟨A, hA⟩ : ∃ A : Nat, zs.getD k 0 = (A : Int) := ⟨(zs.getD k 0).toNat, by omega⟩
      obtain ⟨B, hB⟩ : ∃ B : Nat, zs.getD J 0 = (B : Int) := ⟨(zs.getD J 0).toNat, by omega⟩
      rw [hA] at c1 z1
      rw [hB] at c2 z2
      have hA1 : A < 18446744073709551616 := by omega
      have hB1 : B < 18446744073709551616 := by omega
      have FA := fun W => run_frombits A W
      have FB := fun W => run_frombits B W
      have W1 := hide (fun W => whole_nat A W hA1)
      have W2 := hide (fun W => wholeBits_any A W hA1 (sgnX A) (rngX A) rfl rfl)
      have W3 := hide (fun W => same_any A B W hA1 hB1)
      have W4 := hide (fun W => sameBits_any A B W hA1 hB1)
      have W5 := hide (fun W => same_any A A W hA1 hA1)
      have hAA : sameB A A = true := by unfold sameB; simp
      rw [hAA] at W5
      have HWV := hide (show wholeV (sgnX A) (rngX A) = if okW (sgnX A) (rngX A) then valW (sgnX A) (rngX A) else 0 from rfl)
      clear hcell hJ hA hB z1 z2 hA1 hB1 hAA
      generalize okW (sgnX A) (rngX A) = OK at *
      generalize wholeV (sgnX A) (rngX A) = V at *
      generalize valW (sgnX A) (rngX A) = V2 at *
      generalize sameB A B = SM at *
      have hwj : IntKind.i64.wrap ((k : Int) + 1) = (k : Int) + 1 := IntWalk.i64_in _ ⟨by omega, by omega⟩
      have hnI : ¬ (n : Int) = 0 := by omega
      have hnN : ¬ n = 0 := by omega
      have hrem : Int.tmod ((k : Int) + 1) (n : Int) = (J : Int) := by rw [Int.tmod_eq_emod_of_nonneg (by omega)]; exact hJi
      have hwJ : IntKind.i64.wrap (J : Int) = (J : Int) := IntWalk.i64_in _ ⟨by omega, by omega⟩
      have hk0 : (0 : Int) ≤ (k : Int) := by omega
      have hJ0 : (0 : Int) ≤ (J : Int) := by omega
      go_wp2
      go_region_held3 (fun w' => w'.cell? ⟨b, off + k, none⟩ = some (.int .u64 (A : Int)) ∧ w'.cell? ⟨b, off + J, none⟩ = some (.int .u64 (B : Int))) (go_keep) (fail)
      clear hwj hrem hwJ hk0 hJ0 hnI hnN hn0 hJi hJl c1 c2
      have hb5 := hbel.drew
      go_wp2_with fail
      refine (unhide W1 _).mono ?_
      rintro e w5 ⟨rfl, rfl⟩
      go_wp2_with fail
      refine (unhide W2 _).mono ?_
      rintro e w6 ⟨⟨v, rfl, hv⟩, b6⟩
      have hb6 := hb5.trans (b6.mono (by have := hb5.size; exact this))
      clear W1 W2 b6
      cases OK
      · have hV0 : V = 0 := unhide HWV
        subst hV0
        clear hv HWV
        go_wp2_with fail
        refine (unhide W3 _).mono ?_
        rintro e w7 ⟨rfl, rfl⟩
        go_wp2_with fail
        refine (unhide W4 _).mono ?_
        rintro e w8 ⟨rfl, rfl⟩
        go_wp2_with fail
        refine (unhide W5 _).mono ?_
        rintro e w9 ⟨rfl, rfl⟩
        clear W3 W4 W5 FA FB
        go_wp2
        go_roundw
        case rel => exact ⟨k + 1, by omega, by go_num, hb6⟩
        case measure => simp [intOf]; omega
      · have hVV : v = V := by rw [hv rfl]; exact (unhide HWV).symm
        subst hVV
        clear hv HWV
        go_wp2_with fail
        refine (unhide W3 _).mono ?_
        rintro e w7 ⟨rfl, rfl⟩
        go_wp2_with fail
        refine (unhide W4 _).mono ?_
        rintro e w8 ⟨rfl, rfl⟩
        go_wp2_with fail
        refine (unhide W5 _).mono ?_
        rintro e w9 ⟨rfl, rfl⟩
        clear W3 W4 W5 FA FB
        go_wp2
        go_roundw
        case rel => exact ⟨k + 1, by omega, by go_num, hb6⟩
        case measure => simp [intOf]; omega
    · have ki : ¬ (k : Int) < (n : Int) := by omega
      go_wp2
      go_loopw [16] (fun x wr => ∃ k : Nat, k ≤ n' ∧ x = .int .i64 k ∧ Below w4.heap.size w4 wr) (fun x _ => n' - (intOf x).toNat)
      case atStart => exact ⟨0, Nat.zero_le _, rfl, hbel⟩
      case round =>
        clear hbel hlt hk ki
        obtain ⟨k, hk, rfl, hbel⟩ := hrel
        by_cases hlt : k < n'
        · have ki : (k : Int) < (n' : Int) := by omega
          rcases h'.at_ with h0 | ⟨b, off, rfl, hbw, hcell⟩
          · omega
          have HC := hide (show ∀ W, Below w4.heap.size w4 W → W.cell? ⟨b, off + k, none⟩ = some (.int .i64 (ys.getD k 0)) from fun W hW => (hW.cell (p := ⟨b, off + k, none⟩) hbw).trans (hcell k hlt))
          have z1 := (unhide HY) _ (getD_mem0 (zs := ys) (k := k) (by rw [unhide HL']; exact hlt))
          obtain ⟨y, hyy⟩ : ∃ y, y = ys.getD k 0 := ⟨_, rfl⟩
          rw [← hyy] at HC z1
          clear hcell hyy
          have c1 := unhide HC _ hbel
          have W1 := hide (fun W => ofWhole_any y W z1.1 z1.2)
          have W2 := hide (fun W => ofWholeBits_any y W z1.1 z1.2)
          have W3 := hide (fun W => fits_any y W)
          have W4 := hide (fun W => refFits_any y W)
          have TB := fun W => run_tobits (fOf y) W
          clear z1
          generalize fOf y = F at *
          generalize jst y = JJ at *
          generalize fitB y = FF at *
          go_wp2_with fail
          refine (unhide W1 _).mono ?_
          rintro e w5 ⟨rfl, rfl⟩
          go_wp2_with fail
          refine (unhide W2 _).mono ?_
          rintro e w6 ⟨rfl, b6⟩
          have hb6 := hbel.trans (b6.mono hbel.size)
          clear W1 W2 b6 c1
          have c1 := unhide HC _ hb6
          have hk0 : (0 : Int) ≤ (k : Int) := by omega
          go_wp2_with fail
          go_region_held3 (fun w' => w'.cell? ⟨b, off + k, none⟩ = some (.int .i64 y)) (go_keep)
            (first
              | (go_at_call 9; refine (unhide W3 _).mono ?_; rintro e w7 ⟨rfl, rfl⟩)
              | (go_at_call 16; refine (unhide W4 _).mono ?_; rintro e w8 ⟨rfl, rfl⟩))
          all_goals go_wp2
          all_goals go_roundw
          case rel => exact ⟨k + 1, by omega, by go_num, hb6.drew⟩
          case measure => simp [intOf]; omega
        · have ki : ¬ (k : Int) < (n' : Int) := by omega
          go_wp2
          go_ret
          exact ⟨rfl, hbel⟩
end Go.Proofs.Ytdfdicgfldcngaa.mem
