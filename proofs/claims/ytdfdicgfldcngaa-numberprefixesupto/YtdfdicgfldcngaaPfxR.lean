import Derived.Test.YtdfdicgfldcngaaBase
import Derived.Test.YtdfdicgfldcngaaPfxS
namespace Go.Proofs.Ytdfdicgfldcngaa.mem
open Go.ChangeShapes Go.WideShapes Go.ChangeAt Go.RowKit
open ints (hide unhide)
set_option linter.unusedVariables false

theorem stepZ_le (st c : Int) : -1 ≤ stepZ st c ∧ stepZ st c ≤ 8 := by
  unfold stepZ
  repeat' split
  all_goals omega
theorem formZ_le (st : Int) : 0 ≤ formZ st ∧ formZ st ≤ 2 := by
  unfold formZ
  repeat' split
  all_goals omega
theorem refPrefix_out (a : Option Addr) (n c : Nat) (i : Int) (w : World) (hi : i < 0 ∨ (n : Int) < i) :
    Calls Try.prog 22 #[.slice a n c, .int .i64 i] w fun e w' => e = .returned (.tuple #[.int .i64 0, .int .i64 0, .int .i64 0]) ∧ Below w.heap.size w w' := by
  go_enter Try.func22, Try.ntmps22
  by_cases h0 : i < 0
  · go_wp2
    go_ret3
    exact ⟨rfl, Below.refl _ _⟩
  · have h1 : (n : Int) < i := by omega
    go_wp2
    go_ret3
    exact ⟨rfl, Below.refl _ _⟩
theorem refPrefix_in (a : Option Addr) (n c : Nat) (l : List Int) (p : Nat) (w : World) (h : Row .i32 w a n c l) (hn : n ≤ 4611686018427387900) (hp : p ≤ n) :
    Calls Try.prog 22 #[.slice a n c, .int .i64 (p : Int)] w fun e w' => e = .returned (.tuple #[.int .i64 ((pfx l p).1 : Nat), .int .i64 ((pfx l p).2.1 : Nat), .int .i64 (pfx l p).2.2]) ∧ Below w.heap.size w w' := by
  have h0 : ¬ (p : Int) < 0 := by omega
  have h1 : ¬ (n : Int) < (p : Int) := by omega
  go_enter Try.func22, Try.ntmps22
  go_wp2
  go_loopw [7, 8, 9, 10] (fun e f st k wr => ∃ (E K : Nat) (F S : Int), K ≤ n ∧ e = .int .i64 E ∧ f = .int .i64 F ∧ st = .int .i64 S ∧ k = .int .i64 K ∧ 0 ≤ S ∧ S ≤ 8 ∧ Hid (run l 0 p 0 p = run l S E F K) ∧ Below w.heap.size w wr) (fun _ _ _ k _ => n - (intOf k).toNat)
  case atStart => exact ⟨p, p, 0, 0, hp, rfl, rfl, rfl, rfl, by omega, by omega, hide rfl, Below.refl _ _⟩
  case round =>
    obtain ⟨E, K, F, S, hK, rfl, rfl, rfl, rfl, s0, s8, HR, hbel⟩ := hrel
    have HL := hide h.len
    have HPF := hide (pfx_run l p (by rw [h.len]; exact hp))
    by_cases hlt : K < n
    · rcases h.at_ with h0 | ⟨b, off, rfl, hbw, hcell⟩
      · omega
      have c1 := (hbel.cell (p := ⟨b, off + K, none⟩) hbw).trans (hcell K hlt)
      have HY := hide (show l.getD K 0 = l.getD K 0 from rfl)
      have ki : (K : Int) < (n : Int) := by omega
      obtain ⟨y, hy⟩ : ∃ y, y = l.getD K 0 := ⟨_, rfl⟩
      rw [← hy] at c1
      have Hy := hide hy
      clear hy hcell HY
      have hle := stepZ_le S y
      go_wp2_with fail
      refine (step_any S y s0 s8 wr).mono ?_
      rintro e w1 ⟨rfl, b1⟩
      have b1 := hbel.trans (b1.mono hbel.size)
      obtain ⟨T, hT⟩ : ∃ T, T = stepZ S y := ⟨_, rfl⟩
      rw [← hT] at hle ⊢
      have HT := hide (show stepZ S (l.getD K 0) = T from by rw [hT, unhide Hy])
      clear hT
      by_cases ht : T < 0
      · have HB := hide (show pfx l p = (E, K, F) from by rw [← unhide HPF, unhide HR]; exact run_bad (by rw [unhide HL]; exact hlt) (by rw [unhide HT]; exact ht) _ _)
        go_wp2
        go_ret3
        exact ⟨by rw [unhide HB]; rfl, b1⟩
      · have hfl := formZ_le T
        go_wp2_with fail
        refine (form_any T (by omega) hle.2 w1).mono ?_
        rintro e w2 ⟨rfl, b2⟩
        have b2 := b1.trans (b2.mono b1.size)
        by_cases hf : formZ T = 0
        · have HG := hide (show run l S E F K = run l T E F (K + 1) from run_go (by rw [unhide HL]; exact hlt) (unhide HT) (by omega) hf _ _)
          have hfi : (formZ T != 0) = false := by simp [hf]
          clear hf
          go_wp2
          go_roundw
          case rel => exact ⟨E, K + 1, F, T, by omega, rfl, rfl, rfl, by go_num, by omega, hle.2, hide (by rw [unhide HR, unhide HG]), b2⟩
          case measure => simp [intOf]; omega
        · have HG := hide (show run l S E F K = run l T (K + 1) (formZ T) (K + 1) from run_take (by rw [unhide HL]; exact hlt) (unhide HT) (by omega) hf _ _)
          have hfi : (formZ T != 0) = true := by simpa using hf
          clear hf
          go_wp2
          go_roundw
          case rel => exact ⟨K + 1, K + 1, formZ T, T, by omega, by go_num, rfl, rfl, by go_num, by omega, hle.2, hide (by rw [unhide HR, unhide HG]), b2⟩
          case measure => simp [intOf]; omega
    · have ki : ¬ (K : Int) < (n : Int) := by omega
      have HB := hide (show pfx l p = (E, n, F) from by rw [← unhide HPF, unhide HR, run_end (by rw [unhide HL]; exact hlt), unhide HL])
      go_wp2
      go_ret3
      exact ⟨by rw [unhide HB]; rfl, hbel⟩
def pfxI (l : List Int) (i : Int) : Nat × Nat × Int := if i < 0 ∨ (l.length : Int) < i then (0, 0, 0) else pfx l i.toNat
theorem refPrefix_any (a : Option Addr) (n c : Nat) (l : List Int) (i : Int) (w : World) (h : Row .i32 w a n c l) (hn : n ≤ 4611686018427387900) :
    Calls Try.prog 22 #[.slice a n c, .int .i64 i] w fun e w' => e = .returned (.tuple #[.int .i64 ((pfxI l i).1 : Nat), .int .i64 ((pfxI l i).2.1 : Nat), .int .i64 (pfxI l i).2.2]) ∧ Below w.heap.size w w' := by
  unfold pfxI
  rw [h.len]
  by_cases hi : i < 0 ∨ (n : Int) < i
  · rw [if_pos hi]; exact refPrefix_out a n c i w hi
  · rw [if_neg hi]
    have e : i = (i.toNat : Int) := by omega
    have := refPrefix_in a n c l i.toNat w h hn (by omega)
    rw [← e] at this
    exact this
end Go.Proofs.Ytdfdicgfldcngaa.mem
