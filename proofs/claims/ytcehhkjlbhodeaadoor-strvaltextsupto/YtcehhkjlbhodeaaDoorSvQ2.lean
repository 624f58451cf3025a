import Derived.Test.YtcehhkjlbhodeaaDoorSvQ1
import Derived.Test.YtcehhkjlbhodeaaDoorShelf3
import Derived.Laws.Runes
import Derived.WalkMore
import Derived.Deep.QuietTactic
namespace Go.Proofs.YtcehhkjlbhodeaaDoor.sv
open Go.ChangeShapes Go.WideShapes Go.ChangeAt Go.RowKit
open mem
open ints (hide unhide)
set_option linter.unusedVariables false
/-- What a call that only looks leaves. -/
def Qt (w w' : World) : Prop := Below w.heap.size w w' ∧ (∀ b, Kp b w w') ∧ ∀ B b zs, Bld B b zs w → Bld B b zs w'
theorem Qt.refl (w : World) : Qt w w := ⟨Below.refl _ _, fun b => Lib.OthersKept.refl _ _ _, fun _ _ _ h => h⟩
theorem Qt.drewN (w : World) (n : Nat) : Qt w (w.drewN n) := ⟨below_drewN (Below.refl _ _) n, fun b => (Lib.OthersKept.refl _ _ _ : Lib.OthersKept _ _ w w), fun _ _ _ h => h⟩
theorem Qt.alloc (w : World) (o : Obj) : Qt w (w.alloc o) := ⟨(Below.refl _ _).alloc (Nat.le_refl _) _, fun b => (Lib.OthersKept.refl _ _ _).alloc _, fun _ _ _ h => Lib.IsBuilderF.alloc h _⟩
def escM : ByteArray := ⟨#[34, 92, 8, 12, 10, 13, 9, 47]⟩
theorem inB_ret {id : Nat} {Q : Exit → Act → World → Prop} {a : Act} {w : World} : Exit.inBlock id Q .ret a w = Q .ret a w := rfl
theorem th_ret {n : Act → World → Prop} {Q : Exit → Act → World → Prop} {a : Act} {w : World} : Exit.then n Q .ret a w = Q .ret a w := rfl
theorem idx_none (l : List UInt8) (c : UInt8) (h : ∀ b ∈ l, b ≠ c) : Lib.indexByte l c = -1 := by
  induction l with
  | nil => rfl
  | cons b l ih =>
    have h1 := h b (by simp)
    have h2 := ih (fun x hx => h x (by simp [hx]))
    unfold Lib.indexByte
    rw [h2]
    simp [h1]
theorem idx_tail (l : List UInt8) (k : Nat) (hk : 128 ≤ k) (hk2 : k < 256) (hl : l.all (fun b => decide (b.toNat < 128)) = true) : Lib.indexByte l ((k : Int).toNat.toUInt8) = -1 := by
  apply idx_none
  intro b hb e
  rw [List.all_eq_true] at hl
  have h1 := hl b hb
  simp only [decide_eq_true_eq] at h1
  rw [e] at h1
  simp at h1
  omega
theorem idx_call (k m : Nat) (W : World) (hk : k = 2 ∨ k = 3 ∨ k = 4) (h1 : 128 ≤ m) (h2 : m < 256) :
    Calls Tryd.prog 51 #[.string ((⟨#[34, 92, 8, 12, 10, 13, 9, 47]⟩ : ByteArray).extract k 8), .int .u8 (m : Int)] W fun e w' => e = .returned (.int .i64 (-1)) ∧ w' = W := by
  have h := Tryd.strings_IndexByte ((⟨#[34, 92, 8, 12, 10, 13, 9, 47]⟩ : ByteArray).extract k 8) (m : Int) W
  rw [idx_tail _ _ h1 h2 (by rcases hk with rfl | rfl | rfl <;> decide +kernel)] at h
  exact h
set_option maxHeartbeats 16000000 in
set_option maxRecDepth 100000 in
theorem idx_hi (c : Int) (w : World) (hs : scP c) (h0 : 128 ≤ c) (hf : ¬ c = 65533) :
    Calls Tryd.prog 29 #[.string ⟨#[34, 92, 8, 12, 10, 13, 9, 47]⟩, .int .i32 c] w fun e w' => e = .returned (.int .i64 (-1)) ∧ Qt w w' := by
  have V := hide (fun W => valid_yes c W hs)
  have h1 : c ≤ 1114111 := by unfold scP at hs; omega
  obtain ⟨z1, z2, z3⟩ := encode_facts c ((by obtain ⟨n, rfl⟩ : ∃ n : Nat, c = n := ⟨c.toNat, by omega⟩; exact (valid_iff n).2 (by unfold scP at hs; omega))) h0
  have hcv := fun W => run_convert_int_string (P := Tryd.prog) W 21 9 .i32 c (by rw [Tryd.underlying21]; rfl) Tryd.underlying9
  obtain ⟨R, hR⟩ : ∃ R, R = Utf8.encode c := ⟨_, rfl⟩
  rw [← hR] at z1 z2 z3 hcv
  clear hs hR
  have hlt : R.size - 1 < R.size := by omega
  have z4 := z3 hlt
  clear z3
  have wr2 : IntKind.i64.wrap 2 = 2 := by decide
  have wr3 : IntKind.i64.wrap 3 = 3 := by decide
  have wr4 : IntKind.i64.wrap 4 = 4 := by decide
  rcases (show R.size = 2 ∨ R.size = 3 ∨ R.size = 4 by omega) with hz | hz | hz
  · have hl1 : 1 < R.size := by omega
    have z5 : 128 ≤ (R[1]'hl1).toNat := by
      have e : ∀ (j : Nat) (hj : j < R.size), j = 1 → (R[j]'hj).toNat = (R[1]'hl1).toNat := by intro j hj e; subst e; rfl
      rw [← e _ hlt (by omega)]; exact z4
    have hk2 := UInt8.toNat_lt (R[1]'hl1)
    have n1 : (((⟨#[34, 92, 8, 12, 10, 13, 9, 47]⟩ : ByteArray)[1]'(by decide)).toNat : Int) = 92 := rfl
    have IB := fun (W : World) => idx_call 2 _ W (by decide) z5 hk2
    obtain ⟨x, hx⟩ : ∃ x, x = (R[1]'hl1).toNat := ⟨_, rfl⟩
    rw [← hx] at z5 IB
    have hx2 : (R[1]'hl1).toNat = x := hx.symm
    have hne : ¬ (92 : Int) = (x : Int) := by omega
    clear hx z4 hlt hk2
    go_enter Tryd.func29, Tryd.ntmps29
    go_wp2_with fail
    refine (unhide V _).mono ?_
    rintro e w1 ⟨rfl, rfl⟩
    go_wp2_with fail
    go_step3
    go_wp2_with fail
    refine wp_loop_rounds 1 ?_
    rw [rounds_succ]
    go_wp2_with fail
    go_step3
    go_wp2_with fail
    go_region
    go_wp2_with fail
    go_quiet ((refine Calls.mono (IB _) ?_; rintro e w' ⟨rfl, rfl⟩; exact ⟨rfl, _, rfl⟩))
    go_wp2
    rw [Exit.noGoto_ret, inB_ret, th_ret, inB_ret, th_ret, Exit.noGoto_ret]
    go_ret
    exact ⟨rfl, Qt.drewN _ _⟩
  · have hl2 : 2 < R.size := by omega
    have z5 : 128 ≤ (R[2]'hl2).toNat := by
      have e : ∀ (j : Nat) (hj : j < R.size), j = 2 → (R[j]'hj).toNat = (R[2]'hl2).toNat := by intro j hj e; subst e; rfl
      rw [← e _ hlt (by omega)]; exact z4
    have hk2 := UInt8.toNat_lt (R[2]'hl2)
    have n1 : (((⟨#[34, 92, 8, 12, 10, 13, 9, 47]⟩ : ByteArray)[2]'(by decide)).toNat : Int) = 8 := rfl
    have IB := fun (W : World) => idx_call 3 _ W (by decide) z5 hk2
    obtain ⟨x, hx⟩ : ∃ x, x = (R[2]'hl2).toNat := ⟨_, rfl⟩
    rw [← hx] at z5 IB
    have hx2 : (R[2]'hl2).toNat = x := hx.symm
    have hne : ¬ (8 : Int) = (x : Int) := by omega
    clear hx z4 hlt hk2
    go_enter Tryd.func29, Tryd.ntmps29
    go_wp2_with fail
    refine (unhide V _).mono ?_
    rintro e w1 ⟨rfl, rfl⟩
    go_wp2_with fail
    go_step3
    go_wp2_with fail
    refine wp_loop_rounds 1 ?_
    rw [rounds_succ]
    go_wp2_with fail
    go_step3
    go_wp2_with fail
    go_region
    go_wp2_with fail
    go_quiet ((refine Calls.mono (IB _) ?_; rintro e w' ⟨rfl, rfl⟩; exact ⟨rfl, _, rfl⟩))
    go_wp2
    rw [Exit.noGoto_ret, inB_ret, th_ret, inB_ret, th_ret, Exit.noGoto_ret]
    go_ret
    exact ⟨rfl, Qt.drewN _ _⟩
  · have hl3 : 3 < R.size := by omega
    have z5 : 128 ≤ (R[3]'hl3).toNat := by
      have e : ∀ (j : Nat) (hj : j < R.size), j = 3 → (R[j]'hj).toNat = (R[3]'hl3).toNat := by intro j hj e; subst e; rfl
      rw [← e _ hlt (by omega)]; exact z4
    have hk2 := UInt8.toNat_lt (R[3]'hl3)
    have n1 : (((⟨#[34, 92, 8, 12, 10, 13, 9, 47]⟩ : ByteArray)[3]'(by decide)).toNat : Int) = 12 := rfl
    have IB := fun (W : World) => idx_call 4 _ W (by decide) z5 hk2
    obtain ⟨x, hx⟩ : ∃ x, x = (R[3]'hl3).toNat := ⟨_, rfl⟩
    rw [← hx] at z5 IB
    have hx2 : (R[3]'hl3).toNat = x := hx.symm
    have hne : ¬ (12 : Int) = (x : Int) := by omega
    clear hx z4 hlt hk2
    go_enter Tryd.func29, Tryd.ntmps29
    go_wp2_with fail
    refine (unhide V _).mono ?_
    rintro e w1 ⟨rfl, rfl⟩
    go_wp2_with fail
    go_step3
    go_wp2_with fail
    refine wp_loop_rounds 1 ?_
    rw [rounds_succ]
    go_wp2_with fail
    go_step3
    go_wp2_with fail
    go_region
    go_wp2_with fail
    go_quiet ((refine Calls.mono (IB _) ?_; rintro e w' ⟨rfl, rfl⟩; exact ⟨rfl, _, rfl⟩))
    go_wp2
    rw [Exit.noGoto_ret, inB_ret, th_ret, inB_ret, th_ret, Exit.noGoto_ret]
    go_ret
    exact ⟨rfl, Qt.drewN _ _⟩
end Go.Proofs.YtcehhkjlbhodeaaDoor.sv
