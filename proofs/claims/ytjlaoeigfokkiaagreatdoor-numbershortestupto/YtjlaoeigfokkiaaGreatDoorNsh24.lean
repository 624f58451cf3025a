import Derived.Test.YtjlaoeigfokkiaaGreatDoorNsh23
import Derived.Test.YtjlaoeigfokkiaaGreatDoorBs30
import Derived.Test.YtjlaoeigfokkiaaGreatDoorBs29
namespace Go.Proofs.YtjlaoeigfokkiaaGreatDoor.fto
open Go.ChangeShapes Go.WideShapes Go.ChangeAt Go.RowKit
open mem Go.Sort
open ints (hide unhide)
set_option linter.unusedVariables false
theorem strip_uniq {A B m n : Nat} (h : A * 10 ^ m = B * 10 ^ n) (hA : A % 10 ≠ 0) (hB : B % 10 ≠ 0) : A = B ∧ m = n := by
  have key : ∀ A B m n : Nat, A * 10 ^ m = B * 10 ^ n → A % 10 ≠ 0 → n ≤ m → A = B ∧ m = n ∨ B % 10 = 0 := fun A B m n h hA hnm => by
    obtain ⟨j, rfl⟩ : ∃ j, m = n + j := ⟨m - n, by omega⟩
    rw [Nat.pow_add, Nat.mul_comm (10 ^ n), ← Nat.mul_assoc] at h
    have h2 := Nat.eq_of_mul_eq_mul_right (Nat.pow_pos (by decide)) h
    cases j with
    | zero => left; exact ⟨by simpa using h2, rfl⟩
    | succ j => right; rw [← h2, Nat.pow_succ, ← Nat.mul_assoc]; omega
  rcases Nat.le_total n m with g | g
  · rcases key A B m n h hA g with r | r
    · exact r
    · exact absurd r hB
  · rcases key B A n m h.symm hB g with r | r
    · exact ⟨r.1.symm, r.2.symm⟩
    · exact absurd r hA
theorem kept_last {d k : Nat} (h : Kept d k) : dv (dgs d k) % 10 ≠ 0 := by
  obtain ⟨k1, k2, k3, k4⟩ := h
  obtain ⟨j, rfl⟩ : ∃ j, k = j + 1 := ⟨k - 1, by omega⟩
  have e : dgs d (j + 1) = dgs d j ++ [dgt d (Lib.nDigits d) j] := by simp [dgs, List.range_succ]
  have hr := dgt_rng d (Lib.nDigits d) j
  rw [Nat.add_sub_cancel] at k4
  rw [e, dv_app, dv_cons]
  simp only [List.length_nil, List.length_singleton, Nat.pow_zero, Nat.pow_one, Nat.mul_one]
  rw [show dv [] = 0 from rfl]
  omega
theorem kept_pos {d k : Nat} (h : Kept d k) : 1 ≤ d := by
  rcases Nat.eq_zero_or_pos d with g | g
  · exfalso
    subst g
    have h1 := kept_val h
    have h2 := kept_last h
    rcases Nat.eq_zero_or_pos (dv (dgs 0 k)) with e | e
    · rw [e] at h2; exact h2 rfl
    · have := Nat.mul_pos e (Nat.pow_pos (n := Lib.nDigits 0 - k) (by decide : 0 < 10))
      omega
  · exact g
theorem same_text {d N k k' e f : Nat} {q x : Int} (hk : Kept d k) (hk' : Kept N k') (h : d * 10 ^ e = N * 10 ^ f) (hq : q - e = x - f) : dgs d k = dgs N k' ∧ (Lib.nDigits d : Int) + q = (Lib.nDigits N : Int) + x := by
  have hd := kept_pos hk
  have hN := kept_pos hk'
  have v1 := kept_val hk
  have v2 := kept_val hk'
  have l1 := kept_last hk
  have l2 := kept_last hk'
  have h2 : dv (dgs d k) * 10 ^ (Lib.nDigits d - k + e) = dv (dgs N k') * 10 ^ (Lib.nDigits N - k' + f) := by
    rw [Nat.pow_add, ← Nat.mul_assoc, ← v1, Nat.pow_add, ← Nat.mul_assoc, ← v2]
    exact h
  obtain ⟨s1, s2⟩ := strip_uniq h2 l1 l2
  have b1 := dz_back (dgs d k) (dgs_rng d k) (fun g => by have h5 := congrArg List.length g; rw [dgs_len, List.length_nil] at h5; have := hk.1; omega) (fun r g => absurd g (dgs_first d k hd hk.1 r))
  have b2 := dz_back (dgs N k') (dgs_rng N k') (fun g => by have h5 := congrArg List.length g; rw [dgs_len, List.length_nil] at h5; have := hk'.1; omega) (fun r g => absurd g (dgs_first N k' hN hk'.1 r))
  have e1 : dgs d k = dgs N k' := by rw [← b1, ← b2, s1]
  have e2 : k = k' := by have := congrArg List.length e1; rw [dgs_len, dgs_len] at this; exact this
  have k2 := hk.2.1
  have k2' := hk'.2.1
  exact ⟨e1, by omega⟩
end Go.Proofs.YtjlaoeigfokkiaaGreatDoor.fto
