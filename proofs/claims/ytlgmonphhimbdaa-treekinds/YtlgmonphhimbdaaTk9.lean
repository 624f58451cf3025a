import Derived.Test.YtlgmonphhimbdaaTk8
import Derived.Laws.Rows
namespace Go.Proofs.Ytlgmonphhimbdaa.knd
open Go.ChangeShapes Go.WideShapes Go.ChangeAt Go.RowKit Go.Maps Go.Shelf
open wk
attribute [local go_sem] Oper.semAt_some
set_option linter.unusedVariables false
set_option linter.unusedSimpArgs false
/-- the key's number -/
def kn (k : Nat) : Fin 65536 := ⟨k % 65536, Nat.mod_lt _ (by decide)⟩
theorem wrap8 (k : Nat) : IntKind.i8.wrap (k : Int) = b8 k := by
  have e : IntKind.i8.wrap (k : Int) = Int.bmod (k : Int) 256 := by
    simp [IntKind.wrap, IntKind.signed, IntKind.bits, IntKind.min, IntKind.max, Int.bmod]
    split <;> omega
  rw [e]
  rw [Int.bmod_def]
  unfold b8
  split <;> split <;> omega
theorem ofInt64 (a : Nat) (ha : a < 18446744073709551616) : (BitVec.ofInt 64 (a : Int)).toNat = a := by
  rw [BitVec.ofInt_natCast, BitVec.toNat_ofNat]; exact Nat.mod_eq_of_lt (by omega)
theorem and1 (a : Nat) (ha : a ≤ 131072) : bits .and .i64 (a : Int) 1 = ((a % 2 : Nat) : Int) := by
  have e : bits .and .i64 (a : Int) 1 = IntKind.i64.wrap ((BitVec.ofInt 64 (a : Int) &&& BitVec.ofInt 64 (1 : Int)).toNat : Int) := rfl
  rw [e, BitVec.toNat_and, ofInt64 a (by omega), show (BitVec.ofInt 64 (1 : Int)).toNat = 1 from by decide, Nat.and_one_is_mod, IntKind.wrap_i64]
  omega
theorem p0_kn (k : Nat) : p0 (kn k) = IntKind.i8.wrap (k : Int) := by
  rw [wrap8]
  unfold p0 kn b8
  simp only
  rw [show k % 65536 % 256 = k % 256 by omega]
theorem p1_kn (k : Nat) : p1 (kn k) = IntKind.i8.wrap ((k : Int) / 256) := by
  rw [show (k : Int) / 256 = ((k / 256 : Nat) : Int) by omega, wrap8]
  unfold p1 kn b8
  simp only
  rw [show k % 65536 / 256 % 256 = k / 256 % 256 by omega]
theorem p2_kn (k : Nat) (hk : k ≤ 131072) : p2 (kn k) = (bits .and .i64 (k : Int) 1 == 1) := by
  rw [and1 k hk]
  unfold p2 kn
  simp only
  rw [show k % 65536 % 2 = k % 2 by omega]
  rcases (show k % 2 = 0 ∨ k % 2 = 1 by omega) with h | h <;> rw [h] <;> rfl
set_option maxRecDepth 6000 in
theorem placed_ok (k : Nat) (w : World) (hk : k ≤ 131072) : Calls Try.prog 5 #[.int .i64 (k : Nat)] w fun e w' => e = .returned (.agg #[.int .i8 (p0 (kn k)), .int .i8 (p1 (kn k)), .bool (p2 (kn k))]) ∧ Below w.heap.size w w' := by
  rw [p0_kn, p1_kn, p2_kn k hk]
  go_enter Try.func5, Try.ntmps5
  go_wp2
  refine bodyPost_ret (results_cell_row rfl _ _ w.heap.size 30 _ (0, 0) _ rfl (heap_alloc_new _ _) Try.underlying30 rfl (by kernel_rfl)) rfl ?_
  exact ⟨rfl, (Below.refl _ _).alloc (Nat.le_refl _) _⟩
/-- at most 65536 keys that differ -/
theorem few : ∀ (n : Nat) (l : List Nat), l.Nodup → (∀ x ∈ l, x < n) → l.length ≤ n
  | 0, l, _, h => by
    cases l with
    | nil => simp
    | cons x r => exact absurd (h x (by simp)) (by omega)
  | n + 1, l, hd, h => by
    have h1 := few n (l.filter (fun x => x != n)) (hd.filter _) (fun x hx => by
      have := List.mem_filter.1 hx
      have h2 := h x this.1
      have h3 : x ≠ n := by simpa using this.2
      omega)
    have h2 : l.length ≤ (l.filter (fun x => x != n)).length + 1 := by
      have e := List.length_eq_countP_add_countP (fun x => x != n) (l := l)
      rw [List.countP_eq_length_filter] at e
      have c : l.countP (fun x => decide ¬ (x != n) = true) ≤ 1 := by
        have : (fun x : Nat => decide ¬ (x != n) = true) = (fun x => x == n) := by funext x; by_cases h : x = n <;> simp [h]
        rw [this]
        exact List.nodup_iff_count.1 hd n
      omega
    omega
end Go.Proofs.Ytlgmonphhimbdaa.knd
