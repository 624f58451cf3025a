import Derived.Test.YtlgmonphhimbdaaTka
import Derived.Test.YtlgmonphhimbdaaWkH
import Derived.Test.YtlgmonphhimbdaaRgn
namespace Go.Proofs.Ytlgmonphhimbdaa.knd
open Go.ChangeShapes Go.WideShapes Go.ChangeAt Go.RowKit Go.Maps Go.Shelf
open wk
attribute [local go_sem] Oper.semAt_some
set_option linter.unusedVariables false
set_option linter.unusedSimpArgs false
/-- numbers below 65536 in a slice that is read -/
def Us (w : World) (a : Option Addr) (n : Nat) : Prop :=
  n = 0 ∨ ∃ g off, a = some ⟨g, off, none⟩ ∧ g < w.heap.size ∧ ∀ i, i < n → ∃ k : Nat, k < 65536 ∧ w.cell? ⟨g, off + i, none⟩ = some (.int .u16 (k : Nat))
theorem tb_new (w : World) (B : Nat) (hB : B ≤ w.heap.size) : Tb (w.alloc (.cells #[.slice none 0 0, .map none, .int .i64 0] 26)) B (fun k => k = w.heap.size) w.heap.size none [] 0 := by
  refine ⟨fun k hk => by simp; omega, fun k hk => .inr (by subst hk; exact ⟨_, _, _, World.alloc_heap_new w _⟩), rfl, by simp, fun i => by simp, ⟨.slice none 0 0, by simp, none, 0, rfl, Nat.le_refl _, by decide, .inl ⟨rfl, rfl⟩⟩, .inl ⟨rfl, rfl, rfl, by simp, by simp⟩, by simp, fun k l r r' _ hk => by simp at hk, fun r hr => by cases hr⟩
theorem rl_lit (w : World) (x y : Int) (t : TypeId) : RL (w.alloc (.cells #[.int .i64 x, .int .i64 y] t)) (fun j => j = w.heap.size) (.slice (some ⟨w.heap.size, 0, none⟩) 1 1) [(x, y)] := by
  refine ⟨some ⟨w.heap.size, 0, none⟩, 1, rfl, .inr ⟨w.heap.size, rfl, by simp, rfl, ?_⟩⟩
  intro j u hj
  rw [Nat.zero_add]
  match j, hj with
  | 0, hj => simp [flat2, encP] at hj; subst hj; simp
  | 1, hj => simp [flat2, encP] at hj; subst hj; simp
  | (j + 2), hj => simp [flat2, encP] at hj
theorem put_nil (v : Sv) : putR [] 0 (kn 131072) v = [(0, kn 131072, v)] := rfl
/-- behind the first Put -/
theorem Kn.first {w W2 W4 : World} {X : Nat → Prop} {M : Option Nat} (b2 : Below (w.heap.size + 2) ((w.alloc (.cells #[.bool false] 4)).alloc (.cells #[.slice none 0 0, .map none, .int .i64 0] 26)) W2)
    (tb : Tb W4 w.heap.size X (w.heap.size + 1) M (putR [] 0 (kn 131072) (some ⟨W2.heap.size, 0, none⟩, 1, 1)) (nxR [] 0 (kn 131072))) (x2 : ∀ j, X j → j = w.heap.size + 1 ∨ W2.heap.size + 1 ≤ j) (k4 : Kx (fun j => j = w.heap.size + 1) (W2.alloc (.cells #[.int .i64 9] 3)) W4) :
    Kn w ((W4.alloc (.cells #[.int .i64 0, .int .i64 1] 34)).alloc (.cells #[.slice (some ⟨W4.heap.size, 0, none⟩) 1 1] 35)) w.heap.size (w.heap.size + 1) (W4.heap.size + 1) X (fun j => j = W2.heap.size) M (putR [] 0 (kn 131072) (some ⟨W2.heap.size, 0, none⟩, 1, 1)) (nxR [] 0 (kn 131072)) (.slice (some ⟨W4.heap.size, 0, none⟩) 1 1) [(0, 1)] := by
  have s2 := b2.size
  simp only [World.size_alloc] at s2
  have s4 := k4.size
  simp only [World.size_alloc] at s4
  have b0 : Below w.heap.size w ((w.alloc (.cells #[.bool false] 4)).alloc (.cells #[.slice none 0 0, .map none, .int .i64 0] 26)) := ((Below.refl _ _).alloc (Nat.le_refl _) _).alloc (by simp) _
  have bb := bel2 W4 (.cells #[.int .i64 0, .int .i64 1] 34) (.cells #[.slice (some ⟨W4.heap.size, 0, none⟩) 1 1] 35)
  have bw4 : Below w.heap.size w W4 := (b0.trans (b2.mono (by omega))).trans ((((Below.refl _ _).alloc (by omega) _).trans (k4.below (by simp; omega) (fun j hj => by omega))))
  have r4 : Boxed W4 w.heap.size 4 (.bool false) := by
    refine (k4.block w.heap.size (by simp; omega) (by omega)).trans ((Below.heap_alloc _ _ _ (by omega)).trans ((b2.block w.heap.size (by omega)).trans ?_))
    exact (Below.heap_alloc _ _ _ (by simp)).trans (World.alloc_heap_new _ _)
  have v4 : Vb W4 W2.heap.size := ⟨#[.int .i64 9], 3, (k4.block W2.heap.size (by simp) (by omega)).trans (World.alloc_heap_new _ _), by simp⟩
  refine ⟨tb.below bb, rfl, ?_, ?_, (bb.block _ (by omega)).trans r4, ?_, ?_, ?_, ⟨?_, ?_, by omega⟩, ⟨Nat.le_refl _, by omega⟩, rfl, bw4.trans (bb.mono bw4.size)⟩
  · have h := (rl_lit W4 0 1 34).below (bel1 _ (.cells #[.slice (some ⟨W4.heap.size, 0, none⟩) 1 1] 35))
    refine h.mono (fun j _ hj => ⟨fun hx => ?_, ?_, ?_, ?_⟩)
    · have := (tb.lo j hx).2; omega
    · intro e; omega
    · omega
    · omega
  · have := Boxed.new (W4.alloc (.cells #[.int .i64 0, .int .i64 1] 34)) 35 (.slice (some ⟨W4.heap.size, 0, none⟩) 1 1)
    rw [World.size_alloc] at this
    exact this
  · intro q hq
    rw [put_nil] at hq
    simp at hq
    subst hq
    exact ⟨W2.heap.size, 0, 1, rfl, by omega, rfl⟩
  · rintro g rfl
    exact v4.same (bb.block _ v4.lt)
  · rintro g rfl
    exact ⟨fun hx => by rcases x2 _ hx with h | h <;> omega, by omega, by omega, by omega⟩
  · intro hx
    rcases x2 _ hx with h | h <;> omega
  · intro hx
    have := (tb.lo _ hx).2
    omega
end Go.Proofs.Ytlgmonphhimbdaa.knd
