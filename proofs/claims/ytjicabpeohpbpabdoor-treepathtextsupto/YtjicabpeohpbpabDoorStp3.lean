import Derived.Test.YtjicabpeohpbpabDoorStp2
namespace Go.Proofs.YtjicabpeohpbpabDoor.stp
open Go.ChangeShapes Go.WideShapes Go.ChangeAt Go.RowKit
set_option linter.unusedVariables false
/-- a path: a slice of steps that is read -/
structure Pth (w : World) (a : Option Addr) (n : Nat) (ss : List St) : Prop where
  len : ss.length = n
  at_ : n = 0 ∨ ∃ b off, a = some ⟨b, off, none⟩ ∧ b < w.heap.size ∧ ∀ i, i < n → ∃ s, ss[i]? = some s ∧ St3 w b (off + i * 3) s.nm s.ix s.it
theorem Pth.below {w w' : World} {a : Option Addr} {n : Nat} {ss : List St} (h : Pth w a n ss) (hb : Below w.heap.size w w') : Pth w' a n ss := by
  refine ⟨h.len, ?_⟩
  rcases h.at_ with h0 | ⟨b, off, ha, hlt, hc⟩
  · exact .inl h0
  · refine .inr ⟨b, off, ha, Nat.lt_of_lt_of_le hlt hb.size, fun i hi => ?_⟩
    obtain ⟨s, hs, k⟩ := hc i hi
    exact ⟨s, hs, k.below hlt hb⟩
def lexS : List St → List St → Int
  | [], [] => 0
  | [], _ :: _ => -1
  | _ :: _, [] => 1
  | a :: l, b :: r => if cS a b = 0 then lexS l r else cS a b
theorem lex_end1 {A B : List St} {k : Nat} (hA : A.length ≤ k) (hB : k < B.length) : lexS (A.drop k) (B.drop k) = -1 := by
  rw [List.drop_eq_nil_of_le hA, List.drop_eq_getElem_cons hB]
  rfl
theorem lex_end2 {A B : List St} {k : Nat} (hA : k < A.length) (hB : B.length ≤ k) : lexS (A.drop k) (B.drop k) = 1 := by
  rw [List.drop_eq_nil_of_le hB, List.drop_eq_getElem_cons hA]
  rfl
theorem lex_end0 {A B : List St} {k : Nat} (hA : A.length ≤ k) (hB : B.length ≤ k) : lexS (A.drop k) (B.drop k) = 0 := by
  rw [List.drop_eq_nil_of_le hB, List.drop_eq_nil_of_le hA]
  rfl
theorem lex_step {A B : List St} {k : Nat} {a b : St} (hA : A[k]? = some a) (hB : B[k]? = some b) : lexS (A.drop k) (B.drop k) = if cS a b = 0 then lexS (A.drop (k + 1)) (B.drop (k + 1)) else cS a b := by
  obtain ⟨h1, rfl⟩ := List.getElem?_eq_some_iff.1 hA
  obtain ⟨h2, rfl⟩ := List.getElem?_eq_some_iff.1 hB
  rw [List.drop_eq_getElem_cons h1, List.drop_eq_getElem_cons h2]
  rfl
theorem lex_ne : ∀ {A B : List St}, A.length ≠ B.length → lexS A B ≠ 0
  | [], [], h => absurd rfl h
  | [], _ :: _, _ => by simp [lexS]
  | _ :: _, [], _ => by simp [lexS]
  | a :: l, b :: r, h => by
    have hlr : l.length ≠ r.length := fun e => h (by simp [e])
    have := lex_ne hlr
    unfold lexS
    by_cases hc : cS a b = 0
    · rw [if_pos hc]; exact this
    · rw [if_neg hc]; exact hc
theorem al2 {w wr w2 : World} {a b : Obj} (h : Below w.heap.size w wr) (h2 : Below ((wr.alloc a).alloc b).heap.size ((wr.alloc a).alloc b) w2) : Below w.heap.size w w2 := by
  have hs := h.size
  exact ((h.alloc hs a).alloc (by simp; omega) b).trans (h2.mono (by simp; omega))
end Go.Proofs.YtjicabpeohpbpabDoor.stp
