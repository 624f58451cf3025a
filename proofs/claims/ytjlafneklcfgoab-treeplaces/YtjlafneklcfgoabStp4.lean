import Derived.Test.YtjlafneklcfgoabStp3
namespace Go.Proofs.Ytjlafneklcfgoab.stp
open Go.ChangeShapes Go.WideShapes Go.ChangeAt Go.RowKit
set_option linter.unusedVariables false
theorem compare_any (aA aB : Option Addr) (nA cA nB cB : Nat) (A B : List St) (w : World) (hA : Pth w aA nA A) (hB : Pth w aB nB B) (bA : nA ≤ 4611686018427387903) (bB : nB ≤ 4611686018427387903) :
    Calls Try.prog 56 #[.slice aA nA cA, .slice aB nB cB] w fun e w' => e = .returned (.int .i64 (lexS A B)) ∧ Below w.heap.size w w' := by
  go_enter Try.func56, Try.ntmps56
  go_wp2_with fail
  refine (cmpFunc_any aA aB nA cA nB cB A B w hA hB bA bB).mono ?_
  rintro e w2 ⟨rfl, hb2⟩
  go_wp2
  go_ret
  exact ⟨rfl, hb2⟩
theorem Pth.take {w : World} {a : Option Addr} {n m : Nat} {ss : List St} (h : Pth w a n ss) (hm : m ≤ n) : Pth w a m (ss.take m) := by
  refine ⟨by simp [h.len]; omega, ?_⟩
  rcases h.at_ with h0 | ⟨b, off, ha, hlt, hc⟩
  · exact .inl (by omega)
  · refine .inr ⟨b, off, ha, hlt, fun i hi => ?_⟩
    obtain ⟨s, hs, k⟩ := hc i (by omega)
    exact ⟨s, by rw [List.getElem?_take_of_lt hi]; exact hs, k⟩
/-- does A lie at B or beneath it? -/
def undS (A B : List St) : Bool := decide (B.length ≤ A.length) && lexS (A.take B.length) B == 0
theorem under_any (aA aB : Option Addr) (nA cA nB cB : Nat) (A B : List St) (w : World) (hA : Pth w aA nA A) (hB : Pth w aB nB B) (hc : nA ≤ cA) (hn : aA = none → cA = 0) (bA : nA ≤ 4611686018427387903) (bB : nB ≤ 4611686018427387903) :
    Calls Try.prog 17 #[.slice aA nA cA, .slice aB nB cB] w fun e w' => e = .returned (.bool (undS A B)) ∧ Below w.heap.size w w' := by
  by_cases hle : nB ≤ nA
  · have hl : (nB : Int) ≤ (nA : Int) := by omega
    have hu := hide (show undS A B = (lexS (A.take nB) B == 0) by unfold undS; rw [hA.len, hB.len]; simp [hle])
    go_enter Try.func17, Try.ntmps17
    go_wp2_with fail
    refine (eqFunc_any _ aB nB cA nB cB (A.take nB) B w (hA.take hle) hB bB bB).mono ?_
    rintro e w2 ⟨rfl, hb2⟩
    go_wp2
    go_ret
    exact ⟨by rw [unhide hu]; rfl, hb2⟩
  · have hl : ¬ (nB : Int) ≤ (nA : Int) := by omega
    have hu := hide (show undS A B = false by unfold undS; rw [hA.len, hB.len]; simp [hle])
    go_enter Try.func17, Try.ntmps17
    go_wp2
    go_ret
    exact ⟨by rw [unhide hu]; rfl, Below.refl _ _⟩
theorem lex_self : ∀ A : List St, lexS A A = 0
  | [] => rfl
  | a :: l => by
    have h : cS a a = 0 := by
      have := eqS_iff a.nm a.nm a.ix a.ix a.it a.it
      have e : eqS a.nm a.ix a.it a.nm a.ix a.it = true := by simp [eqS]
      rw [e] at this
      simpa using this.symm
    rw [lexS, if_pos h]
    exact lex_self l
theorem und_self (A : List St) : undS A A = true := by
  unfold undS
  rw [List.take_length, lex_self]
  simp
theorem pth_one (w : World) (b : Nat) (nm : ByteArray) (ix : Int) (it : Bool) (hb : b < w.heap.size) (h : St3 w b 0 nm ix it) : Pth w (some ⟨b, 0, none⟩) 1 [⟨nm, ix, it⟩] :=
  ⟨rfl, .inr ⟨b, 0, rfl, hb, fun i hi => by
    obtain rfl : i = 0 := by omega
    exact ⟨_, rfl, h⟩⟩⟩
end Go.Proofs.Ytjlafneklcfgoab.stp
