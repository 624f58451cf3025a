import Derived.Test.YtjlafneklcfgoabStp2
namespace Go.Proofs.Ytjlafneklcfgoab.stp
open Go.ChangeShapes Go.WideShapes Go.ChangeAt Go.RowKit
set_option linter.unusedVariables false
/-- a path: a slice of steps that is read -/
structure Pth (w : World) (a : Option Addr) (n : Nat) (ss : List St) : Prop where
  len : ss.length = n
  at_ : n = 0 ∨ ∃ b off, a = some ⟨b, off, none⟩ ∧ b < w.heap.size ∧ ∀ i, i < n → ∃ s, ss[i]? = some s ∧ St3 w b (off + i * 3) s.nm s.ix s.it
theorem Pth.below {w w' : World} {a : Option Addr} {n : Nat} {ss : List St} (h : Pth w a n ss) (hb : Below w.heap.size w w') : Pth w' a n ss := by
  refine ⟨h.len, ?_⟩
  rcases h.at_ with h0 | ⟨b, off, ha, hlt, hc⟩
  · exact .inl h0
  · refine .inr ⟨b, off, ha, Nat.lt_of_lt_of_le hlt hb.size, fun i hi => ?_⟩
    obtain ⟨s, hs, k⟩ := hc i hi
    exact ⟨s, hs, k.below hlt hb⟩
def lexS : List St → List St → Int
  | [], [] => 0
  | [], _ :: _ => -1
  | _ :: _, [] => 1
  | a :: l, b :: r => if cS a b = 0 then lexS l r else cS a b
theorem lex_end1 {A B : List St} {k : Nat} (hA : A.length ≤ k) (hB : k < B.length) : lexS (A.drop k) (B.drop k) = -1 := by
  rw [List.drop_eq_nil_of_le hA, List.drop_eq_getElem_cons hB]
  rfl
theorem lex_end2 {A B : List St} {k : Nat} (hA : k < A.length) (hB : B.length ≤ k) : lexS (A.drop k) (B.drop k) = 1 := by
  rw [List.drop_eq_nil_of_le hB, List.drop_eq_getElem_cons hA]
  rfl
theorem lex_end0 {A B : List St} {k : Nat} (hA : A.length ≤ k) (hB : B.length ≤ k) : lexS (A.drop k) (B.drop k) = 0 := by
  rw [List.drop_eq_nil_of_le hB, List.drop_eq_nil_of_le hA]
  rfl
theorem lex_step {A B : List St} {k : Nat} {a b : St} (hA : A[k]? = some a) (hB : B[k]? = some b) : lexS (A.drop k) (B.drop k) = if cS a b = 0 then lexS (A.drop (k + 1)) (B.drop (k + 1)) else cS a b := by
  obtain ⟨h1, rfl⟩ := List.getElem?_eq_some_iff.1 hA
  obtain ⟨h2, rfl⟩ := List.getElem?_eq_some_iff.1 hB
  rw [List.drop_eq_getElem_cons h1, List.drop_eq_getElem_cons h2]
  rfl
theorem lex_ne : ∀ {A B : List St}, A.length ≠ B.length → lexS A B ≠ 0
  | [], [], h => absurd rfl h
  | [], _ :: _, _ => by simp [lexS]
  | _ :: _, [], _ => by simp [lexS]
  | a :: l, b :: r, h => by
    have hlr : l.length ≠ r.length := fun e => h (by simp [e])
    have := lex_ne hlr
    unfold lexS
    by_cases hc : cS a b = 0
    · rw [if_pos hc]; exact this
    · rw [if_neg hc]; exact hc
theorem al2 {w wr w2 : World} {a b : Obj} (h : Below w.heap.size w wr) (h2 : Below ((wr.alloc a).alloc b).heap.size ((wr.alloc a).alloc b) w2) : Below w.heap.size w w2 := by
  have hs := h.size
  exact ((h.alloc hs a).alloc (by simp; omega) b).trans (h2.mono (by simp; omega))
theorem cmpFunc_any (aA aB : Option Addr) (nA cA nB cB : Nat) (A B : List St) (w : World) (hA : Pth w aA nA A) (hB : Pth w aB nB B) (bA : nA ≤ 4611686018427387903) (bB : nB ≤ 4611686018427387903) :
    Calls Try.prog 85 #[.slice aA nA cA, .slice aB nB cB, .func (.func 86) #[] #[]] w fun e w' => e = .returned (.int .i64 (lexS A B)) ∧ Below w.heap.size w w' := by
  go_enter Try.func85, Try.ntmps85
  go_wp2_with fail
  go_loopw [13] (fun v wr => ∃ k : Nat, k ≤ nA ∧ k ≤ nB ∧ v = .int .i64 k ∧ Below w.heap.size w wr ∧ Hid (lexS A B = lexS (A.drop k) (B.drop k))) (fun v _ => nA - (intOf v).toNat)
  case atStart => exact ⟨0, Nat.zero_le _, Nat.zero_le _, rfl, Below.refl _ _, rfl⟩
  case round =>
    obtain ⟨k, hkA, hkB, rfl, hbk, hl⟩ := hrel
    by_cases hlt : k < nA
    · have ki : (k : Int) < (nA : Int) := by omega
      rcases (hA.below hbk).at_ with h0 | ⟨b, off, rfl, hbw, hcell⟩
      · omega
      obtain ⟨s, hs, u0, u1, u2⟩ := hcell k hlt
      obtain ⟨n1, x1, t1⟩ := s
      have hs := hide hs
      clear hcell
      by_cases hlb : k < nB
      · have kb : (k : Int) < (nB : Int) := by omega
        rcases (hB.below hbk).at_ with h0 | ⟨b', off', rfl, hbw', hcell⟩
        · omega
        obtain ⟨s', hs', v0, v1, v2⟩ := hcell k hlb
        obtain ⟨n2, x2, t2⟩ := s'
        have hs' := hide hs'
        clear hcell
        simp only at u0 u1 u2 v0 v1 v2
        go_wp2_with fail
        refine (order_any n1 n2 x1 x2 t1 t2 _).mono ?_
        rintro e w2 ⟨rfl, hb2⟩
        have hb2 := al2 hbk hb2
        have hst := hide (lex_step (unhide hs) (unhide hs'))
        by_cases hc : cS ⟨n1, x1, t1⟩ ⟨n2, x2, t2⟩ = 0
        · have hc2 := hide hc
          rw [hc]
          clear hc
          go_wp2
          go_roundw
          case rel => exact ⟨k + 1, by omega, by omega, by go_num, hb2, (unhide hl).trans ((unhide hst).trans (if_pos (unhide hc2)))⟩
          case measure => simp [intOf]; omega
        · have hc2 := hide hc
          generalize hcv : cS ⟨n1, x1, t1⟩ ⟨n2, x2, t2⟩ = cv at *
          have hcv := hide hcv
          go_wp2
          go_ret
          exact ⟨by rw [unhide hl, unhide hst, if_neg (unhide hc2)]; rfl, hb2⟩
      · have kb : ¬ (k : Int) < (nB : Int) := by omega
        go_wp2
        go_ret
        exact ⟨by rw [unhide hl, lex_end2 (by rw [hA.len]; exact hlt) (by rw [hB.len]; omega)]; rfl, hbk.alloc hbk.size _⟩
    · have ki : ¬ (k : Int) < (nA : Int) := by omega
      by_cases hlb : k < nB
      · have kb : (nA : Int) < (nB : Int) := by omega
        go_wp2
        go_ret
        exact ⟨by rw [unhide hl, lex_end1 (by rw [hA.len]; omega) (by rw [hB.len]; exact hlb)]; rfl, hbk⟩
      · have kb : ¬ (nA : Int) < (nB : Int) := by omega
        go_wp2
        go_ret
        exact ⟨by rw [unhide hl, lex_end0 (by rw [hA.len]; omega) (by rw [hB.len]; omega)]; rfl, hbk⟩
theorem eqFunc_any (aA aB : Option Addr) (nA cA nB cB : Nat) (A B : List St) (w : World) (hA : Pth w aA nA A) (hB : Pth w aB nB B) (bA : nA ≤ 4611686018427387903) (bB : nB ≤ 4611686018427387903) :
    Calls Try.prog 39 #[.slice aA nA cA, .slice aB nB cB, .func (.func 40) #[] #[]] w fun e w' => e = .returned (.bool (lexS A B == 0)) ∧ Below w.heap.size w w' := by
  by_cases hn : nA = nB
  · subst hn
    go_enter Try.func39, Try.ntmps39
    go_wp2_with fail
    go_loopw [17] (fun v wr => ∃ k : Nat, k ≤ nA ∧ v = .int .i64 k ∧ Below w.heap.size w wr ∧ Hid (lexS A B = lexS (A.drop k) (B.drop k))) (fun v _ => nA - (intOf v).toNat)
    case atStart => exact ⟨0, Nat.zero_le _, rfl, Below.refl _ _, rfl⟩
    case round =>
      obtain ⟨k, hkA, rfl, hbk, hl⟩ := hrel
      by_cases hlt : k < nA
      · have ki : (k : Int) < (nA : Int) := by omega
        rcases (hA.below hbk).at_ with h0 | ⟨b, off, rfl, hbw, hcell⟩
        · omega
        obtain ⟨s, hs, u0, u1, u2⟩ := hcell k hlt
        obtain ⟨n1, x1, t1⟩ := s
        have hs := hide hs
        clear hcell
        rcases (hB.below hbk).at_ with h0 | ⟨b', off', rfl, hbw', hcell⟩
        · omega
        obtain ⟨s', hs', v0, v1, v2⟩ := hcell k hlt
        obtain ⟨n2, x2, t2⟩ := s'
        have hs' := hide hs'
        clear hcell
        simp only at u0 u1 u2 v0 v1 v2
        go_wp2_with fail
        refine (alike_any n1 n2 x1 x2 t1 t2 _).mono ?_
        rintro e w2 ⟨rfl, hb2⟩
        have hb2 := al2 hbk hb2
        have hst := hide (lex_step (unhide hs) (unhide hs'))
        rw [eqS_iff]
        by_cases hc : cS ⟨n1, x1, t1⟩ ⟨n2, x2, t2⟩ = 0
        · have hc2 := hide hc
          rw [hc]
          clear hc
          go_wp2
          go_roundw
          case rel => exact ⟨k + 1, by omega, by go_num, hb2, (unhide hl).trans ((unhide hst).trans (if_pos (unhide hc2)))⟩
          case measure => simp [intOf]; omega
        · have hc2 := hide hc
          rw [show (cS ⟨n1, x1, t1⟩ ⟨n2, x2, t2⟩ == 0) = false by simpa using hc]
          clear hc
          go_wp2
          go_ret
          exact ⟨by rw [unhide hl, unhide hst, if_neg (unhide hc2), show (cS ⟨n1, x1, t1⟩ ⟨n2, x2, t2⟩ == 0) = false by simpa using unhide hc2]; rfl, hb2⟩
      · have ki : ¬ (k : Int) < (nA : Int) := by omega
        go_wp2
        go_ret
        exact ⟨by rw [unhide hl, lex_end0 (by rw [hA.len]; omega) (by rw [hB.len]; omega)]; rfl, hbk⟩
  · have hn2 : ¬ (nA : Int) = (nB : Int) := by omega
    have hf := hide (show (lexS A B == 0) = false by simpa using lex_ne (by rw [hA.len, hB.len]; exact hn))
    go_enter Try.func39, Try.ntmps39
    go_wp2
    go_ret
    exact ⟨by rw [unhide hf]; rfl, Below.refl _ _⟩
end Go.Proofs.Ytjlafneklcfgoab.stp
