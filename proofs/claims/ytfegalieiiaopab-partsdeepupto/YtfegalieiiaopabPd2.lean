import Derived.Test.YtfegalieiiaopabPd1
import Derived.Test.YtfegalieiiaopabCw7
namespace Go.Proofs.Ytfegalieiiaopab.cu
open dt (Dt)
set_option linter.unusedVariables false
set_option linter.unusedSimpArgs false
theorem drop_add {L : List Int} {ix : Nat} {a b : List Int} (h : L.drop ix = a ++ b) : L.drop (ix + a.length) = b := by
  rw [← List.drop_drop, h]; simp
theorem brkF_one {E : Cu → Option Dt × Cu} {right : ByteArray} {g : Nat} {c c' : Cu} {d : Dt} (h1 : c.isP right = false) (hE : E c = (some d, c')) (h2 : c'.isP right = true) : brkF E right 0 (g + 2) [] c = (some [d], c'.cls right) := by
  rw [brkF, if_pos (.inr h1), hE]
  dsimp only
  rw [brkF, if_neg (fun e => by rcases e with e | e; omega; rw [h2] at e; cases e)]
  rfl
theorem brkF_bad {E : Cu → Option Dt × Cu} {right : ByteArray} {g : Nat} {c c' : Cu} (h1 : c.isP right = false) (hE : E c = (none, c')) : brkF E right 0 (g + 1) [] c = (none, c') := by
  rw [brkF, if_pos (.inr h1), hE]
/-- where the m-th bracket stands -/
def offD : List Bool → Nat → Nat
  | [], _ => 0
  | _ :: _, 0 => 0
  | false :: r, m + 1 => 1 + offD r m
  | true :: r, m + 1 => 3 + offD r m
section
variable {T : List Tk} {L : List Int} (hT : Tch T L)
include hT
theorem litS_br {ix j M : Nat} {c : Int} {r : List Int} (h : L.drop ix = c :: r) (hc : c = 91 ∨ c = 123) (Lf : Cu → Option Dt × Cu) :
    litS Lf true ⟨T, ix, j, M, 0⟩ = if c = 91 then listS Lf ⟨T, ix, j, M, 0⟩ else objS Lf ⟨T, ix, j, M, 0⟩ := by
  obtain ⟨t, h1, h2, h3, _⟩ := at_drop hT h
  have hk : kOf c = 2 := by rcases hc with rfl | rfl <;> rfl
  have htk : (⟨T, ix, j, M, 0⟩ : Cu).tok = t := tok_of (c := ⟨T, ix, j, M, 0⟩) h1
  have hP := fun p => isP_at hT (j := j) (M := M) h hk p
  unfold litS
  rw [htk, h2, hk, hP, hP, hP]
  rw [if_neg (by simp), if_neg (by decide), if_neg (by decide), if_neg (by decide), if_neg (by decide), if_neg (by simp)]
  rcases hc with rfl | rfl
  · rw [if_pos (by decide), if_pos rfl]
  · rw [if_neg (by decide), if_pos (by decide), if_neg (by decide)]
theorem tok_at {ix j M : Nat} {k : Int} {c : Int} {r : List Int} (h : L.drop ix = c :: r) : (⟨T, ix, j, M, k⟩ : Cu).tok.k = kOf c ∧ (⟨T, ix, j, M, k⟩ : Cu).tok.tx = chB c ∧ (⟨T, ix, j, M, k⟩ : Cu).tok.ln = 1 ∧ (⟨T, ix, j, M, k⟩ : Cu).tok.co = (ix : Int) + 1 := by
  obtain ⟨t, h1, h2⟩ := at_drop hT h
  rw [tok_of (c := ⟨T, ix, j, M, k⟩) h1]
  exact h2
theorem opn_at {ix j M : Nat} {c : Int} {r : List Int} (h : L.drop ix = c :: r) (hk : kOf c = 2) (hj : j < M) : (⟨T, ix, j, M, 0⟩ : Cu).opB (chB c) = true ∧ (⟨T, ix, j, M, 0⟩ : Cu).opn (chB c) = ⟨T, ix + 1, j + 1, M, 0⟩ := by
  have hP := isP_at hT (j := j) (M := M) h hk (chB c)
  rw [decide_eq_true rfl] at hP
  constructor
  · unfold Cu.opB; rw [hP]; simp [hj]
  · unfold Cu.opn; rw [if_pos hP, if_pos hj]
theorem opn_deep {ix M : Nat} {c : Int} {r : List Int} (h : L.drop ix = c :: r) (hk : kOf c = 2) : (⟨T, ix, M, M, 0⟩ : Cu).opB (chB c) = false ∧ (⟨T, ix, M, M, 0⟩ : Cu).opn (chB c) = ⟨T, ix, M, M, 71⟩ := by
  have hP := isP_at hT (j := M) (M := M) h hk (chB c)
  rw [decide_eq_true rfl] at hP
  constructor
  · unfold Cu.opB; simp
  · unfold Cu.opn Cu.stop; rw [if_pos hP, if_neg (by simp), if_pos rfl]
/-- name and colon -/
theorem arg_at {ix j M : Nat} {r : List Int} (h : L.drop ix = 97 :: 58 :: r) : (⟨T, ix, j, M, 0⟩ : Cu).name.want bCol = ⟨T, ix + 2, j, M, 0⟩ := by
  obtain ⟨t, h1, h2, _⟩ := at_drop hT h
  have hN : (⟨T, ix, j, M, 0⟩ : Cu).isN = true := isN_of (c := ⟨T, ix, j, M, 0⟩) h1 rfl h2
  have e1 : (⟨T, ix, j, M, 0⟩ : Cu).name = ⟨T, ix + 1, j, M, 0⟩ := by unfold Cu.name; rw [if_pos hN]; rfl
  have h' : L.drop (ix + 1) = 58 :: r := by
    have := drop_add (L := L) (ix := ix) (a := [97]) (b := 58 :: r) (by simpa using h)
    simpa using this
  have hP := isP_at hT (j := j) (M := M) h' rfl bCol
  rw [decide_eq_true (show chB 58 = bCol from rfl)] at hP
  rw [e1]
  unfold Cu.want
  rw [if_pos hP]
  rfl
theorem lit_yes (M : Nat) : ∀ (ks : List Bool) (ix j f : Nat) (post : List Int), L.drop ix = srcD ks ++ post → j + ks.length ≤ M → ks.length < f → litF true f ⟨T, ix, j, M, 0⟩ = (some (dD ix ks), ⟨T, ix + (srcD ks).length, j, M, 0⟩)
  | [], ix, j, f + 1, post, h, hj, hf => by
    obtain ⟨k1, k2, k3, k4⟩ := tok_at hT (j := j) (M := M) (k := 0) (c := 49) (r := post) h
    show litS _ true _ = _
    unfold litS
    rw [if_neg (by simp), if_pos (by rw [k1]; rfl), k2, k3, k4]
    rfl
  | false :: r, ix, j, f + 1, post, h, hj, hf => by
    have h0 : L.drop ix = 91 :: (srcD r ++ 93 :: post) := by rw [h]; simp [srcD]
    have h1 : L.drop (ix + 1) = srcD r ++ 93 :: post := by have := drop_add (a := [91]) h0; simpa using this
    have h2 : L.drop (ix + 1 + (srcD r).length) = 93 :: post := drop_add h1
    have hlen := lenT hT
    have hL : ix < L.length := by
      rcases Nat.lt_or_ge ix L.length with e | e
      · exact e
      · rw [List.drop_of_length_le e] at h0; cases h0
    obtain ⟨g, hg⟩ : ∃ g, T.length = g + 2 := ⟨T.length - 2, by
      have : (L.drop ix).length = L.length - ix := List.length_drop
      rw [h0] at this; simp at this; have := srcD_pos r; omega⟩
    have ih := lit_yes M r (ix + 1) (j + 1) f (93 :: post) h1 (by simp at hj; omega) (by simp at hf; omega)
    obtain ⟨k1, k2, k3, k4⟩ := tok_at hT (j := j) (M := M) (k := 0) h0
    obtain ⟨o1, o2⟩ := opn_at hT (j := j) (M := M) h0 rfl (by simp at hj; omega)
    obtain ⟨c', r', e', hc'⟩ := srcD_head r
    have p1 : (⟨T, ix + 1, j + 1, M, 0⟩ : Cu).isP bRb = false := by
      rw [e'] at h1
      rcases hc' with rfl | rfl | rfl
      · rw [isP_at hT h1 rfl]; decide
      · rw [isP_at hT h1 rfl]; decide
      · obtain ⟨t, q1, q2, _⟩ := at_drop hT h1
        exact isP_not (c := ⟨T, ix + 1, j + 1, M, 0⟩) q1 (by rw [q2]; decide)
    have p2 : (⟨T, ix + 1 + (srcD r).length, j + 1, M, 0⟩ : Cu).isP bRb = true := by rw [isP_at hT h2 rfl]; decide
    show litS _ true _ = _
    rw [litS_br hT h0 (.inl rfl), if_pos rfl]
    have hb : brk (litF true f) bLb bRb 0 ⟨T, ix, j, M, 0⟩ = (some [dD (ix + 1) r], ⟨T, ix + 1 + (srcD r).length + 1, j, M, 0⟩) := by
      unfold brk
      rw [if_pos (show (⟨T, ix, j, M, 0⟩ : Cu).opB bLb = true from o1), show (⟨T, ix, j, M, 0⟩ : Cu).opn bLb = _ from o2]
      show brkF _ _ _ T.length [] _ = _
      rw [hg, brkF_one p1 ih p2]
      unfold Cu.cls
      rw [if_pos p2]
      simp
    unfold listS
    rw [hb, k3, k4]
    simp [dD, srcD]
    omega
  | true :: r, ix, j, f + 1, post, h, hj, hf => by
    have h0 : L.drop ix = 123 :: (97 :: 58 :: (srcD r ++ 125 :: post)) := by rw [h]; simp [srcD]
    have h1 : L.drop (ix + 1) = 97 :: 58 :: (srcD r ++ 125 :: post) := by have := drop_add (a := [123]) h0; simpa using this
    have h3 : L.drop (ix + 3) = srcD r ++ 125 :: post := by have := drop_add (a := [97, 58]) (b := srcD r ++ 125 :: post) (by simpa using h1); simpa using this
    have h2 : L.drop (ix + 3 + (srcD r).length) = 125 :: post := drop_add h3
    have hlen := lenT hT
    obtain ⟨g, hg⟩ : ∃ g, T.length = g + 2 := ⟨T.length - 2, by
      have : (L.drop ix).length = L.length - ix := List.length_drop
      rw [h0] at this; simp at this; have := srcD_pos r; omega⟩
    have ih := lit_yes M r (ix + 3) (j + 1) f (125 :: post) h3 (by simp at hj; omega) (by simp at hf; omega)
    obtain ⟨k1, k2, k3, k4⟩ := tok_at hT (j := j) (M := M) (k := 0) h0
    obtain ⟨n1, n2, n3, n4⟩ := tok_at hT (j := j + 1) (M := M) (k := 0) h1
    obtain ⟨o1, o2⟩ := opn_at hT (j := j) (M := M) h0 rfl (by simp at hj; omega)
    have ha := arg_at hT (j := j + 1) (M := M) h1
    have p1 : (⟨T, ix + 1, j + 1, M, 0⟩ : Cu).isP bRc = false := by
      obtain ⟨t, q1, q2, _⟩ := at_drop hT h1
      exact isP_not (c := ⟨T, ix + 1, j + 1, M, 0⟩) q1 (by rw [q2]; decide)
    have p2 : (⟨T, ix + 3 + (srcD r).length, j + 1, M, 0⟩ : Cu).isP bRc = true := by rw [isP_at hT h2 rfl]; decide
    have hE : argS (litF true f) ⟨T, ix + 1, j + 1, M, 0⟩ = (some (fldD (chB 97) (dD (ix + 3) r) 1 ((ix : Int) + 1 + 1)), ⟨T, ix + 3 + (srcD r).length, j + 1, M, 0⟩) := by
      unfold argS
      rw [ha, show ix + 1 + 2 = ix + 3 by omega, ih]
      dsimp only
      rw [n2, n3, n4]
      simp
    show litS _ true _ = _
    rw [litS_br hT h0 (.inr rfl), if_neg (by decide)]
    have hb : brk (argS (litF true f)) bLc bRc 0 ⟨T, ix, j, M, 0⟩ = (some [fldD (chB 97) (dD (ix + 3) r) 1 ((ix : Int) + 1 + 1)], ⟨T, ix + 3 + (srcD r).length + 1, j, M, 0⟩) := by
      unfold brk
      rw [if_pos (show (⟨T, ix, j, M, 0⟩ : Cu).opB bLc = true from o1), show (⟨T, ix, j, M, 0⟩ : Cu).opn bLc = _ from o2]
      show brkF _ _ _ T.length [] _ = _
      rw [hg, brkF_one p1 hE p2]
      unfold Cu.cls
      rw [if_pos p2]
      simp
    unfold objS
    rw [hb, k3, k4]
    simp [dD, srcD]
    omega
theorem lit_no (M : Nat) : ∀ (ks : List Bool) (ix j f : Nat) (post : List Int), L.drop ix = srcD ks ++ post → j ≤ M → M < j + ks.length → ks.length < f → litF true f ⟨T, ix, j, M, 0⟩ = (none, ⟨T, ix + offD ks (M - j), M, M, 71⟩) ∧ ∃ c r, L.drop (ix + offD ks (M - j)) = c :: r
  | [], ix, j, f + 1, post, h, hjm, hj, hf => by simp at hj; omega
  | false :: r, ix, j, f + 1, post, h, hjm, hj, hf => by
    have h0 : L.drop ix = 91 :: (srcD r ++ 93 :: post) := by rw [h]; simp [srcD]
    have h1 : L.drop (ix + 1) = srcD r ++ 93 :: post := by have := drop_add (a := [91]) h0; simpa using this
    have hlen := lenT hT
    obtain ⟨g, hg⟩ : ∃ g, T.length = g + 1 := ⟨T.length - 1, by omega⟩
    have hl : litF true (f + 1) ⟨T, ix, j, M, 0⟩ = listS (litF true f) ⟨T, ix, j, M, 0⟩ := by
      show litS _ true _ = _
      rw [litS_br hT h0 (.inl rfl), if_pos rfl]
    rw [hl]
    by_cases hjM : j = M
    · subst hjM
      obtain ⟨o1, o2⟩ := opn_deep hT h0 rfl
      have hb : brk (litF true f) bLb bRb 0 ⟨T, ix, j, j, 0⟩ = (none, ⟨T, ix, j, j, 71⟩) := by
        unfold brk
        rw [if_neg (by rw [show (⟨T, ix, j, j, 0⟩ : Cu).opB bLb = false from o1]; simp), show (⟨T, ix, j, j, 0⟩ : Cu).opn bLb = _ from o2]
      unfold listS
      rw [hb, Nat.sub_self]
      exact ⟨rfl, 91, _, h0⟩
    · obtain ⟨o1, o2⟩ := opn_at hT (j := j) (M := M) h0 rfl (by omega)
      obtain ⟨ih, c2, r2, ih2⟩ := lit_no M r (ix + 1) (j + 1) f (93 :: post) h1 (by omega) (by simp at hj; omega) (by simp at hf; omega)
      obtain ⟨c', r', e', hc'⟩ := srcD_head r
      have p1 : (⟨T, ix + 1, j + 1, M, 0⟩ : Cu).isP bRb = false := by
        rw [e'] at h1
        rcases hc' with rfl | rfl | rfl
        · rw [isP_at hT h1 rfl]; decide
        · rw [isP_at hT h1 rfl]; decide
        · obtain ⟨t, q1, q2, _⟩ := at_drop hT h1
          exact isP_not (c := ⟨T, ix + 1, j + 1, M, 0⟩) q1 (by rw [q2]; decide)
      have hoff : offD (false :: r) (M - j) = 1 + offD r (M - (j + 1)) := by
        rw [show M - j = (M - (j + 1)) + 1 by omega]; rfl
      have hb : brk (litF true f) bLb bRb 0 ⟨T, ix, j, M, 0⟩ = (none, ⟨T, ix + 1 + offD r (M - (j + 1)), M, M, 71⟩) := by
        unfold brk
        rw [if_pos (show (⟨T, ix, j, M, 0⟩ : Cu).opB bLb = true from o1), show (⟨T, ix, j, M, 0⟩ : Cu).opn bLb = _ from o2]
        show brkF _ _ _ T.length [] _ = _
        rw [hg, brkF_bad p1 ih]
      unfold listS
      rw [hb, hoff]
      exact ⟨by simp [Nat.add_assoc], c2, r2, by rw [← Nat.add_assoc]; exact ih2⟩
  | true :: r, ix, j, f + 1, post, h, hjm, hj, hf => by
    have h0 : L.drop ix = 123 :: (97 :: 58 :: (srcD r ++ 125 :: post)) := by rw [h]; simp [srcD]
    have h1 : L.drop (ix + 1) = 97 :: 58 :: (srcD r ++ 125 :: post) := by have := drop_add (a := [123]) h0; simpa using this
    have h3 : L.drop (ix + 3) = srcD r ++ 125 :: post := by have := drop_add (a := [97, 58]) (b := srcD r ++ 125 :: post) (by simpa using h1); simpa using this
    have hlen := lenT hT
    obtain ⟨g, hg⟩ : ∃ g, T.length = g + 1 := ⟨T.length - 1, by omega⟩
    have hl : litF true (f + 1) ⟨T, ix, j, M, 0⟩ = objS (litF true f) ⟨T, ix, j, M, 0⟩ := by
      show litS _ true _ = _
      rw [litS_br hT h0 (.inr rfl), if_neg (by decide)]
    rw [hl]
    by_cases hjM : j = M
    · subst hjM
      obtain ⟨o1, o2⟩ := opn_deep hT h0 rfl
      have hb : brk (argS (litF true f)) bLc bRc 0 ⟨T, ix, j, j, 0⟩ = (none, ⟨T, ix, j, j, 71⟩) := by
        unfold brk
        rw [if_neg (by rw [show (⟨T, ix, j, j, 0⟩ : Cu).opB bLc = false from o1]; simp), show (⟨T, ix, j, j, 0⟩ : Cu).opn bLc = _ from o2]
      unfold objS
      rw [hb, Nat.sub_self]
      exact ⟨rfl, 123, _, h0⟩
    · obtain ⟨o1, o2⟩ := opn_at hT (j := j) (M := M) h0 rfl (by omega)
      obtain ⟨ih, c2, r2, ih2⟩ := lit_no M r (ix + 3) (j + 1) f (125 :: post) h3 (by omega) (by simp at hj; omega) (by simp at hf; omega)
      have ha := arg_at hT (j := j + 1) (M := M) h1
      have p1 : (⟨T, ix + 1, j + 1, M, 0⟩ : Cu).isP bRc = false := by
        obtain ⟨t, q1, q2, _⟩ := at_drop hT h1
        exact isP_not (c := ⟨T, ix + 1, j + 1, M, 0⟩) q1 (by rw [q2]; decide)
      have hE : argS (litF true f) ⟨T, ix + 1, j + 1, M, 0⟩ = (none, ⟨T, ix + 3 + offD r (M - (j + 1)), M, M, 71⟩) := by
        unfold argS
        rw [ha, show ix + 1 + 2 = ix + 3 by omega, ih]
      have hoff : offD (true :: r) (M - j) = 3 + offD r (M - (j + 1)) := by
        rw [show M - j = (M - (j + 1)) + 1 by omega]; rfl
      have hb : brk (argS (litF true f)) bLc bRc 0 ⟨T, ix, j, M, 0⟩ = (none, ⟨T, ix + 3 + offD r (M - (j + 1)), M, M, 71⟩) := by
        unfold brk
        rw [if_pos (show (⟨T, ix, j, M, 0⟩ : Cu).opB bLc = true from o1), show (⟨T, ix, j, M, 0⟩ : Cu).opn bLc = _ from o2]
        show brkF _ _ _ T.length [] _ = _
        rw [hg, brkF_bad p1 hE]
      unfold objS
      rw [hb, hoff]
      exact ⟨by simp [Nat.add_assoc], c2, r2, by rw [← Nat.add_assoc]; exact ih2⟩
end
end Go.Proofs.Ytfegalieiiaopab.cu
