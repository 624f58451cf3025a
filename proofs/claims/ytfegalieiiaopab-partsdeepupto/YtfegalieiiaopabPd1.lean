import Derived.Test.YtfegalieiiaopabPw4
import Derived.Test.YtfegalieiiaopabCu
namespace Go.Proofs.Ytfegalieiiaopab.cu
open dt (Dt)
open mem (posT encS pfx digB)
open lx (cAt ign nam rd num tkAt tks puB nsB nrB blB soB)
set_option linter.unusedVariables false
set_option linter.unusedSimpArgs false
def kOf (c : Int) : Int := if c = 97 then 3 else if c = 49 then 4 else 2
def chB (c : Int) : ByteArray := ⟨#[c.toNat.toUInt8]⟩
/-- every sign is a token -/
structure Tch (T : List Tk) (L : List Int) : Prop where
  ch : ∀ (i : Nat) (c : Int), L[i]? = some c → ∃ t, T[i]? = some t ∧ t.k = kOf c ∧ t.tx = chB c ∧ t.ln = 1 ∧ t.co = (i : Int) + 1
  en : ∃ t, T[L.length]? = some t ∧ t.k = 0
/-- signs: which may follow which -/
structure Sg (L : List Int) : Prop where
  ok : ∀ c ∈ L, c = 91 ∨ c = 93 ∨ c = 123 ∨ c = 125 ∨ c = 58 ∨ c = 97 ∨ c = 49
  nx : ∀ i, (cAt L i = 97 ∨ cAt L i = 49) → cAt L (i + 1) = 58 ∨ cAt L (i + 1) = 93 ∨ cAt L (i + 1) = 125 ∨ cAt L (i + 1) = -1
theorem drop_one {l : List Int} {i : Nat} {c : Int} (hi : i < l.length) (hc : cAt l i = c) : (l.take (i + 1)).drop i = [c] := by
  have hh : l[i]? = some c := by
    rw [lx.cAt_in hi, List.getD_eq_getElem?_getD, List.getElem?_eq_getElem hi] at hc
    rw [List.getElem?_eq_getElem hi]
    simpa using hc
  rw [List.take_add_one, hh, List.drop_append_of_le_length (by simp; omega)]
  simp
theorem num_one {l : List Int} {i : Nat} (h : cAt l i = 49) (h2 : cAt l (i + 1) = 58 ∨ cAt l (i + 1) = 93 ∨ cAt l (i + 1) = 125 ∨ cAt l (i + 1) = -1) : num l i = (4, i + 1) := by
  have hi : i < l.length := lx.cAt_lt h (by decide)
  have hg : l.getD i 0 = 49 := by rw [← lx.cAt_in hi]; exact h
  have e1 : ∀ x : Int, x ≠ 49 → mem.isAt l i x = false := fun x hx => by unfold mem.isAt; rw [hg]; simp; intro _ e; exact hx e.symm
  have d1 : mem.digAt l i = true := by unfold mem.digAt; rw [hg]; simp [hi, digB]
  have e2 : ∀ x : Int, x = 46 ∨ x = 101 ∨ x = 69 → mem.isAt l (i + 1) x = false := fun x hx => by
    unfold mem.isAt
    by_cases hl : i + 1 < l.length
    · rw [lx.cAt_in hl] at h2
      simp [hl]
      intro e
      have e' : l.getD (i + 1) 0 = x := by rw [List.getD_eq_getElem?_getD, List.getElem?_eq_getElem hl]; exact e
      rw [e'] at h2
      omega
    · simp [hl]
  have d2 : mem.digAt l (i + 1) = false := by
    unfold mem.digAt
    by_cases hl : i + 1 < l.length
    · rw [lx.cAt_in hl] at h2
      have : digB (l.getD (i + 1) 0) = false := by rcases h2 with e | e | e | e <;> rw [e] <;> decide
      rw [this]; simp
    · simp [hl]
  have f1 : mem.pfxFirst l i = i := by unfold mem.pfxFirst; rw [e1 45 (by decide)]; rfl
  have f2 : mem.bWhole l i = i + 1 := by unfold mem.bWhole; rw [e1 48 (by decide), mem.digs_yes d1, mem.digs_no d2]; rfl
  have f3 : mem.bPoint l (i + 1) = i + 1 := by unfold mem.bPoint; rw [e2 46 (.inl rfl)]; rfl
  have f4 : mem.bMark l (i + 1) = i + 1 := by unfold mem.bMark; rw [if_pos ⟨e2 101 (.inr (.inl rfl)), e2 69 (.inr (.inr rfl))⟩]
  have f5 : mem.bPart l (i + 1) (i + 1) = (i + 1, i + 1) := by unfold mem.bPart; rw [if_pos rfl]
  have f6 : mem.pfxR l (i + 1) = (i + 1, i + 1) := by unfold mem.pfxR; rw [f3, f5, if_pos rfl, f4, f5]
  have f7 : pfx l i = (i + 1, i + 1, 1) := by
    unfold pfx
    rw [f1, f2, f6, if_neg (by omega), if_neg (by omega)]
  unfold num
  rw [f7]
  dsimp only
  rw [if_neg (by rcases h2 with e | e | e | e <;> rw [e] <;> decide), if_pos rfl]
theorem tk_ch {l : List Int} (h : Sg l) (hl : ∀ x ∈ l, x ≠ 10 ∧ x ≠ 13) {i : Nat} {c : Int} (hi : i < l.length) (hc : cAt l i = c) : tkAt l i = ⟨kOf c, 1, (i : Int) + 1, i, i + 1, chB c, em⟩ := by
  have hm : c ∈ l := by
    rw [lx.cAt_in hi, List.getD_eq_getElem?_getD, List.getElem?_eq_getElem hi] at hc
    rw [← show l[i] = c by simpa using hc]
    exact List.getElem_mem _
  have hk := h.ok c hm
  have hg : ign l false i = i := ign_at (by rw [hc]; rcases hk with rfl | rfl | rfl | rfl | rfl | rfl | rfl <;> decide) (by rw [hc]; rcases hk with rfl | rfl | rfl | rfl | rfl | rfl | rfl <;> decide)
  have hr : rd l true i = (kOf c, i + 1) := by
    have h0 : ¬ (i = l.length ∧ true = true) := fun e => by omega
    by_cases h97 : c = 97
    · subst h97
      have hn := h.nx i (.inl hc)
      have hnm : nam l (i + 1) = i + 1 := by rw [lx.nam_eq, if_neg (by rcases hn with e | e | e | e <;> rw [e] <;> decide)]
      unfold rd
      rw [if_neg h0, hc, if_neg (by decide), if_neg (by decide), if_pos (by decide), hnm]
      rfl
    · by_cases h49 : c = 49
      · subst h49
        have hn := num_one hc (h.nx i (.inr hc))
        unfold rd
        rw [if_neg h0, hc, if_neg (by decide), if_neg (by decide), if_neg (by decide), if_pos (by decide), hn]
        rfl
      · have hk' : c = 91 ∨ c = 93 ∨ c = 123 ∨ c = 125 ∨ c = 58 := by omega
        unfold rd
        rw [if_neg h0, hc, if_neg (by rcases hk' with rfl | rfl | rfl | rfl | rfl <;> decide), if_pos (by rcases hk' with rfl | rfl | rfl | rfl | rfl <;> decide)]
        unfold kOf
        rw [if_neg h97, if_neg h49]
  unfold tkAt
  rw [hg, hr, pos_line hl i (by omega), drop_one hi hc, enc1 c (by omega) (by omega)]
  rfl
theorem tks_ch {l : List Int} (h : Sg l) (hl : ∀ x ∈ l, x ≠ 10 ∧ x ≠ 13) : ∀ (j i : Nat), i + j ≤ l.length → ∀ m, (tks l i)[j + m]? = (tks l (i + j))[m]?
  | 0, i, hi, m => by simp
  | j + 1, i, hi, m => by
    have e := tk_ch h hl (i := i) (by omega) rfl
    have hk : kOf (cAt l i) ≠ 0 ∧ kOf (cAt l i) ≠ 1 := by unfold kOf; split; decide; split <;> decide
    rw [show j + 1 + m = (j + m) + 1 by omega, tks_get (by omega) (by rw [e]; exact fun e => e.elim hk.1 hk.2), e]
    show (tks l (i + 1))[j + m]? = _
    rw [tks_ch h hl j (i + 1) (by omega) m, show i + 1 + j = i + (j + 1) by omega]
theorem toks_ch {l : List Int} (h : Sg l) (hl : ∀ x ∈ l, x ≠ 10 ∧ x ≠ 13) : Tch (tks l 0) l := by
  refine ⟨fun i c hc => ?_, ?_⟩
  · have hi := (List.getElem?_eq_some_iff.1 hc).1
    have h1 := tks_ch h hl i 0 (by omega) 0
    have hcc : cAt l i = c := by rw [lx.cAt_in hi, List.getD_eq_getElem?_getD, hc]; rfl
    rw [Nat.zero_add, Nat.add_zero, tks_0, tk_ch h hl hi hcc] at h1
    exact ⟨_, h1, rfl, rfl, rfl, rfl⟩
  · have h1 := tks_ch h hl l.length 0 (by omega) 0
    rw [Nat.zero_add, Nat.add_zero, tks_0] at h1
    exact ⟨_, h1, tk_end hl⟩
/-- nested brackets: true, an object -/
def srcD : List Bool → List Int
  | [] => [49]
  | false :: r => 91 :: (srcD r ++ [93])
  | true :: r => 123 :: 97 :: 58 :: (srcD r ++ [125])
def dD : Nat → List Bool → Dt
  | o, [] => litD 2 (chB 49) false .nil .nil 1 ((o : Int) + 1)
  | o, false :: r => litD 8 em false (Dt.of [dD (o + 1) r]) .nil 1 ((o : Int) + 1)
  | o, true :: r => litD 9 em false .nil (Dt.of [fldD (chB 97) (dD (o + 3) r) 1 ((o : Int) + 1 + 1)]) 1 ((o : Int) + 1)
theorem srcD_pos (ks : List Bool) : 0 < (srcD ks).length := by cases ks with | nil => simp [srcD] | cons k r => cases k <;> simp [srcD]
theorem srcD_head (ks : List Bool) : ∃ c r, srcD ks = c :: r ∧ (c = 91 ∨ c = 123 ∨ c = 49) := by
  cases ks with
  | nil => exact ⟨49, [], rfl, by simp⟩
  | cons k r => cases k; exact ⟨91, _, rfl, by simp⟩; exact ⟨123, _, rfl, by simp⟩
section
variable {T : List Tk} {L : List Int} (hT : Tch T L)
include hT
theorem at_drop {ix : Nat} {c : Int} {r : List Int} (h : L.drop ix = c :: r) : ∃ t, T[ix]? = some t ∧ t.k = kOf c ∧ t.tx = chB c ∧ t.ln = 1 ∧ t.co = (ix : Int) + 1 := by
  have : L[ix]? = some c := by
    have := List.getElem?_drop (xs := L) (i := ix) (j := 0)
    rw [h] at this
    simpa using this.symm
  exact hT.ch ix c this
theorem lenT : L.length < T.length := by
  obtain ⟨t, h, _⟩ := hT.en
  exact (List.getElem?_eq_some_iff.1 h).1
theorem isP_at {ix j M : Nat} {c : Int} {r : List Int} (h : L.drop ix = c :: r) (hk : kOf c = 2) (p : ByteArray) : (⟨T, ix, j, M, 0⟩ : Cu).isP p = decide (chB c = p) := by
  obtain ⟨t, h1, h2, h3, _⟩ := at_drop hT h
  rw [isP_of (c := ⟨T, ix, j, M, 0⟩) h1 rfl (by rw [h2, hk]), h3]
end
end Go.Proofs.Ytfegalieiiaopab.cu
