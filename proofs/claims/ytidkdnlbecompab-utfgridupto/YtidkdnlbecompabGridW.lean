import Derived.Test.YtidkdnlbecompabGridM
namespace Go.Proofs.Ytidkdnlbecompab.mem
open Go.ChangeShapes Go.WideShapes Go.ChangeAt Go.RowKit
open ints (hide unhide)
set_option linter.unusedVariables false

theorem no_end {l : List Int} {n k j : Nat} (hk : k < (staTo l n).length) (h1 : stN (staTo l n) n k ≤ j) (h2 : j + 1 < stN (staTo l n) n (k + 1)) : enB l j = false := by
  have p1 := (pos_line hk h1 (by omega)).2.2
  have p2 := (pos_line hk (show stN (staTo l n) n k ≤ j + 1 by omega) h2).2.2
  cases he : enB l j
  · rfl
  · rw [staTo_yes he, List.length_append, List.length_singleton] at p2
    omega
theorem at_end {l : List Int} {n e : Nat} (hn : e < n) (hm : (e : Int) + 1 ∈ staTo l n) : enB l e = true := by
  obtain ⟨r, hr, hx⟩ := sta_pre l (e + 1) n (by omega)
  cases he : enB l e
  · exfalso
    rw [hr] at hm
    rcases List.mem_append.1 hm with h | h
    · rw [staTo_no he] at h
      have := sta_le l e _ h
      omega
    · have := hx _ h
      omega
  · rfl
/-- What the grid's walk asks of a character's place. -/
theorem grid (l : List Int) (i : Nat) (hi : i < l.length) : ∃ k : Nat, (posT l i).1 = (k : Int) + 1 ∧ k < (linesL l).length ∧ ∃ m : Nat, (posT l i).2 = (m : Int) + 1 ∧
    (if (l.getD i 0 == 13) = true ∨ (l.getD i 0 == 10) = true then ((linesL l).getD k []).length ≤ m else m < ((linesL l).getD k []).length ∧ ((linesL l).getD k []).getD m 0 = l.getD i 0) := by
  obtain ⟨n, hn⟩ : ∃ n, n = l.length := ⟨_, rfl⟩
  rw [← hn] at hi
  have hst := posT_sta l i
  have hsp := staTo_pos l i
  obtain ⟨r, hr, hx⟩ := sta_pre l i n (by omega)
  obtain ⟨k, hk⟩ : ∃ k, (staTo l i).length = k + 1 := ⟨(staTo l i).length - 1, by omega⟩
  have hkS : k < (staTo l n).length := by rw [hr, List.length_append]; omega
  have hA : (staTo l n).getD k 0 = (staTo l i).getD k 0 := by rw [hr]; simp [List.getD, List.getElem?_append_left (show k < (staTo l i).length by omega)]
  have hmem : (staTo l i).getD k 0 ∈ staTo l i := by simp [List.getD, show k < (staTo l i).length by omega]
  have hle := sta_le l i _ hmem
  have hsN := stN_in hkS
  have hs1 : stN (staTo l n) n k ≤ i := by omega
  have hnext : i < stN (staTo l n) n (k + 1) := by
    by_cases h1 : k + 1 < (staTo l n).length
    · have e1 := (stN_in h1).1
      have hm1 : (staTo l n).getD (k + 1) 0 ∈ r := by
        rw [hr, List.length_append] at h1
        rw [hr]
        have hlt : k + 1 - (staTo l i).length < r.length := by omega
        simp [List.getD, List.getElem?_append_right (show (staTo l i).length ≤ k + 1 by omega), hlt]
      have := hx _ hm1
      omega
    · have := stN_out (l := l) (n := n) (k := k + 1) (by omega)
      omega
  obtain ⟨sk, hsk⟩ : ∃ sk, sk = stN (staTo l n) n k := ⟨_, rfl⟩
  have hskN : sN (staTo l n) k = sk := by unfold sN; omega
  refine ⟨k, by rw [hst.1, hk]; simp, by rw [linesL_len, ← hn]; exact hkS, i - sk, ?_, ?_⟩
  · rw [hst.2, hk]
    simp only [Nat.add_sub_cancel]
    omega
  · have hcutget : ∀ T, i < T → T ≤ n → (cut l sk T).getD (i - sk) 0 = l.getD i 0 := by
      intro T h1 h2
      unfold cut
      have : sk + (i - sk) = i := by omega
      simp [List.getD, show i - sk < T - sk by omega, this]
    by_cases h1 : k + 1 < (staTo l n).length
    · have hls := (lin_sta l n).2.2 k h1
      rw [linesL_in l k (by rw [← hn]; exact h1), ← hn]
      have e1 := stN_in h1
      obtain ⟨e, he⟩ : ∃ e, e = sN (staTo l n) (k + 1) - 1 := ⟨_, rfl⟩
      have hs1N : sN (staTo l n) (k + 1) = stN (staTo l n) n (k + 1) := by unfold sN; omega
      have hse : e + 1 = stN (staTo l n) n (k + 1) := by have := hls.2.2.1; omega
      rw [← he, hskN]
      have hg2 : sk ≤ toOf l e := by have := hls.2.1; rw [hskN, ← he] at this; exact this
      have hen : e < n := by omega
      have hie : i ≤ e := by omega
      have hend : enB l e = true := by
        refine at_end hen ?_
        have : (staTo l n).getD (k + 1) 0 ∈ staTo l n := by simp [List.getD, h1]
        have e2 : (staTo l n).getD (k + 1) 0 = (e : Int) + 1 := by omega
        rw [e2] at this; exact this
      have hcl : (cut l sk (toOf l e)).length = toOf l e - sk := cut_len l sk _ (by have := from_to l e; omega)
      rw [hcl]
      split
      · rename_i hc
        suffices toOf l e ≤ i by omega
        by_cases hie2 : i = e
        · have := (from_to l e).2; omega
        · have hno : enB l i = false := no_end (n := n) hkS (by omega) (by omega)
          have h13 : (l.getD i 0 == 13) = true ∧ prB l i = true := by
            unfold enB at hno
            cases h10 : (l.getD i 0 == 10)
            · cases h13 : (l.getD i 0 == 13)
              · rw [h10, h13] at hc; simp at hc
              · rw [h10, h13] at hno
                simp at hno
                exact ⟨rfl, hno⟩
            · rw [h10] at hno; simp at hno
          have h10' : enB l (i + 1) = true := by
            have := h13.2
            simp only [prB, Bool.and_eq_true] at this
            unfold enB
            rw [this.2]; rfl
          have hie3 : i + 1 = e := by
            rcases Nat.lt_or_ge (i + 1) e with h | h
            · exfalso
              have := no_end (n := n) (j := i + 1) hkS (by omega) (by omega)
              rw [this] at h10'; cases h10'
            · omega
          unfold toOf
          rw [if_pos ⟨by omega, by rw [show e - 1 = i from by omega]; exact h13.2⟩]
          omega
      · rename_i hc
        have hlt : i < toOf l e := by
          have hne : i ≠ e := by
            rintro rfl
            unfold enB at hend
            apply hc
            cases h10 : (l.getD i 0 == 10)
            · rw [h10] at hend
              simp at hend
              left; simpa using hend.1
            · right; rfl
          unfold toOf
          split
          · rename_i hp
            have hp2 := hp.2
            simp only [prB, Bool.and_eq_true] at hp2
            have : i ≠ e - 1 := by
              rintro rfl
              exact hc (.inl hp2.1.2)
            omega
          · omega
        have := (from_to l e).2
        exact ⟨by omega, hcutget _ hlt (by omega)⟩
    · rw [linesL_last l k (by rw [← hn]; omega), ← hn, hskN]
      have hcl : (cut l sk n).length = n - sk := cut_len l sk _ (by omega)
      rw [hcl]
      have hout := stN_out (l := l) (n := n) (k := k + 1) (by omega)
      split
      · rename_i hc
        exfalso
        have hno : enB l i = false := no_end (n := n) hkS (by omega) (by omega)
        have h13 : prB l i = true := by
          unfold enB at hno
          cases h10 : (l.getD i 0 == 10)
          · cases h13 : (l.getD i 0 == 13)
            · rw [h10, h13] at hc; simp at hc
            · rw [h10, h13] at hno
              simpa using hno
          · rw [h10] at hno; simp at hno
        simp only [prB, Bool.and_eq_true, decide_eq_true_eq] at h13
        have h10' : enB l (i + 1) = true := by unfold enB; rw [h13.2]; rfl
        have := no_end (n := n) (j := i + 1) hkS (by omega) (by omega)
        rw [this] at h10'; cases h10'
      · exact ⟨by omega, hcutget n hi (Nat.le_refl _)⟩
end Go.Proofs.Ytidkdnlbecompab.mem
