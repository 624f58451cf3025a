import Derived.Test.YtfegalieiiaopabPfx
namespace Go.Proofs.Ytfegalieiiaopab.lx
open mem (pfx digB pfx_le)
set_option linter.unusedVariables false

/-- The lexer, on lists of characters. -/
def cAt (l : List Int) (i : Nat) : Int := if i < l.length then l.getD i 0 else -1
def blB (c : Int) : Bool := decide (c = 9 ∨ c = 10 ∨ c = 13 ∨ c = 32 ∨ c = 44 ∨ c = 65279)
def soB (c : Int) : Bool := decide (c = 9 ∨ c = 10 ∨ c = 13 ∨ (32 ≤ c ∧ c ≤ 55295) ∨ (57344 ≤ c ∧ c ≤ 65535))
def nsB (c : Int) : Bool := decide ((65 ≤ c ∧ c ≤ 90) ∨ (97 ≤ c ∧ c ≤ 122) ∨ c = 95)
def nrB (c : Int) : Bool := decide (((65 ≤ c ∧ c ≤ 90) ∨ (97 ≤ c ∧ c ≤ 122) ∨ c = 95) ∨ (48 ≤ c ∧ c ≤ 57))
def puL : List Int := [33, 36, 38, 40, 41, 58, 61, 64, 91, 93, 123, 124, 125]
def puB (c : Int) : Bool := puL.contains c
theorem cAt_end {l : List Int} {i : Nat} (h : l.length ≤ i) : cAt l i = -1 := if_neg (by omega)
theorem cAt_in {l : List Int} {i : Nat} (h : i < l.length) : cAt l i = l.getD i 0 := if_pos h
theorem cAt_lt {l : List Int} {i : Nat} {c : Int} (h : cAt l i = c) (hc : c ≠ -1) : i < l.length := by
  rcases Nat.lt_or_ge i l.length with h1 | h1
  · exact h1
  · rw [cAt_end h1] at h; exact absurd h.symm hc
def ignF (l : List Int) : Nat → Bool → Nat → Nat
  | 0, _, i => i
  | f + 1, false, i => if blB (cAt l i) then ignF l f false (i + 1) else if cAt l i = 35 then ignF l f true (i + 1) else i
  | f + 1, true, i => if cAt l i = 10 ∨ cAt l i = 13 then ignF l f false (i + 1) else if soB (cAt l i) then ignF l f true (i + 1) else i
def ign (l : List Int) (b : Bool) (i : Nat) : Nat := ignF l (l.length + 1 - i) b i
theorem ign_f (l : List Int) (i : Nat) : ign l false i = if blB (cAt l i) then ign l false (i + 1) else if cAt l i = 35 then ign l true (i + 1) else i := by
  unfold ign
  rcases Nat.lt_or_ge i l.length with h | h
  · rw [show l.length + 1 - i = (l.length + 1 - (i + 1)) + 1 by omega]; rfl
  · rw [cAt_end h]
    cases l.length + 1 - i with
    | zero => simp [ignF, blB]
    | succ f => simp [ignF, blB, cAt_end h]
theorem ign_t (l : List Int) (i : Nat) : ign l true i = if cAt l i = 10 ∨ cAt l i = 13 then ign l false (i + 1) else if soB (cAt l i) then ign l true (i + 1) else i := by
  unfold ign
  rcases Nat.lt_or_ge i l.length with h | h
  · rw [show l.length + 1 - i = (l.length + 1 - (i + 1)) + 1 by omega]; rfl
  · rw [cAt_end h]
    cases l.length + 1 - i with
    | zero => simp [ignF, soB]
    | succ f => simp [ignF, soB, cAt_end h]
theorem ignF_le (l : List Int) (f : Nat) (b : Bool) (i : Nat) : i ≤ ignF l f b i ∧ (i ≤ l.length → ignF l f b i ≤ l.length) := by
  induction f generalizing b i with
  | zero => simp [ignF]
  | succ f ih =>
    have hl : ∀ c : Int, cAt l i = c → c ≠ -1 → i + 1 ≤ l.length := fun c h hc => cAt_lt h hc
    have a1 := ih false (i + 1)
    have a2 := ih true (i + 1)
    cases b <;> simp only [ignF]
    · split
      · rename_i h
        have := hl _ rfl (fun e => by rw [e] at h; simp [blB] at h)
        omega
      · split
        · rename_i h
          have := hl _ h (by decide)
          omega
        · omega
    · split
      · rename_i h
        have := hl _ rfl (fun e => by rw [e] at h; simp at h)
        omega
      · split
        · rename_i h
          have := hl _ rfl (fun e => by rw [e] at h; simp [soB] at h)
          omega
        · omega
theorem ign_le (l : List Int) (b : Bool) (i : Nat) : i ≤ ign l b i ∧ (i ≤ l.length → ign l b i ≤ l.length) := ignF_le l _ b i
def namF (l : List Int) : Nat → Nat → Nat
  | 0, i => i
  | f + 1, i => if nrB (cAt l i) then namF l f (i + 1) else i
def nam (l : List Int) (i : Nat) : Nat := namF l (l.length + 1 - i) i
theorem nam_eq (l : List Int) (i : Nat) : nam l i = if nrB (cAt l i) then nam l (i + 1) else i := by
  unfold nam
  rcases Nat.lt_or_ge i l.length with h | h
  · rw [show l.length + 1 - i = (l.length + 1 - (i + 1)) + 1 by omega]; rfl
  · rw [cAt_end h]
    cases l.length + 1 - i with
    | zero => simp [namF, nrB]
    | succ f => simp [namF, nrB, cAt_end h]
theorem namF_le (l : List Int) (f : Nat) (i : Nat) : i ≤ namF l f i ∧ (i ≤ l.length → namF l f i ≤ l.length) := by
  induction f generalizing i with
  | zero => simp [namF]
  | succ f ih =>
    have a1 := ih (i + 1)
    simp only [namF]
    split
    · rename_i h
      have := cAt_lt (l := l) (i := i) rfl (fun e => by rw [e] at h; simp [nrB] at h)
      omega
    · omega
theorem nam_le (l : List Int) (i : Nat) : i ≤ nam l i ∧ (i ≤ l.length → nam l i ≤ l.length) := namF_le l _ i
/-- a number: its kind, and the place behind it -/
def num (l : List Int) (i : Nat) : Int × Nat :=
  if cAt l (pfx l i).1 = 46 ∨ nrB (cAt l (pfx l i).1) then (1, i) else if (pfx l i).2.2 = 1 then (4, (pfx l i).1) else if (pfx l i).2.2 = 2 then (5, (pfx l i).1) else (1, i)
theorem bPart_ge (l : List Int) (p f : Nat) (h : p ≤ f) : p ≤ (mem.bPart l p f).1 := by
  unfold mem.bPart
  split
  · exact Nat.le_refl _
  · split
    · exact Nat.le_refl _
    · exact Nat.le_trans h (mem.digs_le l f).1
theorem pfx_pos (l : List Int) (p : Nat) : (pfx l p).2.2 = 0 ∨ p < (pfx l p).1 := by
  unfold pfx
  split
  · exact .inl rfl
  · rename_i h
    right
    have h1 : p ≤ mem.pfxFirst l p := by unfold mem.pfxFirst; split <;> omega
    have h2 : mem.pfxFirst l p ≤ mem.bWhole l (mem.pfxFirst l p) := by
      unfold mem.bWhole
      split
      · omega
      · exact (mem.digs_le l _).1
    have h3 : ∀ e, e ≤ (mem.pfxR l e).1 := fun e => by
      have hp : ∀ q, q ≤ mem.bPoint l q := fun q => by unfold mem.bPoint; split <;> omega
      have hm : ∀ q, q ≤ mem.bMark l q := fun q => by unfold mem.bMark; split; omega; split <;> omega
      have h4 := bPart_ge l e (mem.bPoint l e) (hp e)
      unfold mem.pfxR
      split
      · exact Nat.le_trans h4 (bPart_ge l _ _ (hm _))
      · exact h4
    have := h3 (mem.bWhole l (mem.pfxFirst l p))
    show p < (mem.pfxR l (mem.bWhole l (mem.pfxFirst l p))).1
    omega
theorem num_le (l : List Int) (i : Nat) (hi : i ≤ l.length) : i ≤ (num l i).2 ∧ (num l i).2 ≤ l.length ∧ ((num l i).1 = 1 ∨ i < (num l i).2) ∧ (num l i).1 ≠ 0 := by
  have h1 := pfx_le l i hi
  have h2 := pfx_pos l i
  unfold num
  split
  · exact ⟨Nat.le_refl _, hi, .inl rfl, by simp⟩
  · split
    · rename_i h
      have : i < (pfx l i).1 := by rcases h2 with h2 | h2; rw [h] at h2; cases h2; exact h2
      exact ⟨by omega, h1.1, .inr this, by simp⟩
    · split
      · rename_i h
        have : i < (pfx l i).1 := by rcases h2 with h2 | h2; rw [h] at h2; cases h2; exact h2
        exact ⟨by omega, h1.1, .inr this, by simp⟩
      · exact ⟨Nat.le_refl _, hi, .inl rfl, by simp⟩
/-- the token that begins at i: its kind, and the place behind it (no quote stands there) -/
def rd (l : List Int) (cl : Bool) (i : Nat) : Int × Nat :=
  if i = l.length ∧ cl = true then (0, i)
  else if cAt l i = 46 then (if cAt l (i + 1) = 46 ∧ cAt l (i + 2) = 46 then (2, i + 3) else (1, i))
  else if puB (cAt l i) then (2, i + 1)
  else if nsB (cAt l i) then (3, nam l (i + 1))
  else if cAt l i = 45 ∨ digB (cAt l i) then num l i
  else (1, i)
theorem rd_le (l : List Int) (cl : Bool) (i : Nat) (hi : i ≤ l.length) : i ≤ (rd l cl i).2 ∧ (rd l cl i).2 ≤ l.length ∧ ((rd l cl i).1 = 0 ∨ (rd l cl i).1 = 1 ∨ i < (rd l cl i).2) := by
  unfold rd
  split
  · exact ⟨Nat.le_refl _, hi, .inl rfl⟩
  split
  · split
    · rename_i h
      have := cAt_lt h.2 (by decide)
      exact ⟨by show i ≤ i + 3; omega, this, .inr (.inr (by show i < i + 3; omega))⟩
    · exact ⟨Nat.le_refl _, hi, .inr (.inl rfl)⟩
  split
  · rename_i h
    have := cAt_lt (l := l) (i := i) rfl (fun e => by rw [e] at h; revert h; decide)
    exact ⟨Nat.le_succ _, this, .inr (.inr (Nat.lt_succ_self _))⟩
  split
  · rename_i h
    have := cAt_lt (l := l) (i := i) rfl (fun e => by rw [e] at h; revert h; decide)
    have h2 := nam_le l (i + 1)
    exact ⟨by show i ≤ nam l (i + 1); omega, h2.2 this, .inr (.inr h2.1)⟩
  split
  · have := num_le l i hi
    exact ⟨this.1, this.2.1, by rcases this.2.2.1 with h | h; exact .inr (.inl h); exact .inr (.inr h)⟩
  · exact ⟨Nat.le_refl _, hi, .inr (.inl rfl)⟩
end Go.Proofs.Ytfegalieiiaopab.lx
