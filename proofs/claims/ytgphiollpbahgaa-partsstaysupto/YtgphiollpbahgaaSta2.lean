import Derived.Test.YtgphiollpbahgaaSta1
import Derived.WalkLawsBesides
namespace Go.Proofs.Ytgphiollpbahgaa.lx
open mem (pfx digB pfx_le)
set_option linter.unusedVariables false

/-- The lexer, on lists of characters. -/
def cAt (l : List Int) (i : Nat) : Int := if i < l.length then l.getD i 0 else -1
def blB (c : Int) : Bool := decide (c = 9 ∨ c = 10 ∨ c = 13 ∨ c = 32 ∨ c = 44 ∨ c = 65279)
def soB (c : Int) : Bool := decide (c = 9 ∨ c = 10 ∨ c = 13 ∨ (32 ≤ c ∧ c ≤ 55295) ∨ (57344 ≤ c ∧ c ≤ 65535))
def nsB (c : Int) : Bool := decide ((65 ≤ c ∧ c ≤ 90) ∨ (97 ≤ c ∧ c ≤ 122) ∨ c = 95)
def nrB (c : Int) : Bool := decide (((65 ≤ c ∧ c ≤ 90) ∨ (97 ≤ c ∧ c ≤ 122) ∨ c = 95) ∨ (48 ≤ c ∧ c ≤ 57))
def puL : List Int := [33, 36, 38, 40, 41, 58, 61, 64, 91, 93, 123, 124, 125]
def puB (c : Int) : Bool := puL.contains c
theorem cAt_end {l : List Int} {i : Nat} (h : l.length ≤ i) : cAt l i = -1 := if_neg (by omega)
theorem cAt_in {l : List Int} {i : Nat} (h : i < l.length) : cAt l i = l.getD i 0 := if_pos h
theorem cAt_lt {l : List Int} {i : Nat} {c : Int} (h : cAt l i = c) (hc : c ≠ -1) : i < l.length := by
  rcases Nat.lt_or_ge i l.length with h1 | h1
  · exact h1
  · rw [cAt_end h1] at h; exact absurd h.symm hc
def ignF (l : List Int) : Nat → Bool → Nat → Nat
  | 0, _, i => i
  | f + 1, false, i => if blB (cAt l i) then ignF l f false (i + 1) else if cAt l i = 35 then ignF l f true (i + 1) else i
  | f + 1, true, i => if cAt l i = 10 ∨ cAt l i = 13 then ignF l f false (i + 1) else if soB (cAt l i) then ignF l f true (i + 1) else i
def ign (l : List Int) (b : Bool) (i : Nat) : Nat := ignF l (l.length + 1 - i) b i
theorem ign_f (l : List Int) (i : Nat) : ign l false i = if blB (cAt l i) then ign l false (i + 1) else if cAt l i = 35 then ign l true (i + 1) else i := by
  unfold ign
  rcases Nat.lt_or_ge i l.length with h | h
  · rw [show l.length + 1 - i = (l.length + 1 - (i + 1)) + 1 by omega]; rfl
  · rw [cAt_end h]
    cases l.length + 1 - i with
    | zero => simp [ignF, blB]
    | succ f => simp [ignF, blB, cAt_end h]
theorem ign_t (l : List Int) (i : Nat) : ign l true i = if cAt l i = 10 ∨ cAt l i = 13 then ign l false (i + 1) else if soB (cAt l i) then ign l true (i + 1) else i := by
  unfold ign
  rcases Nat.lt_or_ge i l.length with h | h
  · rw [show l.length + 1 - i = (l.length + 1 - (i + 1)) + 1 by omega]; rfl
  · rw [cAt_end h]
    cases l.length + 1 - i with
    | zero => simp [ignF, soB]
    | succ f => simp [ignF, soB, cAt_end h]
theorem ignF_le (l : List Int) (f : Nat) (b : Bool) (i : Nat) : i ≤ ignF l f b i ∧ (i ≤ l.length → ignF l f b i ≤ l.length) := by
  induction f generalizing b i with
  | zero => simp [ignF]
  | succ f ih =>
    have hl : ∀ c : Int, cAt l i = c → c ≠ -1 → i + 1 ≤ l.length := fun c h hc => cAt_lt h hc
    have a1 := ih false (i + 1)
    have a2 := ih true (i + 1)
    cases b <;> simp only [ignF]
    · split
      · rename_i h
        have := hl _ rfl (fun e => by rw [e] at h; simp [blB] at h)
        omega
      · split
        · rename_i h
          have := hl _ h (by decide)
          omega
        · omega
    · split
      · rename_i h
        have := hl _ rfl (fun e => by rw [e] at h; simp at h)
        omega
      · split
        · rename_i h
          have := hl _ rfl (fun e => by rw [e] at h; simp [soB] at h)
          omega
        · omega
theorem ign_le (l : List Int) (b : Bool) (i : Nat) : i ≤ ign l b i ∧ (i ≤ l.length → ign l b i ≤ l.length) := ignF_le l _ b i
def namF (l : List Int) : Nat → Nat → Nat
  | 0, i => i
  | f + 1, i => if nrB (cAt l i) then namF l f (i + 1) else i
def nam (l : List Int) (i : Nat) : Nat := namF l (l.length + 1 - i) i
theorem nam_eq (l : List Int) (i : Nat) : nam l i = if nrB (cAt l i) then nam l (i + 1) else i := by
  unfold nam
  rcases Nat.lt_or_ge i l.length with h | h
  · rw [show l.length + 1 - i = (l.length + 1 - (i + 1)) + 1 by omega]; rfl
  · rw [cAt_end h]
    cases l.length + 1 - i with
    | zero => simp [namF, nrB]
    | succ f => simp [namF, nrB, cAt_end h]
theorem namF_le (l : List Int) (f : Nat) (i : Nat) : i ≤ namF l f i ∧ (i ≤ l.length → namF l f i ≤ l.length) := by
  induction f generalizing i with
  | zero => simp [namF]
  | succ f ih =>
    have a1 := ih (i + 1)
    simp only [namF]
    split
    · rename_i h
      have := cAt_lt (l := l) (i := i) rfl (fun e => by rw [e] at h; simp [nrB] at h)
      omega
    · omega
theorem nam_le (l : List Int) (i : Nat) : i ≤ nam l i ∧ (i ≤ l.length → nam l i ≤ l.length) := namF_le l _ i
/-- a number: its kind, and the place behind it -/
def num (l : List Int) (i : Nat) : Int × Nat :=
  if cAt l (pfx l i).1 = 46 ∨ nrB (cAt l (pfx l i).1) then (1, i) else if (pfx l i).2.2 = 1 then (4, (pfx l i).1) else if (pfx l i).2.2 = 2 then (5, (pfx l i).1) else (1, i)
theorem bPart_ge (l : List Int) (p f : Nat) (h : p ≤ f) : p ≤ (mem.bPart l p f).1 := by
  unfold mem.bPart
  split
  · exact Nat.le_refl _
  · split
    · exact Nat.le_refl _
    · exact Nat.le_trans h (mem.digs_le l f).1
theorem pfx_pos (l : List Int) (p : Nat) : (pfx l p).2.2 = 0 ∨ p < (pfx l p).1 := by
  unfold pfx
  split
  · exact .inl rfl
  · rename_i h
    right
    have h1 : p ≤ mem.pfxFirst l p := by unfold mem.pfxFirst; split <;> omega
    have h2 : mem.pfxFirst l p ≤ mem.bWhole l (mem.pfxFirst l p) := by
      unfold mem.bWhole
      split
      · omega
      · exact (mem.digs_le l _).1
    have h3 : ∀ e, e ≤ (mem.pfxR l e).1 := fun e => by
      have hp : ∀ q, q ≤ mem.bPoint l q := fun q => by unfold mem.bPoint; split <;> omega
      have hm : ∀ q, q ≤ mem.bMark l q := fun q => by unfold mem.bMark; split; omega; split <;> omega
      have h4 := bPart_ge l e (mem.bPoint l e) (hp e)
      unfold mem.pfxR
      split
      · exact Nat.le_trans h4 (bPart_ge l _ _ (hm _))
      · exact h4
    have := h3 (mem.bWhole l (mem.pfxFirst l p))
    show p < (mem.pfxR l (mem.bWhole l (mem.pfxFirst l p))).1
    omega
theorem num_le (l : List Int) (i : Nat) (hi : i ≤ l.length) : i ≤ (num l i).2 ∧ (num l i).2 ≤ l.length ∧ ((num l i).1 = 1 ∨ i < (num l i).2) ∧ (num l i).1 ≠ 0 := by
  have h1 := pfx_le l i hi
  have h2 := pfx_pos l i
  unfold num
  split
  · exact ⟨Nat.le_refl _, hi, .inl rfl, by simp⟩
  · split
    · rename_i h
      have : i < (pfx l i).1 := by rcases h2 with h2 | h2; rw [h] at h2; cases h2; exact h2
      exact ⟨by omega, h1.1, .inr this, by simp⟩
    · split
      · rename_i h
        have : i < (pfx l i).1 := by rcases h2 with h2 | h2; rw [h] at h2; cases h2; exact h2
        exact ⟨by omega, h1.1, .inr this, by simp⟩
      · exact ⟨Nat.le_refl _, hi, .inl rfl, by simp⟩
/-- the token that begins at i: its kind, and the place behind it (no quote stands there) -/
def rd (l : List Int) (cl : Bool) (i : Nat) : Int × Nat :=
  if i = l.length ∧ cl = true then (0, i)
  else if cAt l i = 46 then (if cAt l (i + 1) = 46 ∧ cAt l (i + 2) = 46 then (2, i + 3) else (1, i))
  else if puB (cAt l i) then (2, i + 1)
  else if nsB (cAt l i) then (3, nam l (i + 1))
  else if cAt l i = 45 ∨ digB (cAt l i) then num l i
  else (1, i)
theorem rd_le (l : List Int) (cl : Bool) (i : Nat) (hi : i ≤ l.length) : i ≤ (rd l cl i).2 ∧ (rd l cl i).2 ≤ l.length ∧ ((rd l cl i).1 = 0 ∨ (rd l cl i).1 = 1 ∨ i < (rd l cl i).2) := by
  unfold rd
  split
  · exact ⟨Nat.le_refl _, hi, .inl rfl⟩
  split
  · split
    · rename_i h
      have := cAt_lt h.2 (by decide)
      exact ⟨by show i ≤ i + 3; omega, this, .inr (.inr (by show i < i + 3; omega))⟩
    · exact ⟨Nat.le_refl _, hi, .inr (.inl rfl)⟩
  split
  · rename_i h
    have := cAt_lt (l := l) (i := i) rfl (fun e => by rw [e] at h; revert h; decide)
    exact ⟨Nat.le_succ _, this, .inr (.inr (Nat.lt_succ_self _))⟩
  split
  · rename_i h
    have := cAt_lt (l := l) (i := i) rfl (fun e => by rw [e] at h; revert h; decide)
    have h2 := nam_le l (i + 1)
    exact ⟨by show i ≤ nam l (i + 1); omega, h2.2 this, .inr (.inr h2.1)⟩
  split
  · have := num_le l i hi
    exact ⟨this.1, this.2.1, by rcases this.2.2.1 with h | h; exact .inr (.inl h); exact .inr (.inr h)⟩
  · exact ⟨Nat.le_refl _, hi, .inr (.inl rfl)⟩
end Go.Proofs.Ytgphiollpbahgaa.lx
namespace Go.Proofs.Ytgphiollpbahgaa.mem
open Go.ChangeShapes Go.WideShapes Go.ChangeAt Go.RowKit
open ints (hide unhide)
set_option linter.unusedVariables false


theorem is_i (a : Option Addr) (n c : Nat) (l : List Int) (p : Nat) (x : Int) (w : World) (h : Row .i32 w a n c l) (hn : n ≤ 4611686018427387904) (hp : p ≤ 4611686018427387904) :
    Calls Try.prog 81 #[.slice a n c, .int .i64 (p : Int), .int .i32 x] w fun e w' => e = .returned (.bool (isAt l p x)) ∧ Below w.heap.size w w' := by
  by_cases hlt : p < n
  · rcases h.at_ with h0 | ⟨b, off, rfl, hbw, hcell⟩
    · omega
    have c1 := hcell p hlt
    have HI := hide (show isAt l p x = (l.getD p 0 == x) from isAt_of (by rw [h.len]; exact hlt) x)
    have pi : (p : Int) < (n : Int) := by omega
    rw [unhide HI]
    generalize l.getD p 0 = y at *
    clear hcell
    go_enter Try.func81, Try.ntmps81
    cases e1 : (y == x)
    all_goals
      go_wp2
      go_ret
      exact ⟨rfl, Below.refl _ _⟩
  · have HI := hide (show isAt l p x = false from isAt_not (by rw [h.len]; exact hlt) x)
    have pi : ¬ (p : Int) < (n : Int) := by omega
    rw [unhide HI]
    go_enter Try.func81, Try.ntmps81
    go_wp2
    go_ret
    exact ⟨rfl, Below.refl _ _⟩
theorem digs_i (a : Option Addr) (n c : Nat) (l : List Int) (p : Nat) (w : World) (h : Row .i32 w a n c l) (hn : n ≤ 4611686018427387904) (hp : p ≤ 4611686018427387904) :
    Calls Try.prog 92 #[.slice a n c, .int .i64 (p : Int)] w fun e w' => e = .returned (.int .i64 (digs l p : Nat)) ∧ Below w.heap.size w w' := by
  go_enter Try.func92, Try.ntmps92
  go_wp2
  go_loopw [1] (fun v wr => ∃ k : Nat, k ≤ 4611686018427387904 ∧ v = .int .i64 k ∧ digs l p = digs l k ∧ Below w.heap.size w wr) (fun v _ => n - (intOf v).toNat)
  case atStart => exact ⟨p, hp, rfl, rfl, Below.refl _ _⟩
  case round =>
    obtain ⟨k, hk, rfl, heq, hbel⟩ := hrel
    have HE := hide heq
    clear heq
    by_cases hlt : k < n
    · rcases h.at_ with h0 | ⟨b, off, rfl, hbw, hcell⟩
      · omega
      have c1 := (hbel.cell (p := ⟨b, off + k, none⟩) hbw).trans (hcell k hlt)
      have HD := hide (show digAt l k = digB (l.getD k 0) from digAt_of (by rw [h.len]; exact hlt))
      have ki : (k : Int) < (n : Int) := by omega
      generalize l.getD k 0 = y at *
      clear hcell
      by_cases h1 : 48 ≤ y
      · by_cases h2 : y ≤ 57
        · have hd := hide (show digAt l k = true from by rw [unhide HD]; simp [digB, h1, h2])
          go_wp2
          go_roundw
          case rel => exact ⟨k + 1, by omega, by go_num, by rw [unhide HE, digs_yes (unhide hd)], hbel⟩
          case measure => simp [intOf]; omega
        · have hd := hide (show digAt l k = false from by rw [unhide HD]; simp [digB, h1, h2])
          go_wp2
          go_ret
          rw [unhide HE, digs_no (unhide hd)]
          exact ⟨rfl, hbel⟩
      · have hd := hide (show digAt l k = false from by rw [unhide HD]; simp [digB, h1])
        go_wp2
        go_ret
        rw [unhide HE, digs_no (unhide hd)]
        exact ⟨rfl, hbel⟩
    · have ki : ¬ (k : Int) < (n : Int) := by omega
      have hd := hide (show digAt l k = false from digAt_not (by rw [h.len]; exact hlt))
      go_wp2
      go_ret
      rw [unhide HE, digs_no (unhide hd)]
      exact ⟨rfl, hbel⟩
theorem isq_i (a : Option Addr) (n c : Nat) (l : List Int) (p : Nat) (q : Int) (hq : q = (p : Int)) (x : Int) (w : World) (h : Row .i32 w a n c l) (hn : n ≤ 4611686018427387904) (hp : p ≤ 4611686018427387904) :
    Calls Try.prog 81 #[.slice a n c, .int .i64 q, .int .i32 x] w fun e w' => e = .returned (.bool (isAt l p x)) ∧ Below w.heap.size w w' := by
  subst hq; exact is_i a n c l p x w h hn hp
theorem point_i (a : Option Addr) (n c : Nat) (l : List Int) (p : Nat) (w : World) (h : Row .i32 w a n c l) (hn : n ≤ 4611686018427387904) (hp : p ≤ 4611686018427387904) :
    Calls Try.prog 84 #[.slice a n c, .int .i64 (p : Int)] w fun e w' => e = .returned (.int .i64 (bPoint l p : Nat)) ∧ Below w.heap.size w w' := by
  go_enter Try.func84, Try.ntmps84
  go_wp2_with fail
  refine (is_i a n c l p 46 w h hn hp).mono ?_
  rintro e w1 ⟨rfl, b1⟩
  cases e1 : isAt l p 46
  all_goals
    go_wp2
    go_ret
    exact ⟨by unfold bPoint; rw [e1]; go_num, b1⟩
theorem mark_i (a : Option Addr) (n c : Nat) (l : List Int) (p : Nat) (w : World) (h : Row .i32 w a n c l) (hn : n ≤ 4611686018427387904) (hp : p ≤ 4611686018427387903) :
    Calls Try.prog 85 #[.slice a n c, .int .i64 (p : Int)] w fun e w' => e = .returned (.int .i64 (bMark l p : Nat)) ∧ Below w.heap.size w w' := by
  go_enter Try.func85, Try.ntmps85
  go_wp2_with fail
  refine (is_i a n c l p 101 w h hn (by omega)).mono ?_
  rintro e w1 ⟨rfl, b1⟩
  cases e1 : isAt l p 101
  · go_wp2_with fail
    refine (is_i a n c l p 69 w1 (h.below b1) hn (by omega)).mono ?_
    rintro e w2 ⟨rfl, b2⟩
    have b2 := b1.trans (b2.mono b1.size)
    cases e2 : isAt l p 69
    · go_wp2
      go_ret
      exact ⟨by unfold bMark; rw [if_pos ⟨e1, e2⟩]; rfl, b2⟩
    · go_wp2_with fail
      refine (isq_i a n c l (p + 1) _ (by omega) 43 w2 (h.below b2) hn (by omega)).mono ?_
      rintro e w3 ⟨rfl, b3⟩
      have b3 := b2.trans (b3.mono b2.size)
      cases e3 : isAt l (p + 1) 43
      · go_wp2_with fail
        refine (isq_i a n c l (p + 1) _ (by omega) 45 w3 (h.below b3) hn (by omega)).mono ?_
        rintro e w4 ⟨rfl, b4⟩
        have b4 := b3.trans (b4.mono b3.size)
        cases e4 : isAt l (p + 1) 45
        · go_wp2
          go_ret
          exact ⟨by unfold bMark; rw [if_neg (by simp [e2]), if_neg (by simp [e3, e4])]; go_num, b4⟩
        · go_wp2
          go_ret
          exact ⟨by unfold bMark; rw [if_neg (by simp [e2]), if_pos (.inr e4)]; go_num, b4⟩
      · go_wp2
        go_ret
        exact ⟨by unfold bMark; rw [if_neg (by simp [e2]), if_pos (.inl e3)]; go_num, b3⟩
  · go_wp2_with fail
    refine (isq_i a n c l (p + 1) _ (by omega) 43 w1 (h.below b1) hn (by omega)).mono ?_
    rintro e w3 ⟨rfl, b3⟩
    have b3 := b1.trans (b3.mono b1.size)
    cases e3 : isAt l (p + 1) 43
    · go_wp2_with fail
      refine (isq_i a n c l (p + 1) _ (by omega) 45 w3 (h.below b3) hn (by omega)).mono ?_
      rintro e w4 ⟨rfl, b4⟩
      have b4 := b3.trans (b4.mono b3.size)
      cases e4 : isAt l (p + 1) 45
      · go_wp2
        go_ret
        exact ⟨by unfold bMark; rw [if_neg (by simp [e1]), if_neg (by simp [e3, e4])]; go_num, b4⟩
      · go_wp2
        go_ret
        exact ⟨by unfold bMark; rw [if_neg (by simp [e1]), if_pos (.inr e4)]; go_num, b4⟩
    · go_wp2
      go_ret
      exact ⟨by unfold bMark; rw [if_neg (by simp [e1]), if_pos (.inl e3)]; go_num, b3⟩
theorem whole_i (a : Option Addr) (n c : Nat) (l : List Int) (p : Nat) (w : World) (h : Row .i32 w a n c l) (hn : n ≤ 4611686018427387904) (hp : p ≤ 4611686018427387904) :
    Calls Try.prog 82 #[.slice a n c, .int .i64 (p : Int)] w fun e w' => e = .returned (.int .i64 (bWhole l p : Nat)) ∧ Below w.heap.size w w' := by
  go_enter Try.func82, Try.ntmps82
  go_wp2_with fail
  refine (is_i a n c l p 48 w h hn hp).mono ?_
  rintro e w1 ⟨rfl, b1⟩
  cases e1 : isAt l p 48
  · go_wp2_with fail
    refine (digs_i a n c l p w1 (h.below b1) hn hp).mono ?_
    rintro e w2 ⟨rfl, b2⟩
    have b2 := b1.trans (b2.mono b1.size)
    go_wp2
    go_ret
    exact ⟨by unfold bWhole; rw [e1]; rfl, b2⟩
  · go_wp2
    go_ret
    exact ⟨by unfold bWhole; rw [e1]; go_num, b1⟩
theorem wholeq_i (a : Option Addr) (n c : Nat) (l : List Int) (p : Nat) (q : Int) (hq : q = (p : Int)) (w : World) (h : Row .i32 w a n c l) (hn : n ≤ 4611686018427387904) (hp : p ≤ 4611686018427387904) :
    Calls Try.prog 82 #[.slice a n c, .int .i64 q] w fun e w' => e = .returned (.int .i64 (bWhole l p : Nat)) ∧ Below w.heap.size w w' := by
  subst hq; exact whole_i a n c l p w h hn hp
theorem part_i (a : Option Addr) (n c : Nat) (l : List Int) (p first : Nat) (w : World) (h : Row .i32 w a n c l) (hn : n ≤ 4611686018427387904) (hp : p ≤ 4611686018427387904) (hf : first ≤ 4611686018427387904) :
    Calls Try.prog 83 #[.slice a n c, .int .i64 (p : Int), .int .i64 (first : Int)] w fun e w' => e = .returned (.tuple #[.int .i64 ((bPart l p first).1 : Nat), .int .i64 ((bPart l p first).2 : Nat)]) ∧ Below w.heap.size w w' := by
  go_enter Try.func83, Try.ntmps83
  by_cases e1 : first = p
  · have e1i : ((first : Int) == (p : Int)) = true := by simp [e1]
    go_wp2
    go_ret2
    exact ⟨by unfold bPart; rw [if_pos e1]; rfl, Below.refl _ _⟩
  · have e1i : ((first : Int) == (p : Int)) = false := by simp; omega
    go_wp2_with fail
    refine (digs_i a n c l first w h hn hf).mono ?_
    rintro e w1 ⟨rfl, b1⟩
    by_cases e2 : digs l first = first
    · have e2i : ((digs l first : Int) == (first : Int)) = true := by simp [e2]
      go_wp2
      go_ret2
      exact ⟨by unfold bPart; rw [if_neg e1, if_pos e2, e2]; rfl, b1⟩
    · have e2i : ((digs l first : Int) == (first : Int)) = false := by simp; omega
      go_wp2
      go_ret2
      exact ⟨by unfold bPart; rw [if_neg e1, if_neg e2]; rfl, b1⟩
theorem prefix_out_i (a : Option Addr) (n c : Nat) (i : Int) (w : World) (hi : i < 0 ∨ (n : Int) < i) :
    Calls Try.prog 75 #[.slice a n c, .int .i64 i] w fun e w' => e = .returned (.tuple #[.int .i64 0, .int .i64 0, .int .i64 0]) ∧ Below w.heap.size w w' := by
  go_enter Try.func75, Try.ntmps75
  by_cases h0 : i < 0
  · go_wp2
    go_ret3
    exact ⟨rfl, Below.refl _ _⟩
  · have h1 : (n : Int) < i := by omega
    go_wp2
    go_ret3
    exact ⟨rfl, Below.refl _ _⟩
set_option maxHeartbeats 1000000 in
theorem prefix_in_i (a : Option Addr) (n c : Nat) (l : List Int) (p : Nat) (w : World) (h : Row .i32 w a n c l) (hn : n ≤ 4611686018427387900) (hp : p ≤ n) :
    Calls Try.prog 75 #[.slice a n c, .int .i64 (p : Int)] w fun e w' => e = .returned (.tuple #[.int .i64 ((pfx l p).1 : Nat), .int .i64 ((pfx l p).2.1 : Nat), .int .i64 (pfx l p).2.2]) ∧ Below w.heap.size w w' := by
  go_enter Try.func75, Try.ntmps75
  have h0 : ¬ (p : Int) < 0 := by omega
  have h1 : ¬ (n : Int) < (p : Int) := by omega
  go_wp2_with fail
  refine (is_i a n c l p 45 w h (by omega) (by omega)).mono ?_
  rintro e w1 ⟨rfl, b1⟩
  cases e1 : isAt l p 45
  · have hF := hide (show pfxFirst l p = p from by unfold pfxFirst; rw [e1]; rfl)
    clear e1
    have HL := hide h.len
    have hF1 := whole_le (l := l) (p := p) (by rw [h.len]; omega)
    rw [h.len] at hF1
    go_wp2_with fail
    refine (wholeq_i a n c l (p) _ (by omega) w1 (h.below b1) (by omega) (by omega)).mono ?_
    rintro e w2 ⟨rfl, b2⟩
    have b2 := b1.trans (b2.mono b1.size)
    by_cases e2 : bWhole l (p) = p
    · have e2i : ((bWhole l (p) : Int) == (p : Int)) = true := by simp; omega
      have HE2 := hide e2
      clear e2
      go_wp2
      go_ret3
      exact ⟨by unfold pfx; rw [unhide hF, if_pos (unhide HE2)]; rfl, b2⟩
    · have e2i : ((bWhole l (p) : Int) == (p : Int)) = false := by simp; omega
      have HP := hide (show pfx l p = ((pfxR l (bWhole l (p))).1, (pfxR l (bWhole l (p))).2, if (pfxR l (bWhole l (p))).1 > bWhole l (p) then 2 else 1) from by unfold pfx; rw [unhide hF, if_neg e2])
      clear e2
      generalize bWhole l (p) = E at *
      have hq1 := point_le (l := l) (p := E) (by rw [unhide HL]; exact hF1)
      have hq2 := part_le (l := l) (p := E) (f := bPoint l E) (by rw [unhide HL]; exact hF1) hq1
      rw [unhide HL] at hq1 hq2
      go_wp2_with fail
      refine (point_i a n c l E w2 (h.below b2) (by omega) (by omega)).mono ?_
      rintro e w3 ⟨rfl, b3⟩
      have b3 := b2.trans (b3.mono b2.size)
      go_wp2_with fail
      refine (part_i a n c l E (bPoint l E) w3 (h.below b3) (by omega) (by omega) (by omega)).mono ?_
      rintro e w4 ⟨rfl, b4⟩
      have b4 := b3.trans (b4.mono b3.size)
      have HR := hide (show pfxR l E = if (bPart l E (bPoint l E)).1 = (bPart l E (bPoint l E)).2 then bPart l (bPart l E (bPoint l E)).1 (bMark l (bPart l E (bPoint l E)).1) else bPart l E (bPoint l E) from rfl)
      clear hq1
      generalize bPart l E (bPoint l E) = R at *
      obtain ⟨R1, R2⟩ := R
      simp only at hq2
      by_cases e3 : R1 = R2
      · have e3i : ((R1 : Int) == (R2 : Int)) = true := by simp; omega
        have HR2 := hide (show pfxR l E = bPart l R1 (bMark l R1) from by rw [unhide HR]; exact if_pos e3)
        clear HR
        clear e3i
        subst e3
        have e3i : ((R1 : Int) == (R1 : Int)) = true := by simp
        have hm1 := mark_le (l := l) (p := R1) (by rw [unhide HL]; exact hq2.1)
        rw [unhide HL] at hm1
        go_wp2_with fail
        refine (mark_i a n c l R1 w4 (h.below b4) (by omega) (by omega)).mono ?_
        rintro e w5 ⟨rfl, b5⟩
        have b5 := b4.trans (b5.mono b4.size)
        go_wp2_with fail
        refine (part_i a n c l R1 (bMark l R1) w5 (h.below b5) (by omega) (by omega) (by omega)).mono ?_
        rintro e w6 ⟨rfl, b6⟩
        have b6 := b5.trans (b6.mono b5.size)
        clear hm1 e3i
        rw [unhide HR2] at HP
        generalize bPart l R1 (bMark l R1) = S at *
        obtain ⟨S1, S2⟩ := S
        by_cases e4 : E < S1
        · have HQ := hide (show pfx l p = (S1, S2, 2) from by rw [unhide HP]; simp [e4])
          have e4i : (E : Int) < (S1 : Int) := by omega
          clear HP HR2
          go_wp2
          go_ret3
          exact ⟨by rw [unhide HQ]; rfl, b6⟩
        · have HQ := hide (show pfx l p = (S1, S2, 1) from by rw [unhide HP]; simp [e4])
          have e4i : ¬ (E : Int) < (S1 : Int) := by omega
          clear HP HR2
          go_wp2
          go_ret3
          exact ⟨by rw [unhide HQ]; rfl, b6⟩
      · have e3i : ((R1 : Int) == (R2 : Int)) = false := by simp; omega
        have HR2 := hide (show pfxR l E = (R1, R2) from by rw [unhide HR]; exact if_neg e3)
        clear HR e3
        rw [unhide HR2] at HP
        by_cases e4 : E < R1
        · have HQ := hide (show pfx l p = (R1, R2, 2) from by rw [unhide HP]; simp [e4])
          have e4i : (E : Int) < (R1 : Int) := by omega
          clear HP HR2
          go_wp2
          go_ret3
          exact ⟨by rw [unhide HQ]; rfl, b4⟩
        · have HQ := hide (show pfx l p = (R1, R2, 1) from by rw [unhide HP]; simp [e4])
          have e4i : ¬ (E : Int) < (R1 : Int) := by omega
          clear HP HR2
          go_wp2
          go_ret3
          exact ⟨by rw [unhide HQ]; rfl, b4⟩
  · have hF := hide (show pfxFirst l p = p + 1 from by unfold pfxFirst; rw [e1]; rfl)
    have hpl := isAt_lt e1
    rw [h.len] at hpl
    clear e1
    have HL := hide h.len
    have hF1 := whole_le (l := l) (p := p + 1) (by rw [h.len]; omega)
    rw [h.len] at hF1
    go_wp2_with fail
    refine (wholeq_i a n c l (p + 1) _ (by omega) w1 (h.below b1) (by omega) (by omega)).mono ?_
    rintro e w2 ⟨rfl, b2⟩
    have b2 := b1.trans (b2.mono b1.size)
    by_cases e2 : bWhole l (p + 1) = p + 1
    · have e2i : ((bWhole l (p + 1) : Int) == ((p : Int) + 1)) = true := by simp; omega
      have HE2 := hide e2
      clear e2
      go_wp2
      go_ret3
      exact ⟨by unfold pfx; rw [unhide hF, if_pos (unhide HE2)]; rfl, b2⟩
    · have e2i : ((bWhole l (p + 1) : Int) == ((p : Int) + 1)) = false := by simp; omega
      have HP := hide (show pfx l p = ((pfxR l (bWhole l (p + 1))).1, (pfxR l (bWhole l (p + 1))).2, if (pfxR l (bWhole l (p + 1))).1 > bWhole l (p + 1) then 2 else 1) from by unfold pfx; rw [unhide hF, if_neg e2])
      clear e2
      generalize bWhole l (p + 1) = E at *
      have hq1 := point_le (l := l) (p := E) (by rw [unhide HL]; exact hF1)
      have hq2 := part_le (l := l) (p := E) (f := bPoint l E) (by rw [unhide HL]; exact hF1) hq1
      rw [unhide HL] at hq1 hq2
      go_wp2_with fail
      refine (point_i a n c l E w2 (h.below b2) (by omega) (by omega)).mono ?_
      rintro e w3 ⟨rfl, b3⟩
      have b3 := b2.trans (b3.mono b2.size)
      go_wp2_with fail
      refine (part_i a n c l E (bPoint l E) w3 (h.below b3) (by omega) (by omega) (by omega)).mono ?_
      rintro e w4 ⟨rfl, b4⟩
      have b4 := b3.trans (b4.mono b3.size)
      have HR := hide (show pfxR l E = if (bPart l E (bPoint l E)).1 = (bPart l E (bPoint l E)).2 then bPart l (bPart l E (bPoint l E)).1 (bMark l (bPart l E (bPoint l E)).1) else bPart l E (bPoint l E) from rfl)
      clear hq1
      generalize bPart l E (bPoint l E) = R at *
      obtain ⟨R1, R2⟩ := R
      simp only at hq2
      by_cases e3 : R1 = R2
      · have e3i : ((R1 : Int) == (R2 : Int)) = true := by simp; omega
        have HR2 := hide (show pfxR l E = bPart l R1 (bMark l R1) from by rw [unhide HR]; exact if_pos e3)
        clear HR
        clear e3i
        subst e3
        have e3i : ((R1 : Int) == (R1 : Int)) = true := by simp
        have hm1 := mark_le (l := l) (p := R1) (by rw [unhide HL]; exact hq2.1)
        rw [unhide HL] at hm1
        go_wp2_with fail
        refine (mark_i a n c l R1 w4 (h.below b4) (by omega) (by omega)).mono ?_
        rintro e w5 ⟨rfl, b5⟩
        have b5 := b4.trans (b5.mono b4.size)
        go_wp2_with fail
        refine (part_i a n c l R1 (bMark l R1) w5 (h.below b5) (by omega) (by omega) (by omega)).mono ?_
        rintro e w6 ⟨rfl, b6⟩
        have b6 := b5.trans (b6.mono b5.size)
        clear hm1 e3i
        rw [unhide HR2] at HP
        generalize bPart l R1 (bMark l R1) = S at *
        obtain ⟨S1, S2⟩ := S
        by_cases e4 : E < S1
        · have HQ := hide (show pfx l p = (S1, S2, 2) from by rw [unhide HP]; simp [e4])
          have e4i : (E : Int) < (S1 : Int) := by omega
          clear HP HR2
          go_wp2
          go_ret3
          exact ⟨by rw [unhide HQ]; rfl, b6⟩
        · have HQ := hide (show pfx l p = (S1, S2, 1) from by rw [unhide HP]; simp [e4])
          have e4i : ¬ (E : Int) < (S1 : Int) := by omega
          clear HP HR2
          go_wp2
          go_ret3
          exact ⟨by rw [unhide HQ]; rfl, b6⟩
      · have e3i : ((R1 : Int) == (R2 : Int)) = false := by simp; omega
        have HR2 := hide (show pfxR l E = (R1, R2) from by rw [unhide HR]; exact if_neg e3)
        clear HR e3
        rw [unhide HR2] at HP
        by_cases e4 : E < R1
        · have HQ := hide (show pfx l p = (R1, R2, 2) from by rw [unhide HP]; simp [e4])
          have e4i : (E : Int) < (R1 : Int) := by omega
          clear HP HR2
          go_wp2
          go_ret3
          exact ⟨by rw [unhide HQ]; rfl, b4⟩
        · have HQ := hide (show pfx l p = (R1, R2, 1) from by rw [unhide HP]; simp [e4])
          have e4i : ¬ (E : Int) < (R1 : Int) := by omega
          clear HP HR2
          go_wp2
          go_ret3
          exact ⟨by rw [unhide HQ]; rfl, b4⟩

end Go.Proofs.Ytgphiollpbahgaa.mem
namespace Go.Proofs.Ytgphiollpbahgaa.ints
open Go.ChangeShapes Go.WideShapes Go.ChangeAt Go.RowKit
set_option linter.unusedVariables false

def inB (c : Int) (s : ByteArray) : Bool := s.data.toList.any fun b => decide ((b.toNat : Int) = c)
theorem inB_yes {c : Int} {s : ByteArray} {k : Nat} (h : k < s.size) (e : (s[k].toNat : Int) = c) : inB c s = true := by
  unfold inB
  rw [List.any_eq_true]
  exact ⟨s[k], by simp [ByteArray.getElem_eq_getElem_data], by simpa using e⟩
theorem inB_no {c : Int} {s : ByteArray} (h : ∀ k (hk : k < s.size), ¬ (s[k].toNat : Int) = c) : inB c s = false := by
  unfold inB
  rw [List.any_eq_false]
  intro b hb
  obtain ⟨k, hk, rfl⟩ := List.mem_iff_getElem.1 hb
  have := h k (by simpa using hk)
  simpa [ByteArray.getElem_eq_getElem_data] using this
theorem wrap32_u8 (b : UInt8) : wrap32 (b.toNat : Int) = (b.toNat : Int) := by
  have := b.toNat_lt
  unfold wrap32
  omega
end Go.Proofs.Ytgphiollpbahgaa.ints
namespace Go.Proofs.Ytgphiollpbahgaa.ints
open Go.ChangeShapes Go.WideShapes Go.ChangeAt Go.RowKit
set_option linter.unusedVariables false

theorem digit_yes (c : Int) (w : World) (h1 : 48 ≤ c) (h2 : c ≤ 57) :
    Calls Try.prog 62 #[.int .i32 c] w fun e w' => e = .returned (.bool true) ∧ w' = w := by
  go_enter Try.func62, Try.ntmps62
  go_wp2_with fail
  refine (within_yes _ _ _ _ h1 h2).mono ?_
  rintro e w' ⟨rfl, rfl⟩
  go_wp2
  go_ret
  exact ⟨rfl, rfl⟩
theorem digit_no (c : Int) (w : World) (h : ¬ (48 ≤ c ∧ c ≤ 57)) :
    Calls Try.prog 62 #[.int .i32 c] w fun e w' => e = .returned (.bool false) ∧ w' = w := by
  go_enter Try.func62, Try.ntmps62
  go_wp2_with fail
  refine (within_no _ _ _ _ h).mono ?_
  rintro e w' ⟨rfl, rfl⟩
  go_wp2
  go_ret
  exact ⟨rfl, rfl⟩
def nsP (c : Int) : Prop := (65 ≤ c ∧ c ≤ 90) ∨ (97 ≤ c ∧ c ≤ 122) ∨ c = 95
theorem ns_yes (c : Int) (w : World) (h : nsP c) :
    Calls Try.prog 60 #[.int .i32 c] w fun e w' => e = .returned (.bool true) ∧ w' = w := by
  rcases h with ⟨h1, h2⟩ | ⟨h1, h2⟩ | h
  · go_enter Try.func60, Try.ntmps60
    go_wp2_with fail
    refine (within_yes _ _ _ _ h1 h2).mono ?_
    rintro e w' ⟨rfl, rfl⟩
    go_wp2
    go_ret
    exact ⟨rfl, rfl⟩
  · go_enter Try.func60, Try.ntmps60
    go_wp2_with fail
    refine (within_no _ _ _ _ (by omega)).mono ?_
    rintro e w' ⟨rfl, rfl⟩
    go_wp2_with fail
    refine (within_yes _ _ _ _ h1 h2).mono ?_
    rintro e w' ⟨rfl, rfl⟩
    go_wp2
    go_ret
    exact ⟨rfl, rfl⟩
  · have h0 : ¬ (65 ≤ c ∧ c ≤ 90) := by omega
    have h1 : ¬ (97 ≤ c ∧ c ≤ 122) := by omega
    have hb : (c == 95) = true := by simpa using h
    clear h
    go_enter Try.func60, Try.ntmps60
    go_wp2_with fail
    refine (within_no _ _ _ _ h0).mono ?_
    rintro e w' ⟨rfl, rfl⟩
    go_wp2_with fail
    refine (within_no _ _ _ _ h1).mono ?_
    rintro e w' ⟨rfl, rfl⟩
    go_wp2
    go_ret
    exact ⟨rfl, rfl⟩
theorem ns_no (c : Int) (w : World) (h : ¬ nsP c) :
    Calls Try.prog 60 #[.int .i32 c] w fun e w' => e = .returned (.bool false) ∧ w' = w := by
  unfold nsP at h
  have h0 : ¬ (65 ≤ c ∧ c ≤ 90) := by omega
  have h1 : ¬ (97 ≤ c ∧ c ≤ 122) := by omega
  have hb : (c == 95) = false := by simp; omega
  clear h
  go_enter Try.func60, Try.ntmps60
  go_wp2_with fail
  refine (within_no _ _ _ _ h0).mono ?_
  rintro e w' ⟨rfl, rfl⟩
  go_wp2_with fail
  refine (within_no _ _ _ _ h1).mono ?_
  rintro e w' ⟨rfl, rfl⟩
  go_wp2
  go_ret
  exact ⟨rfl, rfl⟩
def nrP (c : Int) : Prop := nsP c ∨ (48 ≤ c ∧ c ≤ 57)
theorem nr_yes (c : Int) (w : World) (h : nrP c) :
    Calls Try.prog 74 #[.int .i32 c] w fun e w' => e = .returned (.bool true) ∧ w' = w := by
  by_cases h1 : nsP c
  · go_enter Try.func74, Try.ntmps74
    go_wp2_with fail
    refine (ns_yes _ _ h1).mono ?_
    rintro e w' ⟨rfl, rfl⟩
    go_wp2
    go_ret
    exact ⟨rfl, rfl⟩
  · have h2 : 48 ≤ c ∧ c ≤ 57 := by rcases h with h | h; exact absurd h h1; exact h
    clear h
    go_enter Try.func74, Try.ntmps74
    go_wp2_with fail
    refine (ns_no _ _ h1).mono ?_
    rintro e w' ⟨rfl, rfl⟩
    go_wp2_with fail
    refine (digit_yes _ _ h2.1 h2.2).mono ?_
    rintro e w' ⟨rfl, rfl⟩
    go_wp2
    go_ret
    exact ⟨rfl, rfl⟩
theorem nr_no (c : Int) (w : World) (h : ¬ nrP c) :
    Calls Try.prog 74 #[.int .i32 c] w fun e w' => e = .returned (.bool false) ∧ w' = w := by
  have h1 : ¬ nsP c := fun x => h (.inl x)
  have h2 : ¬ (48 ≤ c ∧ c ≤ 57) := fun x => h (.inr x)
  clear h
  go_enter Try.func74, Try.ntmps74
  go_wp2_with fail
  refine (ns_no _ _ h1).mono ?_
  rintro e w' ⟨rfl, rfl⟩
  go_wp2_with fail
  refine (digit_no _ _ h2).mono ?_
  rintro e w' ⟨rfl, rfl⟩
  go_wp2
  go_ret
  exact ⟨rfl, rfl⟩
def blP (c : Int) : Prop := c = 9 ∨ c = 10 ∨ c = 13 ∨ c = 32 ∨ c = 44 ∨ c = 65279
theorem bl_yes (c : Int) (w : World) (h : blP c) :
    Calls Try.prog 57 #[.int .i32 c] w fun e w' => e = .returned (.bool true) ∧ w' = w := by
  rcases h with rfl | rfl | rfl | rfl | rfl | rfl
  all_goals
    go_enter Try.func57, Try.ntmps57
    go_wp2
    go_ret
    exact ⟨rfl, rfl⟩
theorem bl_no (c : Int) (w : World) (h : ¬ blP c) :
    Calls Try.prog 57 #[.int .i32 c] w fun e w' => e = .returned (.bool false) ∧ w' = w := by
  unfold blP at h
  have b0 : (c == 9) = false := by simp; omega
  have b1 : (c == 10) = false := by simp; omega
  have b2 : (c == 13) = false := by simp; omega
  have b3 : (c == 32) = false := by simp; omega
  have b4 : (c == 44) = false := by simp; omega
  have b5 : (c == 65279) = false := by simp; omega
  clear h
  go_enter Try.func57, Try.ntmps57
  go_wp2
  go_ret
  exact ⟨rfl, rfl⟩
def soP (c : Int) : Prop := c = 9 ∨ c = 10 ∨ c = 13 ∨ (32 ≤ c ∧ c ≤ 55295) ∨ (57344 ≤ c ∧ c ≤ 65535)
theorem so_yes (c : Int) (w : World) (h : soP c) :
    Calls Try.prog 58 #[.int .i32 c] w fun e w' => e = .returned (.bool true) ∧ w' = w := by
  rcases h with rfl | rfl | rfl | ⟨h1, h2⟩ | ⟨h1, h2⟩
  · go_enter Try.func58, Try.ntmps58
    go_wp2
    go_ret
    exact ⟨rfl, rfl⟩
  · go_enter Try.func58, Try.ntmps58
    go_wp2
    go_ret
    exact ⟨rfl, rfl⟩
  · go_enter Try.func58, Try.ntmps58
    go_wp2
    go_ret
    exact ⟨rfl, rfl⟩
  · have b0 : (c == 9) = false := by simp; omega
    have b1 : (c == 10) = false := by simp; omega
    have b2 : (c == 13) = false := by simp; omega
    go_enter Try.func58, Try.ntmps58
    go_wp2_with fail
    refine (within_yes _ _ _ _ h1 h2).mono ?_
    rintro e w' ⟨rfl, rfl⟩
    go_wp2
    go_ret
    exact ⟨rfl, rfl⟩
  · have b0 : (c == 9) = false := by simp; omega
    have b1 : (c == 10) = false := by simp; omega
    have b2 : (c == 13) = false := by simp; omega
    have h0 : ¬ (32 ≤ c ∧ c ≤ 55295) := by omega
    go_enter Try.func58, Try.ntmps58
    go_wp2_with fail
    refine (within_no _ _ _ _ h0).mono ?_
    rintro e w' ⟨rfl, rfl⟩
    go_wp2_with fail
    refine (within_yes _ _ _ _ h1 h2).mono ?_
    rintro e w' ⟨rfl, rfl⟩
    go_wp2
    go_ret
    exact ⟨rfl, rfl⟩
theorem so_no (c : Int) (w : World) (h : ¬ soP c) :
    Calls Try.prog 58 #[.int .i32 c] w fun e w' => e = .returned (.bool false) ∧ w' = w := by
  unfold soP at h
  have b0 : (c == 9) = false := by simp; omega
  have b1 : (c == 10) = false := by simp; omega
  have b2 : (c == 13) = false := by simp; omega
  have h0 : ¬ (32 ≤ c ∧ c ≤ 55295) := by omega
  have h1 : ¬ (57344 ≤ c ∧ c ≤ 65535) := by omega
  clear h
  go_enter Try.func58, Try.ntmps58
  go_wp2_with fail
  refine (within_no _ _ _ _ h0).mono ?_
  rintro e w' ⟨rfl, rfl⟩
  go_wp2_with fail
  refine (within_no _ _ _ _ h1).mono ?_
  rintro e w' ⟨rfl, rfl⟩
  go_wp2
  go_ret
  exact ⟨rfl, rfl⟩
def hexV (c : Int) : Int := if 48 ≤ c ∧ c ≤ 57 then c - 48 else if 97 ≤ c ∧ c ≤ 102 then c - 97 + 10 else if 65 ≤ c ∧ c ≤ 70 then c - 65 + 10 else -1
theorem ret_int {k : IntKind} {a b : Int} (h : a = b) : Ending.returned (.int k a) = .returned (.int k b) := by rw [h]
theorem hex_any (c : Int) (w : World) :
    Calls Try.prog 105 #[.int .i32 c] w fun e w' => e = .returned (.int .i64 (hexV c)) ∧ w' = w := by
  by_cases h1 : 48 ≤ c ∧ c ≤ 57
  · have hv := hide (show hexV c = c - 48 from if_pos h1)
    obtain ⟨a1, a2⟩ := h1
    go_enter Try.func105, Try.ntmps105
    go_wp2_with fail
    refine (digit_yes _ _ a1 a2).mono ?_
    rintro e w' ⟨rfl, rfl⟩
    go_wp2
    go_ret
    rw [unhide hv]
    exact ⟨rfl, rfl⟩
  by_cases h2 : 97 ≤ c ∧ c ≤ 102
  · have hv := hide (show hexV c = c - 97 + 10 from by unfold hexV; rw [if_neg h1, if_pos h2])
    obtain ⟨a1, a2⟩ := h2
    go_enter Try.func105, Try.ntmps105
    go_wp2_with fail
    refine (digit_no _ _ h1).mono ?_
    rintro e w' ⟨rfl, rfl⟩
    go_wp2_with fail
    refine (within_yes _ _ _ _ a1 a2).mono ?_
    rintro e w' ⟨rfl, rfl⟩
    go_wp2
    go_ret
    rw [unhide hv]
    exact ⟨rfl, rfl⟩
  by_cases h3 : 65 ≤ c ∧ c ≤ 70
  · have hv := hide (show hexV c = c - 65 + 10 from by unfold hexV; rw [if_neg h1, if_neg h2, if_pos h3])
    obtain ⟨a1, a2⟩ := h3
    go_enter Try.func105, Try.ntmps105
    go_wp2_with fail
    refine (digit_no _ _ h1).mono ?_
    rintro e w' ⟨rfl, rfl⟩
    go_wp2_with fail
    refine (within_no _ _ _ _ h2).mono ?_
    rintro e w' ⟨rfl, rfl⟩
    go_wp2_with fail
    refine (within_yes _ _ _ _ a1 a2).mono ?_
    rintro e w' ⟨rfl, rfl⟩
    go_wp2
    go_ret
    rw [unhide hv]
    exact ⟨rfl, rfl⟩
  have hv := hide (show hexV c = -1 from by unfold hexV; rw [if_neg h1, if_neg h2, if_neg h3])
  go_enter Try.func105, Try.ntmps105
  go_wp2_with fail
  refine (digit_no _ _ h1).mono ?_
  rintro e w' ⟨rfl, rfl⟩
  go_wp2_with fail
  refine (within_no _ _ _ _ h2).mono ?_
  rintro e w' ⟨rfl, rfl⟩
  go_wp2_with fail
  refine (within_no _ _ _ _ h3).mono ?_
  rintro e w' ⟨rfl, rfl⟩
  go_wp2
  go_ret
  rw [unhide hv]
  exact ⟨rfl, rfl⟩
end Go.Proofs.Ytgphiollpbahgaa.ints
namespace Go.Proofs.Ytgphiollpbahgaa.mem
open Go.ChangeShapes Go.WideShapes Go.ChangeAt Go.RowKit
open ints (hide unhide)
set_option linter.unusedVariables false

def scP (c : Int) : Prop := (0 ≤ c ∧ c ≤ 55295) ∨ (57344 ≤ c ∧ c ≤ 1114111)
def scB (c : Int) : Bool := (decide (0 ≤ c) && decide (c ≤ 55295)) || (decide (57344 ≤ c) && decide (c ≤ 1114111))
theorem scB_iff (c : Int) : scB c = true ↔ scP c := by simp [scB, scP]
def putB (c : Int) : List Int :=
  if c < 128 then [c]
  else if c < 2048 then [192 + c / 64, 128 + c % 64]
  else if c < 65536 then [224 + c / 4096, 128 + c / 64 % 64, 128 + c % 64]
  else [240 + c / 262144, 128 + c / 4096 % 64, 128 + c / 64 % 64, 128 + c % 64]
theorem putB_len (c : Int) : 1 ≤ (putB c).length ∧ (putB c).length ≤ 4 := by
  unfold putB; repeat' split
  all_goals simp
theorem putB_1 {c : Int} (h : c < 128) : putB c = [c] := if_pos h
theorem putB_2 {c : Int} (h0 : 128 ≤ c) (h : c < 2048) : putB c = [192 + c / 64, 128 + c % 64] := by
  unfold putB; rw [if_neg (by omega), if_pos h]
theorem putB_3 {c : Int} (h0 : 2048 ≤ c) (h : c < 65536) : putB c = [224 + c / 4096, 128 + c / 64 % 64, 128 + c % 64] := by
  unfold putB; rw [if_neg (by omega), if_neg (by omega), if_pos h]
theorem putB_4 {c : Int} (h0 : 65536 ≤ c) : putB c = [240 + c / 262144, 128 + c / 4096 % 64, 128 + c / 64 % 64, 128 + c % 64] := by
  unfold putB; rw [if_neg (by omega), if_neg (by omega), if_neg (by omega)]

theorem valid_yes (c : Int) (w : World) (h : scP c) :
    Calls Try.prog 33 #[.int .i32 c] w fun e w' => e = .returned (.bool true) ∧ w' = w := by
  rcases h with ⟨h1, h2⟩ | ⟨h1, h2⟩
  · have a1 : c < 55296 := by omega
    go_enter Try.func33, Try.ntmps33
    go_wp2
    go_ret
    exact ⟨rfl, rfl⟩
  · have a1 : ¬ c < 55296 := by omega
    have a2 : 0 ≤ c := by omega
    have a3 : 57343 < c := by omega
    go_enter Try.func33, Try.ntmps33
    go_wp2
    go_ret
    exact ⟨rfl, rfl⟩
theorem valid_no (c : Int) (w : World) (h : ¬ scP c) :
    Calls Try.prog 33 #[.int .i32 c] w fun e w' => e = .returned (.bool false) ∧ w' = w := by
  unfold scP at h
  by_cases h1 : 0 ≤ c
  · have a1 : ¬ c < 55296 := by omega
    by_cases h2 : 57343 < c
    · have a3 : ¬ c ≤ 1114111 := by omega
      clear h
      go_enter Try.func33, Try.ntmps33
      go_wp2
      go_ret
      exact ⟨rfl, rfl⟩
    · clear h
      go_enter Try.func33, Try.ntmps33
      go_wp2
      go_ret
      exact ⟨rfl, rfl⟩
  · have a2 : ¬ 57343 < c := by omega
    clear h
    go_enter Try.func33, Try.ntmps33
    go_wp2
    go_ret
    exact ⟨rfl, rfl⟩
set_option maxHeartbeats 4000000 in
set_option maxRecDepth 100000 in
theorem arn_two (B : Nat) (v : Value) (n : Nat) (xs : List Value) (r : Int) (h0 : 128 ≤ r) (h1 : r ≤ 2047) (w : World) (hown : w.ownsRow B 5 1 v n xs) (hlen : n + 4 ≤ 140737488355328) (hBw : B ≤ w.heap.size) :
    Calls Try.prog 47 #[v, .int .i32 r] w fun e w' => ∃ v', e = .returned v' ∧ w'.ownsRow B 5 1 v' (n + 2) (xs ++ [.int .u8 (192 + r / 64), .int .u8 (128 + r % 64)]) ∧ ∃ o, (w.alloc o).grownBy w' v.ownBlock := by
  obtain ⟨i0, hi, hz0, hz1, hz2⟩ := info_parts info8
  go_enter Try.func47, Try.ntmps47
  go_wp2_with (at_builtin; refine wpList_append_own _ rfl _ _ 22 rfl B 5 i0 (.int .u8 0) 1 1 Try.underlying22 hi hz0 hz1 hz2 rfl (by decide) _ _ _ rfl (hown.alloc _) ⟨w.heap.size, 0, none⟩ 2 2 [.int .u8 (192 + r / 64), .int .u8 (128 + r % 64)] rfl rfl ?c1 ?c2 ?c3 ?c4 ?c5 ?_)
  case c1 =>
    intro j u hj
    match j, hj with
    | 0, hj => simp at hj; subst hj; simp [Addr.add]
    | 1, hj => simp at hj; subst hj; simp [Addr.add]
    | (j + 2), hj => simp at hj
  case c2 => intro u hu; simp at hu; rcases hu with rfl | rfl <;> rfl
  case c3 => unfold maxLen; omega
  case c4 => omega
  case c5 => simp; omega
  intro v' w2 hown' hgrow _
  go_wp2
  go_ret
  exact ⟨_, rfl, hown', _, hgrow⟩
set_option maxHeartbeats 4000000 in
set_option maxRecDepth 100000 in
theorem arn_lo (B : Nat) (v : Value) (n : Nat) (xs : List Value) (r : Int) (h0 : 2048 ≤ r) (h1 : r < 55296) (w : World) (hown : w.ownsRow B 5 1 v n xs) (hlen : n + 4 ≤ 140737488355328) (hBw : B ≤ w.heap.size) :
    Calls Try.prog 47 #[v, .int .i32 r] w fun e w' => ∃ v', e = .returned v' ∧ w'.ownsRow B 5 1 v' (n + 3) (xs ++ [.int .u8 (224 + r / 4096), .int .u8 (128 + r / 64 % 64), .int .u8 (128 + r % 64)]) ∧ ∃ o, (w.alloc o).grownBy w' v.ownBlock := by
  obtain ⟨i0, hi, hz0, hz1, hz2⟩ := info_parts info8
  go_enter Try.func47, Try.ntmps47
  go_wp2_with (at_builtin; refine wpList_append_own _ rfl _ _ 22 rfl B 5 i0 (.int .u8 0) 1 1 Try.underlying22 hi hz0 hz1 hz2 rfl (by decide) _ _ _ rfl (hown.alloc _) ⟨w.heap.size, 0, none⟩ 3 3 [.int .u8 (224 + r / 4096), .int .u8 (128 + r / 64 % 64), .int .u8 (128 + r % 64)] rfl rfl ?c1 ?c2 ?c3 ?c4 ?c5 ?_)
  case c1 =>
    intro j u hj
    match j, hj with
    | 0, hj => simp at hj; subst hj; simp [Addr.add]
    | 1, hj => simp at hj; subst hj; simp [Addr.add]
    | 2, hj => simp at hj; subst hj; simp [Addr.add]
    | (j + 3), hj => simp at hj
  case c2 => intro u hu; simp at hu; rcases hu with rfl | rfl | rfl <;> rfl
  case c3 => unfold maxLen; omega
  case c4 => omega
  case c5 => simp; omega
  intro v' w2 hown' hgrow _
  go_wp2
  go_ret
  exact ⟨_, rfl, hown', _, hgrow⟩
set_option maxHeartbeats 4000000 in
set_option maxRecDepth 100000 in
theorem arn_hi (B : Nat) (v : Value) (n : Nat) (xs : List Value) (r : Int) (h0 : 57343 < r) (h1 : r ≤ 65535) (w : World) (hown : w.ownsRow B 5 1 v n xs) (hlen : n + 4 ≤ 140737488355328) (hBw : B ≤ w.heap.size) :
    Calls Try.prog 47 #[v, .int .i32 r] w fun e w' => ∃ v', e = .returned v' ∧ w'.ownsRow B 5 1 v' (n + 3) (xs ++ [.int .u8 (224 + r / 4096), .int .u8 (128 + r / 64 % 64), .int .u8 (128 + r % 64)]) ∧ ∃ o, (w.alloc o).grownBy w' v.ownBlock := by
  obtain ⟨i0, hi, hz0, hz1, hz2⟩ := info_parts info8
  go_enter Try.func47, Try.ntmps47
  go_wp2_with (at_builtin; refine wpList_append_own _ rfl _ _ 22 rfl B 5 i0 (.int .u8 0) 1 1 Try.underlying22 hi hz0 hz1 hz2 rfl (by decide) _ _ _ rfl (hown.alloc _) ⟨w.heap.size, 0, none⟩ 3 3 [.int .u8 (224 + r / 4096), .int .u8 (128 + r / 64 % 64), .int .u8 (128 + r % 64)] rfl rfl ?c1 ?c2 ?c3 ?c4 ?c5 ?_)
  case c1 =>
    intro j u hj
    match j, hj with
    | 0, hj => simp at hj; subst hj; simp [Addr.add]
    | 1, hj => simp at hj; subst hj; simp [Addr.add]
    | 2, hj => simp at hj; subst hj; simp [Addr.add]
    | (j + 3), hj => simp at hj
  case c2 => intro u hu; simp at hu; rcases hu with rfl | rfl | rfl <;> rfl
  case c3 => unfold maxLen; omega
  case c4 => omega
  case c5 => simp; omega
  intro v' w2 hown' hgrow _
  go_wp2
  go_ret
  exact ⟨_, rfl, hown', _, hgrow⟩
set_option maxHeartbeats 4000000 in
set_option maxRecDepth 100000 in
theorem arn_four (B : Nat) (v : Value) (n : Nat) (xs : List Value) (r : Int) (h0 : 65536 ≤ r) (h1 : r ≤ 1114111) (w : World) (hown : w.ownsRow B 5 1 v n xs) (hlen : n + 4 ≤ 140737488355328) (hBw : B ≤ w.heap.size) :
    Calls Try.prog 47 #[v, .int .i32 r] w fun e w' => ∃ v', e = .returned v' ∧ w'.ownsRow B 5 1 v' (n + 4) (xs ++ [.int .u8 (240 + r / 262144), .int .u8 (128 + r / 4096 % 64), .int .u8 (128 + r / 64 % 64), .int .u8 (128 + r % 64)]) ∧ ∃ o, (w.alloc o).grownBy w' v.ownBlock := by
  obtain ⟨i0, hi, hz0, hz1, hz2⟩ := info_parts info8
  go_enter Try.func47, Try.ntmps47
  go_wp2_with (at_builtin; refine wpList_append_own _ rfl _ _ 22 rfl B 5 i0 (.int .u8 0) 1 1 Try.underlying22 hi hz0 hz1 hz2 rfl (by decide) _ _ _ rfl (hown.alloc _) ⟨w.heap.size, 0, none⟩ 4 4 [.int .u8 (240 + r / 262144), .int .u8 (128 + r / 4096 % 64), .int .u8 (128 + r / 64 % 64), .int .u8 (128 + r % 64)] rfl rfl ?c1 ?c2 ?c3 ?c4 ?c5 ?_)
  case c1 =>
    intro j u hj
    match j, hj with
    | 0, hj => simp at hj; subst hj; simp [Addr.add]
    | 1, hj => simp at hj; subst hj; simp [Addr.add]
    | 2, hj => simp at hj; subst hj; simp [Addr.add]
    | 3, hj => simp at hj; subst hj; simp [Addr.add]
    | (j + 4), hj => simp at hj
  case c2 => intro u hu; simp at hu; rcases hu with rfl | rfl | rfl | rfl <;> rfl
  case c3 => unfold maxLen; omega
  case c4 => omega
  case c5 => simp; omega
  intro v' w2 hown' hgrow _
  go_wp2
  go_ret
  exact ⟨_, rfl, hown', _, hgrow⟩
set_option maxHeartbeats 4000000 in
set_option maxRecDepth 100000 in
theorem ar_one (B : Nat) (v : Value) (n : Nat) (xs : List Value) (r : Int) (h0 : 0 ≤ r) (h1 : r ≤ 127) (w : World) (hown : w.ownsRow B 5 1 v n xs) (hlen : n + 4 ≤ 140737488355328) (hBw : B ≤ w.heap.size) :
    Calls Try.prog 34 #[v, .int .i32 r] w fun e w' => ∃ v', e = .returned v' ∧ w'.ownsRow B 5 1 v' (n + 1) (xs ++ [.int .u8 r]) ∧ ∃ o, (w.alloc o).grownBy w' v.ownBlock := by
  obtain ⟨i0, hi, hz0, hz1, hz2⟩ := info_parts info8
  go_enter Try.func34, Try.ntmps34
  go_wp2_with (at_builtin; refine wpList_append_own _ rfl _ _ 22 rfl B 5 i0 (.int .u8 0) 1 1 Try.underlying22 hi hz0 hz1 hz2 rfl (by decide) _ _ _ rfl (hown.alloc _) ⟨w.heap.size, 0, none⟩ 1 1 [.int .u8 r] rfl rfl ?c1 ?c2 ?c3 ?c4 ?c5 ?_)
  case c1 =>
    intro j u hj
    match j, hj with
    | 0, hj => simp at hj; subst hj; simp [Addr.add]
    | (j + 1), hj => simp at hj
  case c2 => intro u hu; simp at hu; subst hu; rfl
  case c3 => unfold maxLen; omega
  case c4 => omega
  case c5 => simp; omega
  intro v' w2 hown' hgrow _
  go_wp2
  go_ret
  exact ⟨_, rfl, hown', _, hgrow⟩
theorem appendRune_any (B : Nat) (v : Value) (n : Nat) (xs : List Int) (r : Int) (h : scP r) (w : World) (hown : w.ownsRow B 5 1 v n (xs.map (Value.int .u8))) (hlen : n + 4 ≤ 140737488355328) (hBw : B ≤ w.heap.size) :
    Calls Try.prog 34 #[v, .int .i32 r] w fun e w' => ∃ v', e = .returned v' ∧ w'.ownsRow B 5 1 v' (n + (putB r).length) ((xs ++ putB r).map (Value.int .u8)) ∧ ∃ o, (w.alloc o).grownBy w' v.ownBlock := by
  by_cases h1 : r < 128
  · have h0 : 0 ≤ r := by unfold scP at h; omega
    refine (ar_one B v n _ r h0 (by omega) w hown hlen hBw).mono ?_
    rintro e w' ⟨v', rfl, h2, h3⟩
    exact ⟨v', rfl, by rw [putB_1 h1]; simpa using h2, h3⟩
  by_cases h2 : r < 2048
  · go_enter Try.func34, Try.ntmps34
    go_wp2_with fail
    refine (arn_two B v n _ r (by omega) (by omega) w hown hlen hBw).mono ?_
    rintro e w' ⟨v', rfl, h3, h4⟩
    go_wp2
    go_ret
    exact ⟨v', rfl, by rw [putB_2 (by omega) h2]; simpa using h3, h4⟩
  by_cases h3 : r < 65536
  · by_cases h5 : r < 55296
    · go_enter Try.func34, Try.ntmps34
      go_wp2_with fail
      refine (arn_lo B v n _ r (by omega) (by omega) w hown hlen hBw).mono ?_
      rintro e w' ⟨v', rfl, h3', h4⟩
      go_wp2
      go_ret
      exact ⟨v', rfl, by rw [putB_3 (by omega) h3]; simpa using h3', h4⟩
    · have h6 : 57343 < r := by unfold scP at h; omega
      go_enter Try.func34, Try.ntmps34
      go_wp2_with fail
      refine (arn_hi B v n _ r h6 (by omega) w hown hlen hBw).mono ?_
      rintro e w' ⟨v', rfl, h3', h4⟩
      go_wp2
      go_ret
      exact ⟨v', rfl, by rw [putB_3 (by omega) h3]; simpa using h3', h4⟩
  have h6 : r ≤ 1114111 := by unfold scP at h; omega
  go_enter Try.func34, Try.ntmps34
  go_wp2_with fail
  refine (arn_four B v n _ r (by omega) h6 w hown hlen hBw).mono ?_
  rintro e w' ⟨v', rfl, h3', h4⟩
  go_wp2
  go_ret
  exact ⟨v', rfl, by rw [putB_4 (by omega)]; simpa using h3', h4⟩
end Go.Proofs.Ytgphiollpbahgaa.mem
namespace Go.Proofs.Ytgphiollpbahgaa.mem
open Go.ChangeShapes Go.WideShapes Go.ChangeAt Go.RowKit
open ints (hide unhide)
set_option linter.unusedVariables false

def encS (zs : List Int) : ByteArray := if zs.all scB = true then strOfNums (zs.flatMap putB) else ⟨#[]⟩
theorem encS_yes {zs : List Int} (h : zs.all scB = true) : encS zs = strOfNums (zs.flatMap putB) := if_pos h
theorem encS_no {zs : List Int} (h : zs.all scB = false) : encS zs = ⟨#[]⟩ := if_neg (by rw [h]; simp)
def flat (zs : List Int) (k : Nat) : List Int := (zs.take k).flatMap putB
theorem flat_zero (zs : List Int) : flat zs 0 = [] := rfl
theorem flat_succ (zs : List Int) (k : Nat) (h : k < zs.length) : flat zs (k + 1) = flat zs k ++ putB (zs.getD k 0) := by
  unfold flat
  rw [List.take_succ_eq_append_getElem h, List.flatMap_append]
  simp [List.getD, h]
theorem flat_len (zs : List Int) (k : Nat) : (flat zs k).length ≤ 4 * k := by
  unfold flat
  have : ∀ l : List Int, (l.flatMap putB).length ≤ 4 * l.length := by
    intro l
    induction l with
    | nil => simp
    | cons a l ih => have := putB_len a; rw [List.flatMap_cons, List.length_append, List.length_cons]; omega
  have h1 := this (zs.take k)
  have h2 : (zs.take k).length ≤ k := List.length_take_le _ _
  omega
theorem flat_all (zs : List Int) (k : Nat) (h : zs.length ≤ k) : flat zs k = zs.flatMap putB := by
  unfold flat; rw [List.take_of_length_le h]
theorem all_of (zs : List Int) (h : ∀ j, j < zs.length → scP (zs.getD j 0)) : zs.all scB = true := by
  rw [List.all_eq_true]
  intro x hx
  obtain ⟨i, hi, rfl⟩ := List.mem_iff_getElem.1 hx
  have := h i hi
  rw [scB_iff]
  simpa [List.getD, hi] using this
theorem not_all (zs : List Int) (k : Nat) (hk : k < zs.length) (h : ¬ scP (zs.getD k 0)) : zs.all scB = false := by
  rw [List.all_eq_false]
  refine ⟨zs.getD k 0, by simp [List.getD, hk], ?_⟩
  intro e
  exact h ((scB_iff _).1 e)

set_option maxHeartbeats 1000000 in
theorem encode_any (a : Option Addr) (n c : Nat) (zs : List Int) (w : World) (h : Row .i32 w a n c zs) (hn : 4 * n ≤ 140737488355328) :
    Calls Try.prog 17 #[.slice a n c] w fun e w' => e = .returned (.tuple #[.string (encS zs), .bool (zs.all scB)]) ∧ Below w.heap.size w w' := by
  go_enter Try.func17, Try.ntmps17
  go_wp2
  go_loopw [4, 9] (fun v i wr => ∃ k : Nat, k ≤ n ∧ i = .int .i64 k ∧ wr.ownsRow w.heap.size 5 1 v (flat zs k).length ((flat zs k).map (Value.int .u8)) ∧ Below w.heap.size w wr ∧ Hid (∀ j, j < k → scP (zs.getD j 0))) (fun _ i _ => n - (intOf i).toNat)
  case atStart => exact ⟨0, Nat.zero_le _, rfl, World.ownsRow_nil _ _ _ _, Below.refl _ _, hide (fun j hj => by omega)⟩
  case round =>
    obtain ⟨k, hk, rfl, hown, hbel, hall⟩ := hrel
    have hlen := h.len
    have HL := hide hlen
    clear hlen
    by_cases hlt : k < n
    · rcases h.at_ with h0 | ⟨b, off, rfl, hbw, hcell⟩
      · omega
      have c1 := (hbel.cell (p := ⟨b, off + k, none⟩) hbw).trans (hcell k hlt)
      obtain ⟨x, hx⟩ : ∃ x, x = zs.getD k 0 := ⟨_, rfl⟩
      rw [← hx] at c1
      have Hx := hide hx
      clear hx hcell
      by_cases hs : scP x
      · have hfl := flat_len zs k
        have R := hide (appendRune_any w.heap.size _ _ (flat zs k) x hs wr hown (by omega) hbel.size)
        have Hlt := hide hown.lt
        clear hown
        go_wp2_with fail
        refine (valid_yes _ _ hs).mono ?_
        rintro e w' ⟨rfl, rfl⟩
        go_wp2_with fail
        refine (unhide R).mono ?_
        rintro e w2 ⟨v', rfl, hown', o, hgrow⟩
        clear R
        go_wp2
        go_roundw
        case rel =>
          refine ⟨k + 1, by omega, by go_num, ?_, ?_, hide (fun j hj => ?_)⟩
          · rw [flat_succ zs k (by rw [unhide HL]; exact hlt), ← unhide Hx]
            simpa using hown'
          · exact (hbel.alloc hbel.size o).grown hgrow (by have := hbel.size; simp; omega) (fun k hk => (unhide Hlt k hk).1)
          · by_cases hjk : j < k
            · exact unhide hall j hjk
            · obtain rfl : j = k := by omega
              rw [← unhide Hx]; exact hs
        case measure => simp [intOf]; omega
      · have hnot := hide (not_all zs k (by rw [unhide HL]; exact hlt) (by rw [← unhide Hx]; exact hs))
        go_wp2_with fail
        refine (valid_no _ _ hs).mono ?_
        rintro e w' ⟨rfl, rfl⟩
        go_wp2
        go_ret2
        rw [unhide hnot, encS_no (unhide hnot)]
        exact ⟨rfl, hbel⟩
    · have hyes := hide (all_of zs (fun j hj => unhide hall j (by rw [unhide HL] at hj; omega)))
      have hfl := hide (flat_all zs k (by rw [unhide HL]; omega))
      obtain ⟨a', cap', rfl, hrow⟩ := own_row hown
      have hconv := row_string (P := Try.prog) hrow 22 9 5 Try.underlying22 Try.underlying5 Try.underlying9
      clear hown
      go_wp2
      go_ret2
      rw [unhide hyes, encS_yes (unhide hyes), ← unhide hfl]
      exact ⟨rfl, hbel⟩
end Go.Proofs.Ytgphiollpbahgaa.mem
namespace Go.Proofs.Ytgphiollpbahgaa.mem
open Go.ChangeShapes Go.WideShapes Go.ChangeAt Go.RowKit
open ints (hide unhide)
set_option linter.unusedVariables false

def prB (l : List Int) (k : Nat) : Bool := decide (k + 1 < l.length) && (l.getD k 0 == 13) && (l.getD (k + 1) 0 == 10)
def enB (l : List Int) (k : Nat) : Bool := (l.getD k 0 == 10) || ((l.getD k 0 == 13) && !prB l k)
theorem paired_neg (a : Option Addr) (n c : Nat) (w : World) :
    Calls Try.prog 71 #[.slice a n c, .int .i64 (-1)] w fun e w' => e = .returned (.bool false) ∧ w' = w := by
  go_enter Try.func71, Try.ntmps71
  go_wp2
  go_ret
  exact ⟨rfl, rfl⟩
theorem paired_nat (a : Option Addr) (n c : Nat) (l : List Int) (k : Nat) (w : World) (h : Row .i32 w a n c l) (hn : n ≤ 9223372036854775806) (hk : k ≤ n) :
    Calls Try.prog 71 #[.slice a n c, .int .i64 (k : Int)] w fun e w' => e = .returned (.bool (prB l k)) ∧ w' = w := by
  have hl := h.len
  by_cases h1 : k + 1 < n
  · rcases h.at_ with h0 | ⟨b, off, rfl, hbw, hcell⟩
    · omega
    have c1 := hcell k (by omega)
    have c2 := hcell (k + 1) h1
    have e : prB l k = ((l.getD k 0 == 13) && (l.getD (k + 1) 0 == 10)) := by unfold prB; rw [hl]; simp [h1]
    generalize l.getD k 0 = x at *
    generalize l.getD (k + 1) 0 = y at *
    have E := hide e
    have h1i : (k : Int) + 1 < (n : Int) := by omega
    clear hcell e hl h
    cases hx : (x == 13)
    · have E2 := hide (show prB l k = false from by rw [unhide E, hx]; rfl)
      go_enter Try.func71, Try.ntmps71
      go_wp2
      go_ret
      rw [unhide E2]
      exact ⟨rfl, rfl⟩
    · cases hy : (y == 10)
      · have E2 := hide (show prB l k = false from by rw [unhide E, hx, hy]; rfl)
        go_enter Try.func71, Try.ntmps71
        go_wp2
        go_ret
        rw [unhide E2]
        exact ⟨rfl, rfl⟩
      · have E2 := hide (show prB l k = true from by rw [unhide E, hx, hy]; rfl)
        go_enter Try.func71, Try.ntmps71
        go_wp2
        go_ret
        rw [unhide E2]
        exact ⟨rfl, rfl⟩
  · have E2 := hide (show prB l k = false from by unfold prB; rw [hl]; simp [h1])
    have h1i : ¬ (k : Int) + 1 < (n : Int) := by omega
    clear hl h
    go_enter Try.func71, Try.ntmps71
    go_wp2
    go_ret
    rw [unhide E2]
    exact ⟨rfl, rfl⟩
theorem ends_any (a : Option Addr) (n c : Nat) (l : List Int) (k : Nat) (w : World) (h : Row .i32 w a n c l) (hn : n ≤ 9223372036854775806) (hk : k < n) :
    Calls Try.prog 55 #[.slice a n c, .int .i64 (k : Int)] w fun e w' => e = .returned (.bool (enB l k)) ∧ w' = w := by
  have P := hide (paired_nat a n c l k w h hn (by omega))
  rcases h.at_ with h0 | ⟨b, off, rfl, hbw, hcell⟩
  · omega
  have c1 := hcell k hk
  have E := hide (show enB l k = ((l.getD k 0 == 10) || ((l.getD k 0 == 13) && !prB l k)) from rfl)
  generalize l.getD k 0 = x at *
  generalize prB l k = p at *
  have hki : (k : Int) < (n : Int) := by omega
  clear hcell h
  cases hx : (x == 10)
  · cases hy : (x == 13)
    · have E2 := hide (show enB l k = false from by rw [unhide E, hx, hy]; rfl)
      go_enter Try.func55, Try.ntmps55
      go_wp2
      go_ret
      rw [unhide E2]
      exact ⟨rfl, rfl⟩
    · have E2 := hide (show enB l k = !p from by rw [unhide E, hx, hy]; simp)
      go_enter Try.func55, Try.ntmps55
      go_wp2_with fail
      refine (unhide P).mono ?_
      rintro e w' ⟨rfl, rfl⟩
      go_wp2
      go_ret
      rw [unhide E2]
      exact ⟨rfl, rfl⟩
  · have E2 := hide (show enB l k = true from by rw [unhide E, hx]; rfl)
    go_enter Try.func55, Try.ntmps55
    go_wp2
    go_ret
    rw [unhide E2]
    exact ⟨rfl, rfl⟩
theorem behind_any (a : Option Addr) (n c : Nat) (l : List Int) (k : Nat) (x y : Int) (w : World) (h : Row .i32 w a n c l) (hn : n ≤ 9223372036854775806) (hk : k < n) (hx0 : 0 ≤ x) (hx1 : x ≤ 4611686018427387904) (hy0 : 0 ≤ y) (hy1 : y ≤ 4611686018427387904) :
    Calls Try.prog 43 #[.agg #[.int .i64 x, .int .i64 y], .slice a n c, .int .i64 (k : Int)] w fun e w' =>
      e = .returned (.agg #[.int .i64 (if enB l k then x + 1 else x), .int .i64 (if enB l k then 1 else y + 1)]) ∧ Below w.heap.size w w' := by
  obtain ⟨o1, ho1⟩ : ∃ o, o = Obj.cells #[.int .i64 x, .int .i64 y] 28 (0, 0) := ⟨_, rfl⟩
  obtain ⟨o2, ho2⟩ : ∃ o, o = Obj.cells #[.int .i64 0, .int .i64 0] 28 (0, 0) := ⟨_, rfl⟩
  have hb2 : Below w.heap.size w ((w.alloc o1).alloc o2) := ((Below.refl _ _).alloc (Nat.le_refl _) o1).alloc (by simp) o2
  have P := hide (ends_any a n c l k ((w.alloc o1).alloc o2) (h.below hb2) hn hk)
  rw [ho1, ho2] at P
  cases hp : enB l k
  · rw [hp] at P
    go_enter Try.func43, Try.ntmps43
    go_wp2_with fail
    refine (unhide P).mono ?_
    rintro e w' ⟨rfl, rfl⟩
    go_wp2
    exact bodyPost_ret (v := .agg #[.int .i64 x, .int .i64 (y + 1)]) (by simp [results, Try.results43, go_sem]) rfl ⟨rfl, ((Below.refl _ _).alloc (Nat.le_refl _) _).alloc (by simp) _⟩
  · rw [hp] at P
    go_enter Try.func43, Try.ntmps43
    go_wp2_with fail
    refine (unhide P).mono ?_
    rintro e w' ⟨rfl, rfl⟩
    go_wp2
    exact bodyPost_ret (v := .agg #[.int .i64 (x + 1), .int .i64 1]) (by simp [results, Try.results43, go_sem]) rfl ⟨rfl, ((Below.refl _ _).alloc (Nat.le_refl _) _).alloc (by simp) _⟩
end Go.Proofs.Ytgphiollpbahgaa.mem
namespace Go.Proofs.Ytgphiollpbahgaa.mem
open Go.ChangeShapes Go.WideShapes Go.ChangeAt Go.RowKit
open ints (hide unhide)
set_option linter.unusedVariables false

def posT (l : List Int) : Nat → Int × Int
  | 0 => (1, 1)
  | k + 1 => (if enB l k then (posT l k).1 + 1 else (posT l k).1, if enB l k then 1 else (posT l k).2 + 1)
theorem posT_bd (l : List Int) (k : Nat) : 1 ≤ (posT l k).1 ∧ (posT l k).1 ≤ k + 1 ∧ 1 ≤ (posT l k).2 ∧ (posT l k).2 ≤ k + 1 := by
  induction k with
  | zero => simp [posT]
  | succ k ih => simp only [posT]; split <;> omega
def posCells (ps : List (Int × Int)) : List Value := ps.flatMap fun p => [.int .i64 p.1, .int .i64 p.2]
theorem posCells_len (ps : List (Int × Int)) : (posCells ps).length = ps.length * 2 := by
  induction ps with
  | nil => rfl
  | cons p ps ih => simp only [posCells, List.flatMap_cons, List.length_append, List.length_cons] at *; simp at *; omega
def plist (l : List Int) (k : Nat) : List (Int × Int) := (List.range k).map (posT l)
theorem plist_succ (l : List Int) (k : Nat) : posCells (plist l (k + 1)) = posCells (plist l k) ++ [.int .i64 (posT l k).1, .int .i64 (posT l k).2] := by
  unfold plist posCells
  rw [List.range_succ, List.map_append, List.flatMap_append]
  simp
theorem plist_len (l : List Int) (k : Nat) : (plist l k).length = k := by simp [plist]
theorem infoPos : (Try.prog.info? 28).map (fun i => (i.zero, i.size, i.bytes)) = some (some (.agg #[.int .i64 0, .int .i64 0]), 2, 16) := by kernel_rfl
theorem cell_two (w : World) (x y : Value) (t : TypeId) : ∀ j u, [x, y][j]? = some u → (w.alloc (.cells #[x, y] t)).cell? ((⟨w.heap.size, 0, none⟩ : Addr).add j) = some u := by
  intro j u hj
  match j, hj with
  | 0, hj => simp at hj; subst hj; simp [Addr.add]
  | 1, hj => simp at hj; subst hj; simp [Addr.add]
  | (j + 2), hj => simp at hj
theorem one_two (x y : Int) : ∀ u ∈ [Value.int .i64 x, Value.int .i64 y], u.oneCell' = true := by
  intro u hu; simp at hu; rcases hu with rfl | rfl <;> rfl
/-- A box of two integers. -/
def Box (w : World) (B : Nat) (x y : Int) : Prop := w.heap[B]? = some (.cells #[.int .i64 x, .int .i64 y] 28 (0, 0))
theorem Box.cells {w : World} {B : Nat} {x y : Int} (h : Box w B x y) : w.cell? ⟨B, 0, none⟩ = some (.int .i64 x) ∧ w.cell? ⟨B, 1, none⟩ = some (.int .i64 y) ∧ w.frozen? ⟨B, 0, none⟩ = false ∧ w.frozen? ⟨B, 1, none⟩ = false := by
  unfold Box at h
  refine ⟨?_, ?_, ?_, ?_⟩
  · simp [World.cell?, h]
  · simp [World.cell?, h]
  · simp [World.frozen?, h]
  · simp [World.frozen?, h]
theorem Box.lt {w : World} {B : Nat} {x y : Int} (h : Box w B x y) : B < w.heap.size := (Array.getElem?_eq_some_iff.1 h).1
theorem Box.below {w w' : World} {B : Nat} {x y : Int} (h : Box w B x y) (hb : Below w.heap.size w w') : Box w' B x y := (hb.block B h.lt).trans h
theorem Box.set {w : World} {B : Nat} {x y : Int} (h : Box w B x y) (x' y' : Int) : Box ((w.setCell ⟨B, 0, none⟩ (.int .i64 x')).setCell ⟨B, 1, none⟩ (.int .i64 y')) B x' y' := by
  unfold Box at *
  simp [World.setCell, Array.getElem?_modify, h]

set_option maxHeartbeats 2000000 in
theorem places_any (a : Option Addr) (n c : Nat) (l : List Int) (w : World) (h : Row .i32 w a n c l) (hn : n ≤ 1099511627776) :
    Calls Try.prog 30 #[.slice a n c] w fun e w' => e = .returned (.slice (some ⟨w.heap.size + 1, 0, none⟩) (n + 1) (n + 1)) ∧
      w'.ownsRow (w.heap.size + 1) 28 2 (.slice (some ⟨w.heap.size + 1, 0, none⟩) (n + 1) (n + 1)) (n + 1) (posCells (plist l (n + 1))) ∧ Below w.heap.size w w' := by
  obtain ⟨i0, hi, hz0, hz1, hz2⟩ := info_parts infoPos
  have e0 := hide (show (w.alloc (.cells #[.int .i64 1, .int .i64 1] 28)).heap.size = w.heap.size + 1 from by simp)
  have bx0 := hide (show Box (w.alloc (.cells #[.int .i64 1, .int .i64 1] 28)) w.heap.size 1 1 from heap_alloc_new w _)
  have hbe0 := hide (show Below w.heap.size w (w.alloc (.cells #[.int .i64 1, .int .i64 1] 28)) from (Below.refl _ _).alloc (Nat.le_refl _) _)
  go_enter Try.func30, Try.ntmps30
  go_wp2_with (first
    | (refine wpList_make_own _ rfl _ _ 32 rfl (w.heap.size + 1) 28 i0 (.agg #[.int .i64 0, .int .i64 0]) 2 Try.underlying32 hi hz0 hz1 .i64 .i64 _ (n + 1) rfl rfl (by omega) (by rw [hz2]; omega) (by unfold maxLen; omega) (by simp) ?_; intro w1 hown hgrow; rw [unhide e0] at hown; have hg1 := belowNone hgrow; have bx1 := (unhide bx0).below hg1; obtain ⟨k0, k1, k2, k3⟩ := bx1.cells; have hg := (unhide hbe0).trans (hg1.mono (by rw [unhide e0]; omega)); have hsz := hg1.size; rw [unhide e0] at hsz; clear hgrow hg1)
    | (at_builtin; refine wpList_append_fits _ rfl (.tmp 11) (.tmp 13) 32 rfl (w.heap.size + 1) 28 i0 2 Try.underlying32 hi hz1 (w.heap.size + 1) 0 (n + 1) [] rfl (hown.alloc _) ⟨w1.heap.size, 0, none⟩ 1 1 [.int .i64 1, .int .i64 1] rfl rfl (cell_two _ _ _ _) (one_two _ _) (by omega) ?_; intro w2 hown2 hgrow2))
  simp only [Nat.zero_add, List.nil_append] at hown2 ⊢
  have hal : Below w1.heap.size w1 (w1.alloc (.cells #[.int .i64 1, .int .i64 1] 28)) := (Below.refl _ _).alloc (Nat.le_refl _) _
  have hgr : Below (w.heap.size + 1) w1 w2 := (hal.mono hsz).grown hgrow2 (by simp; omega) (fun k hk => by obtain rfl := Option.some.inj hk; exact Nat.le_refl _)
  have hb2 : Below w.heap.size w w2 := hg.trans (hgr.mono (by omega))
  have bx2 : Box w2 w.heap.size 1 1 := (hgr.block _ (by omega)).trans bx1
  have hs2 : w.heap.size + 1 ≤ w2.heap.size := Nat.le_trans hsz hgr.size
  clear hal hgr hgrow2 hown k0 k1 k2 k3 bx1 hg hsz bx0 hbe0 e0
  go_loopw [4, 17] (fun v i wr => ∃ k : Nat, k ≤ n ∧ i = .int .i64 k ∧ v = .slice (some ⟨w.heap.size + 1, 0, none⟩) (k + 1) (n + 1) ∧
    wr.ownsRow (w.heap.size + 1) 28 2 (.slice (some ⟨w.heap.size + 1, 0, none⟩) (k + 1) (n + 1)) (k + 1) (posCells (plist l (k + 1))) ∧ Box wr w.heap.size (posT l k).1 (posT l k).2 ∧ Below w.heap.size w wr) (fun _ i _ => n - (intOf i).toNat)
  case atStart => exact ⟨0, Nat.zero_le _, rfl, rfl, hown2, bx2, hb2⟩
  case round =>
    obtain ⟨k, hk, rfl, rfl, hown, hbx, hbel⟩ := hrel
    clear hown2 bx2 hb2 hs2
    by_cases hlt : k < n
    · obtain ⟨q0, q1, q2, q3⟩ := hbx.cells
      have hbd := posT_bd l k
      have hstep := hide (show posT l (k + 1) = (if enB l k then (posT l k).1 + 1 else (posT l k).1, if enB l k then 1 else (posT l k).2 + 1) from rfl)
      have P := hide (behind_any a n c l k (posT l k).1 (posT l k).2 wr (h.below hbel) (by omega) hlt (by omega) (by omega) (by omega) (by omega))
      obtain ⟨X, hX⟩ : ∃ X, X = posT l k := ⟨_, rfl⟩
      obtain ⟨Y, hY⟩ : ∃ Y, Y = posT l (k + 1) := ⟨_, rfl⟩
      have hY1 := hide (show Y.1 = (if enB l k then X.1 + 1 else X.1) from by rw [hY, hX, unhide hstep])
      have hY2 := hide (show Y.2 = (if enB l k then 1 else X.2 + 1) from by rw [hY, hX, unhide hstep])
      rw [← hX] at P q0 q1 hbx
      rw [← unhide hY1, ← unhide hY2] at P
      have HY := hide hY
      have hkl : (k : Int) < (n : Int) := by omega
      clear hX hY hstep hY1 hY2 hbd
      go_wp2_with fail
      refine (unhide P).mono ?_
      rintro e w3 ⟨rfl, hb3⟩
      have hbx3 := hbx.below hb3
      have hown3 := own_below hown hb3
      have hbel3 := hbel.trans (hb3.mono hbel.size)
      obtain ⟨p0, p1, p2, p3⟩ := hbx3.cells
      obtain ⟨W3, hW3⟩ : ∃ W3, W3 = (w3.setCell ⟨w.heap.size, 0, none⟩ (.int .i64 Y.1)).setCell ⟨w.heap.size, 1, none⟩ (.int .i64 Y.2) := ⟨_, rfl⟩
      have hsz3 : W3.heap.size = w3.heap.size := by rw [hW3]; simp [World.setCell]
      have hownS : W3.ownsRow (w.heap.size + 1) 28 2 (.slice (some ⟨w.heap.size + 1, 0, none⟩) (k + 1) (n + 1)) (k + 1) (posCells (plist l (k + 1))) := by
        rw [hW3]
        exact ownsRow_setCell_below (ownsRow_setCell_below hown3 (by simp) _) (by simp) _
      have hbxS : Box W3 w.heap.size Y.1 Y.2 := by rw [hW3]; exact hbx3.set _ _
      have hbelS : Below w.heap.size w W3 := by rw [hW3]; exact (hbel3.setCell (Nat.le_refl _) _).setCell (Nat.le_refl _) _
      have hcel : ∀ j u, [Value.int .i64 Y.1, Value.int .i64 Y.2][j]? = some u → (W3.alloc (.cells #[.int .i64 Y.1, .int .i64 Y.2] 28)).cell? ((⟨w3.heap.size, 0, none⟩ : Addr).add j) = some u := by
        rw [← hsz3]; exact cell_two _ _ _ _
      have hownA := hownS.alloc (.cells #[.int .i64 Y.1, .int .i64 Y.2] 28)
      have HA := hide hownA
      have HCel := hide hcel
      have HbS := hide hbelS
      have HxS := hide hbxS
      have Hs3 := hide hsz3
      rw [hW3] at HA HCel
      have HW := hide hW3
      clear P hb3 hown hbx q0 q1 q2 q3 hbel hW3 hownA hownS hcel hbelS hbxS hsz3
      go_wp2_with (at_builtin; refine wpList_append_fits _ rfl (.tmp 24) (.tmp 26) 32 rfl (w.heap.size + 1) 28 i0 2 Try.underlying32 hi hz1 (w.heap.size + 1) (k + 1) (n + 1) (posCells (plist l (k + 1))) rfl (unhide HA) ⟨w3.heap.size, 0, none⟩ 1 1 [.int .i64 Y.1, .int .i64 Y.2] rfl rfl (unhide HCel) (one_two _ _) (by omega) ?_; intro w4 hown4 hgrow4)
      go_roundw
      case rel =>
        rw [← unhide HW] at hgrow4
        have hb4 : Below (w.heap.size + 1) W3 w4 := ((Below.refl _ _).alloc (by rw [unhide Hs3]; have := hbx3.lt; omega) _).grown hgrow4 (by simp; rw [unhide Hs3]; have := hbx3.lt; omega) (fun k hk => by obtain rfl := Option.some.inj hk; exact Nat.le_refl _)
        refine ⟨k + 1, by omega, by go_num, rfl, ?_, ?_, (unhide HbS).trans (hb4.mono (by omega))⟩
        · rw [plist_succ l (k + 1), ← unhide HY]; exact hown4
        · rw [← unhide HY]; exact (hb4.block _ (by omega)).trans (unhide HxS)
      case measure => simp [intOf]; omega
    · have ek : k = n := by omega
      subst ek
      go_wp2
      go_ret
      exact ⟨rfl, hown, hbel⟩
end Go.Proofs.Ytgphiollpbahgaa.mem
namespace Go.Proofs.Ytgphiollpbahgaa.mem
open Go.ChangeShapes Go.WideShapes Go.ChangeAt Go.RowKit
open ints (hide unhide)
set_option linter.unusedVariables false

def oneQ (n : Nat) (b0 b1 b2 b3 : Int) : Int × Nat :=
  if 0 < n ∧ b0 < 128 then (b0, 1)
  else if 1 < n ∧ b0 / 32 = 6 ∧ b1 / 64 = 2 ∧ 128 ≤ b0 % 32 * 64 + b1 % 64 then (b0 % 32 * 64 + b1 % 64, 2)
  else if 2 < n ∧ b0 / 16 = 14 ∧ b1 / 64 = 2 ∧ b2 / 64 = 2 ∧ 2048 ≤ b0 % 16 * 4096 + b1 % 64 * 64 + b2 % 64 ∧ (b0 % 16 * 4096 + b1 % 64 * 64 + b2 % 64 ≤ 55295 ∨ 57344 ≤ b0 % 16 * 4096 + b1 % 64 * 64 + b2 % 64) then (b0 % 16 * 4096 + b1 % 64 * 64 + b2 % 64, 3)
  else if 3 < n ∧ b0 / 8 = 30 ∧ b1 / 64 = 2 ∧ b2 / 64 = 2 ∧ b3 / 64 = 2 ∧ 65536 ≤ b0 % 8 * 262144 + b1 % 64 * 4096 + b2 % 64 * 64 + b3 % 64 ∧ b0 % 8 * 262144 + b1 % 64 * 4096 + b2 % 64 * 64 + b3 % 64 ≤ 1114111 then (b0 % 8 * 262144 + b1 % 64 * 4096 + b2 % 64 * 64 + b3 % 64, 4)
  else (0, 0)
def oneL (l : List Int) : Int × Nat := oneQ l.length (l.getD 0 0) (l.getD 1 0) (l.getD 2 0) (l.getD 3 0)
def Byt (l : List Int) : Prop := ∀ z ∈ l, 0 ≤ z ∧ z ≤ 255

theorem byt_getD {l : List Int} (h : Byt l) (i : Nat) : 0 ≤ l.getD i 0 ∧ l.getD i 0 ≤ 255 := by
  by_cases hi : i < l.length
  · have := h (l.getD i 0) (by simp [List.getD, hi])
    exact this
  · simp [List.getD, List.getElem?_eq_none (show l.length ≤ i by omega)]
theorem byt_drop {l : List Int} (h : Byt l) (i : Nat) : Byt (l.drop i) := fun z hz => h z (List.mem_of_mem_drop hz)
theorem putB_byt {c : Int} (h : scP c) : Byt (putB c) := by
  intro z hz
  unfold scP at h
  unfold putB at hz
  repeat' split at hz
  all_goals simp at hz
  all_goals omega

/-- What is written is read. -/
theorem one_put (c : Int) (h : scP c) (r : List Int) : oneL (putB c ++ r) = (c, (putB c).length) := by
  unfold scP at h
  by_cases h1 : c < 128
  · rw [putB_1 h1]
    simp only [oneL, oneQ, List.cons_append, List.nil_append, List.length_cons, List.length_nil, List.getD_cons_zero]
    rw [if_pos (by omega)]
  by_cases h2 : c < 2048
  · rw [putB_2 (by omega) h2]
    simp only [oneL, oneQ, List.cons_append, List.nil_append, List.length_cons, List.length_nil, List.getD_cons_zero, List.getD_cons_succ]
    rw [if_neg (by omega), if_pos (by omega)]
    refine Prod.ext ?_ rfl
    show _ = c
    omega
  by_cases h3 : c < 65536
  · rw [putB_3 (by omega) h3]
    simp only [oneL, oneQ, List.cons_append, List.nil_append, List.length_cons, List.length_nil, List.getD_cons_zero, List.getD_cons_succ]
    rw [if_neg (by omega), if_neg (by omega), if_pos (by omega)]
    refine Prod.ext ?_ rfl
    show _ = c
    omega
  · rw [putB_4 (by omega)]
    simp only [oneL, oneQ, List.cons_append, List.nil_append, List.length_cons, List.length_nil, List.getD_cons_zero, List.getD_cons_succ]
    rw [if_neg (by omega), if_neg (by omega), if_neg (by omega), if_pos (by omega)]
    refine Prod.ext ?_ rfl
    show _ = c
    omega
/-- What is read was so written. -/
theorem one_back (l : List Int) (hb : Byt l) (h : (oneL l).2 ≠ 0) : scP (oneL l).1 ∧ l = putB (oneL l).1 ++ l.drop (oneL l).2 ∧ (oneL l).2 = (putB (oneL l).1).length := by
  have g0 := byt_getD hb 0
  have g1 := byt_getD hb 1
  have g2 := byt_getD hb 2
  have g3 := byt_getD hb 3
  match l, hb, h, g0, g1, g2, g3 with
  | [], _, h, _, _, _, _ => exact absurd rfl h
  | [b0], _, h, g0, _, _, _ =>
    simp only [List.getD_cons_zero] at g0
    by_cases c1 : b0 < 128
    · have e : oneL [b0] = (b0, 1) := by simp only [oneL, oneQ, List.length_cons, List.length_nil, List.getD_cons_zero]; rw [if_pos (by omega)]
      rw [e, putB_1 c1]
      exact ⟨by unfold scP; simp only; omega, rfl, rfl⟩
    · have e : oneL [b0] = (0, 0) := by
        simp only [oneL, oneQ, List.length_cons, List.length_nil, List.getD_cons_zero]
        rw [if_neg (by omega), if_neg (by omega), if_neg (by omega), if_neg (by omega)]
      rw [e] at h; exact absurd rfl h
  | [b0, b1], _, h, g0, g1, _, _ =>
    simp only [List.getD_cons_zero, List.getD_cons_succ] at g0 g1
    by_cases c1 : b0 < 128
    · have e : oneL [b0, b1] = (b0, 1) := by simp only [oneL, oneQ, List.length_cons, List.length_nil, List.getD_cons_zero]; rw [if_pos (by omega)]
      rw [e, putB_1 c1]
      exact ⟨by unfold scP; simp only; omega, rfl, rfl⟩
    by_cases c2 : b0 / 32 = 6 ∧ b1 / 64 = 2 ∧ 128 ≤ b0 % 32 * 64 + b1 % 64
    · have e : oneL [b0, b1] = (b0 % 32 * 64 + b1 % 64, 2) := by
        simp only [oneL, oneQ, List.length_cons, List.length_nil, List.getD_cons_zero, List.getD_cons_succ]; rw [if_neg (by omega), if_pos (by omega)]
      rw [e, putB_2 (by simp only; omega) (by simp only; omega)]
      refine ⟨by unfold scP; simp only; omega, ?_, rfl⟩
      simp
      omega
    · have e : oneL [b0, b1] = (0, 0) := by
        simp only [oneL, oneQ, List.length_cons, List.length_nil, List.getD_cons_zero, List.getD_cons_succ]
        rw [if_neg (by omega), if_neg (by omega), if_neg (by omega), if_neg (by omega)]
      rw [e] at h; exact absurd rfl h
  | [b0, b1, b2], _, h, g0, g1, g2, _ =>
    simp only [List.getD_cons_zero, List.getD_cons_succ] at g0 g1 g2
    by_cases c1 : b0 < 128
    · have e : oneL [b0, b1, b2] = (b0, 1) := by simp only [oneL, oneQ, List.length_cons, List.length_nil, List.getD_cons_zero]; rw [if_pos (by omega)]
      rw [e, putB_1 c1]
      exact ⟨by unfold scP; simp only; omega, rfl, rfl⟩
    by_cases c2 : b0 / 32 = 6 ∧ b1 / 64 = 2 ∧ 128 ≤ b0 % 32 * 64 + b1 % 64
    · have e : oneL [b0, b1, b2] = (b0 % 32 * 64 + b1 % 64, 2) := by
        simp only [oneL, oneQ, List.length_cons, List.length_nil, List.getD_cons_zero, List.getD_cons_succ]; rw [if_neg (by omega), if_pos (by omega)]
      rw [e, putB_2 (by simp only; omega) (by simp only; omega)]
      refine ⟨by unfold scP; simp only; omega, ?_, rfl⟩
      simp
      omega
    by_cases c3 : b0 / 16 = 14 ∧ b1 / 64 = 2 ∧ b2 / 64 = 2 ∧ 2048 ≤ b0 % 16 * 4096 + b1 % 64 * 64 + b2 % 64 ∧ (b0 % 16 * 4096 + b1 % 64 * 64 + b2 % 64 ≤ 55295 ∨ 57344 ≤ b0 % 16 * 4096 + b1 % 64 * 64 + b2 % 64)
    · have e : oneL [b0, b1, b2] = (b0 % 16 * 4096 + b1 % 64 * 64 + b2 % 64, 3) := by
        simp only [oneL, oneQ, List.length_cons, List.length_nil, List.getD_cons_zero, List.getD_cons_succ]; rw [if_neg (by omega), if_neg (by omega), if_pos (by omega)]
      rw [e, putB_3 (by simp only; omega) (by simp only; omega)]
      refine ⟨by unfold scP; simp only; omega, ?_, rfl⟩
      simp
      omega
    · have e : oneL [b0, b1, b2] = (0, 0) := by
        simp only [oneL, oneQ, List.length_cons, List.length_nil, List.getD_cons_zero, List.getD_cons_succ]
        rw [if_neg (by omega), if_neg (by omega), if_neg (by omega), if_neg (by omega)]
      rw [e] at h; exact absurd rfl h
  | b0 :: b1 :: b2 :: b3 :: r, _, h, g0, g1, g2, g3 =>
    simp only [List.getD_cons_zero, List.getD_cons_succ] at g0 g1 g2 g3
    by_cases c1 : b0 < 128
    · have e : oneL (b0 :: b1 :: b2 :: b3 :: r) = (b0, 1) := by simp only [oneL, oneQ, List.length_cons, List.getD_cons_zero]; rw [if_pos (by omega)]
      rw [e, putB_1 c1]
      exact ⟨by unfold scP; simp only; omega, rfl, rfl⟩
    by_cases c2 : b0 / 32 = 6 ∧ b1 / 64 = 2 ∧ 128 ≤ b0 % 32 * 64 + b1 % 64
    · have e : oneL (b0 :: b1 :: b2 :: b3 :: r) = (b0 % 32 * 64 + b1 % 64, 2) := by
        simp only [oneL, oneQ, List.length_cons, List.getD_cons_zero, List.getD_cons_succ]; rw [if_neg (by omega), if_pos (by omega)]
      rw [e, putB_2 (by simp only; omega) (by simp only; omega)]
      refine ⟨by unfold scP; simp only; omega, ?_, rfl⟩
      simp
      omega
    by_cases c3 : b0 / 16 = 14 ∧ b1 / 64 = 2 ∧ b2 / 64 = 2 ∧ 2048 ≤ b0 % 16 * 4096 + b1 % 64 * 64 + b2 % 64 ∧ (b0 % 16 * 4096 + b1 % 64 * 64 + b2 % 64 ≤ 55295 ∨ 57344 ≤ b0 % 16 * 4096 + b1 % 64 * 64 + b2 % 64)
    · have e : oneL (b0 :: b1 :: b2 :: b3 :: r) = (b0 % 16 * 4096 + b1 % 64 * 64 + b2 % 64, 3) := by
        simp only [oneL, oneQ, List.length_cons, List.getD_cons_zero, List.getD_cons_succ]; rw [if_neg (by omega), if_neg (by omega), if_pos (by omega)]
      rw [e, putB_3 (by simp only; omega) (by simp only; omega)]
      refine ⟨by unfold scP; simp only; omega, ?_, rfl⟩
      simp
      omega
    by_cases c4 : b0 / 8 = 30 ∧ b1 / 64 = 2 ∧ b2 / 64 = 2 ∧ b3 / 64 = 2 ∧ 65536 ≤ b0 % 8 * 262144 + b1 % 64 * 4096 + b2 % 64 * 64 + b3 % 64 ∧ b0 % 8 * 262144 + b1 % 64 * 4096 + b2 % 64 * 64 + b3 % 64 ≤ 1114111
    · have e : oneL (b0 :: b1 :: b2 :: b3 :: r) = (b0 % 8 * 262144 + b1 % 64 * 4096 + b2 % 64 * 64 + b3 % 64, 4) := by
        simp only [oneL, oneQ, List.length_cons, List.getD_cons_zero, List.getD_cons_succ]; rw [if_neg (by omega), if_neg (by omega), if_neg (by omega), if_pos (by omega)]
      rw [e, putB_4 (by simp only; omega)]
      refine ⟨by unfold scP; simp only; omega, ?_, rfl⟩
      simp
      omega
    · have e : oneL (b0 :: b1 :: b2 :: b3 :: r) = (0, 0) := by
        simp only [oneL, oneQ, List.length_cons, List.getD_cons_zero, List.getD_cons_succ]
        rw [if_neg (by omega), if_neg (by omega), if_neg (by omega), if_neg (by omega)]
      rw [e] at h; exact absurd rfl h

/-- Decoding: the characters and the length of the good beginning. -/
def decF : Nat → List Int → List Int × Nat
  | 0, _ => ([], 0)
  | f + 1, l => if (oneL l).2 = 0 then ([], 0) else ((oneL l).1 :: (decF f (l.drop (oneL l).2)).1, (oneL l).2 + (decF f (l.drop (oneL l).2)).2)
def decZ (l : List Int) : List Int × Nat := decF l.length l
theorem decF_end (f : Nat) (l : List Int) (h : (oneL l).2 = 0) : decF f l = ([], 0) := by
  cases f with
  | zero => rfl
  | succ f => simp [decF, h]
theorem decF_go (f : Nat) (l : List Int) (h : (oneL l).2 ≠ 0) : decF (f + 1) l = ((oneL l).1 :: (decF f (l.drop (oneL l).2)).1, (oneL l).2 + (decF f (l.drop (oneL l).2)).2) := by
  simp [decF, h]
theorem oneL_le (l : List Int) : (oneL l).2 ≤ l.length := by
  unfold oneL oneQ
  repeat' split
  all_goals simp only
  all_goals omega
theorem oneL_4 (l : List Int) : (oneL l).2 ≤ 4 := by
  unfold oneL oneQ
  repeat' split
  all_goals simp
theorem take_of (l p r : List Int) (k : Nat) (h : l = p ++ r) (hk : k = p.length) : l.take k = p := by subst h hk; simp
/-- What decoding answers: scalar values, written as the good beginning. -/
theorem decF_flat : ∀ (f : Nat) (l : List Int), Byt l → ((decF f l).1.flatMap putB = l.take (decF f l).2 ∧ (decF f l).2 ≤ l.length ∧ ((decF f l).1).all scB = true ∧ ((decF f l).1.flatMap putB).length = (decF f l).2)
  | 0, l, _ => by simp [decF]
  | f + 1, l, hb => by
    by_cases h : (oneL l).2 = 0
    · rw [decF_end _ _ h]; simp
    · rw [decF_go f l h]
      obtain ⟨h1, h2, h3⟩ := one_back l hb h
      obtain ⟨i1, i2, i3, i4⟩ := decF_flat f (l.drop (oneL l).2) (byt_drop hb _)
      have hle := oneL_le l
      simp only [List.flatMap_cons]
      refine ⟨?_, ?_, ?_, ?_⟩
      · rw [i1, List.take_add]
        rw [take_of l _ _ _ h2 h3]
      · simp at i2; omega
      · simp [i3, (scB_iff _).2 h1]
      · rw [List.length_append, i4, ← h3]
/-- ... and behind it no character stands. -/
theorem decF_stop : ∀ (f : Nat) (l : List Int), l.length ≤ f → (oneL (l.drop (decF f l).2)).2 = 0
  | 0, l, h => by
    have : l = [] := List.eq_nil_of_length_eq_zero (by omega)
    subst this; rfl
  | f + 1, l, h => by
    by_cases h0 : (oneL l).2 = 0
    · rw [decF_end _ _ h0]; simpa using h0
    · rw [decF_go f l h0]
      have := decF_stop f (l.drop (oneL l).2) (by simp; omega)
      rw [List.drop_drop] at this
      exact this
end Go.Proofs.Ytgphiollpbahgaa.mem
