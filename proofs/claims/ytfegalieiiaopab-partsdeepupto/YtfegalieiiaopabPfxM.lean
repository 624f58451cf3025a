import Derived.Test.YtfegalieiiaopabMem
import Derived.Test.YtfegalieiiaopabPfx
namespace Go.Proofs.Ytfegalieiiaopab.mem
open Go.ChangeShapes Go.WideShapes Go.ChangeAt Go.RowKit
open ints (hide unhide)
set_option linter.unusedVariables false


theorem is_i (a : Option Addr) (n c : Nat) (l : List Int) (p : Nat) (x : Int) (w : World) (h : Row .i32 w a n c l) (hn : n ≤ 4611686018427387904) (hp : p ≤ 4611686018427387904) :
    Calls Try.prog 79 #[.slice a n c, .int .i64 (p : Int), .int .i32 x] w fun e w' => e = .returned (.bool (isAt l p x)) ∧ Below w.heap.size w w' := by
  by_cases hlt : p < n
  · rcases h.at_ with h0 | ⟨b, off, rfl, hbw, hcell⟩
    · omega
    have c1 := hcell p hlt
    have HI := hide (show isAt l p x = (l.getD p 0 == x) from isAt_of (by rw [h.len]; exact hlt) x)
    have pi : (p : Int) < (n : Int) := by omega
    rw [unhide HI]
    generalize l.getD p 0 = y at *
    clear hcell
    go_enter Try.func79, Try.ntmps79
    cases e1 : (y == x)
    all_goals
      go_wp2
      go_ret
      exact ⟨rfl, Below.refl _ _⟩
  · have HI := hide (show isAt l p x = false from isAt_not (by rw [h.len]; exact hlt) x)
    have pi : ¬ (p : Int) < (n : Int) := by omega
    rw [unhide HI]
    go_enter Try.func79, Try.ntmps79
    go_wp2
    go_ret
    exact ⟨rfl, Below.refl _ _⟩
theorem digs_i (a : Option Addr) (n c : Nat) (l : List Int) (p : Nat) (w : World) (h : Row .i32 w a n c l) (hn : n ≤ 4611686018427387904) (hp : p ≤ 4611686018427387904) :
    Calls Try.prog 90 #[.slice a n c, .int .i64 (p : Int)] w fun e w' => e = .returned (.int .i64 (digs l p : Nat)) ∧ Below w.heap.size w w' := by
  go_enter Try.func90, Try.ntmps90
  go_wp2
  go_loopw [1] (fun v wr => ∃ k : Nat, k ≤ 4611686018427387904 ∧ v = .int .i64 k ∧ digs l p = digs l k ∧ Below w.heap.size w wr) (fun v _ => n - (intOf v).toNat)
  case atStart => exact ⟨p, hp, rfl, rfl, Below.refl _ _⟩
  case round =>
    obtain ⟨k, hk, rfl, heq, hbel⟩ := hrel
    have HE := hide heq
    clear heq
    by_cases hlt : k < n
    · rcases h.at_ with h0 | ⟨b, off, rfl, hbw, hcell⟩
      · omega
      have c1 := (hbel.cell (p := ⟨b, off + k, none⟩) hbw).trans (hcell k hlt)
      have HD := hide (show digAt l k = digB (l.getD k 0) from digAt_of (by rw [h.len]; exact hlt))
      have ki : (k : Int) < (n : Int) := by omega
      generalize l.getD k 0 = y at *
      clear hcell
      by_cases h1 : 48 ≤ y
      · by_cases h2 : y ≤ 57
        · have hd := hide (show digAt l k = true from by rw [unhide HD]; simp [digB, h1, h2])
          go_wp2
          go_roundw
          case rel => exact ⟨k + 1, by omega, by go_num, by rw [unhide HE, digs_yes (unhide hd)], hbel⟩
          case measure => simp [intOf]; omega
        · have hd := hide (show digAt l k = false from by rw [unhide HD]; simp [digB, h1, h2])
          go_wp2
          go_ret
          rw [unhide HE, digs_no (unhide hd)]
          exact ⟨rfl, hbel⟩
      · have hd := hide (show digAt l k = false from by rw [unhide HD]; simp [digB, h1])
        go_wp2
        go_ret
        rw [unhide HE, digs_no (unhide hd)]
        exact ⟨rfl, hbel⟩
    · have ki : ¬ (k : Int) < (n : Int) := by omega
      have hd := hide (show digAt l k = false from digAt_not (by rw [h.len]; exact hlt))
      go_wp2
      go_ret
      rw [unhide HE, digs_no (unhide hd)]
      exact ⟨rfl, hbel⟩
theorem isq_i (a : Option Addr) (n c : Nat) (l : List Int) (p : Nat) (q : Int) (hq : q = (p : Int)) (x : Int) (w : World) (h : Row .i32 w a n c l) (hn : n ≤ 4611686018427387904) (hp : p ≤ 4611686018427387904) :
    Calls Try.prog 79 #[.slice a n c, .int .i64 q, .int .i32 x] w fun e w' => e = .returned (.bool (isAt l p x)) ∧ Below w.heap.size w w' := by
  subst hq; exact is_i a n c l p x w h hn hp
theorem point_i (a : Option Addr) (n c : Nat) (l : List Int) (p : Nat) (w : World) (h : Row .i32 w a n c l) (hn : n ≤ 4611686018427387904) (hp : p ≤ 4611686018427387904) :
    Calls Try.prog 82 #[.slice a n c, .int .i64 (p : Int)] w fun e w' => e = .returned (.int .i64 (bPoint l p : Nat)) ∧ Below w.heap.size w w' := by
  go_enter Try.func82, Try.ntmps82
  go_wp2_with fail
  refine (is_i a n c l p 46 w h hn hp).mono ?_
  rintro e w1 ⟨rfl, b1⟩
  cases e1 : isAt l p 46
  all_goals
    go_wp2
    go_ret
    exact ⟨by unfold bPoint; rw [e1]; go_num, b1⟩
theorem mark_i (a : Option Addr) (n c : Nat) (l : List Int) (p : Nat) (w : World) (h : Row .i32 w a n c l) (hn : n ≤ 4611686018427387904) (hp : p ≤ 4611686018427387903) :
    Calls Try.prog 83 #[.slice a n c, .int .i64 (p : Int)] w fun e w' => e = .returned (.int .i64 (bMark l p : Nat)) ∧ Below w.heap.size w w' := by
  go_enter Try.func83, Try.ntmps83
  go_wp2_with fail
  refine (is_i a n c l p 101 w h hn (by omega)).mono ?_
  rintro e w1 ⟨rfl, b1⟩
  cases e1 : isAt l p 101
  · go_wp2_with fail
    refine (is_i a n c l p 69 w1 (h.below b1) hn (by omega)).mono ?_
    rintro e w2 ⟨rfl, b2⟩
    have b2 := b1.trans (b2.mono b1.size)
    cases e2 : isAt l p 69
    · go_wp2
      go_ret
      exact ⟨by unfold bMark; rw [if_pos ⟨e1, e2⟩]; rfl, b2⟩
    · go_wp2_with fail
      refine (isq_i a n c l (p + 1) _ (by omega) 43 w2 (h.below b2) hn (by omega)).mono ?_
      rintro e w3 ⟨rfl, b3⟩
      have b3 := b2.trans (b3.mono b2.size)
      cases e3 : isAt l (p + 1) 43
      · go_wp2_with fail
        refine (isq_i a n c l (p + 1) _ (by omega) 45 w3 (h.below b3) hn (by omega)).mono ?_
        rintro e w4 ⟨rfl, b4⟩
        have b4 := b3.trans (b4.mono b3.size)
        cases e4 : isAt l (p + 1) 45
        · go_wp2
          go_ret
          exact ⟨by unfold bMark; rw [if_neg (by simp [e2]), if_neg (by simp [e3, e4])]; go_num, b4⟩
        · go_wp2
          go_ret
          exact ⟨by unfold bMark; rw [if_neg (by simp [e2]), if_pos (.inr e4)]; go_num, b4⟩
      · go_wp2
        go_ret
        exact ⟨by unfold bMark; rw [if_neg (by simp [e2]), if_pos (.inl e3)]; go_num, b3⟩
  · go_wp2_with fail
    refine (isq_i a n c l (p + 1) _ (by omega) 43 w1 (h.below b1) hn (by omega)).mono ?_
    rintro e w3 ⟨rfl, b3⟩
    have b3 := b1.trans (b3.mono b1.size)
    cases e3 : isAt l (p + 1) 43
    · go_wp2_with fail
      refine (isq_i a n c l (p + 1) _ (by omega) 45 w3 (h.below b3) hn (by omega)).mono ?_
      rintro e w4 ⟨rfl, b4⟩
      have b4 := b3.trans (b4.mono b3.size)
      cases e4 : isAt l (p + 1) 45
      · go_wp2
        go_ret
        exact ⟨by unfold bMark; rw [if_neg (by simp [e1]), if_neg (by simp [e3, e4])]; go_num, b4⟩
      · go_wp2
        go_ret
        exact ⟨by unfold bMark; rw [if_neg (by simp [e1]), if_pos (.inr e4)]; go_num, b4⟩
    · go_wp2
      go_ret
      exact ⟨by unfold bMark; rw [if_neg (by simp [e1]), if_pos (.inl e3)]; go_num, b3⟩
theorem whole_i (a : Option Addr) (n c : Nat) (l : List Int) (p : Nat) (w : World) (h : Row .i32 w a n c l) (hn : n ≤ 4611686018427387904) (hp : p ≤ 4611686018427387904) :
    Calls Try.prog 80 #[.slice a n c, .int .i64 (p : Int)] w fun e w' => e = .returned (.int .i64 (bWhole l p : Nat)) ∧ Below w.heap.size w w' := by
  go_enter Try.func80, Try.ntmps80
  go_wp2_with fail
  refine (is_i a n c l p 48 w h hn hp).mono ?_
  rintro e w1 ⟨rfl, b1⟩
  cases e1 : isAt l p 48
  · go_wp2_with fail
    refine (digs_i a n c l p w1 (h.below b1) hn hp).mono ?_
    rintro e w2 ⟨rfl, b2⟩
    have b2 := b1.trans (b2.mono b1.size)
    go_wp2
    go_ret
    exact ⟨by unfold bWhole; rw [e1]; rfl, b2⟩
  · go_wp2
    go_ret
    exact ⟨by unfold bWhole; rw [e1]; go_num, b1⟩
theorem wholeq_i (a : Option Addr) (n c : Nat) (l : List Int) (p : Nat) (q : Int) (hq : q = (p : Int)) (w : World) (h : Row .i32 w a n c l) (hn : n ≤ 4611686018427387904) (hp : p ≤ 4611686018427387904) :
    Calls Try.prog 80 #[.slice a n c, .int .i64 q] w fun e w' => e = .returned (.int .i64 (bWhole l p : Nat)) ∧ Below w.heap.size w w' := by
  subst hq; exact whole_i a n c l p w h hn hp
theorem part_i (a : Option Addr) (n c : Nat) (l : List Int) (p first : Nat) (w : World) (h : Row .i32 w a n c l) (hn : n ≤ 4611686018427387904) (hp : p ≤ 4611686018427387904) (hf : first ≤ 4611686018427387904) :
    Calls Try.prog 81 #[.slice a n c, .int .i64 (p : Int), .int .i64 (first : Int)] w fun e w' => e = .returned (.tuple #[.int .i64 ((bPart l p first).1 : Nat), .int .i64 ((bPart l p first).2 : Nat)]) ∧ Below w.heap.size w w' := by
  go_enter Try.func81, Try.ntmps81
  by_cases e1 : first = p
  · have e1i : ((first : Int) == (p : Int)) = true := by simp [e1]
    go_wp2
    go_ret2
    exact ⟨by unfold bPart; rw [if_pos e1]; rfl, Below.refl _ _⟩
  · have e1i : ((first : Int) == (p : Int)) = false := by simp; omega
    go_wp2_with fail
    refine (digs_i a n c l first w h hn hf).mono ?_
    rintro e w1 ⟨rfl, b1⟩
    by_cases e2 : digs l first = first
    · have e2i : ((digs l first : Int) == (first : Int)) = true := by simp [e2]
      go_wp2
      go_ret2
      exact ⟨by unfold bPart; rw [if_neg e1, if_pos e2, e2]; rfl, b1⟩
    · have e2i : ((digs l first : Int) == (first : Int)) = false := by simp; omega
      go_wp2
      go_ret2
      exact ⟨by unfold bPart; rw [if_neg e1, if_neg e2]; rfl, b1⟩
theorem prefix_out_i (a : Option Addr) (n c : Nat) (i : Int) (w : World) (hi : i < 0 ∨ (n : Int) < i) :
    Calls Try.prog 73 #[.slice a n c, .int .i64 i] w fun e w' => e = .returned (.tuple #[.int .i64 0, .int .i64 0, .int .i64 0]) ∧ Below w.heap.size w w' := by
  go_enter Try.func73, Try.ntmps73
  by_cases h0 : i < 0
  · go_wp2
    go_ret3
    exact ⟨rfl, Below.refl _ _⟩
  · have h1 : (n : Int) < i := by omega
    go_wp2
    go_ret3
    exact ⟨rfl, Below.refl _ _⟩
set_option maxHeartbeats 1000000 in
theorem prefix_in_i (a : Option Addr) (n c : Nat) (l : List Int) (p : Nat) (w : World) (h : Row .i32 w a n c l) (hn : n ≤ 4611686018427387900) (hp : p ≤ n) :
    Calls Try.prog 73 #[.slice a n c, .int .i64 (p : Int)] w fun e w' => e = .returned (.tuple #[.int .i64 ((pfx l p).1 : Nat), .int .i64 ((pfx l p).2.1 : Nat), .int .i64 (pfx l p).2.2]) ∧ Below w.heap.size w w' := by
  go_enter Try.func73, Try.ntmps73
  have h0 : ¬ (p : Int) < 0 := by omega
  have h1 : ¬ (n : Int) < (p : Int) := by omega
  go_wp2_with fail
  refine (is_i a n c l p 45 w h (by omega) (by omega)).mono ?_
  rintro e w1 ⟨rfl, b1⟩
  cases e1 : isAt l p 45
  · have hF := hide (show pfxFirst l p = p from by unfold pfxFirst; rw [e1]; rfl)
    clear e1
    have HL := hide h.len
    have hF1 := whole_le (l := l) (p := p) (by rw [h.len]; omega)
    rw [h.len] at hF1
    go_wp2_with fail
    refine (wholeq_i a n c l (p) _ (by omega) w1 (h.below b1) (by omega) (by omega)).mono ?_
    rintro e w2 ⟨rfl, b2⟩
    have b2 := b1.trans (b2.mono b1.size)
    by_cases e2 : bWhole l (p) = p
    · have e2i : ((bWhole l (p) : Int) == (p : Int)) = true := by simp; omega
      have HE2 := hide e2
      clear e2
      go_wp2
      go_ret3
      exact ⟨by unfold pfx; rw [unhide hF, if_pos (unhide HE2)]; rfl, b2⟩
    · have e2i : ((bWhole l (p) : Int) == (p : Int)) = false := by simp; omega
      have HP := hide (show pfx l p = ((pfxR l (bWhole l (p))).1, (pfxR l (bWhole l (p))).2, if (pfxR l (bWhole l (p))).1 > bWhole l (p) then 2 else 1) from by unfold pfx; rw [unhide hF, if_neg e2])
      clear e2
      generalize bWhole l (p) = E at *
      have hq1 := point_le (l := l) (p := E) (by rw [unhide HL]; exact hF1)
      have hq2 := part_le (l := l) (p := E) (f := bPoint l E) (by rw [unhide HL]; exact hF1) hq1
      rw [unhide HL] at hq1 hq2
      go_wp2_with fail
      refine (point_i a n c l E w2 (h.below b2) (by omega) (by omega)).mono ?_
      rintro e w3 ⟨rfl, b3⟩
      have b3 := b2.trans (b3.mono b2.size)
      go_wp2_with fail
      refine (part_i a n c l E (bPoint l E) w3 (h.below b3) (by omega) (by omega) (by omega)).mono ?_
      rintro e w4 ⟨rfl, b4⟩
      have b4 := b3.trans (b4.mono b3.size)
      have HR := hide (show pfxR l E = if (bPart l E (bPoint l E)).1 = (bPart l E (bPoint l E)).2 then bPart l (bPart l E (bPoint l E)).1 (bMark l (bPart l E (bPoint l E)).1) else bPart l E (bPoint l E) from rfl)
      clear hq1
      generalize bPart l E (bPoint l E) = R at *
      obtain ⟨R1, R2⟩ := R
      simp only at hq2
      by_cases e3 : R1 = R2
      · have e3i : ((R1 : Int) == (R2 : Int)) = true := by simp; omega
        have HR2 := hide (show pfxR l E = bPart l R1 (bMark l R1) from by rw [unhide HR]; exact if_pos e3)
        clear HR
        clear e3i
        subst e3
        have e3i : ((R1 : Int) == (R1 : Int)) = true := by simp
        have hm1 := mark_le (l := l) (p := R1) (by rw [unhide HL]; exact hq2.1)
        rw [unhide HL] at hm1
        go_wp2_with fail
        refine (mark_i a n c l R1 w4 (h.below b4) (by omega) (by omega)).mono ?_
        rintro e w5 ⟨rfl, b5⟩
        have b5 := b4.trans (b5.mono b4.size)
        go_wp2_with fail
        refine (part_i a n c l R1 (bMark l R1) w5 (h.below b5) (by omega) (by omega) (by omega)).mono ?_
        rintro e w6 ⟨rfl, b6⟩
        have b6 := b5.trans (b6.mono b5.size)
        clear hm1 e3i
        rw [unhide HR2] at HP
        generalize bPart l R1 (bMark l R1) = S at *
        obtain ⟨S1, S2⟩ := S
        by_cases e4 : E < S1
        · have HQ := hide (show pfx l p = (S1, S2, 2) from by rw [unhide HP]; simp [e4])
          have e4i : (E : Int) < (S1 : Int) := by omega
          clear HP HR2
          go_wp2
          go_ret3
          exact ⟨by rw [unhide HQ]; rfl, b6⟩
        · have HQ := hide (show pfx l p = (S1, S2, 1) from by rw [unhide HP]; simp [e4])
          have e4i : ¬ (E : Int) < (S1 : Int) := by omega
          clear HP HR2
          go_wp2
          go_ret3
          exact ⟨by rw [unhide HQ]; rfl, b6⟩
      · have e3i : ((R1 : Int) == (R2 : Int)) = false := by simp; omega
        have HR2 := hide (show pfxR l E = (R1, R2) from by rw [unhide HR]; exact if_neg e3)
        clear HR e3
        rw [unhide HR2] at HP
        by_cases e4 : E < R1
        · have HQ := hide (show pfx l p = (R1, R2, 2) from by rw [unhide HP]; simp [e4])
          have e4i : (E : Int) < (R1 : Int) := by omega
          clear HP HR2
          go_wp2
          go_ret3
          exact ⟨by rw [unhide HQ]; rfl, b4⟩
        · have HQ := hide (show pfx l p = (R1, R2, 1) from by rw [unhide HP]; simp [e4])
          have e4i : ¬ (E : Int) < (R1 : Int) := by omega
          clear HP HR2
          go_wp2
          go_ret3
          exact ⟨by rw [unhide HQ]; rfl, b4⟩
  · have hF := hide (show pfxFirst l p = p + 1 from by unfold pfxFirst; rw [e1]; rfl)
    have hpl := isAt_lt e1
    rw [h.len] at hpl
    clear e1
    have HL := hide h.len
    have hF1 := whole_le (l := l) (p := p + 1) (by rw [h.len]; omega)
    rw [h.len] at hF1
    go_wp2_with fail
    refine (wholeq_i a n c l (p + 1) _ (by omega) w1 (h.below b1) (by omega) (by omega)).mono ?_
    rintro e w2 ⟨rfl, b2⟩
    have b2 := b1.trans (b2.mono b1.size)
    by_cases e2 : bWhole l (p + 1) = p + 1
    · have e2i : ((bWhole l (p + 1) : Int) == ((p : Int) + 1)) = true := by simp; omega
      have HE2 := hide e2
      clear e2
      go_wp2
      go_ret3
      exact ⟨by unfold pfx; rw [unhide hF, if_pos (unhide HE2)]; rfl, b2⟩
    · have e2i : ((bWhole l (p + 1) : Int) == ((p : Int) + 1)) = false := by simp; omega
      have HP := hide (show pfx l p = ((pfxR l (bWhole l (p + 1))).1, (pfxR l (bWhole l (p + 1))).2, if (pfxR l (bWhole l (p + 1))).1 > bWhole l (p + 1) then 2 else 1) from by unfold pfx; rw [unhide hF, if_neg e2])
      clear e2
      generalize bWhole l (p + 1) = E at *
      have hq1 := point_le (l := l) (p := E) (by rw [unhide HL]; exact hF1)
      have hq2 := part_le (l := l) (p := E) (f := bPoint l E) (by rw [unhide HL]; exact hF1) hq1
      rw [unhide HL] at hq1 hq2
      go_wp2_with fail
      refine (point_i a n c l E w2 (h.below b2) (by omega) (by omega)).mono ?_
      rintro e w3 ⟨rfl, b3⟩
      have b3 := b2.trans (b3.mono b2.size)
      go_wp2_with fail
      refine (part_i a n c l E (bPoint l E) w3 (h.below b3) (by omega) (by omega) (by omega)).mono ?_
      rintro e w4 ⟨rfl, b4⟩
      have b4 := b3.trans (b4.mono b3.size)
      have HR := hide (show pfxR l E = if (bPart l E (bPoint l E)).1 = (bPart l E (bPoint l E)).2 then bPart l (bPart l E (bPoint l E)).1 (bMark l (bPart l E (bPoint l E)).1) else bPart l E (bPoint l E) from rfl)
      clear hq1
      generalize bPart l E (bPoint l E) = R at *
      obtain ⟨R1, R2⟩ := R
      simp only at hq2
      by_cases e3 : R1 = R2
      · have e3i : ((R1 : Int) == (R2 : Int)) = true := by simp; omega
        have HR2 := hide (show pfxR l E = bPart l R1 (bMark l R1) from by rw [unhide HR]; exact if_pos e3)
        clear HR
        clear e3i
        subst e3
        have e3i : ((R1 : Int) == (R1 : Int)) = true := by simp
        have hm1 := mark_le (l := l) (p := R1) (by rw [unhide HL]; exact hq2.1)
        rw [unhide HL] at hm1
        go_wp2_with fail
        refine (mark_i a n c l R1 w4 (h.below b4) (by omega) (by omega)).mono ?_
        rintro e w5 ⟨rfl, b5⟩
        have b5 := b4.trans (b5.mono b4.size)
        go_wp2_with fail
        refine (part_i a n c l R1 (bMark l R1) w5 (h.below b5) (by omega) (by omega) (by omega)).mono ?_
        rintro e w6 ⟨rfl, b6⟩
        have b6 := b5.trans (b6.mono b5.size)
        clear hm1 e3i
        rw [unhide HR2] at HP
        generalize bPart l R1 (bMark l R1) = S at *
        obtain ⟨S1, S2⟩ := S
        by_cases e4 : E < S1
        · have HQ := hide (show pfx l p = (S1, S2, 2) from by rw [unhide HP]; simp [e4])
          have e4i : (E : Int) < (S1 : Int) := by omega
          clear HP HR2
          go_wp2
          go_ret3
          exact ⟨by rw [unhide HQ]; rfl, b6⟩
        · have HQ := hide (show pfx l p = (S1, S2, 1) from by rw [unhide HP]; simp [e4])
          have e4i : ¬ (E : Int) < (S1 : Int) := by omega
          clear HP HR2
          go_wp2
          go_ret3
          exact ⟨by rw [unhide HQ]; rfl, b6⟩
      · have e3i : ((R1 : Int) == (R2 : Int)) = false := by simp; omega
        have HR2 := hide (show pfxR l E = (R1, R2) from by rw [unhide HR]; exact if_neg e3)
        clear HR e3
        rw [unhide HR2] at HP
        by_cases e4 : E < R1
        · have HQ := hide (show pfx l p = (R1, R2, 2) from by rw [unhide HP]; simp [e4])
          have e4i : (E : Int) < (R1 : Int) := by omega
          clear HP HR2
          go_wp2
          go_ret3
          exact ⟨by rw [unhide HQ]; rfl, b4⟩
        · have HQ := hide (show pfx l p = (R1, R2, 1) from by rw [unhide HP]; simp [e4])
          have e4i : ¬ (E : Int) < (R1 : Int) := by omega
          clear HP HR2
          go_wp2
          go_ret3
          exact ⟨by rw [unhide HQ]; rfl, b4⟩

end Go.Proofs.Ytfegalieiiaopab.mem
