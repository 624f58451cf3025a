import Derived.Test.YtjfdjpaocdhbbaaGreatDoorRows
import Derived.Test.YtjfdjpaocdhbbaaGreatDoorNbk6
import Derived.Test.YtjfdjpaocdhbbaaGreatDoorNbk7
import Derived.Test.YtjfdjpaocdhbbaaGreatDoorNbk5
import Derived.Shelf.Strings.Trim
import Derived.Shelf.Strconv.ParseIntPublic10
import Derived.Shelf.Strings.Prefix
import Derived.Shelf.Strings.IndexAny
import Derived.Shelf.Strings.IndexAnyAll
import Derived.Test.YtjfdjpaocdhbbaaGreatDoorProg
import Derived.Shelf.Strings.SlTrimAscii
import Derived.Test.YtjfdjpaocdhbbaaGreatDoorNbk4
import Derived.Laws.Cover2
import Derived.Laws.FloatArith
import Derived.Laws.Externs
import Derived.Laws.BitsAllLaws
namespace Go.Proofs.YtjfdjpaocdhbbaaGreatDoor.mem
set_option linter.unusedVariables false

/-- A sign stands at a place. -/
def isAt (l : List Int) (p : Nat) (c : Int) : Bool := decide (p < l.length) && (l.getD p 0 == c)
def digB (c : Int) : Bool := decide (48 ≤ c) && decide (c ≤ 57)
def digAt (l : List Int) (p : Nat) : Bool := decide (p < l.length) && digB (l.getD p 0)
def digsF (l : List Int) : Nat → Nat → Nat
  | 0, p => p
  | f + 1, p => if digAt l p then digsF l f (p + 1) else p
/-- The place behind the digits from p on. -/
def digs (l : List Int) (p : Nat) : Nat := digsF l (l.length - p) p
theorem digAt_lt {l : List Int} {p : Nat} (h : digAt l p = true) : p < l.length := by
  unfold digAt at h
  simp only [Bool.and_eq_true, decide_eq_true_eq] at h
  exact h.1
theorem isAt_lt {l : List Int} {p : Nat} {c : Int} (h : isAt l p c = true) : p < l.length := by
  unfold isAt at h
  simp only [Bool.and_eq_true, decide_eq_true_eq] at h
  exact h.1
theorem digs_yes {l : List Int} {p : Nat} (h : digAt l p = true) : digs l p = digs l (p + 1) := by
  have hl := digAt_lt h
  unfold digs
  rw [show l.length - p = (l.length - (p + 1)) + 1 by omega]
  simp only [digsF, h, if_true]
theorem digs_no {l : List Int} {p : Nat} (h : digAt l p = false) : digs l p = p := by
  unfold digs
  cases l.length - p with
  | zero => rfl
  | succ f => simp only [digsF, h]; rfl
theorem digsF_le (l : List Int) (f p : Nat) : p ≤ digsF l f p ∧ digsF l f p ≤ p + f := by
  induction f generalizing p with
  | zero => simp [digsF]
  | succ f ih =>
    simp only [digsF]
    split
    · have := ih (p + 1); omega
    · omega
theorem digs_le (l : List Int) (p : Nat) : p ≤ digs l p ∧ (p ≤ l.length → digs l p ≤ l.length) := by
  have := digsF_le l (l.length - p) p
  unfold digs
  omega
theorem digs_pos {l : List Int} {p : Nat} (h : digAt l p = true) : p + 1 ≤ digs l p := by
  rw [digs_yes h]; exact (digs_le l (p + 1)).1
theorem digs_end {l : List Int} {p : Nat} : digAt l (digs l p) = false := by
  unfold digs
  generalize hf : l.length - p = f
  induction f generalizing p with
  | zero =>
    unfold digsF digAt
    have : ¬ p < l.length := by omega
    simp [this]
  | succ f ih =>
    simp only [digsF]
    cases h : digAt l p
    · simpa using h
    · simpa using ih (p := p + 1) (by omega)

/-- The program. -/
def bWhole (l : List Int) (p : Nat) : Nat := if isAt l p 48 then p + 1 else digs l p
def bPart (l : List Int) (p first : Nat) : Nat × Nat := if first = p then (p, p) else if digs l first = first then (p, digs l first) else (digs l first, digs l first)
def bPoint (l : List Int) (p : Nat) : Nat := if isAt l p 46 then p + 1 else p
def bMark (l : List Int) (p : Nat) : Nat := if isAt l p 101 = false ∧ isAt l p 69 = false then p else if isAt l (p + 1) 43 = true ∨ isAt l (p + 1) 45 = true then p + 2 else p + 1
def pfxFirst (l : List Int) (p : Nat) : Nat := if isAt l p 45 then p + 1 else p
def pfxR (l : List Int) (e : Nat) : Nat × Nat :=
  if (bPart l e (bPoint l e)).1 = (bPart l e (bPoint l e)).2 then bPart l (bPart l e (bPoint l e)).1 (bMark l (bPart l e (bPoint l e)).1) else bPart l e (bPoint l e)
def pfx (l : List Int) (p : Nat) : Nat × Nat × Int :=
  if bWhole l (pfxFirst l p) = pfxFirst l p then (p, pfxFirst l p, 0)
  else ((pfxR l (bWhole l (pfxFirst l p))).1, (pfxR l (bWhole l (pfxFirst l p))).2, if (pfxR l (bWhole l (pfxFirst l p))).1 > bWhole l (pfxFirst l p) then 2 else 1)

/-- The reference. -/
def stepZ (st c : Int) : Int :=
  if st = 0 ∨ st = 1 then (if c = 45 ∧ st = 0 then 1 else if c = 48 then 2 else if digB c then 3 else -1)
  else if st = 2 ∨ st = 3 then (if digB c ∧ st = 3 then 3 else if c = 46 then 4 else if c = 101 ∨ c = 69 then 6 else -1)
  else if st = 4 then (if digB c then 5 else -1)
  else if st = 5 then (if digB c then 5 else if c = 101 ∨ c = 69 then 6 else -1)
  else if st = 6 then (if digB c then 8 else if c = 43 ∨ c = 45 then 7 else -1)
  else if st = 7 ∨ st = 8 then (if digB c then 8 else -1)
  else -1
def formZ (st : Int) : Int := if st = 2 ∨ st = 3 then 1 else if st = 5 ∨ st = 8 then 2 else 0
def runF (l : List Int) : Nat → Int → Nat → Int → Nat → Nat × Nat × Int
  | 0, _, e, f, _ => (e, l.length, f)
  | m + 1, st, e, f, k =>
    if stepZ st (l.getD k 0) < 0 then (e, k, f)
    else if formZ (stepZ st (l.getD k 0)) ≠ 0 then runF l m (stepZ st (l.getD k 0)) (k + 1) (formZ (stepZ st (l.getD k 0))) (k + 1)
    else runF l m (stepZ st (l.getD k 0)) e f (k + 1)
def run (l : List Int) (st : Int) (e : Nat) (f : Int) (k : Nat) : Nat × Nat × Int := runF l (l.length - k) st e f k
theorem run_end {l : List Int} {k : Nat} (h : ¬ k < l.length) (st : Int) (e : Nat) (f : Int) : run l st e f k = (e, l.length, f) := by
  unfold run
  rw [show l.length - k = 0 by omega]
  rfl
theorem run_bad {l : List Int} {k : Nat} (h : k < l.length) {st : Int} (hs : stepZ st (l.getD k 0) < 0) (e : Nat) (f : Int) : run l st e f k = (e, k, f) := by
  unfold run
  rw [show l.length - k = (l.length - (k + 1)) + 1 by omega]
  simp only [runF, hs, if_true]
theorem run_go {l : List Int} {k : Nat} (h : k < l.length) {st s' : Int} (hs : stepZ st (l.getD k 0) = s') (h0 : 0 ≤ s') (hf : formZ s' = 0) (e : Nat) (f : Int) : run l st e f k = run l s' e f (k + 1) := by
  unfold run
  rw [show l.length - k = (l.length - (k + 1)) + 1 by omega]
  simp only [runF, hs, hf, ne_eq, not_true, if_false, show ¬ s' < 0 by omega]
theorem run_take {l : List Int} {k : Nat} (h : k < l.length) {st s' : Int} (hs : stepZ st (l.getD k 0) = s') (h0 : 0 ≤ s') (hf : formZ s' ≠ 0) (e : Nat) (f : Int) : run l st e f k = run l s' (k + 1) (formZ s') (k + 1) := by
  unfold run
  rw [show l.length - k = (l.length - (k + 1)) + 1 by omega]
  simp only [runF, hs, ne_eq, hf, not_false_eq_true, if_true, show ¬ s' < 0 by omega, if_false]

theorem isAt_of {l : List Int} {k : Nat} (h : k < l.length) (c : Int) : isAt l k c = (l.getD k 0 == c) := by simp [-List.getD_eq_getElem?_getD, isAt, h]
theorem digAt_of {l : List Int} {k : Nat} (h : k < l.length) : digAt l k = digB (l.getD k 0) := by simp [-List.getD_eq_getElem?_getD, digAt, h]
theorem isAt_not {l : List Int} {k : Nat} (h : ¬ k < l.length) (c : Int) : isAt l k c = false := by simp [-List.getD_eq_getElem?_getD, isAt, h]
theorem digAt_not {l : List Int} {k : Nat} (h : ¬ k < l.length) : digAt l k = false := by simp [-List.getD_eq_getElem?_getD, digAt, h]
theorem digB_not {c : Int} (h : digB c = true) : c ≠ 45 ∧ c ≠ 43 ∧ c ≠ 46 ∧ c ≠ 101 ∧ c ≠ 69 := by
  unfold digB at h
  simp only [Bool.and_eq_true, decide_eq_true_eq] at h
  omega

theorem run8 (l : List Int) (k : Nat) (hk : k ≤ l.length) : run l 8 k 2 k = (digs l k, digs l k, 2) := by
  generalize hm : l.length - k = m
  induction m generalizing k with
  | zero =>
    rw [run_end (by omega), digs_no (digAt_not (by omega)), show k = l.length by omega]
  | succ m ih =>
    have hl : k < l.length := by omega
    cases h : digAt l k
    · rw [digs_no h, run_bad hl]
      rw [digAt_of hl] at h
      simp [-List.getD_eq_getElem?_getD, stepZ, h]
    · rw [digs_yes h, ← ih (k + 1) (by omega) (by omega)]
      rw [digAt_of hl] at h
      exact run_take (s' := 8) hl (by simp [-List.getD_eq_getElem?_getD, stepZ, h]) (by omega) (by decide) _ _
theorem run7 (l : List Int) (k : Nat) (hk : k ≤ l.length) (e : Nat) (f : Int) : run l 7 e f k = if digAt l k then (digs l k, digs l k, 2) else (e, k, f) := by
  by_cases hl : k < l.length
  · cases h : digAt l k
    · rw [run_bad hl]
      · rfl
      · rw [digAt_of hl] at h; simp [-List.getD_eq_getElem?_getD, stepZ, h]
    · rw [digs_yes h, ← run8 l (k + 1) (by omega)]
      rw [digAt_of hl] at h
      exact run_take (s' := 8) hl (by simp [-List.getD_eq_getElem?_getD, stepZ, h]) (by omega) (by decide) _ _
  · rw [run_end hl, digAt_not hl, show k = l.length by omega]; rfl
def after6 (l : List Int) (k e : Nat) (f : Int) : Nat × Nat × Int :=
  if digAt l k then (digs l k, digs l k, 2) else if isAt l k 43 = true ∨ isAt l k 45 = true then (if digAt l (k + 1) then (digs l (k + 1), digs l (k + 1), 2) else (e, k + 1, f)) else (e, k, f)
theorem run6 (l : List Int) (k : Nat) (hk : k ≤ l.length) (e : Nat) (f : Int) : run l 6 e f k = after6 l k e f := by
  unfold after6
  by_cases hl : k < l.length
  · cases h : digAt l k
    · by_cases hs : isAt l k 43 = true ∨ isAt l k 45 = true
      · rw [if_neg (by simp), if_pos hs, ← run7 l (k + 1) (by omega) e f]
        rw [isAt_of hl, isAt_of hl] at hs
        rw [digAt_of hl] at h
        refine run_go (s' := 7) hl ?_ (by omega) (by decide) _ _
        simp only [beq_iff_eq] at hs
        simp [-List.getD_eq_getElem?_getD, stepZ, h, hs]
      · rw [if_neg (by simp), if_neg hs, run_bad hl]
        rw [isAt_of hl, isAt_of hl] at hs
        rw [digAt_of hl] at h
        simp only [beq_iff_eq] at hs
        simp [-List.getD_eq_getElem?_getD, stepZ, h, hs]
    · rw [if_pos rfl, digs_yes h, ← run8 l (k + 1) (by omega)]
      rw [digAt_of hl] at h
      exact run_take (s' := 8) hl (by simp [-List.getD_eq_getElem?_getD, stepZ, h]) (by omega) (by decide) _ _
  · rw [run_end hl, digAt_not hl, isAt_not hl, isAt_not hl, show k = l.length by omega]; simp
def isE (l : List Int) (k : Nat) : Bool := isAt l k 101 || isAt l k 69
theorem isE_of {l : List Int} {k : Nat} (h : k < l.length) : isE l k = true ↔ (l.getD k 0 = 101 ∨ l.getD k 0 = 69) := by
  unfold isE
  rw [isAt_of h, isAt_of h]
  simp only [Bool.or_eq_true, beq_iff_eq]
theorem isE_not {l : List Int} {k : Nat} (h : ¬ k < l.length) : isE l k = false := by simp [isE, isAt_not h]
def afterE (l : List Int) (d : Nat) (f : Int) : Nat × Nat × Int := if isE l d then after6 l (d + 1) d f else (d, d, f)
theorem run5 (l : List Int) (k : Nat) (hk : k ≤ l.length) : run l 5 k 2 k = afterE l (digs l k) 2 := by
  generalize hm : l.length - k = m
  induction m generalizing k with
  | zero =>
    rw [run_end (by omega), digs_no (digAt_not (by omega))]
    unfold afterE
    rw [isE_not (by omega), show k = l.length by omega]; rfl
  | succ m ih =>
    have hl : k < l.length := by omega
    cases h : digAt l k
    · rw [digs_no h]
      unfold afterE
      rw [digAt_of hl] at h
      cases he : isE l k
      · rw [run_bad hl]
        · rfl
        · have : ¬ (l.getD k 0 = 101 ∨ l.getD k 0 = 69) := fun h => (by simp [he] : ¬ isE l k = true) ((isE_of hl).2 h)
          simp [-List.getD_eq_getElem?_getD, stepZ, h, this]
      · rw [if_pos rfl, ← run6 l (k + 1) (by omega)]
        refine run_go (s' := 6) hl ?_ (by omega) (by decide) _ _
        have := (isE_of hl).1 he
        simp [-List.getD_eq_getElem?_getD, stepZ, h, this]
    · rw [digs_yes h, ← ih (k + 1) (by omega) (by omega)]
      rw [digAt_of hl] at h
      exact run_take (s' := 5) hl (by simp [-List.getD_eq_getElem?_getD, stepZ, h]) (by omega) (by decide) _ _
theorem run4 (l : List Int) (k : Nat) (hk : k ≤ l.length) (e : Nat) (f : Int) : run l 4 e f k = if digAt l k then afterE l (digs l k) 2 else (e, k, f) := by
  by_cases hl : k < l.length
  · cases h : digAt l k
    · rw [run_bad hl]
      · rfl
      · rw [digAt_of hl] at h; simp [-List.getD_eq_getElem?_getD, stepZ, h]
    · rw [if_pos rfl, digs_yes h, ← run5 l (k + 1) (by omega)]
      rw [digAt_of hl] at h
      exact run_take (s' := 5) hl (by simp [-List.getD_eq_getElem?_getD, stepZ, h]) (by omega) (by decide) _ _
  · rw [run_end hl, digAt_not hl, show k = l.length by omega]; rfl
def tailZ (l : List Int) (d : Nat) : Nat × Nat × Int := if isAt l d 46 then (if digAt l (d + 1) then afterE l (digs l (d + 1)) 2 else (d, d + 1, 1)) else afterE l d 1
theorem run_tail (l : List Int) (k : Nat) (hk : k ≤ l.length) (st : Int) (hst : st = 2 ∨ (st = 3 ∧ digAt l k = false)) : run l st k 1 k = tailZ l k := by
  unfold tailZ
  by_cases hl : k < l.length
  · have hnd : ¬ (digB (l.getD k 0) = true ∧ st = 3) := by
      rcases hst with rfl | ⟨rfl, h⟩
      · omega
      · rw [digAt_of hl] at h; simp only [h]; simp
    have hstep : stepZ st (l.getD k 0) = if l.getD k 0 = 46 then 4 else if l.getD k 0 = 101 ∨ l.getD k 0 = 69 then 6 else -1 := by
      unfold stepZ
      rw [if_neg (by omega), if_pos (by omega), if_neg hnd]
    cases h : isAt l k 46
    · rw [isAt_of hl] at h
      have h46 : ¬ l.getD k 0 = 46 := by simpa [-List.getD_eq_getElem?_getD] using h
      rw [if_neg h46] at hstep
      unfold afterE
      cases he : isE l k
      · have h2 := fun h => (by simp [he] : ¬ isE l k = true) ((isE_of hl).2 h)
        rw [if_neg h2] at hstep
        rw [run_bad hl (by omega)]
        rfl
      · have h2 := (isE_of hl).1 he
        rw [if_pos h2] at hstep
        rw [if_neg (by simp), if_pos rfl, ← run6 l (k + 1) (by omega)]
        exact run_go (s' := 6) hl hstep (by omega) (by decide) _ _
    · rw [isAt_of hl] at h
      have h46 : l.getD k 0 = 46 := by simpa [-List.getD_eq_getElem?_getD] using h
      rw [if_pos h46] at hstep
      rw [if_pos rfl, ← run4 l (k + 1) (by omega)]
      exact run_go (s' := 4) hl hstep (by omega) (by decide) _ _
  · rw [run_end hl, isAt_not hl]
    have e : afterE l k 1 = (k, k, 1) := by unfold afterE; rw [isE_not hl]; rfl
    rw [e, show k = l.length by omega]; rfl
theorem run3 (l : List Int) (k : Nat) (hk : k ≤ l.length) : run l 3 k 1 k = tailZ l (digs l k) := by
  generalize hm : l.length - k = m
  induction m generalizing k with
  | zero =>
    have hd : digAt l k = false := digAt_not (by omega)
    rw [digs_no hd]
    exact run_tail l k hk 3 (.inr ⟨rfl, hd⟩)
  | succ m ih =>
    have hl : k < l.length := by omega
    cases h : digAt l k
    · rw [digs_no h]
      exact run_tail l k hk 3 (.inr ⟨rfl, h⟩)
    · rw [digs_yes h, ← ih (k + 1) (by omega) (by omega)]
      rw [digAt_of hl] at h
      exact run_take (s' := 3) hl (by simp [-List.getD_eq_getElem?_getD, stepZ, h]) (by omega) (by decide) _ _
def wholeZ (l : List Int) (p k : Nat) : Nat × Nat × Int := if isAt l k 48 then tailZ l (k + 1) else if digAt l k then tailZ l (digs l k) else (p, k, 0)
theorem run_whole (l : List Int) (k : Nat) (hk : k ≤ l.length) (st : Int) (hst : st = 1 ∨ (st = 0 ∧ isAt l k 45 = false)) (p : Nat) : run l st p 0 k = wholeZ l p k := by
  unfold wholeZ
  by_cases hl : k < l.length
  · have hstep : stepZ st (l.getD k 0) = if l.getD k 0 = 48 then 2 else if digB (l.getD k 0) then 3 else -1 := by
      unfold stepZ
      rw [if_pos (by omega), if_neg]
      rintro ⟨h1, h2⟩
      rcases hst with rfl | ⟨rfl, h⟩
      · omega
      · rw [isAt_of hl] at h; simp [-List.getD_eq_getElem?_getD] at h; exact h h1
    cases h : isAt l k 48
    · rw [isAt_of hl] at h
      rw [if_neg (by simpa [-List.getD_eq_getElem?_getD] using h)] at hstep
      cases hd : digAt l k
      · rw [digAt_of hl] at hd
        rw [hd, if_neg (by simp)] at hstep
        rw [run_bad hl (by omega)]; rfl
      · rw [if_neg (by simp), if_pos rfl, digs_yes hd, ← run3 l (k + 1) (by omega)]
        rw [digAt_of hl] at hd
        rw [hd, if_pos rfl] at hstep
        exact run_take (s' := 3) hl hstep (by omega) (by decide) _ _
    · rw [isAt_of hl] at h
      rw [if_pos (by simpa [-List.getD_eq_getElem?_getD] using h)] at hstep
      rw [if_pos rfl, ← run_tail l (k + 1) (by omega) 2 (.inl rfl)]
      exact run_take (s' := 2) hl hstep (by omega) (by decide) _ _
  · rw [run_end hl, isAt_not hl, digAt_not hl, show k = l.length by omega]; rfl
theorem run0 (l : List Int) (p : Nat) (hp : p ≤ l.length) : run l 0 p 0 p = wholeZ l p (pfxFirst l p) := by
  unfold pfxFirst
  cases h : isAt l p 45
  · exact run_whole l p hp 0 (.inr ⟨rfl, h⟩) p
  · have hl := isAt_lt h
    rw [if_pos rfl, ← run_whole l (p + 1) (by omega) 1 (.inl rfl) p]
    rw [isAt_of hl] at h
    exact run_go (s' := 1) hl (by simp [-List.getD_eq_getElem?_getD] at h; simp [-List.getD_eq_getElem?_getD, stepZ, h]) (by omega) (by decide) _ _

theorem bPart_of (l : List Int) (p first : Nat) (h : p < first) : bPart l p first = if digAt l first then (digs l first, digs l first) else (p, first) := by
  unfold bPart
  rw [if_neg (by omega)]
  cases hd : digAt l first
  · rw [digs_no hd]; simp
  · have := digs_pos hd
    rw [if_neg (by omega)]; rfl
theorem bMark_e (l : List Int) (d : Nat) : bMark l d = if isE l d then (if isAt l (d + 1) 43 = true ∨ isAt l (d + 1) 45 = true then d + 2 else d + 1) else d := by
  unfold bMark isE
  cases h1 : isAt l d 101 <;> cases h2 : isAt l d 69 <;> simp
/-- The part of an exponent. -/
theorem part_mark (l : List Int) (d : Nat) (f : Int) : afterE l d f = ((bPart l d (bMark l d)).1, (bPart l d (bMark l d)).2, if (bPart l d (bMark l d)).1 > d then 2 else f) := by
  rw [bMark_e]
  unfold afterE after6
  cases he : isE l d
  · simp [bPart]
  · simp only [if_true]
    cases hd : digAt l (d + 1)
    · by_cases hs : isAt l (d + 1) 43 = true ∨ isAt l (d + 1) 45 = true
      · rw [if_pos hs, if_pos hs, bPart_of l d (d + 2) (by omega)]
        cases hd2 : digAt l (d + 2)
        · simp
        · have := digs_pos hd2
          simp [show d < digs l (d + 2) by omega]
      · rw [if_neg hs, if_neg hs, bPart_of l d (d + 1) (by omega), hd]
        simp
    · have hns : ¬ (isAt l (d + 1) 43 = true ∨ isAt l (d + 1) 45 = true) := by
        have hl := digAt_lt hd
        rw [digAt_of hl] at hd
        rw [isAt_of hl, isAt_of hl]
        have := digB_not hd
        simp only [beq_iff_eq]
        omega
      have := digs_pos hd
      rw [if_neg hns, if_neg hns, bPart_of l d (d + 1) (by omega), hd]
      simp [show d < digs l (d + 1) by omega]
theorem part_tail (l : List Int) (e : Nat) : tailZ l e = ((pfxR l e).1, (pfxR l e).2, if (pfxR l e).1 > e then 2 else 1) := by
  unfold tailZ pfxR bPoint
  cases h : isAt l e 46
  · have e1 : bPart l e e = (e, e) := by simp [bPart]
    simp only [e1, if_true, if_false, Bool.false_eq_true]
    exact part_mark l e 1
  · simp only [if_true]
    rw [bPart_of l e (e + 1) (by omega)]
    cases hd : digAt l (e + 1)
    · simp
    · have := digs_pos hd
      simp only [if_true]
      rw [part_mark]
      have h2 : digs l (e + 1) ≤ (bPart l (digs l (e + 1)) (bMark l (digs l (e + 1)))).1 := by
        unfold bPart
        repeat' split
        · exact Nat.le_refl _
        · exact Nat.le_refl _
        · rename_i h3 h4
          have h5 := (digs_le l (bMark l (digs l (e + 1)))).1
          have : digs l (e + 1) ≤ bMark l (digs l (e + 1)) := by
            unfold bMark
            repeat' split
            all_goals omega
          simp only
          omega
      have h3 : (bPart l (digs l (e + 1)) (bMark l (digs l (e + 1)))).1 > e := by omega
      rw [if_pos h3]
      split <;> rfl
theorem pfx_run (l : List Int) (p : Nat) (hp : p ≤ l.length) : run l 0 p 0 p = pfx l p := by
  rw [run0 l p hp]
  unfold wholeZ pfx bWhole
  cases h : isAt l (pfxFirst l p) 48
  · simp only [Bool.false_eq_true, if_false]
    cases hd : digAt l (pfxFirst l p)
    · rw [digs_no hd]; simp
    · have := digs_pos hd
      rw [if_neg (by omega : ¬ digs l (pfxFirst l p) = pfxFirst l p), part_tail]; rfl
  · simp only [if_true]
    rw [if_neg (by omega), part_tail]
theorem first_le {l : List Int} {p : Nat} (h : p ≤ l.length) : pfxFirst l p ≤ l.length := by
  unfold pfxFirst
  split
  · rename_i e; exact isAt_lt e
  · exact h
theorem whole_le {l : List Int} {p : Nat} (h : p ≤ l.length) : bWhole l p ≤ l.length := by
  unfold bWhole
  split
  · rename_i e; exact isAt_lt e
  · exact (digs_le l p).2 h
theorem point_le {l : List Int} {p : Nat} (h : p ≤ l.length) : bPoint l p ≤ l.length := by
  unfold bPoint
  split
  · rename_i e; exact isAt_lt e
  · exact h
theorem mark_le {l : List Int} {p : Nat} (h : p ≤ l.length) : bMark l p ≤ l.length := by
  unfold bMark
  split
  · exact h
  · rename_i e
    split
    · rename_i e2
      rcases e2 with e2 | e2
      · exact isAt_lt e2
      · exact isAt_lt e2
    · cases h1 : isAt l p 101
      · cases h2 : isAt l p 69
        · exact absurd ⟨h1, h2⟩ e
        · exact isAt_lt h2
      · exact isAt_lt h1
theorem part_le {l : List Int} {p f : Nat} (h : p ≤ l.length) (hf : f ≤ l.length) : (bPart l p f).1 ≤ l.length ∧ (bPart l p f).2 ≤ l.length := by
  unfold bPart
  have := (digs_le l f).2 hf
  repeat' split
  all_goals exact ⟨by simp only; omega, by simp only; omega⟩
theorem pfx_le (l : List Int) (p : Nat) (hp : p ≤ l.length) : (pfx l p).1 ≤ l.length ∧ (pfx l p).2.1 ≤ l.length := by
  rw [← pfx_run l p hp]
  unfold run
  generalize hm : l.length - p = m
  have : ∀ (m : Nat) (st : Int) (e : Nat) (f : Int) (k : Nat), e ≤ l.length → k + m ≤ l.length → (runF l m st e f k).1 ≤ l.length ∧ (runF l m st e f k).2.1 ≤ l.length := by
    intro m
    induction m with
    | zero => intro st e f k he hk; exact ⟨he, Nat.le_refl _⟩
    | succ m ih =>
      intro st e f k he hk
      simp only [runF]
      repeat' split
      · exact ⟨he, by simp only; omega⟩
      · exact ih _ _ _ _ (by omega) (by omega)
      · exact ih _ _ _ _ he (by omega)
  exact this m 0 p 0 p hp (by omega)
end Go.Proofs.YtjfdjpaocdhbbaaGreatDoor.mem
namespace Go.Proofs.YtjfdjpaocdhbbaaGreatDoor.mem
set_option linter.unusedVariables false

/-- digits alone -/
def Dg (l : List Int) : Prop := ∀ z ∈ l, 48 ≤ z ∧ z ≤ 57
theorem Dg.nil : Dg [] := fun _ h => by simp at h
theorem Dg.app {a b : List Int} (ha : Dg a) (hb : Dg b) : Dg (a ++ b) := fun z h => by
  rcases List.mem_append.1 h with h | h
  · exact ha z h
  · exact hb z h
theorem Dg.left {a b : List Int} (h : Dg (a ++ b)) : Dg a := fun z hz => h z (List.mem_append_left _ hz)
theorem Dg.right {a b : List Int} (h : Dg (a ++ b)) : Dg b := fun z hz => h z (List.mem_append_right _ hz)
theorem Dg.tail {a : Int} {b : List Int} (h : Dg (a :: b)) : Dg b := fun z hz => h z (List.mem_cons_of_mem _ hz)
theorem Dg.head {a : Int} {b : List Int} (h : Dg (a :: b)) : digB a = true := by
  have := h a (by simp)
  simp [digB, this.1, this.2]
/-- digits as a number -/
def dv (l : List Int) : Nat := l.foldl (fun v z => v * 10 + (z - 48).toNat) 0
theorem dv_from (l : List Int) : ∀ v : Nat, l.foldl (fun v z => v * 10 + (z - 48).toNat) v = v * 10 ^ l.length + dv l := by
  induction l with
  | nil => intro v; simp [dv]
  | cons a l ih =>
    intro v
    show l.foldl _ (v * 10 + (a - 48).toNat) = _
    have e : dv (a :: l) = l.foldl (fun v z => v * 10 + (z - 48).toNat) (0 * 10 + (a - 48).toNat) := rfl
    rw [ih, e, ih, List.length_cons, Nat.pow_succ, Nat.zero_mul, Nat.zero_add, Nat.add_mul, Nat.mul_assoc v 10, Nat.mul_comm 10 (10 ^ _)]
    omega
theorem dv_app (a b : List Int) : dv (a ++ b) = dv a * 10 ^ b.length + dv b := by
  have e : dv (a ++ b) = b.foldl (fun v z => v * 10 + (z - 48).toNat) (dv a) := List.foldl_append
  rw [e, dv_from]
theorem dv_cons (a : Int) (b : List Int) : dv (a :: b) = (a - 48).toNat * 10 ^ b.length + dv b := by
  have := dv_app [a] b
  rw [List.singleton_append] at this
  rw [this]
  simp [dv]
theorem dv_zeros (n : Nat) : dv (List.replicate n 48) = 0 := by
  induction n with
  | zero => rfl
  | succ n ih => rw [List.replicate_succ, dv_cons, ih]; simp
theorem dv_lt (l : List Int) (h : Dg l) : dv l < 10 ^ l.length := by
  induction l with
  | nil => decide
  | cons a l ih =>
    have h1 := ih h.tail
    have h2 := h a (by simp)
    rw [dv_cons, List.length_cons, Nat.pow_succ]
    have : (a - 48).toNat * 10 ^ l.length ≤ 9 * 10 ^ l.length := Nat.mul_le_mul_right _ (by omega)
    omega
/-- without the noughts in front -/
def trm (l : List Int) : List Int := l.dropWhile (fun z => z == 48)
theorem dv_trm (l : List Int) : dv (trm l) = dv l := by
  induction l with
  | nil => rfl
  | cons a l ih =>
    unfold trm at *
    rw [List.dropWhile_cons]
    by_cases h : a = 48
    · subst h
      rw [if_pos (by decide), ih, dv_cons]
      simp
    · rw [if_neg (by simpa using h)]
theorem trm_dg {l : List Int} (h : Dg l) : Dg (trm l) := fun z hz => h z ((List.dropWhile_suffix _).subset hz)
theorem trm_len (l : List Int) : (trm l).length ≤ l.length := (List.dropWhile_suffix _).length_le
theorem trm_head (l : List Int) : ∀ z r, trm l = z :: r → z ≠ 48 := by
  intro z r h e
  unfold trm at h
  have := List.head?_dropWhile_not (fun z : Int => z == 48) l
  rw [h] at this
  simp [e] at this
/-- the parts of a number's text -/
def sgL (ng : Bool) : List Int := if ng then [45] else []
def frL (F : List Int) : List Int := if F = [] then [] else 46 :: F
def exL : Option (Bool × List Int) → List Int
  | none => []
  | some (g, X) => 101 :: (sgL g ++ X)
def exV : Option (Bool × List Int) → Int
  | none => 0
  | some (g, X) => if g then -(dv X : Int) else (dv X : Int)
def exO : Option (Bool × List Int) → Prop
  | none => True
  | some (_, X) => Dg X ∧ X ≠ []
theorem digs_app : ∀ (D P R : List Int), Dg D → (∀ z r, R = z :: r → digB z = false) → digs (P ++ (D ++ R)) P.length = P.length + D.length := by
  intro D
  induction D with
  | nil =>
    intro P R _ hR
    rw [List.nil_append]
    refine digs_no ?_
    cases R with
    | nil => exact digAt_not (by simp)
    | cons z r => rw [digAt_of (by simp)]; simpa using hR z r rfl
  | cons d D ih =>
    intro P R hD hR
    have h1 : digAt (P ++ (d :: D ++ R)) P.length = true := by
      rw [digAt_of (by simp)]; simpa using hD.head
    have h2 := ih (P ++ [d]) R hD.tail hR
    rw [digs_yes h1]
    rw [List.append_assoc, List.length_append] at h2
    rw [show P ++ (d :: D ++ R) = P ++ ([d] ++ (D ++ R)) by simp]
    rw [show P.length + 1 = P.length + [d].length from rfl, h2]
    simp; omega
theorem isAt_here (P : List Int) (z : Int) (R : List Int) (c : Int) : isAt (P ++ z :: R) P.length c = (z == c) := by
  rw [isAt_of (by simp)]; simp
theorem isAt_end (P : List Int) (c : Int) : isAt P P.length c = false := isAt_not (by omega) c
theorem not_dig {z : Int} (h : z = 46 ∨ z = 101 ∨ z = 45 ∨ z = 43 ∨ z = 69) : digB z = false := by
  rcases h with rfl | rfl | rfl | rfl | rfl <;> decide
/-- a number's text is read to its end -/
theorem pfx_text (ng : Bool) (A F : List Int) (E : Option (Bool × List Int)) (hA : Dg A) (hA0 : A ≠ []) (hA1 : ∀ r, A = 48 :: r → r = []) (hF : Dg F) (hE : exO E) :
    pfx (sgL ng ++ (A ++ (frL F ++ exL E))) 0 = ((sgL ng ++ (A ++ (frL F ++ exL E))).length, (sgL ng ++ (A ++ (frL F ++ exL E))).length, if F = [] ∧ E = none then 1 else 2) := by
  obtain ⟨l, hl⟩ : ∃ l, l = sgL ng ++ (A ++ (frL F ++ exL E)) := ⟨_, rfl⟩
  obtain ⟨a, A', rfl⟩ : ∃ a A', A = a :: A' := by
    cases A with
    | nil => exact absurd rfl hA0
    | cons a A' => exact ⟨a, A', rfl⟩
  have ha := hA.head
  have ha2 := digB_not ha
  -- what follows the digits is no digit
  have hx : ∀ z r, exL E = z :: r → z = 101 := by
    intro z r h
    cases E with
    | none => simp [exL] at h
    | some q => obtain ⟨g, X⟩ := q; simp [exL] at h; exact h.1.symm
  have hfx : ∀ z r, frL F ++ exL E = z :: r → digB z = false := by
    intro z r h
    unfold frL at h
    by_cases h0 : F = []
    · rw [if_pos h0, List.nil_append] at h
      exact not_dig (Or.inr (Or.inl (hx z r h)))
    · rw [if_neg h0] at h
      simp at h
      exact not_dig (Or.inl h.1.symm)
  have f1 : pfxFirst l 0 = (sgL ng).length := by
    unfold pfxFirst
    cases ng
    · have : isAt l 0 45 = false := by
        have := isAt_here [] a (A' ++ (frL F ++ exL E)) 45
        rw [hl]
        simp only [sgL, List.nil_append, List.length_nil, List.cons_append, Bool.false_eq_true, if_false] at this ⊢
        rw [this]; simp; exact ha2.1
      rw [this]; rfl
    · have : isAt l 0 45 = true := by
        have := isAt_here [] 45 (a :: A' ++ (frL F ++ exL E)) 45
        rw [hl]
        simpa [sgL] using this
      rw [this]; rfl
  have f2 : bWhole l (sgL ng).length = (sgL ng).length + (a :: A').length := by
    unfold bWhole
    have h1 := isAt_here (sgL ng) a (A' ++ (frL F ++ exL E)) 48
    have h2 := digs_app (a :: A') (sgL ng) (frL F ++ exL E) hA hfx
    rw [hl]
    rw [h2]
    rw [List.cons_append, h1]
    by_cases h48 : a = 48
    · subst h48
      rw [hA1 A' rfl]
      simp
    · simp [h48]
  obtain ⟨e, he⟩ : ∃ e, e = (sgL ng).length + (a :: A').length := ⟨_, rfl⟩
  obtain ⟨Q, hQ⟩ : ∃ Q, Q = sgL ng ++ a :: A' := ⟨_, rfl⟩
  have hQl : Q.length = e := by rw [hQ, he, List.length_append]
  have hlQ : l = Q ++ (frL F ++ exL E) := by rw [hl, hQ, List.append_assoc]
  obtain ⟨e', he'⟩ : ∃ e', e' = e + (frL F).length := ⟨_, rfl⟩
  have f3 : bPart l e (bPoint l e) = (e', e') := by
    unfold bPart bPoint
    by_cases h0 : F = []
    · have hi : isAt l e 46 = false := by
        rw [hlQ, ← hQl, h0]
        cases hE' : exL E with
        | nil => simp only [frL, if_true, List.append_nil]; exact isAt_end Q 46
        | cons z r => simp only [frL, if_true, List.nil_append]; rw [isAt_here, hx z r hE']; decide
      have : (frL F).length = 0 := by simp [frL, h0]
      simp [hi, he', this]
    · have hi : isAt l e 46 = true := by
        rw [hlQ, ← hQl]
        simp only [frL, if_neg h0, List.cons_append]
        rw [isAt_here]; rfl
      have hd : digs l (e + 1) = e' := by
        have := digs_app F (Q ++ [46]) (exL E) hF (fun z r h => not_dig (Or.inr (Or.inl (hx z r h))))
        rw [List.length_append, hQl] at this
        rw [hlQ, he']
        simp only [frL, if_neg h0, List.cons_append, List.length_cons]
        rw [show Q ++ 46 :: (F ++ exL E) = Q ++ [46] ++ (F ++ exL E) by simp]
        rw [show e + 1 = e + [(46 : Int)].length from rfl, this]
        simp; omega
      have hFl : 0 < F.length := List.length_pos_iff.2 h0
      have : (frL F).length = F.length + 1 := by simp [frL, h0]
      rw [hi, if_pos rfl, if_neg (by omega), hd, if_neg (by omega)]
  obtain ⟨Q', hQ'⟩ : ∃ Q', Q' = Q ++ frL F := ⟨_, rfl⟩
  have hQl' : Q'.length = e' := by rw [hQ', List.length_append, hQl, he']
  have hlQ' : l = Q' ++ exL E := by rw [hlQ, hQ', List.append_assoc]
  have f4 : bPart l e' (bMark l e') = (l.length, l.length) := by
    cases E with
    | none =>
      have hle : l = Q' := by rw [hlQ']; simp [exL]
      have h1 : ∀ c, isAt l e' c = false := fun c => by rw [hle, ← hQl']; exact isAt_end Q' c
      have hll : l.length = e' := by rw [hle, hQl']
      unfold bPart bMark
      rw [h1, h1, hll]
      simp
    | some q =>
      obtain ⟨g, X⟩ := q
      obtain ⟨hX, hX0⟩ := hE
      have hXl : 0 < X.length := List.length_pos_iff.2 hX0
      have h1 : isAt l e' 101 = true := by
        rw [hlQ', ← hQl']
        simp only [exL]
        rw [isAt_here]; rfl
      have hm0 : bMark l e' = if isAt l (e' + 1) 43 = true ∨ isAt l (e' + 1) 45 = true then e' + 2 else e' + 1 := by
        unfold bMark
        rw [if_neg (by rw [h1]; simp)]
      cases g
      · obtain ⟨x, X', rfl⟩ : ∃ x X', X = x :: X' := by
          cases X with
          | nil => exact absurd rfl hX0
          | cons x X' => exact ⟨x, X', rfl⟩
        have hx2 := digB_not hX.head
        have h2 : ∀ c, isAt l (e' + 1) c = (x == c) := fun c => by
          have := isAt_here (Q' ++ [101]) x X' c
          rw [List.length_append, hQl'] at this
          rw [hlQ']
          simp only [exL, sgL, List.nil_append, Bool.false_eq_true, if_false]
          rw [show Q' ++ 101 :: x :: X' = Q' ++ [101] ++ x :: X' by simp]
          exact this
        have hd : digs l (e' + 1) = l.length := by
          have := digs_app (x :: X') (Q' ++ [101]) [] hX (fun z r h => by simp at h)
          rw [List.length_append, hQl'] at this
          rw [hlQ']
          simp only [exL, sgL, List.nil_append, Bool.false_eq_true, if_false]
          rw [show Q' ++ 101 :: x :: X' = Q' ++ [101] ++ (x :: X' ++ []) by simp]
          rw [show e' + 1 = e' + [(101 : Int)].length from rfl, this]
          simp; omega
        rw [hm0, if_neg (by rw [h2, h2]; simp; exact ⟨hx2.2.1, hx2.1⟩)]
        unfold bPart
        rw [if_neg (by omega), hd, if_neg]
        rw [hlQ']
        simp [exL, sgL]; omega
      · have h2 : isAt l (e' + 1) 45 = true := by
          have := isAt_here (Q' ++ [101]) 45 X 45
          rw [List.length_append, hQl'] at this
          rw [hlQ']
          simp only [exL, sgL, if_true, List.singleton_append]
          rw [show Q' ++ 101 :: 45 :: X = Q' ++ [101] ++ 45 :: X by simp]
          exact this
        have hd : digs l (e' + 2) = l.length := by
          have := digs_app X (Q' ++ [101, 45]) [] hX (fun z r h => by simp at h)
          rw [List.length_append, hQl'] at this
          rw [hlQ']
          simp only [exL, sgL, if_true, List.singleton_append]
          rw [show Q' ++ 101 :: 45 :: X = Q' ++ [101, 45] ++ (X ++ []) by simp]
          rw [show e' + 2 = e' + [(101 : Int), 45].length from rfl, this]
          simp; omega
        rw [hm0, if_pos (Or.inr h2)]
        unfold bPart
        rw [if_neg (by omega), hd, if_neg]
        rw [hlQ']
        simp [exL, sgL]; omega
  rw [← hl]
  unfold pfx
  rw [f1, f2, if_neg (by simp), ← he]
  have f5 : pfxR l e = (l.length, l.length) := by
    unfold pfxR
    rw [f3, if_pos rfl, f4]
  rw [f5]
  refine congrArg (fun q => (l.length, l.length, q)) ?_
  have hlen : l.length = e' + (exL E).length := by rw [hlQ', List.length_append, hQl']
  show (if l.length > e then (2 : Int) else 1) = _
  by_cases h0 : F = [] ∧ E = none
  · rw [if_pos h0, if_neg]
    rw [hlen, he', h0.1, h0.2]
    simp [frL, exL]
  · rw [if_neg h0, if_pos]
    rw [hlen, he']
    by_cases h1 : F = []
    · cases E with
      | none => exact absurd ⟨h1, rfl⟩ h0
      | some q => simp [exL]; omega
    · simp [frL, h1]; omega
end Go.Proofs.YtjfdjpaocdhbbaaGreatDoor.mem
namespace Go.Proofs.YtjfdjpaocdhbbaaGreatDoor.fto
open Go.ChangeShapes Go.WideShapes Go.ChangeAt Go.RowKit
open mem Go.Sort
open ints (hide unhide)
set_option linter.unusedVariables false
/-- the digits of a number, as codes -/
def dz (u : Nat) : List Int := (Lib.decDigits u).map fun b => (b.toNat : Int)
theorem dz_small {u : Nat} (h : u < 10) : dz u = [((48 + u : Nat) : Int)] := by
  unfold dz
  rw [Lib.decDigits, dif_pos h]
  simp only [List.map_cons, List.map_nil]
  rw [UInt8.toNat_ofNat_of_lt' (by show _ < 256; omega)]
theorem dz_big {u : Nat} (h : ¬ u < 10) : dz u = dz (u / 10) ++ [((48 + u % 10 : Nat) : Int)] := by
  unfold dz
  conv => lhs; rw [Lib.decDigits, dif_neg h]
  simp only [List.map_append, List.map_cons, List.map_nil]
  rw [UInt8.toNat_ofNat_of_lt' (by show _ < 256; omega)]
theorem dz_dg : ∀ u, Dg (dz u) := by
  intro u
  induction u using Nat.strongRecOn with
  | ind u ih =>
    by_cases h : u < 10
    · rw [dz_small h]
      intro z hz
      simp at hz
      omega
    · rw [dz_big h]
      refine (ih (u / 10) (by omega)).app ?_
      intro z hz
      simp at hz
      omega
theorem dz_val : ∀ u, dv (dz u) = u := by
  intro u
  induction u using Nat.strongRecOn with
  | ind u ih =>
    by_cases h : u < 10
    · rw [dz_small h, dv_cons]
      simp [dv]
      omega
    · rw [dz_big h, dv_app, ih (u / 10) (by omega), dv_cons]
      simp [dv]
      omega
theorem dz_ne (u : Nat) : dz u ≠ [] := by
  by_cases h : u < 10
  · rw [dz_small h]; simp
  · rw [dz_big h]; simp
theorem dz_len (u : Nat) (h : u < 10000) : (dz u).length ≤ 4 := by
  by_cases h1 : u < 10
  · rw [dz_small h1]; simp
  rw [dz_big h1]
  by_cases h2 : u / 10 < 10
  · rw [dz_small h2]; simp
  rw [dz_big h2]
  by_cases h3 : u / 10 / 10 < 10
  · rw [dz_small h3]; simp
  rw [dz_big h3, dz_small (show u / 10 / 10 / 10 < 10 by omega)]; simp
theorem dz_first : ∀ (u : Nat) (r : List Int), dz u = 48 :: r → u = 0 ∧ r = [] := by
  intro u
  induction u using Nat.strongRecOn with
  | ind u ih =>
    intro r h
    by_cases h1 : u < 10
    · rw [dz_small h1] at h
      simp at h
      exact ⟨by omega, h.2⟩
    · rw [dz_big h1] at h
      cases hz : dz (u / 10) with
      | nil => exact absurd hz (dz_ne _)
      | cons a l =>
        rw [hz, List.cons_append] at h
        have ha : a = 48 := by simp at h; exact h.1
        rw [ha] at hz
        have := (ih (u / 10) (by omega) l hz).1
        omega
/-- a whole number's text, as codes -/
def itZ (x : Int) : List Int := sgL (decide (x < 0)) ++ dz x.natAbs
theorem u8_dz (u : Nat) : u8s (dz u) = Lib.decDigits u := by
  unfold u8s dz
  rw [List.map_map]
  conv => rhs; rw [← List.map_id (Lib.decDigits u)]
  apply List.map_congr_left
  intro b _
  simp
theorem itB_itZ (x : Int) : itB x = strOfNums (itZ x) := by
  unfold itB itZ
  rw [str_u8s, u8s_app, u8_dz]
  unfold Lib.itoa
  by_cases h : x < 0
  · rw [if_pos h, decide_eq_true h]
    rfl
  · rw [if_neg h, decide_eq_false h, show x.toNat = x.natAbs by omega]
    rfl
def Bt (l : List Int) : Prop := ∀ z ∈ l, 0 ≤ z ∧ z ≤ 255
theorem Bt.app {a b : List Int} (ha : Bt a) (hb : Bt b) : Bt (a ++ b) := fun z h => by
  rcases List.mem_append.1 h with h | h
  · exact ha z h
  · exact hb z h
theorem Bt.cons {a : Int} {b : List Int} (ha : 0 ≤ a ∧ a ≤ 255) (hb : Bt b) : Bt (a :: b) := fun z h => by
  rcases List.mem_cons.1 h with h | h
  · exact h ▸ ha
  · exact hb z h
theorem Bt.nil : Bt [] := fun _ h => by simp at h
theorem _root_.Go.Proofs.YtjfdjpaocdhbbaaGreatDoor.mem.Dg.bt {l : List Int} (h : Dg l) : Bt l := fun z hz => by have := h z hz; omega
theorem sg_bt (ng : Bool) : Bt (sgL ng) := by cases ng <;> simp [sgL, Bt]
theorem itZ_bt (x : Int) : Bt (itZ x) := (sg_bt _).app (dz_dg _).bt
theorem bz_str (zs : List Int) (h : Bt zs) (k : Nat) : bz (strOfNums zs) k = zs.getD k 0 := by
  unfold bz
  have e : (strOfNums zs).data.toList.map (fun b => (b.toNat : Int)) = zs := by
    show (List.map _ (zs.map fun n => UInt8.ofNat n.toNat).toArray.toList) = zs
    rw [List.toList_toArray, List.map_map]
    conv => rhs; rw [← List.map_id zs]
    apply List.map_congr_left
    intro z hz
    have := h z hz
    simp
    omega
  rw [e]
theorem str_size (zs : List Int) : (strOfNums zs).size = zs.length := by
  show (zs.map fun n => UInt8.ofNat n.toNat).toArray.size = _
  simp
/-- the text that number.nearest hands on -/
def ntZ (ng : Bool) (D : List Int) (x : Int) : List Int := sgL ng ++ 48 :: 46 :: (D ++ 101 :: itZ x)
theorem ntZ_bt (ng : Bool) (D : List Int) (x : Int) (hD : Dg D) : Bt (ntZ ng D x) :=
  (sg_bt ng).app (.cons (by omega) (.cons (by omega) (hD.bt.app (.cons (by omega) (itZ_bt x)))))
theorem getD_app (P R : List Int) (j : Nat) : (P ++ R).getD (P.length + j) 0 = R.getD j 0 := by
  rw [List.getD_eq_getElem?_getD, List.getD_eq_getElem?_getD, List.getElem?_append_right (by omega), Nat.add_sub_cancel_left]
theorem dg_getD {l : List Int} (h : Dg l) {j : Nat} (hj : j < l.length) : 48 ≤ l.getD j 0 ∧ l.getD j 0 ≤ 57 := by
  refine h _ ?_
  rw [List.getD_eq_getElem?_getD, List.getElem?_eq_getElem hj]
  exact List.getElem_mem hj
theorem getD_left (P R : List Int) {j : Nat} (h : j < P.length) : (P ++ R).getD j 0 = P.getD j 0 := by
  simp [List.getD, List.getElem?_append_left h]
/-- digits in a text, as a number -/
theorem mvs_dv (zs : List Int) (hz : Bt zs) (P D R : List Int) (e : zs = P ++ (D ++ R)) : ∀ j, j ≤ D.length → mvs (strOfNums zs) P.length j = dv (D.take j) := by
  intro j
  induction j with
  | zero => intro _; simp [mvs, dv]
  | succ j ih =>
    intro hj
    rw [mvs, ih (by omega), bz_str zs hz, e, getD_app, getD_left _ _ (by omega)]
    have et : D.take (j + 1) = D.take j ++ [D.getD j 0] := by
      rw [List.getD_eq_getElem?_getD, List.getElem?_eq_getElem (show j < D.length by omega), Option.getD_some, List.take_succ_eq_append_getElem (by omega)]
    rw [et, dv_app, dv_cons]
    simp [dv]
theorem trs_of (zs : List Int) (hz : Bt zs) (P D R : List Int) (e : zs = P ++ (D ++ R)) (h0 : ∀ z ∈ D.drop 19, z = 48) : ∀ j, j ≤ D.length → trs (strOfNums zs) P.length j = false := by
  intro j
  induction j with
  | zero => intro _; rfl
  | succ j ih =>
    intro hj
    rw [trs, ih (by omega), Bool.false_or]
    by_cases h : 19 ≤ j
    · have : D.getD j 0 = 48 := by
        refine h0 _ ?_
        rw [List.getD_eq_getElem?_getD, List.getElem?_eq_getElem (show j < D.length by omega), Option.getD_some]
        rw [List.mem_iff_getElem]
        exact ⟨j - 19, by rw [List.length_drop]; omega, by rw [List.getElem_drop]; congr 1; omega⟩
      rw [bz_str zs hz, e, getD_app, getD_left _ _ (by omega), this]
      simp
    · simp [h]
theorem ntx_of (ng : Bool) (D : List Int) (x : Int) (hD : Dg D) (hl : D.length ≤ 1000000) (h0 : ∀ r, D ≠ 48 :: r) (hx : x.natAbs < 10000) :
    Ntx (strOfNums (ntZ ng D x)) ng.toNat D.length (decide (x < 0)).toNat (dz x.natAbs).length := by
  have hb := ntZ_bt ng D x hD
  have hk : (sgL ng).length = ng.toNat := by cases ng <;> rfl
  have hg : (sgL (decide (x < 0))).length = (decide (x < 0)).toNat := by cases decide (x < 0) <;> rfl
  have hzp : 0 < (dz x.natAbs).length := List.length_pos_iff.2 (dz_ne _)
  obtain ⟨P2, hP2⟩ : ∃ P, P = sgL ng ++ [48, 46] := ⟨_, rfl⟩
  have l2 : P2.length = ng.toNat + 2 := by rw [hP2, List.length_append, hk]; rfl
  have e2 : ntZ ng D x = P2 ++ (D ++ 101 :: itZ x) := by rw [hP2]; simp [ntZ]
  obtain ⟨P3, hP3⟩ : ∃ P, P = P2 ++ D := ⟨_, rfl⟩
  have l3 : P3.length = ng.toNat + 2 + D.length := by rw [hP3, List.length_append, l2]
  have e3 : ntZ ng D x = P3 ++ 101 :: itZ x := by rw [e2, hP3]; simp
  obtain ⟨P4, hP4⟩ : ∃ P, P = P3 ++ [101] := ⟨_, rfl⟩
  have l4 : P4.length = ng.toNat + 3 + D.length := by rw [hP4, List.length_append, l3]; simp; omega
  have e4 : ntZ ng D x = P4 ++ (sgL (decide (x < 0)) ++ dz x.natAbs) := by rw [e3, hP4]; simp [itZ]
  obtain ⟨P5, hP5⟩ : ∃ P, P = P4 ++ sgL (decide (x < 0)) := ⟨_, rfl⟩
  have l5 : P5.length = ng.toNat + 3 + D.length + (decide (x < 0)).toNat := by rw [hP5, List.length_append, l4, hg]
  have e5 : ntZ ng D x = P5 ++ dz x.natAbs := by rw [e4, hP5]; simp
  refine ⟨hl, hzp, dz_len _ hx, Bool.toNat_le _, ?_, ?_, ?_, ?_, ?_, ?_, ?_, ?_, ?_⟩
  · rw [str_size, e5, List.length_append, l5]; omega
  · intro h
    rw [bz_str _ hb]
    cases ng
    · simp at h
    · simp [ntZ, sgL]
  · rw [bz_str _ hb, ← hk]
    have := getD_app (sgL ng) (48 :: 46 :: (D ++ 101 :: itZ x)) 0
    rw [Nat.add_zero] at this
    unfold ntZ
    rw [this]; rfl
  · rw [bz_str _ hb, ← hk]
    have := getD_app (sgL ng) (48 :: 46 :: (D ++ 101 :: itZ x)) 1
    unfold ntZ
    rw [this]; rfl
  · intro j hj
    rw [bz_str _ hb, e2, ← l2, getD_app, getD_left _ _ hj]
    exact dg_getD hD hj
  · intro hm
    rw [bz_str _ hb, e2, ← l2]
    have := getD_app P2 (D ++ 101 :: itZ x) 0
    rw [Nat.add_zero] at this
    rw [this]
    cases D with
    | nil => simp at hm
    | cons a r =>
      intro h
      simp at h
      exact h0 r (by rw [h])
  · rw [bz_str _ hb, e3, ← l3]
    have := getD_app P3 (101 :: itZ x) 0
    rw [Nat.add_zero] at this
    rw [this]; rfl
  · intro h
    rw [bz_str _ hb, e4, ← l4]
    have := getD_app P4 (sgL (decide (x < 0)) ++ dz x.natAbs) 0
    rw [Nat.add_zero] at this
    rw [this]
    cases hd : decide (x < 0)
    · rw [hd] at h; simp at h
    · simp [sgL]
  · intro j hj
    rw [bz_str _ hb, e5, ← l5, getD_app]
    exact dg_getD (dz_dg _) hj
theorem ntx_mant (ng : Bool) (D : List Int) (x : Int) (hD : Dg D) (j : Nat) (hj : j ≤ D.length) : mvs (strOfNums (ntZ ng D x)) (ng.toNat + 2) j = dv (D.take j) := by
  have hk : (sgL ng).length = ng.toNat := by cases ng <;> rfl
  have := mvs_dv (ntZ ng D x) (ntZ_bt ng D x hD) (sgL ng ++ [48, 46]) D (101 :: itZ x) (by simp [ntZ]) j hj
  rw [List.length_append, hk] at this
  exact this
theorem ntx_trs (ng : Bool) (D : List Int) (x : Int) (hD : Dg D) (h0 : ∀ z ∈ D.drop 19, z = 48) : trs (strOfNums (ntZ ng D x)) (ng.toNat + 2) D.length = false := by
  have hk : (sgL ng).length = ng.toNat := by cases ng <;> rfl
  have := trs_of (ntZ ng D x) (ntZ_bt ng D x hD) (sgL ng ++ [48, 46]) D (101 :: itZ x) (by simp [ntZ]) h0 D.length (Nat.le_refl _)
  rw [List.length_append, hk] at this
  exact this
theorem ntx_exp (ng : Bool) (D : List Int) (x : Int) (hD : Dg D) : mvs (strOfNums (ntZ ng D x)) (ng.toNat + 3 + D.length + (decide (x < 0)).toNat) (dz x.natAbs).length = x.natAbs := by
  have hk : (sgL ng).length = ng.toNat := by cases ng <;> rfl
  have hg : (sgL (decide (x < 0))).length = (decide (x < 0)).toNat := by cases decide (x < 0) <;> rfl
  have := mvs_dv (ntZ ng D x) (ntZ_bt ng D x hD) (sgL ng ++ 48 :: 46 :: (D ++ 101 :: sgL (decide (x < 0)))) (dz x.natAbs) [] (by simp [ntZ, itZ]) (dz x.natAbs).length (Nat.le_refl _)
  rw [List.take_length, dz_val] at this
  refine Eq.trans ?_ this
  congr 1
  simp [hk, hg]
  omega
/-- what is read depends on the number alone -/
theorem inR_cross {P B P' B' a : Nat} (hB : 0 < B) (hB' : 0 < B') (e : P * B' = P' * B) (h : InR P B a) : InR P' B' a := by
  have k1 : ∀ M, B * M < 2 * P ↔ B' * M < 2 * P' := fun M => by
    have a1 : B * M < 2 * P ↔ B * M * B' < 2 * P * B' := (Nat.mul_lt_mul_right hB').symm
    have a2 : B' * M < 2 * P' ↔ B' * M * B < 2 * P' * B := (Nat.mul_lt_mul_right hB).symm
    rw [a1, a2, Nat.mul_assoc 2 P, Nat.mul_assoc 2 P', e, Nat.mul_right_comm B' M B, Nat.mul_comm B' B, Nat.mul_right_comm B M B']
  have k2 : ∀ M, B * M = 2 * P ↔ B' * M = 2 * P' := fun M => by
    have a1 : B * M = 2 * P ↔ B * M * B' = 2 * P * B' := (Nat.mul_left_inj (Nat.ne_of_gt hB')).symm
    have a2 : B' * M = 2 * P' ↔ B' * M * B = 2 * P' * B := (Nat.mul_left_inj (Nat.ne_of_gt hB)).symm
    rw [a1, a2, Nat.mul_assoc 2 P, Nat.mul_assoc 2 P', e, Nat.mul_right_comm B' M B, Nat.mul_comm B' B, Nat.mul_right_comm B M B']
  have k3 : ∀ M, 2 * P < B * M ↔ 2 * P' < B' * M := fun M => by
    have a1 : 2 * P < B * M ↔ 2 * P * B' < B * M * B' := (Nat.mul_lt_mul_right hB').symm
    have a2 : 2 * P' < B' * M ↔ 2 * P' * B < B' * M * B := (Nat.mul_lt_mul_right hB).symm
    rw [a1, a2, Nat.mul_assoc 2 P, Nat.mul_assoc 2 P', e, Nat.mul_right_comm B' M B, Nat.mul_comm B' B, Nat.mul_right_comm B M B']
  have k4 : ∀ M, 2 * P = B * M ↔ 2 * P' = B' * M := fun M => by
    rw [eq_comm, k2, eq_comm]
  unfold InR at *
  rw [← k1, ← k2, ← k3, ← k4]
  exact h
theorem pow_cross (q : Int) (j : Nat) : 10 ^ j * 10 ^ q.toNat * 10 ^ (-(q + j)).toNat = 10 ^ (q + j).toNat * 10 ^ (-q).toNat := by
  rw [← Nat.pow_add, ← Nat.pow_add, ← Nat.pow_add]
  congr 1
  omega
theorem rd_scale {d j a : Nat} {q : Int} : Rd (d * 10 ^ j) q a ↔ Rd d (q + j) a := by
  have hB : ∀ z : Int, 0 < 10 ^ (-z).toNat := fun z => Nat.pow_pos (by decide)
  have key : d * 10 ^ j * 10 ^ q.toNat * k74 * 10 ^ (-(q + j)).toNat = d * 10 ^ (q + j).toNat * k74 * 10 ^ (-q).toNat := by
    have := pow_cross q j
    generalize 10 ^ (-(q + (j : Int))).toNat = a1 at *
    generalize 10 ^ (q + (j : Int)).toNat = a2 at *
    generalize 10 ^ (-q).toNat = a3 at *
    generalize 10 ^ q.toNat = a4 at *
    generalize 10 ^ j = a5 at *
    generalize k74 = k at *
    rw [Nat.mul_right_comm _ k a1, Nat.mul_right_comm _ k a3, Nat.mul_assoc d a5 a4, Nat.mul_assoc d (a5 * a4), this, ← Nat.mul_assoc]
  unfold Rd
  constructor
  · exact inR_cross (hB _) (hB _) key
  · exact inR_cross (hB _) (hB _) key.symm
theorem midR_mono {a b : Nat} (h : a ≤ b) : midR a ≤ midR b := by
  rw [midR_eq, midR_eq]
  exact Nat.add_le_add (vR_mono_le h) (vR_mono_le (by omega))
def e345 : Nat := 345
def e310 : Nat := 310
theorem big345 : 2 * (18446744073709551616 * k74) < 10 ^ e345 := by decide +kernel
theorem big310 : midR 9218868437227405312 < 2 * (1 * 10 ^ e310 * k74) := by decide +kernel
theorem rd_rng {d a : Nat} {p : Int} (h : Rd d p a) (h1 : 1 ≤ d) (hd : d < 18446744073709551616) (ha : a < infR) : -345 ≤ p ∧ p ≤ 310 := by
  obtain ⟨hlo, hhi⟩ := h
  have x1 : e345 = 345 := rfl
  have x2 : e310 = 310 := rfl
  constructor
  · rcases Int.lt_or_le p (-345) with g | g
    · exfalso
      have m0 : 1 ≤ midR (a - 1) := by unfold midR; have := Nat.two_pow_pos (exR (a - 1)); omega
      have a1 : 10 ^ (-p).toNat * 1 ≤ 10 ^ (-p).toNat * midR (a - 1) := Nat.mul_le_mul_left _ m0
      have a2 : 10 ^ (-p).toNat ≤ 2 * (d * 10 ^ p.toNat * k74) := by omega
      rw [show p.toNat = 0 by omega, Nat.pow_zero, Nat.mul_one] at a2
      have a3 : 10 ^ e345 ≤ 10 ^ (-p).toNat := Nat.pow_le_pow_right (by decide) (by omega)
      have a4 : d * k74 ≤ 18446744073709551616 * k74 := Nat.mul_le_mul_right _ (Nat.le_of_lt hd)
      exact absurd (Nat.le_trans a3 (Nat.le_trans a2 (Nat.mul_le_mul_left 2 a4))) (Nat.not_le_of_lt big345)
    · exact g
  · rcases Int.lt_or_le 310 p with g | g
    · exfalso
      have a1 : 2 * (d * 10 ^ p.toNat * k74) ≤ 10 ^ (-p).toNat * midR a := by omega
      rw [show (-p).toNat = 0 by omega, Nat.pow_zero, Nat.one_mul] at a1
      have a2 : midR a ≤ midR 9218868437227405312 := midR_mono (Nat.le_of_lt ha)
      have a3 : 10 ^ e310 ≤ 10 ^ p.toNat := Nat.pow_le_pow_right (by decide) (by omega)
      have a4 : 1 * 10 ^ e310 * k74 ≤ d * 10 ^ p.toNat * k74 := Nat.mul_le_mul_right _ (Nat.mul_le_mul h1 a3)
      exact absurd (Nat.le_trans (Nat.mul_le_mul_left 2 a4) (Nat.le_trans a1 a2)) (Nat.not_le_of_lt big310)
    · exact g
end Go.Proofs.YtjfdjpaocdhbbaaGreatDoor.fto
namespace Go.Proofs
open Go.Shelf
def Tryz.lays153_ren : Go.Shelf.Ren := ⟨fun | 153 => 86 | 152 => 115 | 226 => 116 | 227 => 88 | 228 => 117 | 137 => 141 | 119 => 142 | 224 => 122 | 225 => 121 | 217 => 120 | 266 => 145 | n => n, fun | 9 => 9 | 3 => 3 | 4 => 4 | 5 => 5 | 21 => 21 | 117 => 123 | 116 => 122 | 0 => 0 | 46 => 97 | 124 => 126 | n => n, fun | n => n⟩
theorem Tryz.lays153 : Go.Proofs.Lays.n153 Tryz.prog Tryz.lays153_ren := {
  mixed := by kernel_rfl
  f119 := Tryz.func142.trans (congrArg some (by kernel_rfl))
  f137 := Tryz.func141.trans (congrArg some (by kernel_rfl))
  f152 := Tryz.func115.trans (congrArg some (by kernel_rfl))
  f153 := Tryz.func86.trans (congrArg some (by kernel_rfl))
  f217 := Tryz.func120.trans (congrArg some (by kernel_rfl))
  f224 := Tryz.func122.trans (congrArg some (by kernel_rfl))
  f225 := Tryz.func121.trans (congrArg some (by kernel_rfl))
  f226 := Tryz.func116.trans (congrArg some (by kernel_rfl))
  f227 := Tryz.func88.trans (congrArg some (by kernel_rfl))
  f228 := Tryz.func117.trans (congrArg some (by kernel_rfl))
  f266 := Tryz.func145.trans (congrArg some (by kernel_rfl))
  t0 := Tryz.underlying0
  a0 := Tryz.isAgg0
  z0 := Tryz.sizeOf0
  v0 := Tryz.zeroValue0
  t3 := Tryz.underlying3
  a3 := Tryz.isAgg3
  z3 := Tryz.sizeOf3
  v3 := Tryz.zeroValue3
  t4 := Tryz.underlying4
  a4 := Tryz.isAgg4
  z4 := Tryz.sizeOf4
  v4 := Tryz.zeroValue4
  t5 := Tryz.underlying5
  a5 := Tryz.isAgg5
  z5 := Tryz.sizeOf5
  v5 := Tryz.zeroValue5
  t9 := Tryz.underlying9
  a9 := Tryz.isAgg9
  z9 := Tryz.sizeOf9
  v9 := Tryz.zeroValue9
  t21 := Tryz.underlying21
  a21 := Tryz.isAgg21
  z21 := Tryz.sizeOf21
  v21 := Tryz.zeroValue21
  t46 := Tryz.underlying97
  a46 := Tryz.isAgg97
  z46 := Tryz.sizeOf97
  v46 := Tryz.zeroValue97
  t116 := Tryz.underlying122
  a116 := Tryz.isAgg122
  z116 := Tryz.sizeOf122
  t117 := Tryz.underlying123
  a117 := Tryz.isAgg123
  z117 := Tryz.sizeOf123
  v117 := Tryz.zeroValue123
  t124 := Tryz.underlying126
  a124 := Tryz.isAgg126
  z124 := Tryz.sizeOf126
  v124 := Tryz.zeroValue126 }
open Go.RowKit Go.Lib in
theorem Tryz.strings_IndexAny_laid (s chars : ByteArray) (w : World) (hs : s.size < 4294967281) (hcs : chars.size < 4294967281) (has : ∀ (j : Nat) b, s.data.toList[j]? = some b → b.toNat < 128) (hac : ∀ (j : Nat) b, chars.data.toList[j]? = some b → b.toNat < 128) :
    Calls Tryz.prog 86 #[.string s, .string chars] w fun e w' => e = .returned (.int .i64 (Lib.indexAny s.data.toList chars.data.toList)) ∧ Below w.heap.size w w' := Any.strings_IndexAny_laid Tryz.lays153 (by kernel_rfl) s chars w hs hcs has hac
def Tryz.lays99_ren : Go.Shelf.Ren := ⟨fun | 99 => 51 | 206 => 85 | n => n, fun | 9 => 9 | 4 => 4 | 3 => 3 | n => n, fun | n => n⟩
theorem Tryz.lays99 : Go.Proofs.Lays.n99 Tryz.prog Tryz.lays99_ren := {
  mixed := by kernel_rfl
  f99 := Tryz.func51.trans (congrArg some (by kernel_rfl))
  f206 := Tryz.func85.trans (congrArg some (by kernel_rfl))
  t3 := Tryz.underlying3
  a3 := Tryz.isAgg3
  z3 := Tryz.sizeOf3
  v3 := Tryz.zeroValue3
  t4 := Tryz.underlying4
  a4 := Tryz.isAgg4
  z4 := Tryz.sizeOf4
  v4 := Tryz.zeroValue4
  t9 := Tryz.underlying9
  a9 := Tryz.isAgg9
  z9 := Tryz.sizeOf9
  v9 := Tryz.zeroValue9 }
open Go.RowKit Go.Lib in
theorem Tryz.strings_HasPrefix (s p : ByteArray) (w : World) :
    Calls Tryz.prog 51 #[.string s, .string p] w fun e w' => e = .returned (.bool (Lib.hasPrefix s.data.toList p.data.toList)) ∧ w' = w := Any.strings_HasPrefix Tryz.lays99 s p w
def Tryz.laysC174_ren : Go.Shelf.Ren := ⟨fun | 174 => 27 | 247 => 49 | 245 => 50 | 287 => 80 | 279 => 81 | 280 => 82 | 281 => 83 | 282 => 84 | 321 => 110 | 322 => 111 | 316 => 112 | 171 => 114 | 205 => 113 | 243 => 140 | 246 => 43 | 283 => 75 | 284 => 76 | 285 => 77 | 286 => 78 | 129 => 106 | 317 => 105 | 318 => 107 | 319 => 108 | 320 => 109 | 337 => 138 | 338 => 139 | n => n, fun | 9 => 9 | 3 => 3 | 2 => 2 | 75 => 57 | 85 => 58 | 4 => 4 | 167 => 114 | 5 => 5 | 53 => 28 | 175 => 115 | 46 => 97 | 168 => 117 | 37 => 55 | 0 => 0 | 210 => 150 | 21 => 21 | 127 => 133 | 145 => 180 | 143 => 178 | 171 => 110 | 173 => 112 | 212 => 142 | 51 => 107 | 20 => 20 | 213 => 143 | 232 => 161 | 233 => 200 | 80 => 96 | n => n, fun | 15 => 2 | 16 => 3 | 17 => 1 | 18 => 8 | 19 => 9 | n => n⟩
theorem Tryz.laysC174 : Go.Proofs.LaysC.n174 Tryz.prog Tryz.laysC174_ren := {
  mixed := by kernel_rfl
  f129 := Tryz.func106.trans (congrArg some (by kernel_rfl))
  f171 := Tryz.func114.trans (congrArg some (by kernel_rfl))
  f174 := Tryz.func27.trans (congrArg some (by kernel_rfl))
  f205 := Tryz.func113.trans (congrArg some (by kernel_rfl))
  f243 := Tryz.func140.trans (congrArg some (by kernel_rfl))
  f245 := Tryz.func50.trans (congrArg some (by kernel_rfl))
  f246 := Tryz.func43.trans (congrArg some (by kernel_rfl))
  f247 := Tryz.func49.trans (congrArg some (by kernel_rfl))
  f279 := Tryz.func81.trans (congrArg some (by kernel_rfl))
  f280 := Tryz.func82.trans (congrArg some (by kernel_rfl))
  f281 := Tryz.func83.trans (congrArg some (by kernel_rfl))
  f282 := Tryz.func84.trans (congrArg some (by kernel_rfl))
  f283 := Tryz.func75.trans (congrArg some (by kernel_rfl))
  f284 := Tryz.func76.trans (congrArg some (by kernel_rfl))
  f285 := Tryz.func77.trans (congrArg some (by kernel_rfl))
  f286 := Tryz.func78.trans (congrArg some (by kernel_rfl))
  f287 := Tryz.func80.trans (congrArg some (by kernel_rfl))
  f316 := Tryz.func112.trans (congrArg some (by kernel_rfl))
  f317 := Tryz.func105.trans (congrArg some (by kernel_rfl))
  f318 := Tryz.func107.trans (congrArg some (by kernel_rfl))
  f319 := Tryz.func108.trans (congrArg some (by kernel_rfl))
  f320 := Tryz.func109.trans (congrArg some (by kernel_rfl))
  f321 := Tryz.func110.trans (congrArg some (by kernel_rfl))
  f322 := Tryz.func111.trans (congrArg some (by kernel_rfl))
  f337 := Tryz.func138.trans (congrArg some (by kernel_rfl))
  f338 := Tryz.func139.trans (congrArg some (by kernel_rfl))
  t0 := Tryz.underlying0
  a0 := Tryz.isAgg0
  z0 := Tryz.sizeOf0
  v0 := Tryz.zeroValue0
  t2 := Tryz.underlying2
  a2 := Tryz.isAgg2
  z2 := Tryz.sizeOf2
  v2 := Tryz.zeroValue2
  t3 := Tryz.underlying3
  a3 := Tryz.isAgg3
  z3 := Tryz.sizeOf3
  v3 := Tryz.zeroValue3
  t4 := Tryz.underlying4
  a4 := Tryz.isAgg4
  z4 := Tryz.sizeOf4
  v4 := Tryz.zeroValue4
  t5 := Tryz.underlying5
  a5 := Tryz.isAgg5
  z5 := Tryz.sizeOf5
  v5 := Tryz.zeroValue5
  t9 := Tryz.underlying9
  a9 := Tryz.isAgg9
  z9 := Tryz.sizeOf9
  v9 := Tryz.zeroValue9
  t20 := Tryz.underlying20
  a20 := Tryz.isAgg20
  z20 := Tryz.sizeOf20
  v20 := Tryz.zeroValue20
  t21 := Tryz.underlying21
  a21 := Tryz.isAgg21
  z21 := Tryz.sizeOf21
  v21 := Tryz.zeroValue21
  t37 := Tryz.underlying55
  a37 := Tryz.isAgg55
  z37 := Tryz.sizeOf55
  v37 := Tryz.zeroValue55
  t46 := Tryz.underlying97
  a46 := Tryz.isAgg97
  z46 := Tryz.sizeOf97
  v46 := Tryz.zeroValue97
  t51 := Tryz.underlying107
  a51 := Tryz.isAgg107
  z51 := Tryz.sizeOf107
  v51 := Tryz.zeroValue107
  t53 := Tryz.underlying28
  a53 := Tryz.isAgg28
  z53 := Tryz.sizeOf28
  v53 := Tryz.zeroValue28
  t75 := Tryz.underlying57
  a75 := Tryz.isAgg57
  z75 := Tryz.sizeOf57
  v75 := Tryz.zeroValue57
  t85 := Tryz.underlying58
  a85 := Tryz.isAgg58
  z85 := Tryz.sizeOf58
  v85 := Tryz.zeroValue58
  t127 := Tryz.underlying133
  a127 := Tryz.isAgg133
  z127 := Tryz.sizeOf133
  v127 := Tryz.zeroValue133
  t143 := Tryz.underlying178
  a143 := Tryz.isAgg178
  z143 := Tryz.sizeOf178
  v143 := Tryz.zeroValue178
  t145 := Tryz.underlying180
  a145 := Tryz.isAgg180
  z145 := Tryz.sizeOf180
  v145 := Tryz.zeroValue180
  t167 := Tryz.underlying114
  a167 := Tryz.isAgg114
  z167 := Tryz.sizeOf114
  v167 := Tryz.zeroValue114
  t168 := Tryz.underlying117
  a168 := Tryz.isAgg117
  z168 := Tryz.sizeOf117
  v168 := Tryz.zeroValue117
  t171 := Tryz.underlying110
  a171 := Tryz.isAgg110
  z171 := Tryz.sizeOf110
  v171 := Tryz.zeroValue110
  t173 := Tryz.underlying112
  a173 := Tryz.isAgg112
  z173 := Tryz.sizeOf112
  v173 := Tryz.zeroValue112
  t175 := Tryz.underlying115
  a175 := Tryz.isAgg115
  z175 := Tryz.sizeOf115
  v175 := Tryz.zeroValue115
  t210 := Tryz.underlying150
  a210 := Tryz.isAgg150
  z210 := Tryz.sizeOf150
  v210 := Tryz.zeroValue150
  t212 := Tryz.underlying142
  a212 := Tryz.isAgg142
  z212 := Tryz.sizeOf142
  v212 := Tryz.zeroValue142
  t213 := Tryz.underlying143
  a213 := Tryz.isAgg143
  z213 := Tryz.sizeOf143
  t232 := Tryz.underlying161
  a232 := Tryz.isAgg161
  z232 := Tryz.sizeOf161
  v232 := Tryz.zeroValue161
  t233 := Tryz.underlying200
  a233 := Tryz.isAgg200
  z233 := Tryz.sizeOf200
  v233 := Tryz.zeroValue200
  g15 := by kernel_rfl
  g16 := by kernel_rfl
  g17 := by kernel_rfl
  g18 := by kernel_rfl
  g19 := by kernel_rfl
  t80 := Tryz.underlying96
  a80 := Tryz.isAgg96
  z80 := Tryz.sizeOf96
  v80 := Tryz.zeroValue96
  i0 := by kernel_rfl
  i2 := by kernel_rfl
  i3 := by kernel_rfl
  i4 := by kernel_rfl
  i5 := by kernel_rfl
  i9 := by kernel_rfl
  i20 := by kernel_rfl
  i21 := by kernel_rfl
  i37 := by kernel_rfl
  i46 := by kernel_rfl
  i51 := by kernel_rfl
  i53 := by kernel_rfl
  i75 := by kernel_rfl
  i80 := by kernel_rfl
  i85 := by kernel_rfl
  i127 := by kernel_rfl
  i143 := by kernel_rfl
  i145 := by kernel_rfl
  i167 := by kernel_rfl
  i168 := by kernel_rfl
  i171 := by kernel_rfl
  i173 := by kernel_rfl
  i175 := by kernel_rfl
  i210 := by kernel_rfl
  i212 := by kernel_rfl
  i232 := by kernel_rfl
  i233 := by kernel_rfl
  m15 := by kernel_rfl
  m16 := by kernel_rfl
  m17 := by kernel_rfl
  m18 := by kernel_rfl
  m19 := by kernel_rfl
  c0 := by kernel_rfl
  c2 := by kernel_rfl
  c3 := by kernel_rfl
  c4 := by kernel_rfl
  c5 := by kernel_rfl
  c9 := by kernel_rfl
  c20 := by kernel_rfl
  c21 := by kernel_rfl
  c37 := by kernel_rfl
  c46 := by kernel_rfl
  c51 := by kernel_rfl
  c53 := by kernel_rfl
  c75 := by kernel_rfl
  c80 := by kernel_rfl
  c85 := by kernel_rfl
  c127 := by kernel_rfl
  c143 := by kernel_rfl
  c145 := by kernel_rfl
  c167 := by kernel_rfl
  c168 := by kernel_rfl
  c171 := by kernel_rfl
  c173 := by kernel_rfl
  c175 := by kernel_rfl
  c210 := by kernel_rfl
  c212 := by kernel_rfl
  c213 := by kernel_rfl
  c232 := by kernel_rfl
  c233 := by kernel_rfl }
open Go.RowKit in
theorem Tryz.strconv_ParseInt_10_at64_ok (s : ByteArray) (hmax : s.size ≤ 9223372036854775806) (v : Int) (h : Lib.parseIntB 64 s.data.toList = .ok v) (w : World) :
    Calls Tryz.prog 27 #[.string s, .int .i64 10, .int .i64 64] w fun e w' => e = .returned (.tuple #[.int .i64 v, .nilIface]) ∧ (w' = w ∨ ∃ t, w' = Lib.bytesWorld w 5 t) := Any.strconv_ParseInt_10_at64_ok Tryz.laysC174 s hmax v h w
end Go.Proofs
namespace Go.Proofs
open Go.Shelf
def Tryz.lays161_ren : Go.Shelf.Ren := ⟨fun | 161 => 53 | 231 => 87 | 227 => 88 | 233 => 89 | 235 => 90 | 228 => 117 | 197 => 64 | 151 => 118 | 260 => 100 | 152 => 115 | 137 => 141 | 119 => 142 | 224 => 122 | 225 => 121 | 217 => 120 | 266 => 145 | n => n, fun | 9 => 9 | 4 => 4 | 3 => 3 | 5 => 5 | 117 => 123 | 116 => 122 | 0 => 0 | 124 => 126 | 105 => 94 | 21 => 21 | 119 => 173 | 46 => 97 | 139 => 176 | 138 => 175 | n => n, fun | 3 => 6 | 4 => 7 | n => n⟩
theorem Tryz.lays161 : Go.Proofs.Lays.n161 Tryz.prog Tryz.lays161_ren := {
  mixed := by kernel_rfl
  f119 := Tryz.func142.trans (congrArg some (by kernel_rfl))
  f137 := Tryz.func141.trans (congrArg some (by kernel_rfl))
  f151 := Tryz.func118.trans (congrArg some (by kernel_rfl))
  f152 := Tryz.func115.trans (congrArg some (by kernel_rfl))
  f161 := Tryz.func53.trans (congrArg some (by kernel_rfl))
  f197 := Tryz.func64.trans (congrArg some (by kernel_rfl))
  f217 := Tryz.func120.trans (congrArg some (by kernel_rfl))
  f224 := Tryz.func122.trans (congrArg some (by kernel_rfl))
  f225 := Tryz.func121.trans (congrArg some (by kernel_rfl))
  f227 := Tryz.func88.trans (congrArg some (by kernel_rfl))
  f228 := Tryz.func117.trans (congrArg some (by kernel_rfl))
  f231 := Tryz.func87.trans (congrArg some (by kernel_rfl))
  f233 := Tryz.func89.trans (congrArg some (by kernel_rfl))
  f235 := Tryz.func90.trans (congrArg some (by kernel_rfl))
  f260 := Tryz.func100.trans (congrArg some (by kernel_rfl))
  f266 := Tryz.func145.trans (congrArg some (by kernel_rfl))
  t0 := Tryz.underlying0
  a0 := Tryz.isAgg0
  z0 := Tryz.sizeOf0
  v0 := Tryz.zeroValue0
  t3 := Tryz.underlying3
  a3 := Tryz.isAgg3
  z3 := Tryz.sizeOf3
  v3 := Tryz.zeroValue3
  t4 := Tryz.underlying4
  a4 := Tryz.isAgg4
  z4 := Tryz.sizeOf4
  v4 := Tryz.zeroValue4
  t5 := Tryz.underlying5
  a5 := Tryz.isAgg5
  z5 := Tryz.sizeOf5
  v5 := Tryz.zeroValue5
  t9 := Tryz.underlying9
  a9 := Tryz.isAgg9
  z9 := Tryz.sizeOf9
  v9 := Tryz.zeroValue9
  t21 := Tryz.underlying21
  a21 := Tryz.isAgg21
  z21 := Tryz.sizeOf21
  v21 := Tryz.zeroValue21
  t46 := Tryz.underlying97
  a46 := Tryz.isAgg97
  z46 := Tryz.sizeOf97
  v46 := Tryz.zeroValue97
  t105 := Tryz.underlying94
  a105 := Tryz.isAgg94
  z105 := Tryz.sizeOf94
  v105 := Tryz.zeroValue94
  t116 := Tryz.underlying122
  a116 := Tryz.isAgg122
  z116 := Tryz.sizeOf122
  t117 := Tryz.underlying123
  a117 := Tryz.isAgg123
  z117 := Tryz.sizeOf123
  v117 := Tryz.zeroValue123
  t119 := Tryz.underlying173
  a119 := Tryz.isAgg173
  z119 := Tryz.sizeOf173
  t124 := Tryz.underlying126
  a124 := Tryz.isAgg126
  z124 := Tryz.sizeOf126
  v124 := Tryz.zeroValue126
  t138 := Tryz.underlying175
  a138 := Tryz.isAgg175
  z138 := Tryz.sizeOf175
  v138 := Tryz.zeroValue175
  t139 := Tryz.underlying176
  a139 := Tryz.isAgg176
  z139 := Tryz.sizeOf176
  v139 := Tryz.zeroValue176
  g3 := by kernel_rfl
  g4 := by kernel_rfl }
open Go.RowKit in
theorem Tryz.strings_TrimLeft_one (s : ByteArray) (c : UInt8) (hc : c.toNat < 128) (w : World) :
    Calls Tryz.prog 53 #[.string s, .string ⟨#[c]⟩] w fun e w' => e = .returned (.string ⟨(Lib.trimLeftB s.data.toList c).toArray⟩) ∧ w' = w := Any.strings_TrimLeft_one Tryz.lays161 s c hc w
open Go.RowKit Go.Lib in
theorem Tryz.strings_TrimLeft_laid (s cutset : ByteArray) (w : World) (hcs : cutset.size < 4294967281) (hascii : ∀ (j : Nat) b, cutset.data.toList[j]? = some b → b.toNat < 128) :
    Calls Tryz.prog 53 #[.string s, .string cutset] w fun e w' => e = .returned (.string ⟨(Lib.trimLeftS s.data.toList cutset.data.toList).toArray⟩) ∧ Below w.heap.size w w' := Any.strings_TrimLeft_laid Tryz.lays161 (by kernel_rfl) s cutset w hcs hascii
end Go.Proofs
namespace Go.Proofs.YtjfdjpaocdhbbaaGreatDoor.fto
open Go.ChangeShapes Go.WideShapes Go.ChangeAt Go.RowKit
open mem Go.Sort
open ints (hide unhide)
set_option linter.unusedVariables false
theorem u8s_mem {c : UInt8} {l : List Int} (hl : Bt l) (h : c ∈ u8s l) : (c.toNat : Int) ∈ l := by
  obtain ⟨z, hz, e⟩ := List.mem_map.1 h
  have := hl z hz
  have e2 : (UInt8.ofNat z.toNat).toNat = z.toNat := UInt8.toNat_ofNat_of_lt' (by show _ < 256; omega)
  rw [← e, e2]
  rw [show ((z.toNat : Nat) : Int) = z by omega]
  exact hz
theorem ia_no : ∀ l : List UInt8, (101 : UInt8) ∉ l → (69 : UInt8) ∉ l → Lib.indexAny l [101, 69] = -1
  | [], _, _ => rfl
  | b :: l, h1, h2 => by
    have b1 : ¬ (101 : UInt8) = b := fun e => h1 (by simp [e])
    have b2 : ¬ (69 : UInt8) = b := fun e => h2 (by simp [e])
    have ih := ia_no l (fun e => h1 (List.mem_cons_of_mem _ e)) (fun e => h2 (List.mem_cons_of_mem _ e))
    unfold Lib.indexAny
    rw [if_neg, ih]
    · simp
    · simp
      exact ⟨fun e => b1 e.symm, fun e => b2 e.symm⟩
theorem ia_at (r : List UInt8) : ∀ l : List UInt8, (101 : UInt8) ∉ l → (69 : UInt8) ∉ l → Lib.indexAny (l ++ 101 :: r) [101, 69] = l.length
  | [], _, _ => by simp [Lib.indexAny]
  | b :: l, h1, h2 => by
    have b1 : ¬ (101 : UInt8) = b := fun e => h1 (by simp [e])
    have b2 : ¬ (69 : UInt8) = b := fun e => h2 (by simp [e])
    have ih := ia_at r l (fun e => h1 (List.mem_cons_of_mem _ e)) (fun e => h2 (List.mem_cons_of_mem _ e))
    rw [List.cons_append]
    unfold Lib.indexAny
    rw [if_neg, ih]
    · rw [if_neg]
      · simp
      · simp
    · simp
      exact ⟨fun e => b1 e.symm, fun e => b2 e.symm⟩
/-- no e among the codes -/
def NoE (l : List Int) : Prop := Bt l ∧ (101 : Int) ∉ l ∧ (69 : Int) ∉ l
theorem NoE.u8 {l : List Int} (h : NoE l) : (101 : UInt8) ∉ u8s l ∧ (69 : UInt8) ∉ u8s l :=
  ⟨fun e => h.2.1 (by simpa using u8s_mem h.1 e), fun e => h.2.2 (by simpa using u8s_mem h.1 e)⟩
theorem ascii_u8s {l : List Int} (h : ∀ z ∈ l, 0 ≤ z ∧ z < 128) : ∀ (j : Nat) b, (u8s l)[j]? = some b → b.toNat < 128 := by
  intro j b hb
  have hm := List.mem_of_getElem? hb
  obtain ⟨z, hz, e⟩ := List.mem_map.1 hm
  have := h z hz
  have e2 : (UInt8.ofNat z.toNat).toNat = z.toNat := UInt8.toNat_ofNat_of_lt' (by show _ < 256; omega)
  rw [← e, e2]
  omega
theorem ext_left (A B : List Int) : (strOfNums (A ++ B)).extract 0 A.length = strOfNums A := by
  apply ByteArray.ext
  rw [ByteArray.data_extract]
  show ((u8s (A ++ B)).toArray.extract 0 A.length) = (u8s A).toArray
  rw [u8s_app]
  have : A.length = (u8s A).length := by simp [u8s]
  rw [this]
  simp
theorem ext_right (A B : List Int) {k n : Nat} (hk : k = A.length) (hn : n = (A ++ B).length) : (strOfNums (A ++ B)).extract k n = strOfNums B := by
  apply ByteArray.ext
  rw [ByteArray.data_extract]
  show ((u8s (A ++ B)).toArray.extract k n) = (u8s B).toArray
  have h1 : (u8s A).length = A.length := by simp [u8s]
  have h2 : (u8s (A ++ B)).length = n := by rw [hn]; simp [u8s]
  rw [u8s_app] at *
  rw [List.extract_toArray, ← h2, hk, ← h1]
  simp [List.extract]
/-- cutExponent at a text without an exponent -/
theorem cutE_no (M : List Int) (w : World) (hM : NoE M) (ha : ∀ z ∈ M, 0 ≤ z ∧ z < 128) (hl : M.length ≤ 1000000) :
    Calls Tryz.prog 52 #[.string (strOfNums M)] w fun e w' => e = .returned (.tuple #[.string (strOfNums M), .int .i64 0]) ∧ Below w.heap.size w w' := by
  have IA := Tryz.strings_IndexAny_laid (strOfNums M) ⟨#[101, 69]⟩ w (by rw [str_size]; omega) (by decide) (ascii_u8s ha) (ascii_of_all (by decide))
  have e : Lib.indexAny (strOfNums M).data.toList (⟨#[101, 69]⟩ : ByteArray).data.toList = -1 := ia_no (u8s M) hM.u8.1 hM.u8.2
  rw [e] at IA
  have HI := hide IA
  clear IA e
  go_enter Tryz.func52, Tryz.ntmps52
  go_wp2_with fail
  refine (unhide HI).mono ?_
  rintro e w1 ⟨rfl, b1⟩
  have HB := hide b1
  clear b1
  go_wp2
  go_ret2
  exact ⟨rfl, unhide HB⟩
theorem trimS_sg (g : Bool) (X : List Int) (hX : Dg X) : Lib.trimLeftS (u8s (sgL g ++ X)) [43, 45] = u8s X := by
  have hh : ∀ X : List Int, Dg X → (u8s X).dropWhile (fun b => [(43 : UInt8), 45].contains b) = u8s X := by
    intro X hX
    cases X with
    | nil => rfl
    | cons x X =>
      have := hX x (by simp)
      have e2 : (UInt8.ofNat x.toNat).toNat = x.toNat := UInt8.toNat_ofNat_of_lt' (by show _ < 256; omega)
      have n1 : ¬ UInt8.ofNat x.toNat = 43 := fun e => by rw [e] at e2; have : (43 : UInt8).toNat = 43 := rfl; omega
      have n2 : ¬ UInt8.ofNat x.toNat = 45 := fun e => by rw [e] at e2; have : (45 : UInt8).toNat = 45 := rfl; omega
      show List.dropWhile _ (UInt8.ofNat x.toNat :: u8s X) = UInt8.ofNat x.toNat :: u8s X
      rw [List.dropWhile_cons, if_neg]
      simp [n1, n2]
  unfold Lib.trimLeftS
  rw [u8s_app]
  cases g
  · exact hh X hX
  · show List.dropWhile _ ((45 : UInt8) :: u8s X) = _
    rw [List.dropWhile_cons, if_pos (by decide)]
    exact hh X hX
set_option maxHeartbeats 1000000 in
set_option maxRecDepth 100000 in
/-- cutExponent at a text with an exponent -/
theorem cutE_at (M X : List Int) (g : Bool) (w : World) (hM : NoE M) (ha : ∀ z ∈ M, 0 ≤ z ∧ z < 128) (hl : M.length ≤ 1000000) (hX : Dg X) (hX0 : X ≠ []) (hXl : X.length ≤ 10) :
    Calls Tryz.prog 52 #[.string (strOfNums (M ++ 101 :: (sgL g ++ X)))] w fun e w' => e = .returned (.tuple #[.string (strOfNums M), .int .i64 (if g then -(dv X : Int) else (dv X : Int))]) ∧ Below w.heap.size w w' := by
  obtain ⟨s, hs⟩ : ∃ s, s = strOfNums (M ++ 101 :: (sgL g ++ X)) := ⟨_, rfl⟩
  rw [← hs]
  obtain ⟨tx, htx⟩ : ∃ s, s = strOfNums (sgL g ++ X) := ⟨_, rfl⟩
  obtain ⟨xs, hxs⟩ : ∃ s, s = strOfNums X := ⟨_, rfl⟩
  have hsz : s.size = M.length + 1 + (sgL g ++ X).length := by rw [hs, str_size]; simp; omega
  have hgl : (sgL g).length ≤ 1 := by cases g <;> simp [sgL]
  have hXp : 0 < X.length := List.length_pos_iff.2 hX0
  have hasc : ∀ z ∈ M ++ 101 :: (sgL g ++ X), 0 ≤ z ∧ z < 128 := fun z hz => by
    rcases List.mem_append.1 hz with h | h
    · exact ha z h
    · rcases List.mem_cons.1 h with h | h
      · omega
      · rcases List.mem_append.1 h with h | h
        · cases g <;> simp [sgL] at h <;> omega
        · have := hX z h; omega
  have hasc2 : ∀ (j : Nat) b, s.data.toList[j]? = some b → b.toNat < 128 := by
    intro j b hb
    rw [hs] at hb
    exact ascii_u8s hasc j b hb
  have IA := Tryz.strings_IndexAny_laid s ⟨#[101, 69]⟩ w (by rw [hsz, List.length_append]; omega) (by decide) hasc2 (ascii_of_all (by decide))
  clear hasc hasc2
  have e : Lib.indexAny s.data.toList (⟨#[101, 69]⟩ : ByteArray).data.toList = M.length := by
    have := ia_at (u8s (sgL g ++ X)) (u8s M) hM.u8.1 hM.u8.2
    rw [show (u8s M).length = M.length by simp [u8s]] at this
    rw [← this, hs]
    show Lib.indexAny (u8s (M ++ 101 :: (sgL g ++ X))) _ = _
    rw [u8s_app]
    rfl
  rw [e] at IA
  have TL := fun W => Tryz.strings_TrimLeft_laid tx ⟨#[43, 45]⟩ W (by decide) (ascii_of_all (by decide))
  have e2 : (⟨(Lib.trimLeftS tx.data.toList (⟨#[43, 45]⟩ : ByteArray).data.toList).toArray⟩ : ByteArray) = xs := by
    rw [htx, hxs]
    show (⟨(Lib.trimLeftS (u8s (sgL g ++ X)) [43, 45]).toArray⟩ : ByteArray) = _
    rw [trimS_sg g X hX]
    rfl
  simp only [e2] at TL
  have HI := hide IA
  have HT := hide TL
  clear IA TL e e2
  obtain ⟨mk, hmk⟩ : ∃ mk : Nat, mk = M.length := ⟨_, rfl⟩
  rw [← hmk] at HI hsz hl
  have m1 : ¬ (mk : Int) < 0 := by omega
  have hxx : s.extract (mk + 1) s.size = tx := by
    rw [hs, htx, hmk, show M ++ 101 :: (sgL g ++ X) = (M ++ [101]) ++ (sgL g ++ X) by simp, str_size]
    exact ext_right (M ++ [101]) (sgL g ++ X) (by simp) (by simp)
  have hmm : s.extract 0 mk = strOfNums M := by
    rw [hs, hmk]
    exact ext_left M _
  have htz : tx.size = (sgL g ++ X).length := by rw [htx, str_size]
  have htp : 0 < tx.size := by rw [htz, List.length_append]; omega
  have ht0 : bz tx 0 = if g then 45 else X.getD 0 0 := by
    rw [htx, bz_str _ ((sg_bt g).app hX.bt)]
    cases g <;> simp [sgL]
  obtain ⟨ms, hms⟩ : ∃ ms, ms = strOfNums M := ⟨_, rfl⟩
  rw [← hms] at hmm ⊢
  have hzi : (s.size : Int) = (mk : Int) + 1 + tx.size := by rw [htz]; omega
  have hsl : mk + 1 ≤ s.size := by omega
  have hxz : xs.size = X.length := by rw [hxs, str_size]
  have hxa : ∀ j (hj : j < xs.size), ((xs[j]'hj).toNat : Int) = X.getD j 0 := fun j hj => by
    rw [← bz_at]
    subst hxs
    exact bz_str X hX.bt j
  rw [bz_at tx 0 htp] at ht0
  clear hs htx hxs hmk hms hsz
  have HX := hide hxa
  have HD := hide hX
  clear hxa hX ha hM
  go_enter Tryz.func52, Tryz.ntmps52
  go_wp2_with fail
  refine (unhide HI).mono ?_
  rintro e w1 ⟨rfl, b1⟩
  have HB := hide b1
  clear b1 HI
  go_wp2_with fail
  refine (unhide HT _).mono ?_
  rintro e w2 ⟨rfl, b2⟩
  have HB2 := hide ((unhide HB).trans (b2.mono (unhide HB).size))
  clear b2 HB HT
  go_wp2
  go_loopw [6, 8] (fun n _ wr => ∃ pos : Nat, pos ≤ X.length ∧ wr = w2.iter xs pos ∧ n = .int .i64 (dv (X.take pos) : Nat)) (fun _ _ wr => X.length - wr.iterPos w2.heap.size)
  case atStart => exact ⟨0, by omega, rfl, rfl⟩
  case round =>
    obtain ⟨pos, hpl, rfl, rfl⟩ := hrel
    by_cases hp : pos < X.length
    · have hp' : pos < xs.size := by omega
      have hx1 := unhide HX pos hp'
      have hx2 := dg_getD (unhide HD) hp
      have hx3 := dv_lt (X.take pos) (fun z hz => unhide HD z (List.mem_of_mem_take hz))
      have hx4 : dv (X.take (pos + 1)) = dv (X.take pos) * 10 + (X.getD pos 0 - 48).toNat := by
        have et : X.take (pos + 1) = X.take pos ++ [X.getD pos 0] := by
          rw [List.getD_eq_getElem?_getD, List.getElem?_eq_getElem hp, Option.getD_some, List.take_succ_eq_append_getElem hp]
        rw [et, dv_app, dv_cons]
        simp [dv]
      have hx5 : dv (X.take pos) < 10000000000 := by
        have a1 : 10 ^ (X.take pos).length ≤ 10 ^ 10 := Nat.pow_le_pow_right (by decide) (by rw [List.length_take]; omega)
        exact Nat.lt_of_lt_of_le hx3 (Nat.le_trans a1 (by decide))
      have hnx : ∀ ty, (Instr.next (.pointer (some ⟨w2.heap.size, 0, none⟩)) true ty).run Tryz.prog (w2.iter xs pos) = .ok (.tuple #[.bool true, .int .i64 pos, .int .i32 (X.getD pos 0)]) (w2.iter xs (pos + 1)) := fun ty => by
        have := run_next_ascii (P := Tryz.prog) w2 xs pos ty hp' (by omega)
        rw [hx1] at this
        exact this
      have HQ := hide hx4
      clear hx1 hx3 hx4
      generalize X.getD pos 0 = c at *
      generalize dv (X.take pos) = v at *
      have hmn : min ((v : Int) * 10 + (c - 48)) 1099511627776 = (v : Int) * 10 + (c - 48) := by omega
      go_wp2
      go_roundw
      case rel => exact ⟨pos + 1, by omega, rfl, by rw [unhide HQ]; go_num⟩
      case measure => simp; omega
    · have e : pos = X.length := by omega
      subst e
      rw [List.take_length]
      have hnx : ∀ ty, (Instr.next (.pointer (some ⟨w2.heap.size, 0, none⟩)) true ty).run Tryz.prog (w2.iter xs X.length) = .ok (.tuple #[.bool false]) (w2.iter xs X.length) := fun ty => run_next_end (P := Tryz.prog) w2 xs X.length ty (by omega)
      have hvb : dv X < 10000000000 := by
        have a1 : 10 ^ X.length ≤ 10 ^ 10 := Nat.pow_le_pow_right (by decide) (by omega)
        exact Nat.lt_of_lt_of_le (dv_lt X (unhide HD)) (Nat.le_trans a1 (by decide))
      cases g
      · have h0 : 48 ≤ ((tx[0]'htp).toNat : Int) := by rw [ht0]; exact (dg_getD (unhide HD) hXp).1
        have h1 : (((tx[0]'htp).toNat : Int) == 45) = false := by rw [beq_eq_false_iff_ne]; omega
        clear ht0
        go_wp2
        go_ret2
        exact ⟨rfl, (unhide HB2).alloc (unhide HB2).size _⟩
      · have h1 : (((tx[0]'htp).toNat : Int) == 45) = true := by rw [ht0]; rfl
        clear ht0
        go_wp2
        go_ret2
        exact ⟨rfl, (unhide HB2).alloc (unhide HB2).size _⟩
end Go.Proofs.YtjfdjpaocdhbbaaGreatDoor.fto
namespace Go.Proofs.YtjfdjpaocdhbbaaGreatDoor.mem
set_option linter.unusedVariables false

def sv (ng : Bool) (v : Nat) : Int := if ng then -(v : Int) else (v : Int)
theorem dec_fin (ng : Bool) (r : Nat) (h : r < 9218868437227405312) : FloatKind.f64.decode (Ieee.double.word ng r) = .number ng (mantR r) ((exR r : Int) - 1074) := by
  have hs : Ieee.double.signWeight = 9223372036854775808 := by rfl
  have hb : Ieee.double.binade = b52 := by rfl
  have hi : Ieee.double.infRung = 9218868437227405312 := by rfl
  have hl : Ieee.double.leastPlace = -1074 := by rfl
  have e1 : Ieee.double.word ng r / 9223372036854775808 % 2 = ng.toNat ∧ Ieee.double.word ng r % 9223372036854775808 = r := by
    unfold Ieee.Format.word
    rw [hs]
    cases ng
    · simp; omega
    · simp; omega
  show Ieee.double.read _ = _
  unfold Ieee.Format.read
  simp only [hs, hb, hi, hl, e1.1, e1.2]
  have e2 : (ng.toNat == 1) = ng := by cases ng <;> rfl
  rw [e2]
  unfold mantR exR
  by_cases h0 : r < b52
  · rw [if_pos h0, if_pos h0]
    have : r / b52 = 0 := Nat.div_eq_of_lt h0
    rw [this]; rfl
  · rw [if_neg h0, if_neg h0, if_pos h]
    have : 1 ≤ r / b52 := Nat.div_pos (by omega) (by decide)
    congr 1
theorem dec_inf (ng : Bool) : FloatKind.f64.decode (Ieee.double.word ng 9218868437227405312) = .infinity ng := by
  have hs : Ieee.double.signWeight = 9223372036854775808 := by rfl
  have hb : Ieee.double.binade = b52 := by rfl
  have hi : Ieee.double.infRung = 9218868437227405312 := by rfl
  have e1 : Ieee.double.word ng 9218868437227405312 / 9223372036854775808 % 2 = ng.toNat ∧ Ieee.double.word ng 9218868437227405312 % 9223372036854775808 = 9218868437227405312 := by
    unfold Ieee.Format.word
    rw [hs]
    cases ng <;> simp
  show Ieee.double.read _ = _
  unfold Ieee.Format.read
  simp only [hs, hb, hi, e1.1, e1.2]
  have e2 : (ng.toNat == 1) = ng := by cases ng <;> rfl
  rw [e2, if_neg (by unfold b52; omega), if_neg (by omega)]
  simp only [if_true]
theorem dec_nan (ng : Bool) (r : Nat) (h : 9218868437227405312 < r) (h2 : r < 9223372036854775808) : ∃ f, FloatKind.f64.decode (Ieee.double.word ng r) = .nan ng f := by
  have hs : Ieee.double.signWeight = 9223372036854775808 := by rfl
  have hb : Ieee.double.binade = b52 := by rfl
  have hi : Ieee.double.infRung = 9218868437227405312 := by rfl
  have e1 : Ieee.double.word ng r / 9223372036854775808 % 2 = ng.toNat ∧ Ieee.double.word ng r % 9223372036854775808 = r := by
    unfold Ieee.Format.word
    rw [hs]
    cases ng
    · simp; omega
    · simp; omega
  refine ⟨r - 9218868437227405312, ?_⟩
  show Ieee.double.read _ = _
  unfold Ieee.Format.read
  simp only [hs, hb, hi, e1.1, e1.2]
  have e2 : (ng.toNat == 1) = ng := by cases ng <;> rfl
  rw [e2, if_neg (by unfold b52; omega), if_neg (by omega), if_neg (by omega)]
theorem word_of (x : Nat) (h : x < 18446744073709551616) : Ieee.double.word (decide (9223372036854775808 ≤ x)) (x % 9223372036854775808) = x := by
  have hs : Ieee.double.signWeight = 9223372036854775808 := by rfl
  unfold Ieee.Format.word
  rw [hs]
  by_cases hx : 9223372036854775808 ≤ x
  · simp [hx]; omega
  · simp [hx]; omega
theorem signed_eq (ng : Bool) (m u : Nat) : Ieee.signed ng m u = sv ng (m * 2 ^ u) := by
  unfold Ieee.signed sv
  rw [Nat.shiftLeft_eq]
theorem sv_mul (ng : Bool) (v k : Nat) : sv ng (v * k) = sv ng v * (k : Int) := by
  unfold sv
  cases ng
  · simp
  · simp only [if_true]; rw [Int.natCast_mul, Int.neg_mul]
theorem compare_mul (a b : Int) (k : Nat) (hk : 0 < k) : compare (a * (k : Int)) (b * (k : Int)) = compare a b := by
  have hk' : (0 : Int) < (k : Int) := by omega
  rcases Int.lt_trichotomy a b with h | h | h
  · rw [Int.compare_eq_lt.2 h, Int.compare_eq_lt.2 (Int.mul_lt_mul_of_pos_right h hk')]
  · subst h; rw [Int.compare_eq_eq.2 rfl, Int.compare_eq_eq.2 rfl]
  · rw [Int.compare_eq_gt.2 h, Int.compare_eq_gt.2 (Int.mul_lt_mul_of_pos_right h hk')]
/-- Two finite numbers by their values in units of the least float. -/
theorem order_fin (s t : Bool) (m n i j : Nat) : (Ieee.Datum.number s m ((i : Int) - 1074)).order (.number t n ((j : Int) - 1074)) = some (compare (sv s (m * 2 ^ i)) (sv t (n * 2 ^ j))) := by
  unfold Ieee.Datum.order
  simp only [signed_eq, Option.some.injEq]
  have e1 : ((i : Int) - 1074 - min ((i : Int) - 1074) ((j : Int) - 1074)).toNat = i - min i j := by omega
  have e2 : ((j : Int) - 1074 - min ((i : Int) - 1074) ((j : Int) - 1074)).toNat = j - min i j := by omega
  rw [e1, e2, ← compare_mul _ _ (2 ^ min i j) (Nat.two_pow_pos _), ← sv_mul, ← sv_mul, Nat.mul_assoc, Nat.mul_assoc, ← Nat.pow_add, ← Nat.pow_add,
    show i - min i j + min i j = i by omega, show j - min i j + min i j = j by omega]
theorem order_word (s t : Bool) (a b : Nat) (ha : a < 9218868437227405312) (hb : b < 9218868437227405312) : FloatKind.f64.format.order (Ieee.double.word s a) (Ieee.double.word t b) = some (compare (sv s (vR a)) (sv t (vR b))) := by
  show (FloatKind.f64.decode _).order (FloatKind.f64.decode _) = _
  rw [dec_fin s a ha, dec_fin t b hb, order_fin]
  rfl
end Go.Proofs.YtjfdjpaocdhbbaaGreatDoor.mem
namespace Go.Proofs.YtjfdjpaocdhbbaaGreatDoor.fto
open Go.ChangeShapes Go.WideShapes Go.ChangeAt Go.RowKit
open mem Go.Sort
open ints (hide unhide)
set_option linter.unusedVariables false
set_option linter.unusedSimpArgs false
/-- no number, or one without bound -/
def badF (x : Nat) : Bool := decide (9218868437227405312 ≤ x % 9223372036854775808)
def nanB (x : Nat) : Bool := decide (9218868437227405312 < x % 9223372036854775808)
theorem order_self (x : Nat) (h : x < 18446744073709551616) : (FloatKind.f64.format.order x x != some Ordering.eq) = nanB x := by
  have hw := word_of x h
  obtain ⟨r, hr⟩ : ∃ r, r = x % 9223372036854775808 := ⟨_, rfl⟩
  obtain ⟨ng, hng⟩ : ∃ ng, ng = decide (9223372036854775808 ≤ x) := ⟨_, rfl⟩
  have hrl : r < 9223372036854775808 := by omega
  unfold nanB
  rw [← hr]
  rw [← hr, ← hng] at hw
  clear hr hng
  rw [← hw]
  show ((FloatKind.f64.decode _).order (FloatKind.f64.decode _) != some Ordering.eq) = _
  rcases Nat.lt_trichotomy r 9218868437227405312 with h1 | h1 | h1
  · rw [dec_fin ng r h1, order_fin, Int.compare_eq_eq.2 rfl, decide_eq_false (by omega)]; rfl
  · subst h1
    rw [dec_inf, decide_eq_false (by omega)]
    cases ng <;> rfl
  · obtain ⟨f, hf⟩ := dec_nan ng r h1 hrl
    rw [hf, decide_eq_true h1]; rfl
theorem gt_max (r : Nat) (h : r ≤ 9218868437227405312) : (FloatKind.f64.format.order r 9218868437227405311 == some Ordering.gt) = decide (9218868437227405312 ≤ r) := by
  have e1 : r = Ieee.double.word false r := rfl
  by_cases hr : r = 9218868437227405312
  · subst hr
    rfl
  · rw [decide_eq_false (by omega)]
    have := order_word false false r 9218868437227405311 (by omega) (by omega)
    have e2 : FloatKind.f64.format.order r 9218868437227405311 = some (compare (sv false (vR r)) (sv false (vR 9218868437227405311))) := this
    rw [e2]
    have hle : vR r ≤ vR 9218868437227405311 := mem.vR_mono_le (by omega)
    have : compare (sv false (vR r)) (sv false (vR 9218868437227405311)) ≠ Ordering.gt := by
      intro hc
      rw [Int.compare_eq_gt] at hc
      unfold sv at hc
      simp at hc
      omega
    cases hc : compare (sv false (vR r)) (sv false (vR 9218868437227405311)) with
    | gt => exact absurd hc this
    | lt => rfl
    | eq => rfl
theorem andNotSign (b : Nat) (h : b < 18446744073709551616) : bits .andNot .u64 (b : Int) 9223372036854775808 = ((b % 9223372036854775808 : Nat) : Int) := by
  have := u64_andNot_nat b 9223372036854775808 (by omega) (by omega)
  rw [show 18446744073709551615 - 9223372036854775808 = 9223372036854775807 from rfl, nat_mask63] at this
  exact this
theorem run_tobits (x : Nat) (w : World) : (callFunc 15 #[.float .f64 x]).run Tryz.prog w = .ok (.value (.int .u64 x)) w := by
  rw [run_callFunc_extern (e := Extern.MathFloatBits.float64bits) Tryz.func15 (by kernel_rfl) (by kernel_rfl) (by kernel_rfl) (by kernel_rfl)]
  rfl
theorem run_frombits (x : Int) (w : World) : (callFunc 8 #[.int .u64 x]).run Tryz.prog w = .ok (.value (.float .f64 x.toNat)) w := by
  rw [run_callFunc_extern (e := Extern.MathFloatBits.float64frombits) Tryz.func8 (by kernel_rfl) (by kernel_rfl) (by kernel_rfl) (by kernel_rfl)]
  rfl
theorem abs_ok (x : Nat) (w : World) (h : x < 18446744073709551616) : Calls Tryz.prog 20 #[.float .f64 x] w fun e w' => e = .returned (.float .f64 (x % 9223372036854775808)) ∧ w = w' := by
  have T1 := run_tobits x w
  have e2 := andNotSign x h
  have T2 := run_frombits ((x % 9223372036854775808 : Nat) : Int) w
  rw [Int.toNat_natCast] at T2
  generalize x % 9223372036854775808 = r at *
  go_enter Tryz.func20, Tryz.ntmps20
  go_wp2
  go_ret
  exact ⟨rfl, rfl⟩
theorem isInf_ok (x : Nat) (w : World) (h : x < 18446744073709551616) (hn : nanB x = false) : Calls Tryz.prog 13 #[.float .f64 x, .int .i64 0] w fun e w' => e = .returned (.bool (badF x)) ∧ w = w' := by
  have A := hide (fun W => abs_ok x W h)
  have hg := gt_max (x % 9223372036854775808) (by unfold nanB at hn; simpa using hn)
  have hB := hide (show badF x = decide (9218868437227405312 ≤ x % 9223372036854775808) from rfl)
  clear hn h
  generalize x % 9223372036854775808 = r at *
  rw [← unhide hB] at hg
  clear hB
  generalize badF x = B at *
  go_enter Tryz.func13, Tryz.ntmps13
  go_wp2_with fail
  refine (unhide A _).mono ?_
  rintro e w1 ⟨rfl, rfl⟩
  clear A
  go_wp2
  go_ret
  exact ⟨by first | rfl | (rw [← hg]; rfl), rfl⟩
end Go.Proofs.YtjfdjpaocdhbbaaGreatDoor.fto
namespace Go.Proofs.YtjfdjpaocdhbbaaGreatDoor.fto
open Go.ChangeShapes Go.WideShapes Go.ChangeAt Go.RowKit
open mem Go.Sort
open ints (hide unhide)
set_option linter.unusedVariables false
set_option linter.unusedSimpArgs false
theorem isNaN_any (x : Nat) (w : World) (h : x < 18446744073709551616) : Calls Tryz.prog 12 #[.float .f64 x] w fun e w' => e = .returned (.bool (nanB x)) ∧ w' = w := by
  have ho := order_self x h
  generalize nanB x = N at *
  go_enter Tryz.func12, Tryz.ntmps12
  go_wp2
  go_ret
  exact ⟨by first | rfl | (rw [← ho]; rfl), rfl⟩

theorem sgn64 (x : Nat) (h : x < 18446744073709551616) : decide (wrap64 (x : Int) < 0) = decide (9223372036854775808 ≤ x) := by
  have e : wrap64 (x : Int) = ((x : Int) + 9223372036854775808) % 18446744073709551616 - 9223372036854775808 := by simp [wrap64]
  rw [e]
  by_cases hx : 9223372036854775808 ≤ x
  · rw [decide_eq_true hx]; exact decide_eq_true (by omega)
  · rw [decide_eq_false hx]; exact decide_eq_false (by omega)
set_option maxRecDepth 100000 in
theorem sign_ok (x : Nat) (w : World) (h : x < 18446744073709551616) : Calls Tryz.prog 18 #[.float .f64 x] w fun e w' => e = .returned (.bool (decide (9223372036854775808 ≤ x))) ∧ w' = w := by
  have T1 := run_tobits x w
  rw [← sgn64 x h]
  clear h
  go_enter Tryz.func18, Tryz.ntmps18
  go_wp2
  go_ret
  exact ⟨rfl, rfl⟩
theorem eq_nought (x : Nat) (h : x < 18446744073709551616) (hb : badF x = false) : (FloatKind.f64.format.order x 0 == some Ordering.eq) = decide (x % 9223372036854775808 = 0) := by
  have hw := word_of x h
  have hr : x % 9223372036854775808 < 9218868437227405312 := by unfold badF at hb; simpa using hb
  generalize decide (9223372036854775808 ≤ x) = ng at hw
  generalize x % 9223372036854775808 = r at *
  rw [← hw]
  have e := order_word ng false r 0 hr (by decide)
  rw [show Ieee.double.word false 0 = 0 from rfl] at e
  rw [e]
  have hv : vR 0 = 0 := rfl
  by_cases h0 : r = 0
  · subst h0
    rw [hv]
    cases ng <;> rfl
  · have hp : 0 < vR r := by
      have hm : 0 < mantR r := by unfold mantR; split <;> first | omega | (unfold b52; omega)
      unfold vR
      exact Nat.mul_pos hm (Nat.two_pow_pos _)
    rw [decide_eq_false h0, hv]
    cases ng
    · have : compare (sv false (vR r)) (sv false 0) = Ordering.gt := by
        rw [Int.compare_eq_gt]; unfold sv; simp; omega
      rw [this]; rfl
    · have : compare (sv true (vR r)) (sv false 0) = Ordering.lt := by
        rw [Int.compare_eq_lt]; unfold sv; simp; omega
      rw [this]; rfl
def sgB (x : Nat) : ByteArray := if 9223372036854775808 ≤ x then ⟨#[45]⟩ else ⟨#[]⟩
/-- the text of a float: none -/
theorem ftext_bad (x : Nat) (w : World) (h : x < 18446744073709551616) (hb : badF x = true) : Calls Tryz.prog 7 #[.float .f64 x] w fun e w' => e = .returned (.string ⟨#[]⟩) ∧ Below w.heap.size w w' := by
  have NA := hide (isNaN_any x w h)
  cases hn : nanB x
  · have IN := hide (isInf_ok x w h hn)
    rw [hn] at NA
    rw [hb] at IN
    clear hb hn h
    go_enter Tryz.func7, Tryz.ntmps7
    go_wp2_with fail
    refine (unhide NA).mono ?_
    rintro e w1 ⟨rfl, hw⟩
    subst hw
    go_wp2_with fail
    refine (unhide IN).mono ?_
    rintro e w1 ⟨rfl, hw⟩
    subst hw
    go_wp2
    go_ret
    exact ⟨rfl, Below.refl _ _⟩
  · rw [hn] at NA
    clear hb hn h
    go_enter Tryz.func7, Tryz.ntmps7
    go_wp2_with fail
    refine (unhide NA).mono ?_
    rintro e w1 ⟨rfl, hw⟩
    subst hw
    go_wp2
    go_ret
    exact ⟨rfl, Below.refl _ _⟩
theorem nan_bad {x : Nat} (hb : badF x = false) : nanB x = false := by
  unfold badF at hb
  unfold nanB
  have := of_decide_eq_false hb
  exact decide_eq_false (by omega)
/-- the text of a nought -/
theorem ftext_nought (x : Nat) (w : World) (h : x < 18446744073709551616) (h0 : x % 9223372036854775808 = 0) : Calls Tryz.prog 7 #[.float .f64 x] w fun e w' => e = .returned (.string (sgB x ++ ⟨#[48, 46, 48]⟩)) ∧ Below w.heap.size w w' := by
  have hb : badF x = false := by unfold badF; rw [h0]; rfl
  have hn := nan_bad hb
  have NA := hide (isNaN_any x w h)
  have IN := hide (isInf_ok x w h hn)
  have SG := hide (sign_ok x w h)
  have EQ := eq_nought x h hb
  rw [hn] at NA
  rw [hb] at IN
  rw [decide_eq_true h0] at EQ
  have hs : (sgB x).size ≤ 1 := by unfold sgB; split <;> decide
  have HG := hide (show sgB x = if 9223372036854775808 ≤ x then ⟨#[45]⟩ else ⟨#[]⟩ from rfl)
  by_cases hx : 9223372036854775808 ≤ x
  · rw [decide_eq_true hx] at SG
    rw [unhide HG, if_pos hx]
    clear hx hb hn h h0 HG hs
    go_enter Tryz.func7, Tryz.ntmps7
    go_wp2_with fail
    refine (unhide NA).mono ?_
    rintro e w1 ⟨rfl, hw⟩
    subst hw
    go_wp2_with fail
    refine (unhide IN).mono ?_
    rintro e w1 ⟨rfl, hw⟩
    subst hw
    go_wp2_with fail
    refine (unhide SG).mono ?_
    rintro e w1 ⟨rfl, hw⟩
    subst hw
    go_wp2
    go_ret
    exact ⟨rfl, Below.refl _ _⟩
  · rw [decide_eq_false hx] at SG
    rw [unhide HG, if_neg hx]
    clear hx hb hn h h0 HG hs
    go_enter Tryz.func7, Tryz.ntmps7
    go_wp2_with fail
    refine (unhide NA).mono ?_
    rintro e w1 ⟨rfl, hw⟩
    subst hw
    go_wp2_with fail
    refine (unhide IN).mono ?_
    rintro e w1 ⟨rfl, hw⟩
    subst hw
    go_wp2_with fail
    refine (unhide SG).mono ?_
    rintro e w1 ⟨rfl, hw⟩
    subst hw
    go_wp2
    go_ret
    exact ⟨rfl, Below.refl _ _⟩
end Go.Proofs.YtjfdjpaocdhbbaaGreatDoor.fto
