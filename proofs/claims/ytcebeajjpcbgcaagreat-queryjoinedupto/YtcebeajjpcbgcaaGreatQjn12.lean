import Derived.Test.YtcebeajjpcbgcaaGreatQjn11
set_option linter.unusedVariables false
set_option linter.unusedSimpArgs false
namespace Go.Proofs.YtcebeajjpcbgcaaGreat.lx
open mem (pfx digB digs digAt isAt bWhole bPart bPoint bMark pfxFirst pfxR posT enB prB)
open cu (Tk)
structure Loc (l l' : List Int) (T : Nat) : Prop where
 tk : l'.take T = l.take T
 le : T ≤ l.length
 nl : cAt l' T = 10
section
variable {l l' : List Int} {T : Nat} (H : Loc l l' T)
include H
theorem Loc.lt : T < l'.length := cAt_lt H.nl (by decide)
theorem Loc.get {i : Nat} (hi : i < T) : l'[i]? = l[i]? := by
 have h1 : (l'.take T)[i]? = (l.take T)[i]? := by rw [H.tk]
 rwa [List.getElem?_take, List.getElem?_take, if_pos hi, if_pos hi] at h1
theorem Loc.getD {i : Nat} (hi : i < T) : l'.getD i 0 = l.getD i 0 := by
 rw [List.getD_eq_getElem?_getD, List.getD_eq_getElem?_getD, H.get hi]
theorem Loc.at_ {i : Nat} (hi : i < T) : cAt l' i = cAt l i := by
 have := H.lt
 have := H.le
 rw [cAt_in (by omega), cAt_in (by omega), H.getD hi]
theorem ign_loc : ∀ (n : Nat) (b : Bool) (i : Nat), T ≤ i + n → ign l b i < T → ign l' b i = ign l b i
 | 0, b, i, h, h2 => by have := (ign_le l b i).1; omega
 | n + 1, b, i, h, h2 => by
  have hi : i < T := Nat.lt_of_le_of_lt (ign_le l b i).1 h2
  have hc := H.at_ hi
  cases b with
  | false =>
   rw [ign_f l i] at h2 ⊢
   rw [ign_f l' i, hc]
   split
   ·rename_i h3; rw [if_pos h3] at h2; exact ign_loc n false (i + 1) (by omega) h2
   ·rename_i h3; rw [if_neg h3] at h2
    split
    ·rename_i h4; rw [if_pos h4] at h2; exact ign_loc n true (i + 1) (by omega) h2
    ·rfl
  | true =>
   rw [ign_t l i] at h2 ⊢
   rw [ign_t l' i, hc]
   split
   ·rename_i h3; rw [if_pos h3] at h2; exact ign_loc n false (i + 1) (by omega) h2
   ·rename_i h3; rw [if_neg h3] at h2
    split
    ·rename_i h4; rw [if_pos h4] at h2; exact ign_loc n true (i + 1) (by omega) h2
    ·rfl
theorem nam_loc : ∀ (n : Nat) (i : Nat), T + 1 ≤ i + n → nam l i ≤ T → nam l' i = nam l i
 | 0, i, h, h2 => by have := (nam_le l i).1; omega
 | n + 1, i, h, h2 => by
  have hi : i ≤ T := Nat.le_trans (nam_le l i).1 h2
  by_cases e : i = T
  ·subst e
   have h3 : nam l i = i := Nat.le_antisymm h2 (nam_le l i).1
   rw [h3, nam_eq l' i, H.nl]
   rfl
  ·have hc := H.at_ (i := i) (by omega)
   rw [nam_eq l i] at h2 ⊢
   rw [nam_eq l' i, hc]
   split
   ·rename_i h3; rw [if_pos h3] at h2; exact nam_loc n (i + 1) (by omega) h2
   ·rfl
omit H in
theorem digAt_c (l : List Int) (p : Nat) : digAt l p = digB (cAt l p) := by
 unfold digAt cAt
 by_cases h : p < l.length
 ·simp [h]
 ·simp [h, digB]
omit H in
theorem isAt_c (l : List Int) (p : Nat) (c : Int) (hc : c ≠ -1) : isAt l p c = decide (cAt l p = c) := by
 unfold isAt cAt
 by_cases h : p < l.length
 ·simp [h, BEq.beq]
 ·simp [h]; exact fun e => hc e.symm
omit H in
theorem digs_eq (l : List Int) (p : Nat) : digs l p = if digAt l p then digs l (p + 1) else p := by
 cases h : digAt l p
 ·rw [mem.digs_no h]; rfl
 ·rw [mem.digs_yes h]; rfl
theorem digs_loc : ∀ (n : Nat) (i : Nat), T + 1 ≤ i + n → digs l i ≤ T → digs l' i = digs l i
 | 0, i, h, h2 => by have := (mem.digs_le l i).1; omega
 | n + 1, i, h, h2 => by
  have hi : i ≤ T := Nat.le_trans (mem.digs_le l i).1 h2
  by_cases e : i = T
  ·subst e
   have h3 : digs l i = i := Nat.le_antisymm h2 (mem.digs_le l i).1
   rw [h3, digs_eq l' i, digAt_c, H.nl]
   rfl
  ·have hc := H.at_ (i := i) (by omega)
   rw [digs_eq l i] at h2 ⊢
   rw [digs_eq l' i, digAt_c, digAt_c, hc]
   rw [digAt_c] at h2
   split
   ·rename_i h3; rw [if_pos h3] at h2; exact digs_loc n (i + 1) (by omega) h2
   ·rfl
theorem pfxR_loc {e : Nat} (he : (pfxR l e).1 ≤ T) (h46 : cAt l (pfxR l e).1 ≠ 46) (hnr : nrB (cAt l (pfxR l e).1) = false) : pfxR l' e = pfxR l e := by
 have hge : ∀ g, g ≤ (bPart l g (bMark l g)).1 := fun g => bPart_ge l g _ (by unfold bMark; split; omega; split <;> omega)
 have hpp : e ≤ bPoint l e := by unfold bPoint; split <;> omega
 have hb := bPart_ge l e (bPoint l e) hpp
 have hR : (bPart l e (bPoint l e)).1 ≤ (pfxR l e).1 := by
  unfold pfxR
  split
  ·exact hge _
  ·exact Nat.le_refl _
 have heT : e ≤ T := by omega
 have h46b : ∀ p, isAt l p 46 = decide (cAt l p = 46) := fun p => isAt_c l p 46 (by decide)
 have h46c : ∀ p, isAt l' p 46 = decide (cAt l' p = 46) := fun p => isAt_c l' p 46 (by decide)
 have hpt : bPoint l' e = bPoint l e := by
  unfold bPoint
  rw [h46b, h46c]
  by_cases h1 : e < T
  ·rw [H.at_ h1]
  ·have h2 : e = T := by omega
   have h3 : (pfxR l e).1 = e := by omega
   rw [h3] at h46
   rw [h2, H.nl, ← h2]
   simp [h46]
 have hfr : bPart l' e (bPoint l e) = bPart l e (bPoint l e) ∧ (bPart l e (bPoint l e)).1 = (bPart l e (bPoint l e)).2 := by
  by_cases h1 : bPoint l e = e
  ·unfold bPart
   rw [if_pos h1, if_pos h1]
   exact ⟨rfl, rfl⟩
  ·by_cases h2 : digs l (bPoint l e) = bPoint l e
   ·exfalso
    have h3 : bPart l e (bPoint l e) = (e, digs l (bPoint l e)) := by unfold bPart; rw [if_neg h1, if_pos h2]
    have h4 : pfxR l e = (e, digs l (bPoint l e)) := by
     unfold pfxR
     rw [h3]
     simp only
     rw [if_neg (by rw [h2]; exact fun e' => h1 e'.symm)]
    rw [h4] at h46
    apply h46
    unfold bPoint at h1
    cases h5 : isAt l e 46
    ·rw [h5] at h1; exact absurd rfl h1
    ·rw [h46b] at h5; simpa using h5
   ·have h3 : bPart l e (bPoint l e) = (digs l (bPoint l e), digs l (bPoint l e)) := by unfold bPart; rw [if_neg h1, if_neg h2]
    rw [h3] at hR
    have h4 := digs_loc H (T + 1) (bPoint l e) (by omega) (by simp only at hR; omega)
    refine ⟨?_, by rw [h3]⟩
    rw [h3]
    unfold bPart
    rw [if_neg h1, h4, if_neg h2]
 obtain ⟨g, hg⟩ : ∃ g, g = (bPart l e (bPoint l e)).1 := ⟨_, rfl⟩
 have hRe : pfxR l e = bPart l g (bMark l g) := by unfold pfxR; rw [if_pos hfr.2, ← hg]
 have hRe' : pfxR l' e = bPart l' g (bMark l' g) := by unfold pfxR; rw [hpt, hfr.1, if_pos hfr.2, ← hg]
 rw [← hg] at hR
 have he1 : ∀ p, isAt l p 101 = decide (cAt l p = 101) := fun p => isAt_c l p 101 (by decide)
 have he2 : ∀ p, isAt l p 69 = decide (cAt l p = 69) := fun p => isAt_c l p 69 (by decide)
 have he1' : ∀ p, isAt l' p 101 = decide (cAt l' p = 101) := fun p => isAt_c l' p 101 (by decide)
 have he2' : ∀ p, isAt l' p 69 = decide (cAt l' p = 69) := fun p => isAt_c l' p 69 (by decide)
 rw [hRe', hRe]
 by_cases hm : isAt l g 101 = false ∧ isAt l g 69 = false
 ·have hm' : isAt l' g 101 = false ∧ isAt l' g 69 = false := by
   by_cases h1 : g < T
   ·rw [he1', he2', H.at_ h1, ← he1, ← he2]; exact hm
   ·have h2 : g = T := by omega
    rw [he1', he2', h2, H.nl]
    decide
  have e1 : bMark l g = g := by unfold bMark; rw [if_pos hm]
  have e2 : bMark l' g = g := by unfold bMark; rw [if_pos hm']
  rw [e1, e2]
  unfold bPart
  rw [if_pos rfl, if_pos rfl]
 ·have hc : cAt l g = 101 ∨ cAt l g = 69 := by
   rw [he1, he2] at hm
   simp only [decide_eq_false_iff_not] at hm
   by_cases h : cAt l g = 101
   ·exact .inl h
   ·exact .inr (Classical.not_not.1 (fun h' => hm ⟨h, h'⟩))
  have hgn : nrB (cAt l g) = true := by rcases hc with h | h <;> rw [h] <;> decide
  have hne : g ≠ (pfxR l e).1 := fun e' => by rw [← e', hgn] at hnr; cases hnr
  have hgT : g < T := by omega
  have hk : bMark l g = g + 1 ∨ bMark l g = g + 2 := by unfold bMark; rw [if_neg hm]; split; exact .inr rfl; exact .inl rfl
  have hkg : bMark l g ≠ g := by omega
  by_cases hd : digs l (bMark l g) = bMark l g
  ·exfalso
   have : bPart l g (bMark l g) = (g, digs l (bMark l g)) := by unfold bPart; rw [if_neg hkg, if_pos hd]
   rw [hRe, this] at hne
   exact hne rfl
  ·have h3 : bPart l g (bMark l g) = (digs l (bMark l g), digs l (bMark l g)) := by unfold bPart; rw [if_neg hkg, if_neg hd]
   rw [hRe, h3] at he
   simp only at he
   have h5 := (mem.digs_le l (bMark l g)).1
   have hg1 : g + 1 < T := by omega
   have hs1 : ∀ c : Int, c ≠ -1 → isAt l' (g + 1) c = isAt l (g + 1) c := fun c hc => by rw [isAt_c _ _ _ hc, isAt_c _ _ _ hc, H.at_ hg1]
   have hmk : bMark l' g = bMark l g := by
    unfold bMark
    rw [he1', he2', H.at_ hgT, ← he1, ← he2, hs1 43 (by decide), hs1 45 (by decide)]
   have h4 := digs_loc H (T + 1) (bMark l g) (by omega) he
   rw [hmk, h3]
   unfold bPart
   rw [if_neg hkg, h4, if_neg hd]
theorem pfx_loc {p : Nat} (hf : (pfx l p).2.2 ≠ 0) (ht : (pfx l p).1 ≤ T) (h46 : cAt l (pfx l p).1 ≠ 46) (hnr : nrB (cAt l (pfx l p).1) = false) : pfx l' p = pfx l p := by
 have hw : ¬ bWhole l (pfxFirst l p) = pfxFirst l p := fun e => hf (by unfold pfx; rw [if_pos e])
 have hpx : pfx l p = ((pfxR l (bWhole l (pfxFirst l p))).1, (pfxR l (bWhole l (pfxFirst l p))).2, if (pfxR l (bWhole l (pfxFirst l p))).1 > bWhole l (pfxFirst l p) then 2 else 1) := by unfold pfx; rw [if_neg hw]
 rw [hpx] at ht h46 hnr
 simp only at ht h46 hnr
 have hge : ∀ g, g ≤ (bPart l g (bMark l g)).1 := fun g => bPart_ge l g _ (by unfold bMark; split; omega; split <;> omega)
 have hR : bWhole l (pfxFirst l p) ≤ (pfxR l (bWhole l (pfxFirst l p))).1 := by
  have hpp : ∀ e, e ≤ bPoint l e := fun e => by unfold bPoint; split <;> omega
  have hb := fun e => bPart_ge l e (bPoint l e) (hpp e)
  unfold pfxR
  split
  ·exact Nat.le_trans (hb _) (hge _)
  ·exact hb _
 have hwl : pfxFirst l p ≤ bWhole l (pfxFirst l p) := by
  unfold bWhole
  split
  ·omega
  ·exact (mem.digs_le l _).1
 have hfp : p ≤ pfxFirst l p := by unfold pfxFirst; split <;> omega
 have hpT : p < T := by omega
 have hfT : pfxFirst l p < T := by omega
 have hfi : pfxFirst l' p = pfxFirst l p := by unfold pfxFirst; rw [isAt_c _ _ _ (by decide), isAt_c _ _ _ (by decide), H.at_ hpT]
 have hwe : bWhole l' (pfxFirst l p) = bWhole l (pfxFirst l p) := by
  unfold bWhole
  rw [isAt_c _ _ _ (by decide), isAt_c _ _ _ (by decide), H.at_ hfT]
  split
  ·rfl
  ·rename_i h0
   refine digs_loc H (T + 1) _ (by omega) ?_
   have : bWhole l (pfxFirst l p) = digs l (pfxFirst l p) := by unfold bWhole; rw [isAt_c _ _ _ (by decide), if_neg h0]
   omega
 have hre := pfxR_loc H ht h46 hnr
 rw [hpx]
 unfold pfx
 rw [hfi, hwe, if_neg hw, hre]
theorem num_loc {i : Nat} (hk : (num l i).1 ≠ 1) (ht : (num l i).2 ≤ T) : num l' i = num l i := by
 have hc : ¬ (cAt l (pfx l i).1 = 46 ∨ nrB (cAt l (pfx l i).1) = true) := fun e => hk (by unfold num; rw [if_pos e])
 have h46 : cAt l (pfx l i).1 ≠ 46 := fun e => hc (.inl e)
 have hnr : nrB (cAt l (pfx l i).1) = false := by
  cases h : nrB (cAt l (pfx l i).1)
  ·rfl
  ·exact absurd (.inr h) hc
 have hf : (pfx l i).2.2 = 1 ∨ (pfx l i).2.2 = 2 := by
  by_cases h1 : (pfx l i).2.2 = 1
  ·exact .inl h1
  ·by_cases h2 : (pfx l i).2.2 = 2
   ·exact .inr h2
   ·exact absurd (by unfold num; rw [if_neg hc, if_neg h1, if_neg h2]) hk
 have ht2 : (pfx l i).1 ≤ T := by
  unfold num at ht
  rw [if_neg hc] at ht
  rcases hf with h | h
  ·rw [if_pos h] at ht; exact ht
  ·rw [if_neg (by rw [h]; decide), if_pos h] at ht; exact ht
 have he := pfx_loc H (by rcases hf with h | h <;> rw [h] <;> decide) ht2 h46 hnr
 have hc' : ¬ (cAt l' (pfx l i).1 = 46 ∨ nrB (cAt l' (pfx l i).1) = true) := by
  by_cases h1 : (pfx l i).1 < T
  ·rw [H.at_ h1]; exact hc
  ·have h2 : (pfx l i).1 = T := by omega
   rw [h2, H.nl]
   decide
 unfold num
 rw [he, if_neg hc, if_neg hc']
theorem insZ_loc {p i : Nat} (hi : i ≤ T) : insZ l' p i = insZ l p i := by
 unfold insZ
 have e : ∀ m : List Int, (m.drop p).take (i - p) = ((m.take T).drop p).take (i - p) := fun m => by
  rw [List.drop_take, List.take_take, Nat.min_eq_left (by omega)]
 rw [e l', e l, H.tk]
theorem tq_loc {i : Nat} (hi : i + 2 < T) : tq l' i = tq l i := by
 unfold tq
 rw [H.at_ (by omega), H.at_ (by omega), H.at_ hi]
theorem endB_loc : ∀ (k j i : Nat), endB l k j = some i → i + 3 ≤ T → ∀ k', i < j + k' → endB l' k' j = some i
 | 0, j, i, h, _, _, _ => by cases h
 | k + 1, j, i, h, hT, k', hk' => by
  have hle := endB_le l _ _ _ h
  cases k' with
  | zero => omega
  | succ k' =>
   unfold endB at h ⊢
   rw [tq_loc H (by omega)]
   split at h
   ·rename_i ht; rw [if_pos ht]; exact h
   rename_i ht; rw [if_neg ht]
   have hji : j < i := by
    rcases Nat.lt_or_ge j i with h1 | h1
    ·exact h1
    ·exfalso
     have : j = i := by omega
     rw [this] at ht
     exact ht hle.2
   rw [H.at_ (by omega), tq_loc H (by omega)]
   split at h
   ·rename_i h2; rw [if_pos h2]; exact endB_loc k _ i h hT k' (by omega)
   rename_i h2; rw [if_neg h2]
   split at h
   ·cases h
   ·rename_i h3; rw [if_neg h3]; exact endB_loc k _ i h hT k' (by omega)
theorem endQ_loc : ∀ (k j i : Nat), endQ l k j = some i → i + 1 ≤ T → ∀ k', i < j + k' → endQ l' k' j = some i
 | 0, j, i, h, _, _, _ => by cases h
 | k + 1, j, i, h, hT, k', hk' => by
  have hle := endQ_le l _ _ _ h
  cases k' with
  | zero => omega
  | succ k' =>
   unfold endQ at h ⊢
   rw [H.at_ (by omega)]
   split at h
   ·rename_i ht; rw [if_pos ht]; exact h
   rename_i ht; rw [if_neg ht]
   have hji : j < i := by
    rcases Nat.lt_or_ge j i with h1 | h1
    ·exact h1
    ·exfalso
     have : j = i := by omega
     rw [this] at ht
     exact ht hle.2
   rw [H.at_ (i := j + 1) (by omega)]
   split at h
   ·rename_i h2
    rw [if_pos h2]
    split at h
    ·cases h
    ·rename_i h3; rw [if_neg h3]; exact endQ_loc k _ i h hT k' (by omega)
   rename_i h2; rw [if_neg h2]
   split at h
   ·cases h
   ·rename_i h3; rw [if_neg h3]; exact endQ_loc k _ i h hT k' (by omega)
theorem rdG_loc {cl cl' : Bool} {F : Nat} (hF : F ≤ l.length) (h0 : (rdG l cl F).1 ≠ 0) (h1 : (rdG l cl F).1 ≠ 1) (ht : (rdG l cl F).2.1 ≤ T) : rdG l' cl' F = rdG l cl F := by
 have hle := rdG_le l cl F hF
 have hFT : F < T := by rcases hle.2.2 with h | h | h; exact absurd h h0; exact absurd h h1; omega
 have hc := H.at_ hFT
 have hlt := H.lt
 have hn0 : ¬ (F = l.length ∧ cl = true) := fun e => h0 (by unfold rdG; rw [if_pos e])
 have hn0' : ¬ (F = l'.length ∧ cl' = true) := fun e => by omega
 unfold rdG at h0 h1 ht ⊢
 rw [if_neg hn0] at h0 h1 ht ⊢
 rw [if_neg hn0', hc]
 split
 ·rename_i h46
  rw [if_pos h46] at h0 h1 ht
  by_cases hd : cAt l (F + 1) = 46 ∧ cAt l (F + 2) = 46
  ·rw [if_pos hd] at ht
   simp only at ht
   rw [if_pos hd, H.at_ (by omega), H.at_ (by omega), if_pos hd]
  ·rw [if_neg hd] at h1; exact absurd rfl h1
 rename_i h46
 rw [if_neg h46] at h0 h1 ht
 split
 ·rfl
 rename_i hpu
 rw [if_neg hpu] at h0 h1 ht
 split
 ·rename_i hns
  rw [if_pos hns] at ht
  simp only at ht
  rw [nam_loc H (T + 1) (F + 1) (by omega) ht]
 rename_i hns
 rw [if_neg hns] at h0 h1 ht
 split
 ·rename_i hnu
  rw [if_pos hnu] at h1 ht
  simp only at h1 ht
  rw [num_loc H h1 ht]
 rename_i hnu
 rw [if_neg hnu] at h0 h1 ht
 by_cases htq : tq l F = true
 ·rw [if_pos htq] at h1 ht
  have h3 := tq_len l F htq
  have key : ∃ i, endB l (l.length + 2) (F + 3) = some i := by
   unfold blc at h1
   cases e : endB l (l.length + 2) (F + 3) with
   | none => rw [e] at h1; exact absurd rfl h1
   | some i => exact ⟨i, rfl⟩
  obtain ⟨i, hi⟩ := key
  have hib := endB_le l _ _ _ hi
  have hto : (blc sv.bS l F).2.1 = i + 3 := by unfold blc; rw [hi]; rfl
  rw [hto] at ht
  have htq' : tq l' F = true := by rw [tq_loc H (by omega)]; exact htq
  rw [if_pos htq', if_pos htq]
  have he := endB_loc H _ _ _ hi ht (l'.length + 2) (by omega)
  unfold blc
  rw [he, hi]
  simp only [blcR]
  rw [insZ_loc H (by omega)]
 ·rw [if_neg htq] at h0 h1 ht
  by_cases h34 : cAt l F = 34
  ·rw [if_pos h34] at h1 ht
   have key : ∃ i r, endQ l (l.length + 2) (F + 1) = some i ∧ quo (insZ l (F + 1) i) = some r := by
    unfold qtd at h1
    cases e : endQ l (l.length + 2) (F + 1) with
    | none => rw [e] at h1; exact absurd rfl h1
    | some i =>
     rw [e] at h1
     simp only [qtdR] at h1
     cases e2 : quo (insZ l (F + 1) i) with
     | none => rw [e2] at h1; exact absurd rfl h1
     | some r => exact ⟨i, r, rfl, e2⟩
   obtain ⟨i, r, hi, hr⟩ := key
   have hib := endQ_le l _ _ _ hi
   have hto : (qtd l F).2.1 = i + 1 := by unfold qtd; rw [hi]; simp only [qtdR, hr]
   rw [hto] at ht
   have htq' : ¬ tq l' F = true := by
    intro e
    unfold tq at e htq
    have e := of_decide_eq_true e
    have h1' : cAt l (F + 1) = 34 := by rw [← H.at_ (by omega)]; exact e.2.1
    have hiF : i = F + 1 := by
     unfold endQ at hi
     rw [if_pos h1'] at hi
     exact (Option.some.inj hi).symm
    have h2' : cAt l' (F + 2) = 34 := e.2.2
    by_cases hT2 : F + 2 < T
    ·rw [H.at_ hT2] at h2'
     exact htq (by simp [h34, h1', h2'])
    ·have : F + 2 = T := by omega
     rw [this, H.nl] at h2'
     exact absurd h2' (by decide)
   rw [if_neg htq', if_neg htq, if_pos h34, if_pos h34]
   have he := endQ_loc H _ _ _ hi ht (l'.length + 2) (by omega)
   unfold qtd
   rw [he, hi]
   simp only [qtdR]
   rw [insZ_loc H (by omega)]
  ·rw [if_neg h34] at h1; exact absurd rfl h1
theorem posT_loc : ∀ (k : Nat), k < T → posT l' k = posT l k
 | 0, _ => rfl
 | k + 1, hk => by
  have ih := posT_loc k (by omega)
  have h1 := H.lt
  have h2 := H.le
  have he : enB l' k = enB l k := by
   unfold enB prB
   rw [H.getD (by omega), H.getD (by omega)]
   simp [show k + 1 < l.length by omega, show k + 1 < l'.length by omega]
  simp only [posT, he, ih]
theorem tkG_loc {cl cl' : Bool} {i : Nat} (hi : i ≤ l.length) (h0 : (tkG l cl i).k ≠ 0) (h1 : (tkG l cl i).k ≠ 1) (ht : (tkG l cl i).to ≤ T) : tkG l' cl' i = tkG l cl i := by
 have hF := (ign_le l false i).2 hi
 have hle := rdG_le l cl (ign l false i) hF
 have hFT : ign l false i < T := by
  rcases hle.2.2 with h | h | h
  ·exact absurd h h0
  ·exact absurd h h1
  ·exact Nat.lt_of_lt_of_le h ht
 have hg := ign_loc H T false i (by omega) hFT
 have hr := rdG_loc H (cl' := cl') hF h0 h1 ht
 unfold tkG
 rw [hg, hr, posT_loc H _ hFT]
 congr 1
 have e : ∀ m : List Int, m.take (rdG l cl (ign l false i)).2.1 = (m.take T).take (rdG l cl (ign l false i)).2.1 := fun m => by
  rw [List.take_take, Nat.min_eq_left (show (rdG l cl (ign l false i)).2.1 ≤ T from ht)]
 rw [e l', e l, H.tk]
end
end Go.Proofs.YtcebeajjpcbgcaaGreat.lx
namespace Go.Proofs.YtcebeajjpcbgcaaGreat.cu
open dt (Dt)
open mem (decF decZ putB scB Byt posT enB)
open lx (toks chs cln tksG tkG)
theorem decF_app : ∀ (zs : List Int) (f : Nat) (r : List Int), zs.all scB = true → decF (zs.length + f) (zs.flatMap putB ++ r) = (zs ++ (decF f r).1, (zs.flatMap putB).length + (decF f r).2)
 | [], f, r, _ => by simp
 | c :: zs, f, r, h => by
  rw [List.all_cons, Bool.and_eq_true] at h
  have hc := (mem.scB_iff c).1 h.1
  have ho := mem.one_put c hc (zs.flatMap putB ++ r)
  have hn : 0 < (putB c).length := by unfold putB; split <;> (try split) <;> (try split) <;> simp
  rw [List.flatMap_cons, List.append_assoc, List.length_cons, show zs.length + 1 + f = (zs.length + f) + 1 by omega, mem.decF_go _ _ (by rw [ho]; simp only; omega), ho]
  simp only
  rw [show (putB c ++ (zs.flatMap putB ++ r)).drop (putB c).length = zs.flatMap putB ++ r by simp, decF_app zs f r h.2]
  simp
  omega
theorem decF_fuel : ∀ (f g : Nat) (l : List Int), l.length ≤ f → l.length ≤ g → decF f l = decF g l
 | 0, g, l, hf, hg => by
  have : l = [] := List.eq_nil_of_length_eq_zero (by omega)
  subst this
  rw [mem.decF_end _ _ (by decide), mem.decF_end _ _ (by decide)]
 | f + 1, 0, l, hf, hg => by
  have : l = [] := List.eq_nil_of_length_eq_zero (by omega)
  subst this
  rw [mem.decF_end _ _ (by decide), mem.decF_end _ _ (by decide)]
 | f + 1, g + 1, l, hf, hg => by
  by_cases h : (mem.oneL l).2 = 0
  ·rw [mem.decF_end _ _ h, mem.decF_end _ _ h]
  ·have := mem.oneL_le l
   rw [mem.decF_go _ _ h, mem.decF_go _ _ h, decF_fuel f g _ (by simp; omega) (by simp; omega)]
def behind (l : List Int) (T : Nat) (tl : List Int) : List Int := (l.take T).flatMap putB ++ 10 :: tl
open dt (Dt Kp RowAt Ow Grow)
theorem bodyS_faults {L : LitR} {S : LstR} (hG : Goes L) {b : Nat} (hS : Faults S b) (k : Int) (nm on : ByteArray) (vs : List Dt) (t : Tk) : Faults (bodyS L S k nm on vs t) b := by
 intro c hc hl hn
 have h1 := dirs_stp hG hc
 have h3 := hS _ h1.ok (by rw [h1.ts]; have := h1.ix; omega)
 unfold bodyS at hn ⊢
 cases hq : (S (dirs L c).2).1 with
 | none => exact h3 hq
 | some l => rw [hq] at hn; cases hn
theorem operS_faults {f : Nat} {K L : LitR} {S : LstR} (hK : Goes K) (hG : Goes L) {b : Nat} (hS : Faults S b) (k : Int) (t : Tk) : Faults (operS (typF f) K L S k t) b := by
 intro c hc hl hn
 have h1 := opC_stp hc
 have h2 := h1.trans (varsS_stp (f := f) hK h1.ok)
 exact bodyS_faults hG hS _ _ _ _ _ _ h2.ok (by rw [h2.ts]; have := h2.ix; omega) hn
theorem fragS_faults {L : LitR} {S : LstR} (hG : Goes L) {b : Nat} (hS : Faults S b) (t : Tk) : Faults (fragS L S t) b := by
 intro c hc hl hn
 have h1 := fragC_stp hc
 have h2 := h1.trans (fragO_stp h1.ok)
 have h3 := h2.trans (name_stp h2.ok)
 exact bodyS_faults hG hS _ _ _ _ _ _ h3.ok (by rw [h3.ts]; have := h3.ix; omega) hn
theorem defS_faults {f : Nat} {K L : LitR} {S : LstR} (hK : Goes K) (hG : Goes L) {b : Nat} (hS : Faults S b) : Faults (defS (typF f) K L S) b := by
 intro c hc hl hn
 unfold defS at hn ⊢
 by_cases hp : c.isP bLc = true
 ·rw [if_pos hp] at hn ⊢
  cases hq : (S c).1 with
  | none => exact hS c hc hl hq
  | some ss => rw [hq] at hn; cases hn
 ·rw [if_neg hp] at hn ⊢
  by_cases hw : c.isW [bQuery, bMut, bSub, bFrag] = true
  ·rw [if_pos hw] at hn ⊢
   have h1 := takeN hc (isW_N hw)
   have hl1 : c.take.ts.length ≤ b + c.take.ix := by rw [h1.ts]; have := h1.ix; omega
   split at hn
   ·rename_i e; rw [if_pos e]; exact operS_faults hK hG hS _ _ _ h1.ok hl1 hn
   ·rename_i e1
    rw [if_neg e1]
    split at hn
    ·rename_i e; rw [if_pos e]; exact operS_faults hK hG hS _ _ _ h1.ok hl1 hn
    ·rename_i e2
     rw [if_neg e2]
     split at hn
     ·rename_i e; rw [if_pos e]; exact operS_faults hK hG hS _ _ _ h1.ok hl1 hn
     ·rename_i e3; rw [if_neg e3]; exact fragS_faults hG hS _ _ h1.ok hl1 hn
  ·rw [if_neg hw]
   exact stop_kd _ _ (by decide)
theorem defsF_faults {D : LitR} (hG : Goes D) {b : Nat} (hD : Faults D b) : ∀ (g : Nat) (l : List Dt) (c : Cu), c.Ok → c.ts.length ≤ b + c.ix → c.ts.length ≤ g + c.ix → (defsF D g l c).1 = none → (defsF D g l c).2.kd ≠ 0
 | 0, l, c, h, hb, hg, hn => by have := h.lt; omega
 | g + 1, l, c, h, hb, hg, hn => by
  simp only [defsF] at hn ⊢
  by_cases hc : l.length = 0 ∨ c.tok.k ≠ 0
  ·rw [if_pos hc] at hn
   rw [if_pos hc]
   have hs := hG c h
   cases hq : (D c).1 with
   | none => exact hD c h hb hq
   | some d =>
    rw [hq] at hn
    have hi := hs.2 (by rw [hq]; rfl)
    exact defsF_faults hG hD g _ _ hs.1.ok (by rw [hs.1.ts]; omega) (by rw [hs.1.ts]; omega) hn
  ·rw [if_neg hc] at hn
   rw [if_neg hc]
   show c.fin.kd ≠ 0
   unfold Cu.fin
   cases hf : c.finB with
   | true => rw [hf] at hn; cases hn
   | false => rw [if_neg (by decide)]; exact stop_kd _ _ (by decide)
theorem docS_faults (c : Cu) (h : c.Ok) (hn : (docS c).1 = none) : (docS c).2.kd ≠ 0 :=
 defsF_faults (defN_goes _) (defS_faults (litF_goes true _) (litF_goes false _) (selsF_faults (litF_goes false _) (litF_faults false _) _ (Nat.le_refl _))) _ _ c h (by omega) (by omega) hn
def docG (z : List Int) (d : Int) : Option (List Dt) × Cu := docS (newG z d)
theorem unm_faults {T : TypR} {b : Nat} (hF : Faults T b) : Faults (unm T) (b + 1) := by
 intro c hc hb hn
 unfold unm at hn ⊢
 by_cases hp : c.isP bLb = true
 ·rw [if_pos hp] at hn ⊢
  by_cases hB : c.opB bLb = true
  ·rw [if_pos hB] at hn ⊢
   have ho := opn_stp hc bLb
   have hx := opn_ix hB
   cases hq : (T (c.opn bLb)).1 with
   | none => exact hF _ ho.ok (by rw [ho.ts, hx]; omega) hq
   | some it =>
    rw [hq] at hn
    dsimp only at hn ⊢
    by_cases hr : (T (c.opn bLb)).2.isP bRb = true
    ·rw [if_pos hr] at hn; cases hn
    ·rw [if_neg hr]
     show ((T (c.opn bLb)).2.cls bRb).kd ≠ 0
     unfold Cu.cls
     rw [if_neg hr]
     exact stop_kd _ _ (by decide)
  ·rw [if_neg hB]
   exact opn_kd (by simpa using hB)
 ·rw [if_neg hp] at hn ⊢
  by_cases hN : c.isN = true
  ·rw [if_pos hN] at hn; cases hn
  ·rw [if_neg hN]
   exact name_kd (by simpa using hN)
theorem typF_faults : ∀ f, Faults (typF f) f
 | 0 => fun c hc hb hn => by have := hc.lt; omega
 | f + 1 => fun c hc hb hn => by
  have hu := unm_faults (typF_faults f) c hc hb
  change (typ (unm (typF f)) c).1 = none at hn
  show (typ (unm (typF f)) c).2.kd ≠ 0
  unfold typ at hn ⊢
  cases hq : (unm (typF f) c).1 with
  | none => exact hu hq
  | some r =>
   rw [hq] at hn
   dsimp only at hn
   split at hn <;> cases hn
section
variable {M b : Nat}
theorem unmI_at {T : TypR} {u : Cu} : unmI T u = (match (T u).1 with | none => (none, (T u).2) | some it => (cond ((T u).2.isP bRb) (some (it.1, it.2 ++ bRb)) none, (T u).2.cls bRb)) := by
 unfold unmI
 show (match (T u).1 with | none => ret none | some it => bnd (clsR bRb) fun cl => ret (cond cl (some (it.1, it.2 ++ bRb)) none)) (T u).2 = _
 cases (T u).1 <;> rfl
theorem cls_no {c : Cu} {p : ByteArray} (h : ¬ c.isP p = true) : (c.cls p).kd ≠ 0 := by
 unfold Cu.cls
 rw [if_neg h]
 exact stop_kd _ _ (by decide)
theorem unmO_3 {T : TypR} (hF : Faults T b) (h : Ok3 M T b) : Ok3 M (bnd (opnR bLb) fun o => cond o (unmI T) (ret none)) (b + 1) := by
 have eq : ∀ c : Cu, (bnd (opnR bLb) fun o => cond o (unmI T) (ret none)) c = cond (c.opB bLb) (unmI T) (ret none) (c.opn bLb) := fun c => rfl
 have sU : St (unmI T) := unmI_st h.st
 refine ⟨(opnR_st bLb).bnd fun o => ite_st sU (ret_st _), fun c hc => ?_, fun c hc hb hi h0 hk => ?_, fun c hc hb hi h0 hk hw => ?_⟩
 ·rw [eq]
  have hB : c.opB bLb = false := by unfold Cu.opB; rw [isP_dead hc]; rfl
  rw [hB]
  show c.opn bLb = c
  unfold Cu.opn
  rw [isP_dead hc]
  exact stop_dead _ _ hc
 ·rw [eq] at hk ⊢
  have ho := opn_stp hc bLb
  by_cases hB : c.opB bLb = true
  ·rw [hB] at hk ⊢
   simp only [cond_true] at hk ⊢
   rw [unmI_at] at hk ⊢
   obtain ⟨h1, h2, h3⟩ := opn_yes hB
   have hI := opn_inv dl_lb hB hi
   have hkd : (c.opn bLb).kd = 0 := by rw [h3]; exact h0
   have hop : (c.opn bLb).op = c.op + 1 := by rw [h3]
   have hix := opn_ix hB
   have hb' : (c.opn bLb).ts.length ≤ b + (c.opn bLb).ix := by rw [ho.ts, hix]; omega
   cases hq : (T (c.opn bLb)).1 with
   | none => rw [hq] at hk; exact absurd hk (hF _ ho.ok hb' hq)
   | some it =>
    rw [hq] at hk
    dsimp only at hk ⊢
    by_cases hr : (T (c.opn bLb)).2.isP bRb = true
    ·rw [cls_yes hr] at hk ⊢
     obtain ⟨o1, i1⟩ := h.bal _ ho.ok hb' hI hkd hk
     refine ⟨by show (T (c.opn bLb)).2.op - 1 = c.op; omega, ?_⟩
     show (((T (c.opn bLb)).2.op - 1 : Nat) : Int) = dpt (T (c.opn bLb)).2.ts ((T (c.opn bLb)).2.ix + 1)
     rw [dpt_tok, dlt_isP hr, dl_rb]
     have hi' : ((T (c.opn bLb)).2.op : Int) = dpt (T (c.opn bLb)).2.ts (T (c.opn bLb)).2.ix := i1
     omega
    ·exact absurd hk (cls_no hr)
  ·have hB' : c.opB bLb = false := by simpa using hB
   rw [hB'] at hk
   exact absurd hk (opn_kd hB')
 ·rw [eq] at hk
  rw [eq, eq]
  have ho := opn_stp hc bLb
  by_cases hB : c.opB bLb = true
  ·rw [hB] at hk ⊢
   simp only [cond_true] at hk ⊢
   have sF := sU _ ho.ok
   rw [unmI_at] at hk
   obtain ⟨h1, h2, h3⟩ := opn_yes hB
   have hI := opn_inv dl_lb hB hi
   have hkd : (c.opn bLb).kd = 0 := by rw [h3]; exact h0
   have hop : (c.opn bLb).op = c.op + 1 := by rw [h3]
   have hix := opn_ix hB
   have hb' : (c.opn bLb).ts.length ≤ b + (c.opn bLb).ix := by rw [ho.ts, hix]; omega
   rcases opn_dep dl_lb hB h0 hi hw with ⟨l1, b1, e1⟩ | ⟨b1, d1⟩
   ·rw [b1, e1]
    simp only [cond_true]
    rw [unmI_at, unmI_at] at *
    cases hq : (T (c.opn bLb)).1 with
    | none => rw [hq] at hk; exact absurd hk (hF _ ho.ok hb' hq)
    | some it =>
     rw [hq] at hk sF
     dsimp only at hk sF ⊢
     by_cases hr : (T (c.opn bLb)).2.isP bRb = true
     ·have hk2 : (T (c.opn bLb)).2.kd = 0 := by rw [cls_yes hr] at hk; exact hk
      have sT := h.st _ ho.ok
      rcases h.dep _ ho.ok hb' hI hkd hk2 (by rw [ho.ts, hix]; exact l1) with ⟨l2, e2⟩ | d2
      ·rw [e2, hq]
       dsimp only
       have hr' : ((T (c.opn bLb)).2.at M).isP bRb = true := hr
       rw [cls_yes hr, cls_yes hr', hr, hr']
       left
       rw [ho.ts] at l2
       refine ⟨l2.succ ?_, rfl⟩
       have : dpt c.ts ((T (c.opn bLb)).2.ix + 1) = dpt c.ts (T (c.opn bLb)).2.ix + -1 := by
        have e := dpt_tok (T (c.opn bLb)).2
        rw [dlt_isP hr, dl_rb, sT.ts, ho.ts] at e
        exact e
       rw [this]
       have := l2.top
       omega
      ·right
       have hdd := d2.dead
       have := sF.ix
       have s3 := cls_stp sT.ok bRb
       cases hx : (T ((c.opn bLb).at M)).1 with
       | none => exact (d2.to s3.ix).of ho
       | some it' =>
        dsimp only
        have : (T ((c.opn bLb).at M)).2.cls bRb = (T ((c.opn bLb).at M)).2 := by unfold Cu.cls; rw [isP_dead hdd]; exact stop_dead _ _ hdd
        rw [this]
        exact (d2.to s3.ix).of ho
     ·exact absurd hk (cls_no hr)
   ·rw [b1]
    simp only [cond_false]
    exact .inr (d1 _ (by have := sF.ix; omega))
  ·have hB' : c.opB bLb = false := by simpa using hB
   rw [hB'] at hk
   exact absurd hk (opn_kd hB')
theorem unm_3 {T : TypR} (hF : Faults T b) (h : Ok3 M T b) : Ok3 M (unm T) (b + 1) := by
 rw [unm_eq]
 exact (isPR_3 _).bnd fun q => cond_3 (unmO_3 hF h) (nR_3.bnd fun n => ret_3 _)
theorem typF_3 : ∀ f, Ok3 M (typF f) f
 | 0 => ⟨typF_st 0, fun c hc => rfl, fun c hc hb => by have := hc.lt; omega, fun c hc hb => by have := hc.lt; omega⟩
 | f + 1 => by
  show Ok3 M (typ (unm (typF f))) (f + 1)
  rw [typ_eq]
  exact (unm_3 (typF_faults f) (typF_3 f)).bnd fun r => by
   cases r with
   | none => exact ret_3 _
   | some r => exact (punctR_3 _ dl_bang).bnd fun q => ret_3 _
theorem varQ_faults {f : Nat} {L : LitR} (hG : Goes L) (hF : Faults L b) : Faults (varQ (typF f) L) b := by
 intro c hc hb hn
 have h1 := varC3_stp hc
 have h2 := (typF_goes f _ h1.ok).1
 have h3 := varU_stp hG h2.ok
 have h13 := (h1.trans h2).trans h3
 have hd := dirs_faults hG hF _ h3.ok (by rw [h13.ts]; have := h13.ix; omega)
 simp only [varQ] at hn ⊢
 cases hq : (dirs L (varU L (typF f (varC3 c)).2)).1 with
 | none => exact hd hq
 | some ds => rw [hq] at hn; cases hn
theorem defsF_sti {D : LitR} (hD : Sti D) : ∀ (g : Nat) (l : List Dt) (c : Cu), c.kd ≠ 0 → (defsF D g l c).2 = c
 | 0, l, c, h => rfl
 | g + 1, l, c, h => by
  simp only [defsF]
  split
  ·have h1 := hD c h
   cases hq : (D c).1 with
   | none => exact h1
   | some d => dsimp only; rw [h1]; exact defsF_sti hD g _ c h
  ·show c.fin = c
   unfold Cu.fin
   split
   ·rfl
   ·exact stop_dead _ _ h
end
open Go.ChangeShapes Go.WideShapes Go.ChangeAt Go.RowKit
open ints (hide unhide)
open dt (Dt Kp RowAt Ow Grow OwIn)
open mem (Row)
theorem lit_cells {w : World} {k : Int} {tx : ByteArray} {bl : Bool} {its fls : List Dt} {ln co : Int} {cs : List Value} {F : List Nat} (h : Ow w (litD k tx bl (Dt.of its) (Dt.of fls) ln co) cs F) :
  ∃ ai ni ci af nf cf, cs = [.int .i64 k, .string tx, .bool bl, .slice ai ni ci, .slice af nf cf, .int .i64 ln, .int .i64 co] ∧ ni = its.length ∧ nf = fls.length ∧ ni ≤ ci ∧ nf ≤ cf ∧ ci ≤ maxLen ∧ cf ≤ maxLen ∧
   (∀ i e, its[i]? = some e → ∃ p ds G, ai = some ⟨p, 0, none⟩ ∧ p ∈ F ∧ RowAt w p (i * 7) ds ∧ ds.length = 7 ∧ Ow w e ds G ∧ ∀ b ∈ G, b ∈ F) ∧
   (∀ i e, fls[i]? = some e → ∃ p ds G, af = some ⟨p, 0, none⟩ ∧ p ∈ F ∧ RowAt w p (i * 10) ds ∧ ds.length = 10 ∧ Ow w e ds G ∧ ∀ b ∈ G, b ∈ F) := by
 unfold litD at h
 unfold Ow at h
 obtain ⟨d1, rfl, _, h⟩ := h
 unfold Ow at h
 obtain ⟨d2, rfl, _, h⟩ := h
 unfold Ow at h
 obtain ⟨d3, rfl, _, h⟩ := h
 unfold Ow at h
 obtain ⟨ai, ni, ci, d4, F1, F2, rfl, i1, i2, i3, i4, h, rfl⟩ := h
 unfold Ow at h
 obtain ⟨af, nf, cf, d5, F3, F4, rfl, j1, j2, j3, j4, h, rfl⟩ := h
 unfold Ow at h
 obtain ⟨d6, rfl, _, h⟩ := h
 unfold Ow at h
 obtain ⟨d7, rfl, _, h⟩ := h
 unfold Ow at h
 obtain ⟨rfl, rfl⟩ := h
 have key : ∀ (l : List Dt) (k : Nat) (a : Option Addr) (n : Nat) (G0 : List Nat), ((a = none ∧ Dt.of l = .nil ∧ n = 0 ∧ G0 = []) ∨ ∃ p G, a = some ⟨p, 0, none⟩ ∧ G0 = p :: G ∧ OwIn w (Dt.of l) k p 0 n G) → n = l.length ∧ ∀ i e, l[i]? = some e → ∃ p ds G, a = some ⟨p, 0, none⟩ ∧ p ∈ G0 ∧ RowAt w p (i * k) ds ∧ ds.length = k ∧ Ow w e ds G ∧ ∀ b ∈ G, b ∈ G0 := by
  intro l k a n G0 h
  rcases h with ⟨_, h2, h3, _⟩ | ⟨p, G, rfl, rfl, h⟩
  ·cases l with
   | nil => exact ⟨h3, fun i e he => by simp at he⟩
   | cons d l => unfold Dt.of at h2; cases h2
  ·obtain ⟨h1, h2⟩ := OwIn.get l k p 0 n G h
   refine ⟨h1.symm, fun i e he => ?_⟩
   obtain ⟨ds, Gi, g1, g2, g3, g4⟩ := h2 i e he
   exact ⟨p, ds, Gi, rfl, by simp, by simpa using g1, g2, g3, fun b hb => by simp [g4 b hb]⟩
 obtain ⟨e1, e2⟩ := key its 7 ai ni F1 i4
 obtain ⟨e3, e4⟩ := key fls 10 af nf F3 j4
 refine ⟨ai, ni, ci, af, nf, cf, rfl, e1, e3, i1, j1, i2, j2, fun i e he => ?_, fun i e he => ?_⟩
 ·obtain ⟨p, ds, G, g1, g2, g3, g4, g5, g6⟩ := e2 i e he
  exact ⟨p, ds, G, g1, by simp [g2], g3, g4, g5, fun b hb => by simp [g6 b hb]⟩
 ·obtain ⟨p, ds, G, g1, g2, g3, g4, g5, g6⟩ := e4 i e he
  exact ⟨p, ds, G, g1, by simp [g2], g3, g4, g5, fun b hb => by simp [g6 b hb]⟩
theorem fld_cells {w : World} {nm : ByteArray} {k : Int} {tx : ByteArray} {bl : Bool} {its fls : Dt} {ln co x y : Int} {cs : List Value} {F : List Nat} (h : Ow w (fldD nm (litD k tx bl its fls ln co) x y) cs F) :
  ∃ ai ni ci af nf cf, cs = [.string nm, .int .i64 k, .string tx, .bool bl, .slice ai ni ci, .slice af nf cf, .int .i64 ln, .int .i64 co, .int .i64 x, .int .i64 y] ∧ Ow w (litD k tx bl its fls ln co) [.int .i64 k, .string tx, .bool bl, .slice ai ni ci, .slice af nf cf, .int .i64 ln, .int .i64 co] F := by
 unfold fldD litD at h
 simp only [app] at h
 unfold Ow at h
 obtain ⟨d0, rfl, _, h⟩ := h
 unfold Ow at h
 obtain ⟨d1, rfl, a1, h⟩ := h
 unfold Ow at h
 obtain ⟨d2, rfl, a2, h⟩ := h
 unfold Ow at h
 obtain ⟨d3, rfl, a3, h⟩ := h
 unfold Ow at h
 obtain ⟨ai, ni, ci, d4, F1, F2, rfl, i1, i2, i3, i4, h, rfl⟩ := h
 unfold Ow at h
 obtain ⟨af, nf, cf, d5, F3, F4, rfl, j1, j2, j3, j4, h, rfl⟩ := h
 unfold Ow at h
 obtain ⟨d6, rfl, a6, h⟩ := h
 unfold Ow at h
 obtain ⟨d7, rfl, a7, h⟩ := h
 unfold Ow at h
 obtain ⟨d8, rfl, a8, h⟩ := h
 unfold Ow at h
 obtain ⟨d9, rfl, a9, h⟩ := h
 unfold Ow at h
 obtain ⟨rfl, rfl⟩ := h
 refine ⟨ai, ni, ci, af, nf, cf, rfl, ?_⟩
 unfold litD Ow
 refine ⟨_, rfl, a1, ?_⟩
 unfold Ow
 refine ⟨_, rfl, a2, ?_⟩
 unfold Ow
 refine ⟨_, rfl, a3, ?_⟩
 unfold Ow
 refine ⟨ai, ni, ci, _, F1, F3 ++ [], rfl, i1, i2, i3, i4, ?_, rfl⟩
 unfold Ow
 refine ⟨af, nf, cf, _, F3, [], rfl, j1, j2, j3, j4, ?_, rfl⟩
 unfold Ow
 refine ⟨_, rfl, a6, ?_⟩
 unfold Ow
 refine ⟨_, rfl, a7, ?_⟩
 unfold Ow
 exact ⟨rfl, rfl⟩
structure FvI (w wr : World) (vc : Array Value) : Prop where
 bel : Below w.heap.size w wr
 v : wr.heap[w.heap.size]? = some (.cells vc 70 (0, 0))
 r : wr.heap[w.heap.size + 1]? = some (.cells #[.int .i64 0, .int .i64 0] 28 (0, 0))
def EqL (pl : Bool) : Nat → Dt → Dt → Prop
 | 0, _, _ => False
 | f + 1, d, e => ∃ k tx bl its its' fls fls' ln co ln' co', d = litD k tx bl (Dt.of its) (Dt.of fls) ln co ∧ e = litD k tx bl (Dt.of its') (Dt.of fls') ln' co' ∧ (pl = true → ln = ln' ∧ co = co') ∧
   its.length = its'.length ∧ fls.length = fls'.length ∧ (∀ (i : Nat) x y, its[i]? = some x → its'[i]? = some y → EqL pl f x y) ∧
   (∀ (i : Nat) x y, fls[i]? = some x → fls'[i]? = some y → ∃ nm v v' a b a' b', x = fldD nm v a b ∧ y = fldD nm v' a' b' ∧ (pl = true → a = a' ∧ b = b') ∧ EqL pl f v v')
theorem EqL.left {pl : Bool} : ∀ {f : Nat} {d e : Dt}, EqL pl f d e → ∃ k tx bl its fls ln co, d = litD k tx bl its fls ln co
 | 0, d, e, h => h.elim
 | f + 1, d, e, ⟨k, tx, bl, its, its', fls, fls', ln, co, ln', co', h, _⟩ => ⟨k, tx, bl, _, _, ln, co, h⟩
theorem EqL.right {pl : Bool} : ∀ {f : Nat} {d e : Dt}, EqL pl f d e → ∃ k tx bl its fls ln co, e = litD k tx bl its fls ln co
 | 0, d, e, h => h.elim
 | f + 1, d, e, ⟨k, tx, bl, its, its', fls, fls', ln, co, ln', co', _, h, _⟩ => ⟨k, tx, bl, _, _, ln', co', h⟩
theorem lit_shape {w : World} {k : Int} {tx : ByteArray} {bl : Bool} {its fls : Dt} {ln co : Int} {cs : List Value} {F : List Nat} (h : Ow w (litD k tx bl its fls ln co) cs F) : LShape cs := by
 unfold litD at h
 unfold Ow at h
 obtain ⟨d1, rfl, _, h⟩ := h
 unfold Ow at h
 obtain ⟨d2, rfl, _, h⟩ := h
 unfold Ow at h
 obtain ⟨d3, rfl, _, h⟩ := h
 unfold Ow at h
 obtain ⟨ai, ni, ci, d4, F1, F2, rfl, i1, i2, i3, i4, h, rfl⟩ := h
 unfold Ow at h
 obtain ⟨af, nf, cf, d5, F3, F4, rfl, j1, j2, j3, j4, h, rfl⟩ := h
 unfold Ow at h
 obtain ⟨d6, rfl, _, h⟩ := h
 unfold Ow at h
 obtain ⟨d7, rfl, _, h⟩ := h
 unfold Ow at h
 obtain ⟨rfl, rfl⟩ := h
 exact ⟨_, _, _, _, _, _, _, _, _, _, _, rfl⟩
def SmAt (pl : Bool) (d e : Dt) : Prop := ∀ (w : World) (cs ds : List Value) (F G : List Nat), Ow w d cs F → Ow w e ds G → (∀ b ∈ F, b < w.heap.size) → (∀ b ∈ G, b < w.heap.size) → Calls Tryz.prog 34 #[.agg cs.toArray, .agg ds.toArray, .bool pl] w fun e w' => e = .returned (.bool true) ∧ Below w.heap.size w w'
structure SmI (w wr : World) (vc uc : Array Value) : Prop where
 bel : Below w.heap.size w wr
 v : wr.heap[w.heap.size]? = some (.cells vc 70 (0, 0))
 u : wr.heap[w.heap.size + 1]? = some (.cells uc 70 (0, 0))
theorem SmI.more {w wr wn : World} {vc uc : Array Value} (h : SmI w wr vc uc) (hb : Below wr.heap.size wr wn) : SmI w wn vc uc := by
 have h1 : w.heap.size < wr.heap.size := by
  rcases Nat.lt_or_ge w.heap.size wr.heap.size with g | g
  ·exact g
  ·have := h.v; rw [Array.getElem?_eq_none g] at this; cases this
 have h2 : w.heap.size + 1 < wr.heap.size := by
  rcases Nat.lt_or_ge (w.heap.size + 1) wr.heap.size with g | g
  ·exact g
  ·have := h.u; rw [Array.getElem?_eq_none g] at this; cases this
 exact ⟨h.bel.trans (hb.mono h.bel.size), (hb.block _ h1).trans h.v, (hb.block _ h2).trans h.u⟩
set_option maxHeartbeats 8000000 in
set_option maxRecDepth 4000 in
theorem same_t : ∀ (f : Nat) (d e : Dt), EqL true f d e → SmAt true d e
 | 0, d, e, h => h.elim
 | f + 1, d, e, h => by
  obtain ⟨k, tx, bl, its, its', fls, fls', ln, co, ln', co', rfl, rfl, hpl, hil, hfl, hI, hF⟩ := h
  intro w cs ds F G how how' hFw hGw
  obtain ⟨ai, n1, ci, af, n2, cf, rfl, hn1, hn2, l1, l2, l3, l4, hit, hft⟩ := lit_cells how
  obtain ⟨ai', n1', ci', af', n2', cf', rfl, hn1', hn2', l1', l2', l3', l4', hit', hft'⟩ := lit_cells how'
  obtain rfl : n1 = n1' := by omega
  obtain rfl : n2 = n2' := by omega
  have Hn := hide (And.intro (And.intro hn1 hn1') (And.intro hn2 hn2'))
  clear hn1 hn1' hn2 hn2' hil hfl
  have ih := hide (fun d e hd => same_t f d e hd)
  have HI := hide hI
  have HFl := hide hF
  have Hit := hide hit
  have Hft := hide hft
  have Hit' := hide hit'
  have Hft' := hide hft'
  have HW := hide hFw
  have HW' := hide hGw
  clear hI hF hit hft hit' hft' hFw hGw how how'
  unfold maxLen at l3 l4 l3' l4'
  obtain ⟨vc, hvc⟩ : ∃ vc : Array Value, vc = #[.int .i64 k, .string tx, .bool bl, .slice ai n1 ci, .slice af n2 cf, .int .i64 ln, .int .i64 co] := ⟨_, rfl⟩
  obtain ⟨uc, huc⟩ : ∃ uc : Array Value, uc = #[.int .i64 k, .string tx, .bool bl, .slice ai' n1 ci', .slice af' n2 cf', .int .i64 ln', .int .i64 co'] := ⟨_, rfl⟩
  obtain ⟨rfl, rfl⟩ := hpl rfl
  go_enter Tryz.func34, Tryz.ntmps34
  go_wp2_with fail
  obtain ⟨w0, hw0⟩ : ∃ w0, w0 = (w.alloc (.cells #[.int .i64 k, .string tx, .bool bl, .slice ai n1 ci, .slice af n2 cf, .int .i64 ln, .int .i64 co] 70)).alloc (.cells #[.int .i64 k, .string tx, .bool bl, .slice ai' n1 ci', .slice af' n2 cf', .int .i64 ln, .int .i64 co] 70) := ⟨_, rfl⟩
  have HV0 := hide (show SmI w w0 vc uc from by
   rw [hw0, hvc, huc]
   refine ⟨((Below.refl _ _).alloc (Nat.le_refl _) _).alloc (by simp) _, (Below.heap_alloc _ _ w.heap.size (by simp)).trans (heap_alloc_new w _), ?_⟩
   have := heap_alloc_new (w.alloc (.cells #[.int .i64 k, .string tx, .bool bl, .slice ai n1 ci, .slice af n2 cf, .int .i64 ln, .int .i64 co] 70)) (.cells #[.int .i64 k, .string tx, .bool bl, .slice ai' n1 ci', .slice af' n2 cf', .int .i64 ln, .int .i64 co] 70)
   simpa using this)
  rw [← hw0]
  clear hw0
  go_loopw [7] (fun i wr => ∃ j : Nat, j ≤ n1 ∧ i = .int .i64 j ∧ SmI w wr vc uc) (fun i _ => n1 - (intOf i).toNat)
  case atStart => exact ⟨0, Nat.zero_le _, rfl, unhide HV0⟩
  case round =>
   obtain ⟨j, hj, rfl, hI⟩ := hrel
   have d3 : wr.cell? ⟨w.heap.size, 3, none⟩ = some (.slice ai n1 ci) := (dt.cell_cells hI.v 3).trans (by rw [hvc]; rfl)
   have u3 : wr.cell? ⟨w.heap.size + 1, 3, none⟩ = some (.slice ai' n1 ci') := (dt.cell_cells hI.u 3).trans (by rw [huc]; rfl)
   by_cases hlt : j < n1
   ·have ji : (j : Int) < (n1 : Int) := by omega
    have hlt1 : j < its.length := by have := unhide Hn; omega
    have hlt2 : j < its'.length := by have := unhide Hn; omega
    obtain ⟨p, ds, G1, rfl, hpF, hrow, hdl, hod, hGF⟩ := (unhide Hit) j _ (List.getElem?_eq_getElem hlt1)
    obtain ⟨p', ds', G2, rfl, hpF', hrow', hdl', hod', hGF'⟩ := (unhide Hit') j _ (List.getElem?_eq_getElem hlt2)
    have heq := (unhide HI) j _ _ (List.getElem?_eq_getElem hlt1) (List.getElem?_eq_getElem hlt2)
    obtain ⟨e1, he1⟩ : ∃ e, e = its[j] := ⟨_, rfl⟩
    obtain ⟨e2, he2⟩ : ∃ e, e = its'[j] := ⟨_, rfl⟩
    rw [← he1, ← he2] at heq
    rw [← he1] at hod
    rw [← he2] at hod'
    clear he1 he2
    have hshp : LShape ds ∧ LShape ds' := by
     obtain ⟨_, _, _, _, _, _, _, h1⟩ := heq.left
     obtain ⟨_, _, _, _, _, _, _, h2⟩ := heq.right
     rw [h1] at hod
     rw [h2] at hod'
     exact ⟨lit_shape hod, lit_shape hod'⟩
    obtain ⟨⟨k1, tx1, bl1, ai1, ni1, ci1, af1, nf1, cf1, ln1, co1, rfl⟩, ⟨k2, tx2, bl2, ai2, ni2, ci2, af2, nf2, cf2, ln2, co2, rfl⟩⟩ := hshp
    have hov := hod
    have hov' := hod'
    have hplt := (unhide HW) p hpF
    have hplt' := (unhide HW') p' hpF'
    have hr := fun (q : Nat) (u : Value) hu => (hI.bel.cell (p := ⟨p, j * 7 + q, none⟩) hplt).trans (hrow q u hu)
    have hr' := fun (q : Nat) (u : Value) hu => (hI.bel.cell (p := ⟨p', j * 7 + q, none⟩) hplt').trans (hrow' q u hu)
    have m0 : wr.cell? ⟨p, j * 7, none⟩ = some (.int .i64 k1) := hr 0 _ rfl
    have m1 : wr.cell? ⟨p, j * 7 + 1, none⟩ = some (.string tx1) := hr 1 _ rfl
    have m2 : wr.cell? ⟨p, j * 7 + 2, none⟩ = some (.bool bl1) := hr 2 _ rfl
    have m3 : wr.cell? ⟨p, j * 7 + 3, none⟩ = some (.slice ai1 ni1 ci1) := hr 3 _ rfl
    have m4 : wr.cell? ⟨p, j * 7 + 4, none⟩ = some (.slice af1 nf1 cf1) := hr 4 _ rfl
    have m5 : wr.cell? ⟨p, j * 7 + 5, none⟩ = some (.int .i64 ln1) := hr 5 _ rfl
    have m6 : wr.cell? ⟨p, j * 7 + 6, none⟩ = some (.int .i64 co1) := hr 6 _ rfl
    have n0 : wr.cell? ⟨p', j * 7, none⟩ = some (.int .i64 k2) := hr' 0 _ rfl
    have n1 : wr.cell? ⟨p', j * 7 + 1, none⟩ = some (.string tx2) := hr' 1 _ rfl
    have n2 : wr.cell? ⟨p', j * 7 + 2, none⟩ = some (.bool bl2) := hr' 2 _ rfl
    have n3 : wr.cell? ⟨p', j * 7 + 3, none⟩ = some (.slice ai2 ni2 ci2) := hr' 3 _ rfl
    have n4 : wr.cell? ⟨p', j * 7 + 4, none⟩ = some (.slice af2 nf2 cf2) := hr' 4 _ rfl
    have n5 : wr.cell? ⟨p', j * 7 + 5, none⟩ = some (.int .i64 ln2) := hr' 5 _ rfl
    have n6 : wr.cell? ⟨p', j * 7 + 6, none⟩ = some (.int .i64 co2) := hr' 6 _ rfl
    have hC := hide (fun W (hb : Below w.heap.size w W) => (unhide ih) e1 e2 heq W [Value.int .i64 k1, .string tx1, .bool bl1, .slice ai1 ni1 ci1, .slice af1 nf1 cf1, .int .i64 ln1, .int .i64 co1] [Value.int .i64 k2, .string tx2, .bool bl2, .slice ai2 ni2 ci2, .slice af2 nf2 cf2, .int .i64 ln2, .int .i64 co2] G1 G2 (dt.Ow.agree e1 _ G1 (fun b hb' o => hb.cell (p := ⟨b, o, none⟩) ((unhide HW) b (hGF b hb'))) hov) (dt.Ow.agree e2 _ G2 (fun b hb' o => hb.cell (p := ⟨b, o, none⟩) ((unhide HW') b (hGF' b hb'))) hov') (fun b hb' => Nat.lt_of_lt_of_le ((unhide HW) b (hGF b hb')) hb.size) (fun b hb' => Nat.lt_of_lt_of_le ((unhide HW') b (hGF' b hb')) hb.size))
    have hs0 : w.heap.size < wr.heap.size := by
     rcases Nat.lt_or_ge w.heap.size wr.heap.size with g | g
     ·exact g
     ·have := hI.v; rw [Array.getElem?_eq_none g] at this; cases this
    have hs1 : w.heap.size + 1 < wr.heap.size := by
     rcases Nat.lt_or_ge (w.heap.size + 1) wr.heap.size with g | g
     ·exact g
     ·have := hI.u; rw [Array.getElem?_eq_none g] at this; cases this
    have hq1 : p < wr.heap.size := by omega
    have hq2 : p' < wr.heap.size := by omega
    clear hr hr' hrow hrow' hov hov' heq hdl hdl'
    go_wp2_with fail
    have hS0 : Below wr.heap.size wr { wr with drawn := wr.drawn + 1 } := (Below.refl _ _).drew
    have bD := hI.bel.trans (hS0.mono hI.bel.size)
    refine wp_region_noPanic ?_
    refine wp_region_held (S := fun w' => Below wr.heap.size wr w') mixed ?_
    refine rgn.tl (i := 0) (v := ?v1) rfl (by kernel_rfl) (fun _ _ _ h => h) (by rfl) ?hy1 hS0 ?_
    case hy1 => (intro w' hw'; go_simp; try with_reducible rfl)
    simp only [rgn.l1, rgn.l2, rgn.l3, Act.put, rgn.l4, rgn.l5, rgn.l6]
    refine rgn.tl (i := 1) (v := ?v2) rfl (by kernel_rfl) (fun _ _ _ h => h) (by rfl) ?hy2 hS0 ?_
    case hy2 => (intro w' hw'; have d3' := (hw'.cell (p := ⟨w.heap.size, 3, none⟩) hs0).trans d3; go_simp; try with_reducible rfl)
    simp only [rgn.l1, rgn.l2, rgn.l3, Act.put, rgn.l4, rgn.l5, rgn.l6]
    refine rgn.tl (i := 2) (v := ?v3) rfl (by kernel_rfl) (fun _ _ _ h => h) (by rfl) ?hy3 hS0 ?_
    case hy3 => (intro w' hw'; go_simp; try with_reducible rfl)
    simp only [rgn.l1, rgn.l2, rgn.l3, Act.put, rgn.l4, rgn.l5, rgn.l6]
    refine rgn.tl (i := 3) (v := ?v4) rfl (by kernel_rfl) (fun _ _ _ h => h) (by rfl) ?hy4 hS0 ?_
    case hy4 => (intro w' hw'; go_simp; try with_reducible rfl)
    simp only [rgn.l1, rgn.l2, rgn.l3, Act.put, rgn.l4, rgn.l5, rgn.l6]
    refine rgn.tl (i := 4) (v := ?v5) rfl (by kernel_rfl) (fun _ _ _ h => h) (by rfl) ?hy5 hS0 ?_
    case hy5 => (intro w' hw'; have m0' := (hw'.cell (p := ⟨p, j * 7, none⟩) hq1).trans m0; have m1' := (hw'.cell (p := ⟨p, j * 7 + 1, none⟩) hq1).trans m1; have m2' := (hw'.cell (p := ⟨p, j * 7 + 2, none⟩) hq1).trans m2; have m3' := (hw'.cell (p := ⟨p, j * 7 + 3, none⟩) hq1).trans m3; have m4' := (hw'.cell (p := ⟨p, j * 7 + 4, none⟩) hq1).trans m4; have m5' := (hw'.cell (p := ⟨p, j * 7 + 5, none⟩) hq1).trans m5; have m6' := (hw'.cell (p := ⟨p, j * 7 + 6, none⟩) hq1).trans m6; go_simp; try with_reducible rfl)
    simp only [rgn.l1, rgn.l2, rgn.l3, Act.put, rgn.l4, rgn.l5, rgn.l6]
    refine rgn.tl (i := 5) (v := ?v6) rfl (by kernel_rfl) (fun _ _ _ h => h) (by rfl) ?hy6 hS0 ?_
    case hy6 => (intro w' hw'; go_simp; try with_reducible rfl)
    simp only [rgn.l1, rgn.l2, rgn.l3, Act.put, rgn.l4, rgn.l5, rgn.l6]
    refine rgn.tl (i := 6) (v := ?v7) rfl (by kernel_rfl) (fun _ _ _ h => h) (by rfl) ?hy7 hS0 ?_
    case hy7 => (intro w' hw'; have u3' := (hw'.cell (p := ⟨w.heap.size + 1, 3, none⟩) hs1).trans u3; go_simp; try with_reducible rfl)
    simp only [rgn.l1, rgn.l2, rgn.l3, Act.put, rgn.l4, rgn.l5, rgn.l6]
    refine rgn.tl (i := 7) (v := ?v8) rfl (by kernel_rfl) (fun _ _ _ h => h) (by rfl) ?hy8 hS0 ?_
    case hy8 => (intro w' hw'; go_simp; try with_reducible rfl)
    simp only [rgn.l1, rgn.l2, rgn.l3, Act.put, rgn.l4, rgn.l5, rgn.l6]
    refine rgn.tl (i := 8) (v := ?v9) rfl (by kernel_rfl) (fun _ _ _ h => h) (by rfl) ?hy9 hS0 ?_
    case hy9 => (intro w' hw'; go_simp; try with_reducible rfl)
    simp only [rgn.l1, rgn.l2, rgn.l3, Act.put, rgn.l4, rgn.l5, rgn.l6]
    refine rgn.tl (i := 9) (v := ?v10) rfl (by kernel_rfl) (fun _ _ _ h => h) (by rfl) ?hy10 hS0 ?_
    case hy10 => (intro w' hw'; have n0' := (hw'.cell (p := ⟨p', j * 7, none⟩) hq2).trans n0; have n1' := (hw'.cell (p := ⟨p', j * 7 + 1, none⟩) hq2).trans n1; have n2' := (hw'.cell (p := ⟨p', j * 7 + 2, none⟩) hq2).trans n2; have n3' := (hw'.cell (p := ⟨p', j * 7 + 3, none⟩) hq2).trans n3; have n4' := (hw'.cell (p := ⟨p', j * 7 + 4, none⟩) hq2).trans n4; have n5' := (hw'.cell (p := ⟨p', j * 7 + 5, none⟩) hq2).trans n5; have n6' := (hw'.cell (p := ⟨p', j * 7 + 6, none⟩) hq2).trans n6; go_simp; try with_reducible rfl)
    simp only [rgn.l1, rgn.l2, rgn.l3, Act.put, rgn.l4, rgn.l5, rgn.l6]
    refine rgn.tl (i := 10) (v := ?v11) rfl (by kernel_rfl) (fun _ _ _ h => h) (by rfl) ?hy11 hS0 ?_
    case hy11 => (intro w' hw'; go_simp; try with_reducible rfl)
    simp only [rgn.l1, rgn.l2, rgn.l3, Act.put, rgn.l4, rgn.l5, rgn.l6]
    refine rgn.one (i := 11) _ rfl (by kernel_rfl) (by rfl) ?_
    simp only [rgn.l1, rgn.l2, rgn.l3, Act.put, rgn.l4, rgn.l5, rgn.l6]
    go_wp2_with fail
    refine ((unhide hC) _ bD).mono ?_
    rintro e' w2 ⟨rfl, b2⟩
    have b02 : Below wr.heap.size wr w2 := hS0.trans b2
    refine ⟨b02, ?_⟩
    clear hS0 b2 bD
    have hS0 := b02
    try simp only [rgn.l1, rgn.l2, rgn.l3, Act.put, rgn.l4, rgn.l5, rgn.l6]
    refine rgn.take (i := 12) _ (.bool true) rfl (by kernel_rfl) (by kernel_rfl) (by kernel_rfl) (fun _ _ _ h => h) (by rfl) hS0 (fun w' hw' => by go_simp) ?_
    simp only [rgn.l1, rgn.l2, rgn.l3, Act.put, rgn.l4, rgn.l5, rgn.l6]
    refine wpAnyH_done (by kernel_rfl) ?_ _; refine NoPanic.normal ?_
    have hI2 := hI.more b02
    clear m0 m1 m2 m3 m4 m5 m6 n0 n1 n2 n3 n4 n5 n6 d3 u3 hC hS0
    go_wp2_with fail
    go_roundw
    case rel => exact ⟨j + 1, by omega, by go_num, hI2⟩
    case measure => first | (simp [intOf]; omega) | simp [intOf]
   ·have ji : ¬ (j : Int) < (n1 : Int) := by omega
    have hI9 := hide hI
    clear hlt
    go_wp2_with fail
    have HV0 := hI9
    clear d3 u3
    go_loopw [9] (fun i wr => ∃ j : Nat, j ≤ n2 ∧ i = .int .i64 j ∧ SmI w wr vc uc) (fun i _ => n2 - (intOf i).toNat)
    case atStart => exact ⟨0, Nat.zero_le _, rfl, unhide HV0⟩
    case round =>
     obtain ⟨j, hj, rfl, hI⟩ := hrel
     have d3 : wr.cell? ⟨w.heap.size, 4, none⟩ = some (.slice af n2 cf) := (dt.cell_cells hI.v 4).trans (by rw [hvc]; rfl)
     have u3 : wr.cell? ⟨w.heap.size + 1, 4, none⟩ = some (.slice af' n2 cf') := (dt.cell_cells hI.u 4).trans (by rw [huc]; rfl)
     by_cases hlt : j < n2
     ·have ji : (j : Int) < (n2 : Int) := by omega
      have hlt1 : j < fls.length := by have := unhide Hn; omega
      have hlt2 : j < fls'.length := by have := unhide Hn; omega
      obtain ⟨p, ds, G1, rfl, hpF, hrow, hdl, hod, hGF⟩ := (unhide Hft) j _ (List.getElem?_eq_getElem hlt1)
      obtain ⟨p', ds', G2, rfl, hpF', hrow', hdl', hod', hGF'⟩ := (unhide Hft') j _ (List.getElem?_eq_getElem hlt2)
      obtain ⟨nm, e1, e2, x1, y1, x2, y2, hx, hy, hxy, heq⟩ := (unhide HFl) j _ _ (List.getElem?_eq_getElem hlt1) (List.getElem?_eq_getElem hlt2)
      rw [hx] at hod
      rw [hy] at hod'
      have hshp : ∃ k1 tx1 bl1 ai1 ni1 ci1 af1 nf1 cf1 ln1 co1 k2 tx2 bl2 ai2 ni2 ci2 af2 nf2 cf2 ln2 co2, ds = [.string nm, .int .i64 k1, .string tx1, .bool bl1, .slice ai1 ni1 ci1, .slice af1 nf1 cf1, .int .i64 ln1, .int .i64 co1, .int .i64 x1, .int .i64 y1] ∧ ds' = [.string nm, .int .i64 k2, .string tx2, .bool bl2, .slice ai2 ni2 ci2, .slice af2 nf2 cf2, .int .i64 ln2, .int .i64 co2, .int .i64 x2, .int .i64 y2] ∧ Ow w e1 [.int .i64 k1, .string tx1, .bool bl1, .slice ai1 ni1 ci1, .slice af1 nf1 cf1, .int .i64 ln1, .int .i64 co1] G1 ∧ Ow w e2 [.int .i64 k2, .string tx2, .bool bl2, .slice ai2 ni2 ci2, .slice af2 nf2 cf2, .int .i64 ln2, .int .i64 co2] G2 := by
       obtain ⟨k1, tx1, bl1, i1, f1, ln1, co1, h1⟩ := heq.left
       obtain ⟨k2, tx2, bl2, i2, f2, ln2, co2, h2⟩ := heq.right
       rw [h1] at hod
       rw [h2] at hod'
       obtain ⟨a1, a2, a3, a4, a5, a6, q1, q2⟩ := fld_cells hod
       obtain ⟨b1, b2, b3, b4, b5, b6, r1, r2⟩ := fld_cells hod'
       rw [← h1] at q2
       rw [← h2] at r2
       exact ⟨k1, tx1, bl1, a1, a2, a3, a4, a5, a6, ln1, co1, k2, tx2, bl2, b1, b2, b3, b4, b5, b6, ln2, co2, q1, r1, q2, r2⟩
      obtain ⟨k1, tx1, bl1, ai1, ni1, ci1, af1, nf1, cf1, ln1, co1, k2, tx2, bl2, ai2, ni2, ci2, af2, nf2, cf2, ln2, co2, rfl, rfl, hov, hov'⟩ := hshp
      obtain ⟨rfl, rfl⟩ := hxy (by first | rfl | trivial)
      clear hod hod' hx hy
      have hplt := (unhide HW) p hpF
      have hplt' := (unhide HW') p' hpF'
      have hr := fun (q : Nat) (u : Value) hu => (hI.bel.cell (p := ⟨p, j * 10 + q, none⟩) hplt).trans (hrow q u hu)
      have hr' := fun (q : Nat) (u : Value) hu => (hI.bel.cell (p := ⟨p', j * 10 + q, none⟩) hplt').trans (hrow' q u hu)
      have mN : wr.cell? ⟨p, j * 10, none⟩ = some (.string nm) := hr 0 _ rfl
      have m0 : wr.cell? ⟨p, j * 10 + 1, none⟩ = some (.int .i64 k1) := hr 1 _ rfl
      have m1 : wr.cell? ⟨p, j * 10 + 2, none⟩ = some (.string tx1) := hr 2 _ rfl
      have m2 : wr.cell? ⟨p, j * 10 + 3, none⟩ = some (.bool bl1) := hr 3 _ rfl
      have m3 : wr.cell? ⟨p, j * 10 + 4, none⟩ = some (.slice ai1 ni1 ci1) := hr 4 _ rfl
      have m4 : wr.cell? ⟨p, j * 10 + 5, none⟩ = some (.slice af1 nf1 cf1) := hr 5 _ rfl
      have m5 : wr.cell? ⟨p, j * 10 + 6, none⟩ = some (.int .i64 ln1) := hr 6 _ rfl
      have m6 : wr.cell? ⟨p, j * 10 + 7, none⟩ = some (.int .i64 co1) := hr 7 _ rfl
      have m8 : wr.cell? ⟨p, j * 10 + 8, none⟩ = some (.int .i64 x1) := hr 8 _ rfl
      have m9 : wr.cell? ⟨p, j * 10 + 9, none⟩ = some (.int .i64 y1) := hr 9 _ rfl
      have nN : wr.cell? ⟨p', j * 10, none⟩ = some (.string nm) := hr' 0 _ rfl
      have n0 : wr.cell? ⟨p', j * 10 + 1, none⟩ = some (.int .i64 k2) := hr' 1 _ rfl
      have n1 : wr.cell? ⟨p', j * 10 + 2, none⟩ = some (.string tx2) := hr' 2 _ rfl
      have n2 : wr.cell? ⟨p', j * 10 + 3, none⟩ = some (.bool bl2) := hr' 3 _ rfl
      have n3 : wr.cell? ⟨p', j * 10 + 4, none⟩ = some (.slice ai2 ni2 ci2) := hr' 4 _ rfl
      have n4 : wr.cell? ⟨p', j * 10 + 5, none⟩ = some (.slice af2 nf2 cf2) := hr' 5 _ rfl
      have n5 : wr.cell? ⟨p', j * 10 + 6, none⟩ = some (.int .i64 ln2) := hr' 6 _ rfl
      have n6 : wr.cell? ⟨p', j * 10 + 7, none⟩ = some (.int .i64 co2) := hr' 7 _ rfl
      have n8 : wr.cell? ⟨p', j * 10 + 8, none⟩ = some (.int .i64 x1) := hr' 8 _ rfl
      have n9 : wr.cell? ⟨p', j * 10 + 9, none⟩ = some (.int .i64 y1) := hr' 9 _ rfl
      have hC := hide (fun W (hb : Below w.heap.size w W) => (unhide ih) e1 e2 heq W [Value.int .i64 k1, .string tx1, .bool bl1, .slice ai1 ni1 ci1, .slice af1 nf1 cf1, .int .i64 ln1, .int .i64 co1] [Value.int .i64 k2, .string tx2, .bool bl2, .slice ai2 ni2 ci2, .slice af2 nf2 cf2, .int .i64 ln2, .int .i64 co2] G1 G2 (dt.Ow.agree e1 _ G1 (fun b hb' o => hb.cell (p := ⟨b, o, none⟩) ((unhide HW) b (hGF b hb'))) hov) (dt.Ow.agree e2 _ G2 (fun b hb' o => hb.cell (p := ⟨b, o, none⟩) ((unhide HW') b (hGF' b hb'))) hov') (fun b hb' => Nat.lt_of_lt_of_le ((unhide HW) b (hGF b hb')) hb.size) (fun b hb' => Nat.lt_of_lt_of_le ((unhide HW') b (hGF' b hb')) hb.size))
      have hs0 : w.heap.size < wr.heap.size := by
       rcases Nat.lt_or_ge w.heap.size wr.heap.size with g | g
       ·exact g
       ·have := hI.v; rw [Array.getElem?_eq_none g] at this; cases this
      have hs1 : w.heap.size + 1 < wr.heap.size := by
       rcases Nat.lt_or_ge (w.heap.size + 1) wr.heap.size with g | g
       ·exact g
       ·have := hI.u; rw [Array.getElem?_eq_none g] at this; cases this
      have hq1 : p < wr.heap.size := by omega
      have hq2 : p' < wr.heap.size := by omega
      clear hr hr' hrow hrow' hov hov' heq hdl hdl'
      go_wp2_with fail
      have hS0 : Below wr.heap.size wr { wr with drawn := wr.drawn + 1 } := (Below.refl _ _).drew
      have bD := hI.bel.trans (hS0.mono hI.bel.size)
      refine wp_region_noPanic ?_
      refine wp_region_held (S := fun w' => Below wr.heap.size wr w') mixed ?_
      refine rgn.tl (i := 0) (v := ?v12) rfl (by kernel_rfl) (fun _ _ _ h => h) (by rfl) ?hy12 hS0 ?_
      case hy12 => (intro w' hw'; go_simp; try with_reducible rfl)
      simp only [rgn.l1, rgn.l2, rgn.l3, Act.put, rgn.l4, rgn.l5, rgn.l6]
      refine rgn.tl (i := 1) (v := ?v13) rfl (by kernel_rfl) (fun _ _ _ h => h) (by rfl) ?hy13 hS0 ?_
      case hy13 => (intro w' hw'; have d3' := (hw'.cell (p := ⟨w.heap.size, 4, none⟩) hs0).trans d3; go_simp; try with_reducible rfl)
      simp only [rgn.l1, rgn.l2, rgn.l3, Act.put, rgn.l4, rgn.l5, rgn.l6]
      refine rgn.tl (i := 2) (v := ?v14) rfl (by kernel_rfl) (fun _ _ _ h => h) (by rfl) ?hy14 hS0 ?_
      case hy14 => (intro w' hw'; go_simp; try with_reducible rfl)
      simp only [rgn.l1, rgn.l2, rgn.l3, Act.put, rgn.l4, rgn.l5, rgn.l6]
      refine rgn.tl (i := 3) (v := ?v15) rfl (by kernel_rfl) (fun _ _ _ h => h) (by rfl) ?hy15 hS0 ?_
      case hy15 => (intro w' hw'; go_simp; try with_reducible rfl)
      simp only [rgn.l1, rgn.l2, rgn.l3, Act.put, rgn.l4, rgn.l5, rgn.l6]
      refine rgn.tl (i := 4) (v := ?v16) rfl (by kernel_rfl) (fun _ _ _ h => h) (by rfl) ?hy16 hS0 ?_
      case hy16 => (intro w' hw'; go_simp; try with_reducible rfl)
      simp only [rgn.l1, rgn.l2, rgn.l3, Act.put, rgn.l4, rgn.l5, rgn.l6]
      refine rgn.tl (i := 5) (v := ?v17) rfl (by kernel_rfl) (fun _ _ _ h => h) (by rfl) ?hy17 hS0 ?_
      case hy17 => (intro w' hw'; have m0' := (hw'.cell (p := ⟨p, j * 10 + 1, none⟩) hq1).trans m0; have m1' := (hw'.cell (p := ⟨p, j * 10 + 2, none⟩) hq1).trans m1; have m2' := (hw'.cell (p := ⟨p, j * 10 + 3, none⟩) hq1).trans m2; have m3' := (hw'.cell (p := ⟨p, j * 10 + 4, none⟩) hq1).trans m3; have m4' := (hw'.cell (p := ⟨p, j * 10 + 5, none⟩) hq1).trans m4; have m5' := (hw'.cell (p := ⟨p, j * 10 + 6, none⟩) hq1).trans m5; have m6' := (hw'.cell (p := ⟨p, j * 10 + 7, none⟩) hq1).trans m6; go_simp; try with_reducible rfl)
      simp only [rgn.l1, rgn.l2, rgn.l3, Act.put, rgn.l4, rgn.l5, rgn.l6]
      refine rgn.tl (i := 6) (v := ?v18) rfl (by kernel_rfl) (fun _ _ _ h => h) (by rfl) ?hy18 hS0 ?_
      case hy18 => (intro w' hw'; go_simp; try with_reducible rfl)
      simp only [rgn.l1, rgn.l2, rgn.l3, Act.put, rgn.l4, rgn.l5, rgn.l6]
      refine rgn.tl (i := 7) (v := ?v19) rfl (by kernel_rfl) (fun _ _ _ h => h) (by rfl) ?hy19 hS0 ?_
      case hy19 => (intro w' hw'; have u3' := (hw'.cell (p := ⟨w.heap.size + 1, 4, none⟩) hs1).trans u3; go_simp; try with_reducible rfl)
      simp only [rgn.l1, rgn.l2, rgn.l3, Act.put, rgn.l4, rgn.l5, rgn.l6]
      refine rgn.tl (i := 8) (v := ?v20) rfl (by kernel_rfl) (fun _ _ _ h => h) (by rfl) ?hy20 hS0 ?_
      case hy20 => (intro w' hw'; go_simp; try with_reducible rfl)
      simp only [rgn.l1, rgn.l2, rgn.l3, Act.put, rgn.l4, rgn.l5, rgn.l6]
      refine rgn.tl (i := 9) (v := ?v21) rfl (by kernel_rfl) (fun _ _ _ h => h) (by rfl) ?hy21 hS0 ?_
      case hy21 => (intro w' hw'; go_simp; try with_reducible rfl)
      simp only [rgn.l1, rgn.l2, rgn.l3, Act.put, rgn.l4, rgn.l5, rgn.l6]
      refine rgn.tl (i := 10) (v := ?v22) rfl (by kernel_rfl) (fun _ _ _ h => h) (by rfl) ?hy22 hS0 ?_
      case hy22 => (intro w' hw'; go_simp; try with_reducible rfl)
      simp only [rgn.l1, rgn.l2, rgn.l3, Act.put, rgn.l4, rgn.l5, rgn.l6]
      refine rgn.tl (i := 11) (v := ?v23) rfl (by kernel_rfl) (fun _ _ _ h => h) (by rfl) ?hy23 hS0 ?_
      case hy23 => (intro w' hw'; have n0' := (hw'.cell (p := ⟨p', j * 10 + 1, none⟩) hq2).trans n0; have n1' := (hw'.cell (p := ⟨p', j * 10 + 2, none⟩) hq2).trans n1; have n2' := (hw'.cell (p := ⟨p', j * 10 + 3, none⟩) hq2).trans n2; have n3' := (hw'.cell (p := ⟨p', j * 10 + 4, none⟩) hq2).trans n3; have n4' := (hw'.cell (p := ⟨p', j * 10 + 5, none⟩) hq2).trans n4; have n5' := (hw'.cell (p := ⟨p', j * 10 + 6, none⟩) hq2).trans n5; have n6' := (hw'.cell (p := ⟨p', j * 10 + 7, none⟩) hq2).trans n6; go_simp; try with_reducible rfl)
      simp only [rgn.l1, rgn.l2, rgn.l3, Act.put, rgn.l4, rgn.l5, rgn.l6]
      refine rgn.tl (i := 12) (v := ?v24) rfl (by kernel_rfl) (fun _ _ _ h => h) (by rfl) ?hy24 hS0 ?_
      case hy24 => (intro w' hw'; go_simp; try with_reducible rfl)
      simp only [rgn.l1, rgn.l2, rgn.l3, Act.put, rgn.l4, rgn.l5, rgn.l6]
      refine rgn.one (i := 13) _ rfl (by kernel_rfl) (by rfl) ?_
      simp only [rgn.l1, rgn.l2, rgn.l3, Act.put, rgn.l4, rgn.l5, rgn.l6]
      go_wp2_with fail
      refine ((unhide hC) _ bD).mono ?_
      rintro e' w2 ⟨rfl, b2⟩
      have b02 : Below wr.heap.size wr w2 := hS0.trans b2
      refine ⟨b02, ?_⟩
      clear hS0 b2 bD
      have hS0 := b02
      try simp only [rgn.l1, rgn.l2, rgn.l3, Act.put, rgn.l4, rgn.l5, rgn.l6]
      refine rgn.take (i := 14) _ (.bool true) rfl (by kernel_rfl) (by kernel_rfl) (by kernel_rfl) (fun _ _ _ h => h) (by rfl) hS0 (fun w' hw' => by go_simp) ?_
      simp only [rgn.l1, rgn.l2, rgn.l3, Act.put, rgn.l4, rgn.l5, rgn.l6]
      refine wpAnyH_done (by kernel_rfl) ?_ _; refine NoPanic.normal ?_
      have hI2 := hI.more b02
      have d3x := (b02.cell (p := ⟨w.heap.size, 4, none⟩) hs0).trans d3
      have u3x := (b02.cell (p := ⟨w.heap.size + 1, 4, none⟩) hs1).trans u3
      have mNx := (b02.cell (p := ⟨p, j * 10, none⟩) hq1).trans mN
      have nNx := (b02.cell (p := ⟨p', j * 10, none⟩) hq2).trans nN
      have m8x := (b02.cell (p := ⟨p, j * 10 + 8, none⟩) hq1).trans m8
      have n8x := (b02.cell (p := ⟨p', j * 10 + 8, none⟩) hq2).trans n8
      have m9x := (b02.cell (p := ⟨p, j * 10 + 9, none⟩) hq1).trans m9
      have n9x := (b02.cell (p := ⟨p', j * 10 + 9, none⟩) hq2).trans n9
      clear m0 m1 m2 m3 m4 m5 m6 n0 n1 n2 n3 n4 n5 n6 mN nN m8 n8 m9 n9 d3 u3 hC hS0
      go_wp2_with fail
      have hS0 : Below w2.heap.size w2 { w2 with drawn := w2.drawn + 1 } := (Below.refl _ _).drew
      have g0 : w.heap.size < w2.heap.size := Nat.lt_of_lt_of_le hs0 b02.size
      have g1 : w.heap.size + 1 < w2.heap.size := Nat.lt_of_lt_of_le hs1 b02.size
      have g2 : p < w2.heap.size := Nat.lt_of_lt_of_le hq1 b02.size
      have g3 : p' < w2.heap.size := Nat.lt_of_lt_of_le hq2 b02.size
      refine wp_region_noPanic ?_
      refine wp_region_held (S := fun w' => Below w2.heap.size w2 w') mixed ?_
      refine rgn.tl (i := 0) (v := ?v25) rfl (by kernel_rfl) (fun _ _ _ h => h) (by rfl) ?hy25 hS0 ?_
      case hy25 => (intro w' hw'; go_simp; try with_reducible rfl)
      simp only [rgn.l1, rgn.l2, rgn.l3, Act.put, rgn.l4, rgn.l5, rgn.l6]
      refine rgn.tl (i := 1) (v := ?v26) rfl (by kernel_rfl) (fun _ _ _ h => h) (by rfl) ?hy26 hS0 ?_
      case hy26 => (intro w' hw'; go_simp; try with_reducible rfl)
      simp only [rgn.l1, rgn.l2, rgn.l3, Act.put, rgn.l4, rgn.l5, rgn.l6]
      refine rgn.tl (i := 2) (v := ?v27) rfl (by kernel_rfl) (fun _ _ _ h => h) (by rfl) ?hy27 hS0 ?_
      case hy27 => (intro w' hw'; go_simp; try with_reducible rfl)
      simp only [rgn.l1, rgn.l2, rgn.l3, Act.put, rgn.l4, rgn.l5, rgn.l6]
      refine rgn.tl (i := 3) (v := ?v28) rfl (by kernel_rfl) (fun _ _ _ h => h) (by rfl) ?hy28 hS0 ?_
      case hy28 => (intro w' hw'; go_simp; try with_reducible rfl)
      simp only [rgn.l1, rgn.l2, rgn.l3, Act.put, rgn.l4, rgn.l5, rgn.l6]
      refine rgn.tl (i := 4) (v := ?v29) rfl (by kernel_rfl) (fun _ _ _ h => h) (by rfl) ?hy29 hS0 ?_
      case hy29 => (intro w' hw'; have d3' := (hw'.cell (p := ⟨w.heap.size, 4, none⟩) g0).trans d3x; go_simp; try with_reducible rfl)
      simp only [rgn.l1, rgn.l2, rgn.l3, Act.put, rgn.l4, rgn.l5, rgn.l6]
      refine rgn.tl (i := 5) (v := ?v30) rfl (by kernel_rfl) (fun _ _ _ h => h) (by rfl) ?hy30 hS0 ?_
      case hy30 => (intro w' hw'; go_simp; try with_reducible rfl)
      simp only [rgn.l1, rgn.l2, rgn.l3, Act.put, rgn.l4, rgn.l5, rgn.l6]
      refine rgn.tl (i := 6) (v := ?v31) rfl (by kernel_rfl) (fun _ _ _ h => h) (by rfl) ?hy31 hS0 ?_
      case hy31 => (intro w' hw'; go_simp; try with_reducible rfl)
      simp only [rgn.l1, rgn.l2, rgn.l3, Act.put, rgn.l4, rgn.l5, rgn.l6]
      refine rgn.tl (i := 7) (v := ?v32) rfl (by kernel_rfl) (fun _ _ _ h => h) (by rfl) ?hy32 hS0 ?_
      case hy32 => (intro w' hw'; go_simp; try with_reducible rfl)
      simp only [rgn.l1, rgn.l2, rgn.l3, Act.put, rgn.l4, rgn.l5, rgn.l6]
      refine rgn.tl (i := 8) (v := ?v33) rfl (by kernel_rfl) (fun _ _ _ h => h) (by rfl) ?hy33 hS0 ?_
      case hy33 => (intro w' hw'; have mN' := (hw'.cell (p := ⟨p, j * 10, none⟩) g2).trans mNx; go_simp; try with_reducible rfl)
      simp only [rgn.l1, rgn.l2, rgn.l3, Act.put, rgn.l4, rgn.l5, rgn.l6]
      refine rgn.tl (i := 9) (v := ?v34) rfl (by kernel_rfl) (fun _ _ _ h => h) (by rfl) ?hy34 hS0 ?_
      case hy34 => (intro w' hw'; go_simp; try with_reducible rfl)
      simp only [rgn.l1, rgn.l2, rgn.l3, Act.put, rgn.l4, rgn.l5, rgn.l6]
      refine rgn.tl (i := 10) (v := ?v35) rfl (by kernel_rfl) (fun _ _ _ h => h) (by rfl) ?hy35 hS0 ?_
      case hy35 => (intro w' hw'; have u3' := (hw'.cell (p := ⟨w.heap.size + 1, 4, none⟩) g1).trans u3x; go_simp; try with_reducible rfl)
      simp only [rgn.l1, rgn.l2, rgn.l3, Act.put, rgn.l4, rgn.l5, rgn.l6]
      refine rgn.tl (i := 11) (v := ?v36) rfl (by kernel_rfl) (fun _ _ _ h => h) (by rfl) ?hy36 hS0 ?_
      case hy36 => (intro w' hw'; go_simp; try with_reducible rfl)
      simp only [rgn.l1, rgn.l2, rgn.l3, Act.put, rgn.l4, rgn.l5, rgn.l6]
      refine rgn.tl (i := 12) (v := ?v37) rfl (by kernel_rfl) (fun _ _ _ h => h) (by rfl) ?hy37 hS0 ?_
      case hy37 => (intro w' hw'; go_simp; try with_reducible rfl)
      simp only [rgn.l1, rgn.l2, rgn.l3, Act.put, rgn.l4, rgn.l5, rgn.l6]
      refine rgn.tl (i := 13) (v := ?v38) rfl (by kernel_rfl) (fun _ _ _ h => h) (by rfl) ?hy38 hS0 ?_
      case hy38 => (intro w' hw'; go_simp; try with_reducible rfl)
      simp only [rgn.l1, rgn.l2, rgn.l3, Act.put, rgn.l4, rgn.l5, rgn.l6]
      refine rgn.tl (i := 14) (v := ?v39) rfl (by kernel_rfl) (fun _ _ _ h => h) (by rfl) ?hy39 hS0 ?_
      case hy39 => (intro w' hw'; have nN' := (hw'.cell (p := ⟨p', j * 10, none⟩) g3).trans nNx; go_simp; try with_reducible rfl)
      simp only [rgn.l1, rgn.l2, rgn.l3, Act.put, rgn.l4, rgn.l5, rgn.l6]
      refine rgn.tl (i := 15) (v := ?v40) rfl (by kernel_rfl) (fun _ _ _ h => h) (by rfl) ?hy40 hS0 ?_
      case hy40 => (intro w' hw'; go_simp; try with_reducible rfl)
      simp only [rgn.l1, rgn.l2, rgn.l3, Act.put, rgn.l4, rgn.l5, rgn.l6]
      refine rgn.tl (i := 16) (v := ?v41) rfl (by kernel_rfl) (fun _ _ _ h => h) (by rfl) ?hy41 hS0 ?_
      case hy41 => (intro w' hw'; go_simp; try with_reducible rfl)
      simp only [rgn.l1, rgn.l2, rgn.l3, Act.put, rgn.l4, rgn.l5, rgn.l6]
      refine rgn.tl (i := 17) (v := ?v42) rfl (by kernel_rfl) (fun _ _ _ h => h) (by rfl) ?hy42 hS0 ?_
      case hy42 => (intro w' hw'; go_simp; try with_reducible rfl)
      simp only [rgn.l1, rgn.l2, rgn.l3, Act.put, rgn.l4, rgn.l5, rgn.l6]
      refine rgn.tl (i := 18) (v := ?v43) rfl (by kernel_rfl) (fun _ _ _ h => h) (by rfl) ?hy43 hS0 ?_
      case hy43 => (intro w' hw'; go_simp; try with_reducible rfl)
      simp only [rgn.l1, rgn.l2, rgn.l3, Act.put, rgn.l4, rgn.l5, rgn.l6]
      refine rgn.tl (i := 19) (v := ?v44) rfl (by kernel_rfl) (fun _ _ _ h => h) (by rfl) ?hy44 hS0 ?_
      case hy44 => (intro w' hw'; go_simp; try with_reducible rfl)
      simp only [rgn.l1, rgn.l2, rgn.l3, Act.put, rgn.l4, rgn.l5, rgn.l6]
      refine rgn.tl (i := 20) (v := ?v45) rfl (by kernel_rfl) (fun _ _ _ h => h) (by rfl) ?hy45 hS0 ?_
      case hy45 => (intro w' hw'; go_simp; try with_reducible rfl)
      simp only [rgn.l1, rgn.l2, rgn.l3, Act.put, rgn.l4, rgn.l5, rgn.l6]
      refine rgn.tl (i := 21) (v := ?v46) rfl (by kernel_rfl) (fun _ _ _ h => h) (by rfl) ?hy46 hS0 ?_
      case hy46 => (intro w' hw'; have d3' := (hw'.cell (p := ⟨w.heap.size, 4, none⟩) g0).trans d3x; go_simp; try with_reducible rfl)
      simp only [rgn.l1, rgn.l2, rgn.l3, Act.put, rgn.l4, rgn.l5, rgn.l6]
      refine rgn.tl (i := 22) (v := ?v47) rfl (by kernel_rfl) (fun _ _ _ h => h) (by rfl) ?hy47 hS0 ?_
      case hy47 => (intro w' hw'; go_simp; try with_reducible rfl)
      simp only [rgn.l1, rgn.l2, rgn.l3, Act.put, rgn.l4, rgn.l5, rgn.l6]
      refine rgn.tl (i := 23) (v := ?v48) rfl (by kernel_rfl) (fun _ _ _ h => h) (by rfl) ?hy48 hS0 ?_
      case hy48 => (intro w' hw'; go_simp; try with_reducible rfl)
      simp only [rgn.l1, rgn.l2, rgn.l3, Act.put, rgn.l4, rgn.l5, rgn.l6]
      refine rgn.tl (i := 24) (v := ?v49) rfl (by kernel_rfl) (fun _ _ _ h => h) (by rfl) ?hy49 hS0 ?_
      case hy49 => (intro w' hw'; go_simp; try with_reducible rfl)
      simp only [rgn.l1, rgn.l2, rgn.l3, Act.put, rgn.l4, rgn.l5, rgn.l6]
      refine rgn.tl (i := 25) (v := ?v50) rfl (by kernel_rfl) (fun _ _ _ h => h) (by rfl) ?hy50 hS0 ?_
      case hy50 => (intro w' hw'; have m8' := (hw'.cell (p := ⟨p, j * 10 + 8, none⟩) g2).trans m8x; have m9' := (hw'.cell (p := ⟨p, j * 10 + 9, none⟩) g2).trans m9x; go_simp; try with_reducible rfl)
      simp only [rgn.l1, rgn.l2, rgn.l3, Act.put, rgn.l4, rgn.l5, rgn.l6]
      refine rgn.tl (i := 26) (v := ?v51) rfl (by kernel_rfl) (fun _ _ _ h => h) (by rfl) ?hy51 hS0 ?_
      case hy51 => (intro w' hw'; go_simp; try with_reducible rfl)
      simp only [rgn.l1, rgn.l2, rgn.l3, Act.put, rgn.l4, rgn.l5, rgn.l6]
      refine rgn.tl (i := 27) (v := ?v52) rfl (by kernel_rfl) (fun _ _ _ h => h) (by rfl) ?hy52 hS0 ?_
      case hy52 => (intro w' hw'; have u3' := (hw'.cell (p := ⟨w.heap.size + 1, 4, none⟩) g1).trans u3x; go_simp; try with_reducible rfl)
      simp only [rgn.l1, rgn.l2, rgn.l3, Act.put, rgn.l4, rgn.l5, rgn.l6]
      refine rgn.tl (i := 28) (v := ?v53) rfl (by kernel_rfl) (fun _ _ _ h => h) (by rfl) ?hy53 hS0 ?_
      case hy53 => (intro w' hw'; go_simp; try with_reducible rfl)
      simp only [rgn.l1, rgn.l2, rgn.l3, Act.put, rgn.l4, rgn.l5, rgn.l6]
      refine rgn.tl (i := 29) (v := ?v54) rfl (by kernel_rfl) (fun _ _ _ h => h) (by rfl) ?hy54 hS0 ?_
      case hy54 => (intro w' hw'; go_simp; try with_reducible rfl)
      simp only [rgn.l1, rgn.l2, rgn.l3, Act.put, rgn.l4, rgn.l5, rgn.l6]
      refine rgn.tl (i := 30) (v := ?v55) rfl (by kernel_rfl) (fun _ _ _ h => h) (by rfl) ?hy55 hS0 ?_
      case hy55 => (intro w' hw'; go_simp; try with_reducible rfl)
      simp only [rgn.l1, rgn.l2, rgn.l3, Act.put, rgn.l4, rgn.l5, rgn.l6]
      refine rgn.tl (i := 31) (v := ?v56) rfl (by kernel_rfl) (fun _ _ _ h => h) (by rfl) ?hy56 hS0 ?_
      case hy56 => (intro w' hw'; have n8' := (hw'.cell (p := ⟨p', j * 10 + 8, none⟩) g3).trans n8x; have n9' := (hw'.cell (p := ⟨p', j * 10 + 9, none⟩) g3).trans n9x; go_simp; try with_reducible rfl)
      simp only [rgn.l1, rgn.l2, rgn.l3, Act.put, rgn.l4, rgn.l5, rgn.l6]
      refine rgn.tl (i := 32) (v := ?v57) rfl (by kernel_rfl) (fun _ _ _ h => h) (by rfl) ?hy57 hS0 ?_
      case hy57 => (intro w' hw'; go_simp; try with_reducible rfl)
      simp only [rgn.l1, rgn.l2, rgn.l3, Act.put, rgn.l4, rgn.l5, rgn.l6]
      refine rgn.tl (i := 33) (v := ?v58) rfl (by kernel_rfl) (fun _ _ _ h => h) (by rfl) ?hy58 hS0 ?_
      case hy58 => (intro w' hw'; go_simp; try with_reducible rfl)
      simp only [rgn.l1, rgn.l2, rgn.l3, Act.put, rgn.l4, rgn.l5, rgn.l6]
      refine rgn.tl (i := 34) (v := ?v59) rfl (by kernel_rfl) (fun _ _ _ h => h) (by rfl) ?hy59 hS0 ?_
      case hy59 => (intro w' hw'; go_simp; try with_reducible rfl)
      simp only [rgn.l1, rgn.l2, rgn.l3, Act.put, rgn.l4, rgn.l5, rgn.l6]
      refine wpAnyH_done (by kernel_rfl) ?_ _; refine NoPanic.normal ?_
      go_wp2_with fail
      go_roundw
      case rel => exact ⟨j + 1, by omega, by go_num, hI2.more hS0⟩
      case measure => first | (simp [intOf]; omega) | simp [intOf]
     ·have ji : ¬ (j : Int) < (n2 : Int) := by omega
      have hI9 := hide hI
      clear hlt
      go_wp2_with fail
      go_ret
      exact ⟨rfl, (unhide hI9).bel⟩
def EqLs (R : Dt → Dt → Prop) (l l' : List Dt) : Prop := l.length = l'.length ∧ ∀ (i : Nat) x y, l[i]? = some x → l'[i]? = some y → R x y
def EqA (pl : Bool) (f : Nat) (x y : Dt) : Prop := ∃ nm v v' a b a' b', x = fldD nm v a b ∧ y = fldD nm v' a' b' ∧ (pl = true → a = a' ∧ b = b') ∧ EqL pl f v v'
def EqR (pl : Bool) (f : Nat) (x y : Dt) : Prop := ∃ nm l l' a b a' b', x = dirD nm l a b ∧ y = dirD nm l' a' b' ∧ (pl = true → a = a' ∧ b = b') ∧ EqLs (EqA pl f) l l'
def EqS (pl : Bool) (f : Nat) : Nat → Dt → Dt → Prop
 | 0, _, _ => False
 | g + 1, x, y => ∃ k al nm on ars ars' ds ds' ss ss' a b a' b', x = selD k al nm on ars ds ss a b ∧ y = selD k al nm on ars' ds' ss' a' b' ∧ (pl = true → a = a' ∧ b = b') ∧ EqLs (EqA pl f) ars ars' ∧ EqLs (EqR pl f) ds ds' ∧ EqLs (EqS pl f g) ss ss'
def EqV (pl : Bool) (f : Nat) (x y : Dt) : Prop := ∃ nm tn tw hd v v' ds ds' a b a' b', x = varD nm tn tw hd v ds a b ∧ y = varD nm tn tw hd v' ds' a' b' ∧ (pl = true → a = a' ∧ b = b') ∧ EqL pl f v v' ∧ EqLs (EqR pl f) ds ds'
def EqF (pl : Bool) (f g : Nat) (x y : Dt) : Prop := ∃ k nm on sh vs vs' ds ds' ss ss' a b a' b', x = defD k nm on sh vs ds ss a b ∧ y = defD k nm on sh vs' ds' ss' a' b' ∧ (pl = true → a = a' ∧ b = b') ∧ EqLs (EqV pl f) vs vs' ∧ EqLs (EqR pl f) ds ds' ∧ EqLs (EqS pl f g) ss ss'
def Ls (w : World) (k : Nat) (l : List Dt) (a : Option Addr) (F : List Nat) : Prop := l = [] ∨ ∃ p off, a = some ⟨p, off, none⟩ ∧ p ∈ F ∧ ∀ (i : Nat) e, l[i]? = some e → ∃ ds G, RowAt w p (off + i * k) ds ∧ ds.length = k ∧ Ow w e ds G ∧ ∀ b ∈ G, b ∈ F
theorem Ls.below {w w' : World} {k : Nat} {l : List Dt} {a : Option Addr} {F : List Nat} (h : Ls w k l a F) (hF : ∀ b ∈ F, b < w.heap.size) (hb : Below w.heap.size w w') : Ls w' k l a F := by
 rcases h with h | ⟨p, off, ha, hp, h⟩
 ·exact .inl h
 ·refine .inr ⟨p, off, ha, hp, fun i e he => ?_⟩
  obtain ⟨ds, G, h1, h2, h3, h4⟩ := h i e he
  exact ⟨ds, G, h1.below hb, h2, dt.Ow.agree e ds G (fun b hb' o => hb.cell (p := ⟨b, o, none⟩) (hF b (h4 b hb'))) h3, h4⟩
theorem Ls.mono {w : World} {k : Nat} {l : List Dt} {a : Option Addr} {F F' : List Nat} (h : Ls w k l a F) (hF : ∀ b ∈ F, b ∈ F') : Ls w k l a F' := by
 rcases h with h | ⟨p, off, ha, hp, h⟩
 ·exact .inl h
 ·refine .inr ⟨p, off, ha, hF p hp, fun i e he => ?_⟩
  obtain ⟨ds, G, h1, h2, h3, h4⟩ := h i e he
  exact ⟨ds, G, h1, h2, h3, fun b hb => hF b (h4 b hb)⟩
theorem Ls.drop {w : World} {k : Nat} {l : List Dt} {p off : Nat} {F : List Nat} (h : Ls w k l (some ⟨p, off, none⟩) F) (n : Nat) : Ls w k (l.drop n) (some ⟨p, off + n * k, none⟩) F := by
 rcases h with h | ⟨p', off', ha, hp, h⟩
 ·exact .inl (by rw [h]; simp)
 ·obtain ⟨rfl, rfl⟩ : p = p' ∧ off = off' := by simpa using ha
  refine .inr ⟨p, _, rfl, hp, fun i e he => ?_⟩
  obtain ⟨ds, G, h1, h2, h3, h4⟩ := h (n + i) e (by rw [List.getElem?_drop] at he; exact he)
  exact ⟨ds, G, by rw [show off + n * k + i * k = off + (n + i) * k by rw [Nat.add_mul]; omega]; exact h1, h2, h3, h4⟩
theorem Ls.take {w : World} {k : Nat} {l : List Dt} {a : Option Addr} {F : List Nat} (h : Ls w k l a F) (n : Nat) : Ls w k (l.take n) a F := by
 rcases h with h | ⟨p', off', ha, hp, h⟩
 ·exact .inl (by rw [h]; simp)
 ·refine .inr ⟨p', off', ha, hp, fun i e he => ?_⟩
  rw [List.getElem?_take] at he
  split at he
  ·exact h i e he
  ·cases he
theorem lst_ls {w : World} {k n : Nat} {l : List Dt} {a : Option Addr} {F : List Nat} (h : (a = none ∧ Dt.of l = .nil ∧ n = 0 ∧ F = []) ∨ ∃ p G, a = some ⟨p, 0, none⟩ ∧ F = p :: G ∧ OwIn w (Dt.of l) k p 0 n G) : n = l.length ∧ Ls w k l a F := by
 rcases h with ⟨h1, h2, h3, h4⟩ | ⟨p, G, h1, rfl, h3⟩
 ·have : l = [] := by
   cases l with
   | nil => rfl
   | cons e r => simp [Dt.of] at h2
  exact ⟨by rw [this, h3]; rfl, .inl this⟩
 ·obtain ⟨h4, h5⟩ := dt.OwIn.get l k p 0 n G h3
  refine ⟨h4.symm, .inr ⟨p, 0, h1, List.mem_cons_self .., fun i e he => ?_⟩⟩
  obtain ⟨cs, Gi, h6, h7, h8, h9⟩ := h5 i e he
  exact ⟨cs, Gi, h6, h7, h8, fun b hb => List.mem_cons_of_mem _ (h9 b hb)⟩
theorem dir_cells {w : World} {nm : ByteArray} {l : List Dt} {x y : Int} {cs : List Value} {F : List Nat} (h : Ow w (dirD nm l x y) cs F) :
  ∃ a c, cs = [.string nm, .slice a l.length c, .int .i64 x, .int .i64 y] ∧ l.length ≤ c ∧ c ≤ maxLen ∧ Ls w 10 l a F := by
 unfold dirD Ow at h
 obtain ⟨d0, rfl, _, h⟩ := h
 unfold Ow at h
 obtain ⟨a, n, c, d1, F1, F2, rfl, i1, i2, i3, i4, h, rfl⟩ := h
 obtain ⟨rfl, hl⟩ := lst_ls i4
 unfold Ow at h
 obtain ⟨d2, rfl, a6, h⟩ := h
 unfold Ow at h
 obtain ⟨d3, rfl, a7, h⟩ := h
 unfold Ow at h
 obtain ⟨rfl, rfl⟩ := h
 exact ⟨a, c, rfl, i1, i2, hl.mono (fun b hb => List.mem_append_left _ hb)⟩
theorem sel_cells {w : World} {k : Int} {al nm on : ByteArray} {ars ds ss : List Dt} {x y : Int} {cs : List Value} {F : List Nat} (h : Ow w (selD k al nm on ars ds ss x y) cs F) :
  ∃ a1 c1 a2 c2 a3 c3, cs = [.int .i64 k, .string al, .string nm, .string on, .slice a1 ars.length c1, .slice a2 ds.length c2, .slice a3 ss.length c3, .int .i64 x, .int .i64 y] ∧ (ars.length ≤ c1 ∧ c1 ≤ maxLen ∧ ds.length ≤ c2 ∧ c2 ≤ maxLen ∧ ss.length ≤ c3 ∧ c3 ≤ maxLen) ∧ Ls w 10 ars a1 F ∧ Ls w 4 ds a2 F ∧ Ls w 9 ss a3 F := by
 unfold selD Ow at h
 obtain ⟨d0, rfl, _, h⟩ := h
 unfold Ow at h
 obtain ⟨d1, rfl, _, h⟩ := h
 unfold Ow at h
 obtain ⟨d2, rfl, _, h⟩ := h
 unfold Ow at h
 obtain ⟨d3, rfl, _, h⟩ := h
 unfold Ow at h
 obtain ⟨a1, n1, c1, d4, F1, F1', rfl, i1, i2, i3, i4, h, rfl⟩ := h
 obtain ⟨rfl, hl1⟩ := lst_ls i4
 unfold Ow at h
 obtain ⟨a2, n2, c2, d5, F2, F2', rfl, j1, j2, j3, j4, h, rfl⟩ := h
 obtain ⟨rfl, hl2⟩ := lst_ls j4
 unfold Ow at h
 obtain ⟨a3, n3, c3, d6, F3, F3', rfl, k1, k2, k3, k4, h, rfl⟩ := h
 obtain ⟨rfl, hl3⟩ := lst_ls k4
 unfold Ow at h
 obtain ⟨d7, rfl, a6, h⟩ := h
 unfold Ow at h
 obtain ⟨d8, rfl, a7, h⟩ := h
 unfold Ow at h
 obtain ⟨rfl, rfl⟩ := h
 exact ⟨a1, c1, a2, c2, a3, c3, rfl, ⟨i1, i2, j1, j2, k1, k2⟩, hl1.mono (fun b hb => List.mem_append_left _ hb), hl2.mono (fun b hb => List.mem_append_right _ (List.mem_append_left _ hb)), hl3.mono (fun b hb => List.mem_append_right _ (List.mem_append_right _ (List.mem_append_left _ hb)))⟩
theorem def_cells {w : World} {k : Int} {nm on : ByteArray} {sh : Bool} {vs ds ss : List Dt} {x y : Int} {cs : List Value} {F : List Nat} (h : Ow w (defD k nm on sh vs ds ss x y) cs F) :
  ∃ a1 c1 a2 c2 a3 c3, cs = [.int .i64 k, .string nm, .string on, .bool sh, .slice a1 vs.length c1, .slice a2 ds.length c2, .slice a3 ss.length c3, .int .i64 x, .int .i64 y] ∧ (vs.length ≤ c1 ∧ c1 ≤ maxLen ∧ ds.length ≤ c2 ∧ c2 ≤ maxLen ∧ ss.length ≤ c3 ∧ c3 ≤ maxLen) ∧ Ls w 14 vs a1 F ∧ Ls w 4 ds a2 F ∧ Ls w 9 ss a3 F := by
 unfold defD Ow at h
 obtain ⟨d0, rfl, _, h⟩ := h
 unfold Ow at h
 obtain ⟨d1, rfl, _, h⟩ := h
 unfold Ow at h
 obtain ⟨d2, rfl, _, h⟩ := h
 unfold Ow at h
 obtain ⟨d3, rfl, _, h⟩ := h
 unfold Ow at h
 obtain ⟨a1, n1, c1, d4, F1, F1', rfl, i1, i2, i3, i4, h, rfl⟩ := h
 obtain ⟨rfl, hl1⟩ := lst_ls i4
 unfold Ow at h
 obtain ⟨a2, n2, c2, d5, F2, F2', rfl, j1, j2, j3, j4, h, rfl⟩ := h
 obtain ⟨rfl, hl2⟩ := lst_ls j4
 unfold Ow at h
 obtain ⟨a3, n3, c3, d6, F3, F3', rfl, k1, k2, k3, k4, h, rfl⟩ := h
 obtain ⟨rfl, hl3⟩ := lst_ls k4
 unfold Ow at h
 obtain ⟨d7, rfl, a6, h⟩ := h
 unfold Ow at h
 obtain ⟨d8, rfl, a7, h⟩ := h
 unfold Ow at h
 obtain ⟨rfl, rfl⟩ := h
 exact ⟨a1, c1, a2, c2, a3, c3, rfl, ⟨i1, i2, j1, j2, k1, k2⟩, hl1.mono (fun b hb => List.mem_append_left _ hb), hl2.mono (fun b hb => List.mem_append_right _ (List.mem_append_left _ hb)), hl3.mono (fun b hb => List.mem_append_right _ (List.mem_append_right _ (List.mem_append_left _ hb)))⟩
theorem var_cells {w : World} {nm tn tw : ByteArray} {hd : Bool} {k : Int} {tx : ByteArray} {bl : Bool} {its fls : Dt} {ln co : Int} {ds : List Dt} {x y : Int} {cs : List Value} {F : List Nat} (h : Ow w (varD nm tn tw hd (litD k tx bl its fls ln co) ds x y) cs F) :
  ∃ ai ni ci af nf cf a2 c2 G, cs = [.string nm, .string tn, .string tw, .bool hd, .int .i64 k, .string tx, .bool bl, .slice ai ni ci, .slice af nf cf, .int .i64 ln, .int .i64 co, .slice a2 ds.length c2, .int .i64 x, .int .i64 y] ∧ (ds.length ≤ c2 ∧ c2 ≤ maxLen) ∧ Ow w (litD k tx bl its fls ln co) [.int .i64 k, .string tx, .bool bl, .slice ai ni ci, .slice af nf cf, .int .i64 ln, .int .i64 co] G ∧ (∀ b ∈ G, b ∈ F) ∧ Ls w 4 ds a2 F := by
 unfold varD litD at h
 simp only [app] at h
 unfold Ow at h
 obtain ⟨e0, rfl, _, h⟩ := h
 unfold Ow at h
 obtain ⟨e1, rfl, _, h⟩ := h
 unfold Ow at h
 obtain ⟨e2, rfl, _, h⟩ := h
 unfold Ow at h
 obtain ⟨e3, rfl, _, h⟩ := h
 unfold Ow at h
 obtain ⟨d1, rfl, a1, h⟩ := h
 unfold Ow at h
 obtain ⟨d2, rfl, a2, h⟩ := h
 unfold Ow at h
 obtain ⟨d3, rfl, a3, h⟩ := h
 unfold Ow at h
 obtain ⟨ai, ni, ci, d4, F1, F2, rfl, i1, i2, i3, i4, h, rfl⟩ := h
 unfold Ow at h
 obtain ⟨af, nf, cf, d5, F3, F4, rfl, j1, j2, j3, j4, h, rfl⟩ := h
 unfold Ow at h
 obtain ⟨d6, rfl, a6, h⟩ := h
 unfold Ow at h
 obtain ⟨d7, rfl, a7, h⟩ := h
 unfold Ow at h
 obtain ⟨aq, nq, cq, d8, F5, F6, rfl, k1, k2, k3, k4, h, rfl⟩ := h
 obtain ⟨rfl, hl⟩ := lst_ls k4
 unfold Ow at h
 obtain ⟨d9, rfl, a9, h⟩ := h
 unfold Ow at h
 obtain ⟨d10, rfl, a10, h⟩ := h
 unfold Ow at h
 obtain ⟨rfl, rfl⟩ := h
 refine ⟨ai, ni, ci, af, nf, cf, aq, cq, F1 ++ (F3 ++ []), rfl, ⟨k1, k2⟩, ?_, ?_, ?_⟩
 ·unfold litD Ow
  refine ⟨_, rfl, a1, ?_⟩
  unfold Ow
  refine ⟨_, rfl, a2, ?_⟩
  unfold Ow
  refine ⟨_, rfl, a3, ?_⟩
  unfold Ow
  refine ⟨ai, ni, ci, _, F1, F3 ++ [], rfl, i1, i2, i3, i4, ?_, rfl⟩
  unfold Ow
  refine ⟨af, nf, cf, _, F3, [], rfl, j1, j2, j3, j4, ?_, rfl⟩
  unfold Ow
  refine ⟨_, rfl, a6, ?_⟩
  unfold Ow
  refine ⟨_, rfl, a7, ?_⟩
  unfold Ow
  exact ⟨rfl, rfl⟩
 ·intro b hb
  simp at hb ⊢
  rcases hb with hb | hb
  ·exact .inl hb
  ·exact .inr (.inl hb)
 ·exact hl.mono (fun b hb => by simp [hb])
def EqT (pl : Bool) (t t' : Tk) : Prop := t'.k = t.k ∧ t'.tx = t.tx ∧ t'.va = t.va ∧ (pl = true → t.ln = t'.ln ∧ t.co = t'.co)
theorem EqT.refl (pl : Bool) (t : Tk) : EqT pl t t := ⟨rfl, rfl, rfl, fun _ => ⟨rfl, rfl⟩⟩
structure Sf (pl : Bool) (m s e : Nat) (c c' : Cu) : Prop where
 ix : c'.ix = c.ix + s
 op : c'.op = c.op + e
 mo : c'.mo = c.mo + e
 kd : c'.kd = c.kd
 tk : ∀ i, i ≤ m → EqT pl (c.ts.getD i Tk.zero) (c'.ts.getD (i + s) Tk.zero)
def Ps {A : Type} (e : Nat) (c : Cu) (E : Cu → A × Cu) : Prop := e = 0 ∨ (Inv c ∧ c.kd = 0 ∧ (E c).2.kd = 0)
section
variable {pl : Bool} {m s e : Nat}
theorem Sf.tok {c c' : Cu} (h : Sf pl m s e c c') (hi : c.ix ≤ m) : EqT pl c.tok c'.tok := by
 have := h.tk c.ix hi
 rw [← h.ix] at this
 exact this
theorem Sf.isP {c c' : Cu} (h : Sf pl m s e c c') (hi : c.ix ≤ m) (p : ByteArray) : c'.isP p = c.isP p := by
 have t := h.tok hi
 unfold Cu.isP
 rw [h.kd, t.1, t.2.1]
theorem Sf.isN {c c' : Cu} (h : Sf pl m s e c c') (hi : c.ix ≤ m) : c'.isN = c.isN := by
 have t := h.tok hi
 unfold Cu.isN
 rw [h.kd, t.1]
theorem Sf.isW {c c' : Cu} (h : Sf pl m s e c c') (hi : c.ix ≤ m) (ws : List ByteArray) : c'.isW ws = c.isW ws := by
 have t := h.tok hi
 unfold Cu.isW
 rw [h.isN hi, t.2.1]
theorem Sf.finB {c c' : Cu} (h : Sf pl m s e c c') (hi : c.ix ≤ m) : c'.finB = c.finB := by
 have t := h.tok hi
 unfold Cu.finB
 rw [h.kd, t.1]
theorem Sf.take {c c' : Cu} (h : Sf pl m s e c c') : Sf pl m s e c.take c'.take := ⟨by show c'.ix + 1 = c.ix + 1 + s; rw [h.ix]; omega, h.op, h.mo, h.kd, h.tk⟩
theorem Sf.stop {c c' : Cu} (h : Sf pl m s e c c') (k : Int) : Sf pl m s e (c.stop k) (c'.stop k) := by
 unfold Cu.stop
 rw [h.kd]
 split
 ·exact ⟨h.ix, h.op, h.mo, rfl, h.tk⟩
 ·exact h
theorem Sf.nmC {c c' : Cu} (h : Sf pl m s e c c') (so : Bool) : Sf pl m s e (c.nmC so) (c'.nmC so) := by
 cases so
 ·exact h.stop 70
 ·exact h.take
theorem Sf.name {c c' : Cu} (h : Sf pl m s e c c') (hi : c.ix ≤ m) : Sf pl m s e c.name c'.name := by
 unfold Cu.name
 rw [h.isN hi]
 split
 ·exact h.take
 ·exact h.stop 70
theorem Sf.want {c c' : Cu} (h : Sf pl m s e c c') (hi : c.ix ≤ m) (p : ByteArray) : Sf pl m s e (c.want p) (c'.want p) := by
 unfold Cu.want
 rw [h.isP hi]
 split
 ·exact h.take
 ·exact h.stop 70
theorem Sf.punct {c c' : Cu} (h : Sf pl m s e c c') (hi : c.ix ≤ m) (p : ByteArray) : Sf pl m s e (c.punct p) (c'.punct p) := by
 unfold Cu.punct
 rw [h.isP hi]
 split
 ·exact h.take
 ·exact h
theorem Sf.word {c c' : Cu} (h : Sf pl m s e c c') (hi : c.ix ≤ m) (q : ByteArray) : Sf pl m s e (c.word q) (c'.word q) := by
 unfold Cu.word
 rw [h.isW hi]
 split
 ·exact h.take
 ·exact h
theorem Sf.fin {c c' : Cu} (h : Sf pl m s e c c') (hi : c.ix ≤ m) : Sf pl m s e c.fin c'.fin := by
 unfold Cu.fin
 rw [h.finB hi]
 split
 ·exact h
 ·exact h.stop 70
theorem Sf.opB {c c' : Cu} (h : Sf pl m s e c c') (hi : c.ix ≤ m) (p : ByteArray) : c'.opB p = c.opB p := by
 unfold Cu.opB
 rw [h.isP hi, h.op, h.mo]
 congr 1
 exact decide_eq_decide.2 (by omega)
theorem Sf.opn {c c' : Cu} (h : Sf pl m s e c c') (hi : c.ix ≤ m) (p : ByteArray) : Sf pl m s e (c.opn p) (c'.opn p) := by
 unfold Cu.opn
 rw [h.isP hi]
 split
 ·have hx := h.op
  have hy := h.mo
  by_cases g : c.op < c.mo
  ·rw [if_pos g, if_pos (by omega)]
   exact ⟨by show c'.ix + 1 = c.ix + 1 + s; rw [h.ix]; omega, by show c'.op + 1 = c.op + 1 + e; omega, hy, h.kd, h.tk⟩
  ·rw [if_neg g, if_neg (by omega)]
   exact h.stop 71
 ·exact h.stop 70
theorem Sf.cls {c c' : Cu} (h : Sf pl m s e c c') (hi : c.ix ≤ m) (p : ByteArray) (he : e = 0 ∨ 1 ≤ c.op) : Sf pl m s e (c.cls p) (c'.cls p) := by
 unfold Cu.cls
 rw [h.isP hi]
 split
 ·have hx := h.op
  exact ⟨by show c'.ix + 1 = c.ix + 1 + s; rw [h.ix]; omega, by show c'.op - 1 = c.op - 1 + e; omega, h.mo, h.kd, h.tk⟩
 ·exact h.stop 70
end
structure Ok4 {A X : Type} (pl : Bool) (m s e : Nat) (P : Prop) (V : A → X → Prop) (E : Cu → A × Cu) (E' : Cu → X × Cu) (b b' : Nat) : Prop where
 o : Ok3 0 E b
 st' : St E'
 near : P → ∀ c c', c.Ok → c'.Ok → Sf pl m s e c c' → c.ts.length ≤ b + c.ix → c'.ts.length ≤ b' + c'.ix → Ps e c E → (E c).2.ix ≤ m → V (E c).1 (E' c').1 ∧ Sf pl m s e (E c).2 (E' c').2
structure Ok5 {A X : Type} (pl : Bool) (m s e : Nat) (P : Prop) (V : Option A → Option X → Prop) (E : Cu → Option A × Cu) (E' : Cu → Option X × Cu) (b b' : Nat) : Prop where
 o : Ok3 0 E b
 st' : St E'
 go : ∀ c, c.Ok → (E c).1.isSome = true → c.ix < (E c).2.ix
 near : P → ∀ c c', c.Ok → c'.Ok → Sf pl m s e c c' → c.ts.length ≤ b + c.ix → c'.ts.length ≤ b' + c'.ix → Ps e c E → (E c).1.isSome = true → (E c).2.ix ≤ m + 1 → V (E c).1 (E' c').1 ∧ Sf pl m s e (E c).2 (E' c').2
section
variable {pl : Bool} {m s e : Nat} {P : Prop} {b b' : Nat}
theorem Ps.one {A X : Type} {E : Cu → A × Cu} {F : A → Cu → X × Cu} {c : Cu} (sF : ∀ a, Sti (F a)) (h : Ps e c (bnd E F)) : Ps e c E := by
 rcases h with h | ⟨h1, h2, h3⟩
 ·exact .inl h
 ·refine .inr ⟨h1, h2, Classical.byContradiction fun x => ?_⟩
  have h4 : (F (E c).1 (E c).2).2.kd = 0 := h3
  rw [sF _ _ x] at h4
  exact x h4
theorem Ps.two {A X : Type} {E : Cu → A × Cu} {F : A → Cu → X × Cu} {c : Cu} (o : Ok3 0 E b) (sF : ∀ a, Sti (F a)) (hc : c.Ok) (hb : c.ts.length ≤ b + c.ix) (h : Ps e c (bnd E F)) : Ps e (E c).2 (F (E c).1) := by
 have h5 := h.one sF
 rcases h with h | ⟨h1, h2, h3⟩
 ·exact .inl h
 ·rcases h5 with h5 | ⟨_, _, h6⟩
  ·exact .inl h5
  ·exact .inr ⟨(o.bal c hc hb h1 h2 h6).2, h6, h3⟩
theorem Ok4.bnd {A X Y Z : Type} {V : A → X → Prop} {V' : Y → Z → Prop} {E : Cu → A × Cu} {E' : Cu → X × Cu} {F : A → Cu → Y × Cu} {F' : X → Cu → Z × Cu} [Nonempty A] [Nonempty X] (h : Ok4 pl m s e P V E E' b b') (k : ∀ a a', Ok4 pl m s e (P ∧ V a a') V' (F a) (F' a') b b') : Ok4 pl m s e P V' (bnd E F) (bnd E' F') b b' := by
 have oF : ∀ a, Ok3 0 (F a) b := fun a => (k a (Classical.choice inferInstance)).o
 have sF' : ∀ a', St (F' a') := fun a' => (k (Classical.choice inferInstance) a').st'
 refine ⟨h.o.bnd oF, h.st'.bnd sF', fun hp c c' hc hc' hs hb hb' hP hm => ?_⟩
 have s1 := h.o.st c hc
 have s2 := h.st' c' hc'
 have t1 := (oF (E c).1).st _ s1.ok
 obtain ⟨e1, e2⟩ := h.near hp c c' hc hc' hs hb hb' (hP.one fun a => (oF a).sti) (Nat.le_trans t1.ix hm)
 exact (k (E c).1 (E' c').1).near ⟨hp, e1⟩ (E c).2 (E' c').2 s1.ok s2.ok e2 (by rw [s1.ts]; have := s1.ix; omega) (by rw [s2.ts]; have := s2.ix; omega) (hP.two h.o (fun a => (oF a).sti) hc hb) hm
theorem Ok4.bnd5 {A X Y Z : Type} {V : A → X → Prop} {V' : Option Y → Option Z → Prop} {E : Cu → A × Cu} {E' : Cu → X × Cu} {F : A → Cu → Option Y × Cu} {F' : X → Cu → Option Z × Cu} [Nonempty A] [Nonempty X] (h : Ok4 pl m s e P V E E' b b') (k : ∀ a a', Ok5 pl m s e (P ∧ V a a') V' (F a) (F' a') b b') : Ok5 pl m s e P V' (cu.bnd E F) (cu.bnd E' F') b b' := by
 have oF : ∀ a, Ok3 0 (F a) b := fun a => (k a (Classical.choice inferInstance)).o
 have sF' : ∀ a', St (F' a') := fun a' => (k (Classical.choice inferInstance) a').st'
 have gF : ∀ a, ∀ c, c.Ok → (F a c).1.isSome = true → c.ix < (F a c).2.ix := fun a => (k a (Classical.choice inferInstance)).go
 refine ⟨h.o.bnd oF, h.st'.bnd sF', fun c hc hsm => ?_, fun hp c c' hc hc' hs hb hb' hP hsm hm => ?_⟩
 ·have s1 := h.o.st c hc
  have := gF (E c).1 (E c).2 s1.ok hsm
  exact Nat.lt_of_le_of_lt s1.ix this
 ·have s1 := h.o.st c hc
  have s2 := h.st' c' hc'
  have t1 := gF (E c).1 (E c).2 s1.ok hsm
  have hm' : (F (E c).1 (E c).2).2.ix ≤ m + 1 := hm
  obtain ⟨e1, e2⟩ := h.near hp c c' hc hc' hs hb hb' (hP.one fun a => (oF a).sti) (by omega)
  exact (k (E c).1 (E' c').1).near ⟨hp, e1⟩ (E c).2 (E' c').2 s1.ok s2.ok e2 (by rw [s1.ts]; have := s1.ix; omega) (by rw [s2.ts]; have := s2.ix; omega) (hP.two h.o (fun a => (oF a).sti) hc hb) hsm hm
theorem Ok5.map {A X Y Z : Type} {V : Option A → Option X → Prop} {V' : Option Y → Option Z → Prop} {E : Cu → Option A × Cu} {E' : Cu → Option X × Cu} {f : Option A → Option Y} {f' : Option X → Option Z} (h : Ok5 pl m s e P V E E' b b') (hf : ∀ r, (f r).isSome = true → r.isSome = true) (k : ∀ r r', P → V r r' → V' (f r) (f' r')) : Ok5 pl m s e P V' (bnd E fun r => ret (f r)) (bnd E' fun r => ret (f' r)) b b' := by
 refine ⟨h.o.bnd fun _ => ret_3 _, h.st'.bnd fun _ => ret_st _, fun c hc hsm => h.go c hc (hf _ hsm), fun hp c c' hc hc' hs hb hb' hP hsm hm => ?_⟩
 obtain ⟨e1, e2⟩ := h.near hp c c' hc hc' hs hb hb' (hP.one fun a => (ret_3 (M := 0) (b := b) _).sti) (hf _ hsm) hm
 exact ⟨k _ _ hp e1, e2⟩
theorem Ok4.mono {A X : Type} {V : A → X → Prop} {E : Cu → A × Cu} {E' : Cu → X × Cu} {d d' : Nat} (h : Ok4 pl m s e P V E E' b b') (hd : d ≤ b) (hd' : d' ≤ b') : Ok4 pl m s e P V E E' d d' := ⟨h.o.mono hd, h.st', fun hp c c' hc hc' hs hb hb' => h.near hp c c' hc hc' hs (by omega) (by omega)⟩
theorem Ok4.wk {A X : Type} {V : A → X → Prop} {E : Cu → A × Cu} {E' : Cu → X × Cu} (h : Ok4 pl m s e True V E E' b b') : Ok4 pl m s e P V E E' b b' := ⟨h.o, h.st', fun _ => h.near trivial⟩
theorem Ok5.wk {A X : Type} {V : Option A → Option X → Prop} {E : Cu → Option A × Cu} {E' : Cu → Option X × Cu} (h : Ok5 pl m s e True V E E' b b') : Ok5 pl m s e P V E E' b b' := ⟨h.o, h.st', h.go, fun _ => h.near trivial⟩
theorem cond_4 {A X : Type} {V : A → X → Prop} {q q' : Bool} {E F : Cu → A × Cu} {E' F' : Cu → X × Cu} (hq : P → q = q') (h : Ok4 pl m s e P V E E' b b') (k : Ok4 pl m s e P V F F' b b') : Ok4 pl m s e P V (cond q E F) (cond q' E' F') b b' := by
 refine ⟨cond_3 h.o k.o, by cases q'; exact k.st'; exact h.st', fun hp => ?_⟩
 obtain rfl := hq hp
 cases q
 ·exact k.near hp
 ·exact h.near hp
theorem cond_5 {A X : Type} {V : Option A → Option X → Prop} {q q' : Bool} {E F : Cu → Option A × Cu} {E' F' : Cu → Option X × Cu} (hq : P → q = q') (h : Ok5 pl m s e P V E E' b b') (k : Ok5 pl m s e P V F F' b b') : Ok5 pl m s e P V (cond q E F) (cond q' E' F') b b' := by
 refine ⟨cond_3 h.o k.o, by cases q'; exact k.st'; exact h.st', by cases q; exact k.go; exact h.go, fun hp => ?_⟩
 obtain rfl := hq hp
 cases q
 ·exact k.near hp
 ·exact h.near hp
theorem ret_4 {A X : Type} {V : A → X → Prop} {a : A} {x : X} (h : P → V a x) : Ok4 pl m s e P V (ret a) (ret x) b b' := ⟨ret_3 _, ret_st _, fun hp c c' hc hc' hs hb hb' hP hm => ⟨h hp, hs⟩⟩
theorem no_5 {A X : Type} {V : Option A → Option X → Prop} {E : Cu → Option A × Cu} {E' : Cu → Option X × Cu} (o : Ok3 0 E b) (st' : St E') (h : ∀ c, (E c).1 = none) : Ok5 pl m s e P V E E' b b' := ⟨o, st', fun c hc hs => (by rw [h] at hs; cases hs), fun hp c c' hc hc' hs hb hb' hP hsm => (by rw [h] at hsm; cases hsm)⟩
theorem tokR_4 : Ok4 pl m s e P (EqT pl) tokR tokR b b' := ⟨tokR_3, tokR_st, fun hp c c' hc hc' hs hb hb' hP hm => ⟨hs.tok hm, hs⟩⟩
theorem isPR_4 (p : ByteArray) : Ok4 pl m s e P Eq (isPR p) (isPR p) b b' := ⟨isPR_3 p, isPR_st p, fun hp c c' hc hc' hs hb hb' hP hm => ⟨(hs.isP hm p).symm, hs⟩⟩
theorem aliveR_4 : Ok4 pl m s e P Eq aliveR aliveR b b' := ⟨aliveR_3, aliveR_st, fun hp c c' hc hc' hs hb hb' hP hm => ⟨by show decide (c.kd = 0) = decide (c'.kd = 0); rw [hs.kd], hs⟩⟩
theorem sprR_4 : Ok4 pl m s e P Eq sprR sprR b b' := ⟨sprR_3, sprR_st, fun hp c c' hc hc' hs hb hb' hP hm => ⟨by show (c.isN && _) = (c'.isN && _); rw [hs.isN hm, (hs.tok hm).2.1], hs⟩⟩
theorem nmR_4 : Ok4 pl m s e P Eq nmR nmR b b' := ⟨nmR_3, nmR_st, fun hp c c' hc hc' hs hb hb' hP hm => by
 have hi : c.ix ≤ m := Nat.le_trans (name_stp hc).ix hm
 exact ⟨by show c.nmS = c'.nmS; unfold Cu.nmS; rw [hs.isN hi, (hs.tok hi).2.1], hs.name hi⟩⟩
theorem nR_4 : Ok4 pl m s e P Eq nR nR b b' := ⟨nR_3, nR_st, fun hp c c' hc hc' hs hb hb' hP hm => by
 have hi : c.ix ≤ m := Nat.le_trans (name_stp hc).ix hm
 exact ⟨by show (c.isN, c.tok.tx) = (c'.isN, c'.tok.tx); rw [hs.isN hi, (hs.tok hi).2.1], hs.name hi⟩⟩
theorem wantR_4 (p : ByteArray) (hp : dlt (pk p) = 0) : Ok4 pl m s e P Eq (wantR p) (wantR p) b b' := ⟨wantR_3 p hp, wantR_st p, fun hp c c' hc hc' hs hb hb' hP hm => by
 have hi : c.ix ≤ m := Nat.le_trans (want_stp hc p).ix hm
 exact ⟨rfl, hs.want hi p⟩⟩
theorem punctR_4 (p : ByteArray) (hp : dlt (pk p) = 0) : Ok4 pl m s e P Eq (punctR p) (punctR p) b b' := ⟨punctR_3 p hp, punctR_st p, fun hp c c' hc hc' hs hb hb' hP hm => by
 have hi : c.ix ≤ m := Nat.le_trans (punct_stp hc p).ix hm
 exact ⟨(hs.isP hi p).symm, hs.punct hi p⟩⟩
theorem wordR_4 (q : ByteArray) : Ok4 pl m s e P Eq (wordR q) (wordR q) b b' := ⟨wordR_3 q, wordR_st q, fun hp c c' hc hc' hs hb hb' hP hm => by
 have hi : c.ix ≤ m := Nat.le_trans (wordR_st q c hc).ix hm
 exact ⟨(hs.isW hi [q]).symm, hs.word hi q⟩⟩
theorem butR_4 (ws : List ByteArray) : Ok4 pl m s e P Eq (butR ws) (butR ws) b b' := ⟨butR_3 ws, butR_st ws, fun hp c c' hc hc' hs hb hb' hP hm => by
 have hi : c.ix ≤ m := Nat.le_trans (butR_st ws c hc).ix hm
 refine ⟨?_, ?_⟩
 ·show c.nmB _ = c'.nmB _
  unfold Cu.nmB
  rw [hs.isN hi, (hs.tok hi).2.1]
 ·show Sf pl m s e (c.nmC _) (c'.nmC _)
  rw [hs.isN hi, (hs.tok hi).2.1]
  exact hs.nmC _⟩
theorem wwR_4 (ws : List ByteArray) : Ok4 pl m s e P Eq (wwR ws) (wwR ws) b b' := ⟨wwR_3 ws, wwR_st ws, fun hp c c' hc hc' hs hb hb' hP hm => by
 have hi : c.ix ≤ m := Nat.le_trans (wwR_st ws c hc).ix hm
 refine ⟨(hs.isW hi ws).symm, ?_⟩
 show Sf pl m s e (c.nmC _) (c'.nmC _)
 rw [hs.isW hi ws]
 exact hs.nmC _⟩
theorem wordsR_4 : Ok4 pl m s e P Eq wordsR wordsR b b' := ⟨wordsR_3, wordsR_st, fun hp c c' hc hc' hs hb hb' hP hm => by
 have hi : c.ix ≤ m := Nat.le_trans (wordsR_st c hc).ix hm
 refine ⟨?_, ?_⟩
 ·show (c.isW _, c.tok.tx) = (c'.isW _, c'.tok.tx)
  rw [hs.isW hi, (hs.tok hi).2.1]
 ·show Sf pl m s e (c.nmC _) (c'.nmC _)
  rw [hs.isW hi]
  exact hs.nmC _⟩
theorem stopR_4 {A X : Type} {V : A → X → Prop} {a : A} {x : X} (h : P → V a x) : Ok4 pl m s e P V (stopR a) (stopR x) b b' := ⟨stopR_3 a, stopR_st x, fun hp c c' hc hc' hs hb hb' hP hm => ⟨h hp, hs.stop 70⟩⟩
theorem takeK_4 (k : Int) (h0 : k ≠ 0) (h1 : k ≠ 1) (h2 : k ≠ 2) : Ok4 pl m s e P Eq (takeK k) (takeK k) b b' := ⟨takeK_3 k h0 h1 h2, takeK_st k h0 h1, fun hp c c' hc hc' hs hb hb' hP hm => by
 have hi : c.ix ≤ m := Nat.le_trans (takeK_st k h0 h1 c hc).ix hm
 refine ⟨rfl, ?_⟩
 show Sf pl m s e (if c.kd = 0 ∧ c.tok.k = k then c.take else c) (if c'.kd = 0 ∧ c'.tok.k = k then c'.take else c')
 rw [hs.kd, (hs.tok hi).1]
 split
 ·exact hs.take
 ·exact hs⟩
end
end Go.Proofs.YtcebeajjpcbgcaaGreat.cu
