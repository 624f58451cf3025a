import Derived.Test.YtidkdnlbecompabAwk
import Derived.Test.YtidkdnlbecompabPlcI
namespace Go.Proofs.Ytidkdnlbecompab.mem
open Go.ChangeShapes Go.WideShapes Go.ChangeAt Go.RowKit
open ints (hide unhide)
set_option linter.unusedVariables false

/-- The numbers at which lines begin, after k characters. -/
def staTo (l : List Int) : Nat → List Int
  | 0 => [0]
  | k + 1 => if enB l k then staTo l k ++ [(k : Int) + 1] else staTo l k
theorem staTo_pos (l : List Int) (k : Nat) : 1 ≤ (staTo l k).length ∧ (staTo l k).length ≤ k + 1 := by
  induction k with
  | zero => simp [staTo]
  | succ k ih =>
    simp only [staTo]
    split
    · rw [List.length_append, List.length_singleton]; omega
    · omega
theorem staTo_yes {l : List Int} {k : Nat} (h : enB l k = true) : staTo l (k + 1) = staTo l k ++ [(k : Int) + 1] := by simp [staTo, h]
theorem staTo_no {l : List Int} {k : Nat} (h : enB l k = false) : staTo l (k + 1) = staTo l k := by simp [staTo, h]
theorem sta_le (l : List Int) (k : Nat) : ∀ x ∈ staTo l k, 0 ≤ x ∧ x ≤ k := by
  induction k with
  | zero => intro x hx; simp [staTo] at hx; omega
  | succ k ih =>
    intro x hx
    simp only [staTo] at hx
    split at hx
    · rcases List.mem_append.1 hx with h | h
      · have := ih x h; omega
      · simp at h; omega
    · have := ih x hx; omega
theorem sta_pre (l : List Int) (i m : Nat) (h : i ≤ m) : ∃ r, staTo l m = staTo l i ++ r ∧ ∀ x ∈ r, (i : Int) < x := by
  induction m with
  | zero => have : i = 0 := by omega
            subst this; exact ⟨[], by simp, by simp⟩
  | succ m ih =>
    by_cases e : i = m + 1
    · subst e; exact ⟨[], by simp, by simp⟩
    · obtain ⟨r, hr, hx⟩ := ih (by omega)
      simp only [staTo]
      split
      · refine ⟨r ++ [(m : Int) + 1], by rw [hr, List.append_assoc], ?_⟩
        intro x hxm
        rcases List.mem_append.1 hxm with h1 | h1
        · exact hx x h1
        · simp at h1; omega
      · exact ⟨r, hr, hx⟩
theorem posT_sta (l : List Int) (i : Nat) : (posT l i).1 = (staTo l i).length ∧ (posT l i).2 = (i : Int) + 1 - (staTo l i).getD ((staTo l i).length - 1) 0 := by
  induction i with
  | zero => simp [posT, staTo]
  | succ i ih =>
    simp only [posT, staTo]
    split
    · refine ⟨by rw [ih.1]; simp, ?_⟩
      simp [List.getD]
      omega
    · refine ⟨ih.1, ?_⟩
      rw [ih.2]
      omega
def stN (S : List Int) (n k : Nat) : Nat := (S.getD k ((n : Int) + 1)).toNat
theorem stN_in {l : List Int} {n k : Nat} (hk : k < (staTo l n).length) : ((stN (staTo l n) n k : Nat) : Int) = (staTo l n).getD k 0 ∧ stN (staTo l n) n k ≤ n := by
  have hm : (staTo l n).getD k 0 ∈ staTo l n := by simp [List.getD, hk]
  have hb := sta_le l n _ hm
  have e : (staTo l n).getD k ((n : Int) + 1) = (staTo l n).getD k 0 := by simp [List.getD, hk]
  unfold stN
  rw [e]
  omega
theorem stN_out {l : List Int} {n k : Nat} (hk : (staTo l n).length ≤ k) : stN (staTo l n) n k = n + 1 := by
  unfold stN
  simp [List.getD, List.getElem?_eq_none hk]
theorem pos_line {l : List Int} {n k i : Nat} (hk : k < (staTo l n).length) (h1 : stN (staTo l n) n k ≤ i) (h2 : i < stN (staTo l n) n (k + 1)) :
    (posT l i).1 = (k : Int) + 1 ∧ (posT l i).2 = (i : Int) - (staTo l n).getD k 0 + 1 ∧ (staTo l i).length = k + 1 := by
  have hs := stN_in hk
  have hi : i ≤ n := by
    by_cases hk1 : k + 1 < (staTo l n).length
    · have := (stN_in hk1).2; omega
    · have := stN_out (l := l) (n := n) (k := k + 1) (by omega); omega
  obtain ⟨r, hr, hx⟩ := sta_pre l i n hi
  have hp := posT_sta l i
  have hpp := staTo_pos l i
  have hkp : k < (staTo l i).length := by
    rcases Nat.lt_or_ge k (staTo l i).length with h | h
    · exact h
    · exfalso
      have hmem : (staTo l n).getD k 0 ∈ r := by
        have hk' := hk
        rw [hr, List.length_append] at hk'
        rw [hr]
        have hlt : k - (staTo l i).length < r.length := by omega
        simp [List.getD, List.getElem?_append_right h, hlt]
      have := hx _ hmem
      omega
  have hkq : ¬ k + 1 < (staTo l i).length := by
    intro h
    have hk1 : k + 1 < (staTo l n).length := by rw [hr, List.length_append]; omega
    have e1 := (stN_in hk1).1
    have e2 : (staTo l n).getD (k + 1) 0 = (staTo l i).getD (k + 1) 0 := by
      rw [hr]; simp [List.getD, List.getElem?_append_left h]
    have hm : (staTo l i).getD (k + 1) 0 ∈ staTo l i := by simp [List.getD, h]
    have := sta_le l i _ hm
    omega
  have hlen : (staTo l i).length = k + 1 := by omega
  have e3 : (staTo l n).getD k 0 = (staTo l i).getD k 0 := by rw [hr]; simp [List.getD, List.getElem?_append_left hkp]
  refine ⟨by rw [hp.1, hlen]; simp, ?_, hlen⟩
  rw [hp.2, hlen, e3]
  simp
  omega
theorem sta_inc (l : List Int) (n : Nat) : ∀ k, k + 1 < (staTo l n).length → (staTo l n).getD k 0 ≤ (staTo l n).getD (k + 1) 0 := by
  induction n with
  | zero => intro k hk; simp [staTo] at hk
  | succ n ih =>
    intro k hk
    simp only [staTo] at hk ⊢
    split
    · rename_i he
      rw [if_pos he] at hk
      rw [List.length_append, List.length_singleton] at hk
      by_cases h1 : k + 1 < (staTo l n).length
      · have e1 : (staTo l n ++ [(n : Int) + 1]).getD k 0 = (staTo l n).getD k 0 := by simp [List.getD, List.getElem?_append_left (show k < (staTo l n).length by omega)]
        have e2 : (staTo l n ++ [(n : Int) + 1]).getD (k + 1) 0 = (staTo l n).getD (k + 1) 0 := by simp [List.getD, List.getElem?_append_left h1]
        rw [e1, e2]; exact ih k h1
      · have e1 : (staTo l n ++ [(n : Int) + 1]).getD k 0 = (staTo l n).getD k 0 := by simp [List.getD, List.getElem?_append_left (show k < (staTo l n).length by omega)]
        have e2 : (staTo l n ++ [(n : Int) + 1]).getD (k + 1) 0 = (n : Int) + 1 := by
          have : k + 1 = (staTo l n).length := by omega
          rw [this]; simp [List.getD]
        have hm : (staTo l n).getD k 0 ∈ staTo l n := by simp [List.getD, show k < (staTo l n).length by omega]
        have := sta_le l n _ hm
        rw [e1, e2]; omega
    · rename_i he
      rw [if_neg he] at hk
      exact ih k hk
theorem stN_mono {l S : List Int} {n k : Nat} (hk : k < (staTo l n).length) (hS : S = staTo l n) : stN S n k ≤ stN S n (k + 1) := by
  subst hS
  have h1 := stN_in hk
  by_cases hk1 : k + 1 < (staTo l n).length
  · have h2 := stN_in hk1
    have := sta_inc l n k hk1
    omega
  · have := stN_out (l := l) (n := n) (k := k + 1) (by omega)
    omega
theorem row_at {k : IntKind} {w : World} {base : Nat} {e : TypeId} {a : Option Addr} {n c : Nat} {zs : List Int} (h : w.ownsRow base e 1 (.slice a n c) n (zs.map (Value.int k))) : Row k w a n c zs := by
  obtain ⟨a', c', e', hr⟩ := own_row h
  simp only [Value.slice.injEq] at e'
  obtain ⟨rfl, _, rfl⟩ := e'
  exact hr
theorem posCells_get (ps : List (Int × Int)) (m : Nat) (h : m < ps.length) : (posCells ps)[m * 2]? = some (.int .i64 (ps[m]).1) ∧ (posCells ps)[m * 2 + 1]? = some (.int .i64 (ps[m]).2) := by
  induction ps generalizing m with
  | nil => simp at h
  | cons p ps ih =>
    cases m with
    | zero => exact ⟨rfl, rfl⟩
    | succ m =>
      have := ih m (by simpa using h)
      have e : posCells (p :: ps) = .int .i64 p.1 :: .int .i64 p.2 :: posCells ps := rfl
      rw [e, show (m + 1) * 2 = m * 2 + 1 + 1 from by omega]
      simpa using this
theorem plist_get (l : List Int) (k m : Nat) (h : m < k) : (plist l k)[m]'(by rw [plist_len]; exact h) = posT l m := by simp [plist]
/-- What a reader finds in a row of places. -/
theorem pos_some {w : World} {base : Nat} {v : Value} {l : List Int} {n : Nat} (h : w.ownsRow base 45 2 v (n + 1) (posCells (plist l (n + 1)))) :
    ∃ g cap, v = .slice (some ⟨g, 0, none⟩) (n + 1) cap ∧ g < w.heap.size ∧ ∀ m, m ≤ n → w.cell? ⟨g, m * 2, none⟩ = some (.int .i64 (posT l m).1) ∧ w.cell? ⟨g, m * 2 + 1, none⟩ = some (.int .i64 (posT l m).2) := by
  rcases h.2 with ⟨_, h2⟩ | ⟨g, cap, cur, rfl, hg, hh, r⟩
  · omega
  · refine ⟨g, cap, rfl, (Array.getElem?_eq_some_iff.1 hh).1, fun m hm => ?_⟩
    have hp := posCells_get (plist l (n + 1)) m (by rw [plist_len]; omega)
    rw [plist_get l (n + 1) m (by omega)] at hp
    rw [World.ownsRow.cellAt h (m * 2) (by omega), World.ownsRow.cellAt h (m * 2 + 1) (by omega)]
    exact hp
def sN (S : List Int) (k : Nat) : Nat := (S.getD k 0).toNat
theorem sN_left (S : List Int) (x : Int) (k : Nat) (h : k < S.length) : sN (S ++ [x]) k = sN S k := by simp [sN, List.getD, List.getElem?_append_left h]
theorem lin_sta (l : List Int) (m : Nat) : (linesTo l m).2 = sN (staTo l m) ((staTo l m).length - 1) ∧ (linesTo l m).1.length + 1 = (staTo l m).length ∧
    ∀ k, k + 1 < (staTo l m).length → (linesTo l m).1.getD k [] = cut l (sN (staTo l m) k) (toOf l (sN (staTo l m) (k + 1) - 1)) ∧ sN (staTo l m) k ≤ toOf l (sN (staTo l m) (k + 1) - 1) ∧ 1 ≤ sN (staTo l m) (k + 1) ∧ sN (staTo l m) (k + 1) ≤ m := by
  induction m with
  | zero => refine ⟨rfl, rfl, ?_⟩; intro k hk; simp [staTo] at hk
  | succ m ih =>
    obtain ⟨i1, i2, i3⟩ := ih
    have hft := from_to l m
    have hpos := staTo_pos l m
    cases he : enB l m
    · rw [linesTo_no he, staTo_no he]
      refine ⟨i1, i2, fun k hk => ?_⟩
      obtain ⟨a1, a2, a3, a4⟩ := i3 k hk
      exact ⟨a1, a2, a3, by omega⟩
    · rw [linesTo_yes he, staTo_yes he]
      have hlast : sN (staTo l m ++ [(m : Int) + 1]) (staTo l m).length = m + 1 := by simp [sN, List.getD]
      refine ⟨?_, by simp; omega, fun k hk => ?_⟩
      · simp only [List.length_append, List.length_singleton, Nat.add_sub_cancel]
        exact hlast.symm
      · rw [List.length_append, List.length_singleton] at hk
        by_cases hk1 : k + 1 < (staTo l m).length
        · obtain ⟨a1, a2, a3, a4⟩ := i3 k hk1
          have e1 : ((linesTo l m).1 ++ [cut l (linesTo l m).2 (toOf l m)]).getD k [] = (linesTo l m).1.getD k [] := by
            simp [List.getD, List.getElem?_append_left (show k < (linesTo l m).1.length by omega)]
          simp only
          rw [e1, sN_left _ _ _ (by omega), sN_left _ _ _ hk1]
          exact ⟨a1, a2, a3, by omega⟩
        · have ek : k + 1 = (staTo l m).length := by omega
          have ek2 : k = (linesTo l m).1.length := by omega
          have ek3 : k = (staTo l m).length - 1 := by omega
          have e1 : ((linesTo l m).1 ++ [cut l (linesTo l m).2 (toOf l m)]).getD k [] = cut l (linesTo l m).2 (toOf l m) := by
            rw [ek2]; simp [List.getD]
          simp only
          rw [e1, sN_left _ _ _ (by omega), ek, hlast, Nat.add_sub_cancel, ek3, ← i1]
          exact ⟨rfl, hft.1, by omega, by omega⟩
theorem linesL_len (l : List Int) : (linesL l).length = (staTo l l.length).length := by
  have := (lin_sta l l.length).2.1
  unfold linesL
  rw [List.length_append, List.length_singleton]
  exact this
theorem linesL_in (l : List Int) (k : Nat) (hk : k + 1 < (staTo l l.length).length) : (linesL l).getD k [] = cut l (sN (staTo l l.length) k) (toOf l (sN (staTo l l.length) (k + 1) - 1)) := by
  have h := lin_sta l l.length
  unfold linesL
  rw [← (h.2.2 k hk).1]
  simp [List.getD, List.getElem?_append_left (show k < (linesTo l l.length).1.length by omega)]
theorem linesL_last (l : List Int) (k : Nat) (hk : k + 1 = (staTo l l.length).length) : (linesL l).getD k [] = cut l (sN (staTo l l.length) k) l.length := by
  have h := lin_sta l l.length
  unfold linesL
  have ek : k = (linesTo l l.length).1.length := by omega
  have e2 : k = (staTo l l.length).length - 1 := by omega
  have : ((linesTo l l.length).1 ++ [l.drop (linesTo l l.length).2]).getD k [] = l.drop (linesTo l l.length).2 := by rw [ek]; simp [List.getD]
  rw [this, h.1, ← e2]
  unfold cut
  rw [List.take_of_length_le (by simp)]
theorem copiedR (a : Option Addr) (n c : Nat) (zs : List Int) (w : World) (h : Row .i32 w a n c zs) (hn : n ≤ 1099511627776) :
    Calls Try.prog 11 #[.slice a n c] w fun e w' => e = .returned (.slice (some ⟨w.heap.size, 0, none⟩) n n) ∧ Row .i32 w' (some ⟨w.heap.size, 0, none⟩) n n zs ∧ Below w.heap.size w w' := by
  refine (copiedRunes_any a n c zs w h (by omega)).mono ?_
  rintro e w' ⟨rfl, ho, hb⟩
  exact ⟨rfl, row_at ho, hb⟩
theorem Row.drewN {k : IntKind} {w : World} {a : Option Addr} {n c : Nat} {zs : List Int} (h : Row k w a n c zs) (m : Nat) : Row k (w.drewN m) a n c zs := h.below (below_drewN (Below.refl _ _) m)
theorem alike_q (a a' : Option Addr) (n c c' : Nat) (zs : List Int) (w : World) (h : Row .i32 w a n c zs) (h' : Row .i32 w a' n c' zs) (hn : n ≤ 9223372036854775807) :
    Calls Try.prog 14 #[.slice a n c, .slice a' n c'] w fun e w' => e = .returned (.bool true) ∧ ∃ m, w' = w.drewN m := by
  have hne : ((n : Int) != (n : Int)) = false := by simp
  go_enter Try.func14, Try.ntmps14
  go_wp2
  go_loopw [5] (fun i wr => ∃ k m : Nat, k ≤ n ∧ i = .int .i64 k ∧ wr = w.drewN m) (fun i _ => n - (intOf i).toNat)
  case atStart => exact ⟨0, 0, Nat.zero_le _, rfl, rfl⟩
  case round =>
    obtain ⟨k, m, hk, rfl, rfl⟩ := hrel
    by_cases hlt : k < n
    · rcases h.at_ with h0 | ⟨b, off, rfl, hbw, hcell⟩
      · omega
      rcases h'.at_ with h0 | ⟨b', off', rfl, hbw', hcell'⟩
      · omega
      have c1 := hcell k hlt
      have c2 := hcell' k hlt
      generalize zs.getD k 0 = x at *
      have ki : (k : Int) < (n : Int) := by omega
      have hb : (x != x) = false := by simp
      clear hcell hcell'
      go_wp2
      go_quiet (fail)
      go_wp2
      go_roundw
      case rel => exact ⟨k + 1, _, by omega, by go_num, rfl⟩
      case measure => simp [intOf]; omega
    · go_wp2
      go_ret
      exact ⟨rfl, m, rfl⟩
theorem cut_le {l : List Int} {n : Nat} (hl : l.length = n) (a b : Nat) : (cut l a b).length ≤ n := by
  unfold cut
  rw [List.length_take, List.length_drop]
  omega
end Go.Proofs.Ytidkdnlbecompab.mem
