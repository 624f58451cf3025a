import Derived.Test.YtidkdnlbecompacSta
namespace Go.Proofs.Ytidkdnlbecompac.mem
open Go.ChangeShapes Go.WideShapes Go.ChangeAt Go.RowKit
open ints (hide unhide)
set_option linter.unusedVariables false

theorem sta_le (l : List Int) (k : Nat) : ∀ x ∈ staTo l k, 0 ≤ x ∧ x ≤ k := by
  induction k with
  | zero => intro x hx; simp [staTo] at hx; omega
  | succ k ih =>
    intro x hx
    simp only [staTo] at hx
    split at hx
    · rcases List.mem_append.1 hx with h | h
      · have := ih x h; omega
      · simp at h; omega
    · have := ih x hx; omega
theorem sta_pre (l : List Int) (i m : Nat) (h : i ≤ m) : ∃ r, staTo l m = staTo l i ++ r ∧ ∀ x ∈ r, (i : Int) < x := by
  induction m with
  | zero => have : i = 0 := by omega
            subst this; exact ⟨[], by simp, by simp⟩
  | succ m ih =>
    by_cases e : i = m + 1
    · subst e; exact ⟨[], by simp, by simp⟩
    · obtain ⟨r, hr, hx⟩ := ih (by omega)
      simp only [staTo]
      split
      · refine ⟨r ++ [(m : Int) + 1], by rw [hr, List.append_assoc], ?_⟩
        intro x hxm
        rcases List.mem_append.1 hxm with h1 | h1
        · exact hx x h1
        · simp at h1; omega
      · exact ⟨r, hr, hx⟩
theorem posT_sta (l : List Int) (i : Nat) : (posT l i).1 = (staTo l i).length ∧ (posT l i).2 = (i : Int) + 1 - (staTo l i).getD ((staTo l i).length - 1) 0 := by
  induction i with
  | zero => simp [posT, staTo]
  | succ i ih =>
    simp only [posT, staTo]
    split
    · refine ⟨by rw [ih.1]; simp, ?_⟩
      simp [List.getD]
      omega
    · refine ⟨ih.1, ?_⟩
      rw [ih.2]
      omega
def stN (S : List Int) (n k : Nat) : Nat := (S.getD k ((n : Int) + 1)).toNat
theorem stN_in {l : List Int} {n k : Nat} (hk : k < (staTo l n).length) : ((stN (staTo l n) n k : Nat) : Int) = (staTo l n).getD k 0 ∧ stN (staTo l n) n k ≤ n := by
  have hm : (staTo l n).getD k 0 ∈ staTo l n := by simp [List.getD, hk]
  have hb := sta_le l n _ hm
  have e : (staTo l n).getD k ((n : Int) + 1) = (staTo l n).getD k 0 := by simp [List.getD, hk]
  unfold stN
  rw [e]
  omega
theorem stN_out {l : List Int} {n k : Nat} (hk : (staTo l n).length ≤ k) : stN (staTo l n) n k = n + 1 := by
  unfold stN
  simp [List.getD, List.getElem?_eq_none hk]
theorem pos_line {l : List Int} {n k i : Nat} (hk : k < (staTo l n).length) (h1 : stN (staTo l n) n k ≤ i) (h2 : i < stN (staTo l n) n (k + 1)) :
    (posT l i).1 = (k : Int) + 1 ∧ (posT l i).2 = (i : Int) - (staTo l n).getD k 0 + 1 ∧ (staTo l i).length = k + 1 := by
  have hs := stN_in hk
  have hi : i ≤ n := by
    by_cases hk1 : k + 1 < (staTo l n).length
    · have := (stN_in hk1).2; omega
    · have := stN_out (l := l) (n := n) (k := k + 1) (by omega); omega
  obtain ⟨r, hr, hx⟩ := sta_pre l i n hi
  have hp := posT_sta l i
  have hpp := staTo_pos l i
  have hkp : k < (staTo l i).length := by
    rcases Nat.lt_or_ge k (staTo l i).length with h | h
    · exact h
    · exfalso
      have hmem : (staTo l n).getD k 0 ∈ r := by
        have hk' := hk
        rw [hr, List.length_append] at hk'
        rw [hr]
        have hlt : k - (staTo l i).length < r.length := by omega
        simp [List.getD, List.getElem?_append_right h, hlt]
      have := hx _ hmem
      omega
  have hkq : ¬ k + 1 < (staTo l i).length := by
    intro h
    have hk1 : k + 1 < (staTo l n).length := by rw [hr, List.length_append]; omega
    have e1 := (stN_in hk1).1
    have e2 : (staTo l n).getD (k + 1) 0 = (staTo l i).getD (k + 1) 0 := by
      rw [hr]; simp [List.getD, List.getElem?_append_left h]
    have hm : (staTo l i).getD (k + 1) 0 ∈ staTo l i := by simp [List.getD, h]
    have := sta_le l i _ hm
    omega
  have hlen : (staTo l i).length = k + 1 := by omega
  have e3 : (staTo l n).getD k 0 = (staTo l i).getD k 0 := by rw [hr]; simp [List.getD, List.getElem?_append_left hkp]
  refine ⟨by rw [hp.1, hlen]; simp, ?_, hlen⟩
  rw [hp.2, hlen, e3]
  simp
  omega
theorem sta_inc (l : List Int) (n : Nat) : ∀ k, k + 1 < (staTo l n).length → (staTo l n).getD k 0 ≤ (staTo l n).getD (k + 1) 0 := by
  induction n with
  | zero => intro k hk; simp [staTo] at hk
  | succ n ih =>
    intro k hk
    simp only [staTo] at hk ⊢
    split
    · rename_i he
      rw [if_pos he] at hk
      rw [List.length_append, List.length_singleton] at hk
      by_cases h1 : k + 1 < (staTo l n).length
      · have e1 : (staTo l n ++ [(n : Int) + 1]).getD k 0 = (staTo l n).getD k 0 := by simp [List.getD, List.getElem?_append_left (show k < (staTo l n).length by omega)]
        have e2 : (staTo l n ++ [(n : Int) + 1]).getD (k + 1) 0 = (staTo l n).getD (k + 1) 0 := by simp [List.getD, List.getElem?_append_left h1]
        rw [e1, e2]; exact ih k h1
      · have e1 : (staTo l n ++ [(n : Int) + 1]).getD k 0 = (staTo l n).getD k 0 := by simp [List.getD, List.getElem?_append_left (show k < (staTo l n).length by omega)]
        have e2 : (staTo l n ++ [(n : Int) + 1]).getD (k + 1) 0 = (n : Int) + 1 := by
          have : k + 1 = (staTo l n).length := by omega
          rw [this]; simp [List.getD]
        have hm : (staTo l n).getD k 0 ∈ staTo l n := by simp [List.getD, show k < (staTo l n).length by omega]
        have := sta_le l n _ hm
        rw [e1, e2]; omega
    · rename_i he
      rw [if_neg he] at hk
      exact ih k hk
theorem stN_mono {l S : List Int} {n k : Nat} (hk : k < (staTo l n).length) (hS : S = staTo l n) : stN S n k ≤ stN S n (k + 1) := by
  subst hS
  have h1 := stN_in hk
  by_cases hk1 : k + 1 < (staTo l n).length
  · have h2 := stN_in hk1
    have := sta_inc l n k hk1
    omega
  · have := stN_out (l := l) (n := n) (k := k + 1) (by omega)
    omega
theorem outer_pos {w : World} {base : Nat} {v : Value} {n : Nat} {xs : List Value} (h : w.ownsRow base 43 2 v n xs) : ∀ G, v.ownBlock = some G → ∃ cur, w.heap[G]? = some (.cells cur 43 (0, 0)) := by
  intro G hG
  rcases h.2 with ⟨rfl, _⟩ | ⟨g', cap', cur, rfl, hg, hh, _⟩
  · cases hG
  · obtain rfl := Option.some.inj hG
    exact ⟨cur, hh⟩
theorem row_at {k : IntKind} {w : World} {base : Nat} {e : TypeId} {a : Option Addr} {n c : Nat} {zs : List Int} (h : w.ownsRow base e 1 (.slice a n c) n (zs.map (Value.int k))) : Row k w a n c zs := by
  obtain ⟨a', c', e', hr⟩ := own_row h
  simp only [Value.slice.injEq] at e'
  obtain ⟨rfl, _, rfl⟩ := e'
  exact hr
/-- A row of integers stays while another row, of places, is appended to. -/
theorem ints_kept {w w2 : World} {base : Nat} {v v1 : Value} {n m : Nat} {xs ys : List Value} {o : Obj} (h : w.ownsRow base 3 1 v1 n xs) (hp : w.ownsRow base 43 2 v m ys) (hg : (w.alloc o).grownBy w2 v.ownBlock) : w2.ownsRow base 3 1 v1 n xs := by
  refine (h.alloc o).kept hg ?_
  cases hv : v1.ownBlock with
  | none => exact .inl rfl
  | some g =>
    refine .inr (fun e => ?_)
    obtain ⟨cur, hcur⟩ := outer_pos hp g e.symm
    rcases h.2 with ⟨rfl, _⟩ | ⟨g', cap', cur', rfl, _, hh, _⟩
    · cases hv
    · obtain rfl := Option.some.inj hv
      rw [hh] at hcur
      simp at hcur
set_option maxHeartbeats 4000000 in
theorem rplaces_any (a : Option Addr) (n c : Nat) (l : List Int) (w : World) (h : Row .i32 w a n c l) (hn : n ≤ 1099511627776) :
    Calls Try.prog 39 #[.slice a n c] w fun e w' => ∃ v, e = .returned v ∧ w'.ownsRow w.heap.size 43 2 v (n + 1) (posCells (plist l (n + 1))) ∧ Below w.heap.size w w' := by
  obtain ⟨i0, hi, hz0, hz1, hz2⟩ := info_parts infoPos
  have hpp := staTo_pos l n
  obtain ⟨S, hS⟩ : ∃ S, S = staTo l n := ⟨_, rfl⟩
  have HS := hide hS
  rw [← hS] at hpp
  have ST := hide (starts_any a n c l w h hn)
  rw [← hS] at ST
  clear hS
  go_enter Try.func39, Try.ntmps39
  go_wp2_with fail
  refine (unhide ST).mono ?_
  rintro e w1 ⟨v1, rfl, ho1, hb1⟩
  obtain ⟨a1, c1, e1', _⟩ := own_row ho1
  subst e1'
  clear ST
  go_wp2
  go_loopw [3, 5] (fun v i wr => ∃ k : Nat, k ≤ S.length ∧ i = .int .i64 k ∧ wr.ownsRow w.heap.size 43 2 v (stN S n k) (posCells (plist l (stN S n k))) ∧ wr.ownsRow w.heap.size 3 1 (.slice a1 S.length c1) S.length (S.map (Value.int .i64)) ∧ Below w.heap.size w wr) (fun _ i _ => S.length - (intOf i).toNat)
  case atStart =>
    have e0 : stN S n 0 = 0 := by
      have h1 := stN_in (l := l) (n := n) (k := 0) (by have := staTo_pos l n; omega)
      rw [← unhide HS] at h1
      have h2 : S.getD 0 0 = 0 := by
        rw [unhide HS]
        obtain ⟨r, hr, _⟩ := sta_pre l 0 n (Nat.zero_le _)
        rw [hr]; rfl
      omega
    exact ⟨0, Nat.zero_le _, rfl, by rw [e0]; exact World.ownsRow_nil _ _ _ _, ho1, hb1⟩
  case round =>
    obtain ⟨k, hk, rfl, hown, hrs, hbel⟩ := hrel
    clear ho1 hb1
    by_cases hlt : k < S.length
    · have hin := stN_in (l := l) (n := n) (k := k) (by rw [← unhide HS]; exact hlt)
      rw [← unhide HS] at hin
      rcases (row_at hrs).at_ with h0 | ⟨b, off, e1, hbw, hcell⟩
      · omega
      subst e1
      have hck := hcell k hlt
      obtain ⟨sk, hsk⟩ : ∃ sk, sk = stN S n k := ⟨_, rfl⟩
      rw [← hsk] at hin hown
      rw [← hin.1] at hck
      obtain ⟨E, hE⟩ : ∃ E, E = stN S n (k + 1) := ⟨_, rfl⟩
      have hEn : E ≤ n + 1 := by
        rw [hE]
        by_cases hk1 : k + 1 < S.length
        · have := stN_in (l := l) (n := n) (k := k + 1) (by rw [← unhide HS]; exact hk1); rw [← unhide HS] at this; omega
        · have := stN_out (l := l) (n := n) (k := k + 1) (by rw [← unhide HS]; omega); rw [← unhide HS] at this; omega
      have hskE : sk ≤ E := by
        rw [hsk, hE]
        exact stN_mono (by rw [← unhide HS]; exact hlt) (unhide HS)
      have Hline := hide (fun i (h1 : sk ≤ i) (h2 : i < E) => pos_line (l := l) (n := n) (k := k) (i := i) (by rw [← unhide HS]; exact hlt) (by rw [← unhide HS, ← hsk]; exact h1) (by rw [← unhide HS, ← hE]; exact h2))
      rw [← unhide HS, ← hin.1] at Hline
      have HE := hide hE
      have hkS : (k : Int) < (S.length : Int) := by omega
      have HIN := hide hin.1
      have hsn := hin.2
      clear hsk hE hin
      by_cases hk1 : k + 1 < S.length
      · have h2 := stN_in (l := l) (n := n) (k := k + 1) (by rw [← unhide HS]; exact hk1)
        rw [← unhide HS, ← unhide HE] at h2
        have hck1 := hcell (k + 1) hk1
        rw [← h2.1] at hck1
        have hk1i : (k : Int) + 1 < (S.length : Int) := by omega
        clear h2 hcell
        go_wp2
        go_loopw [3, 7] (fun v i wr => ∃ j : Nat, sk ≤ j ∧ j ≤ E ∧ i = .int .i64 j ∧ wr.ownsRow w.heap.size 43 2 v j (posCells (plist l j)) ∧ wr.ownsRow w.heap.size 3 1 (.slice (some ⟨b, off, none⟩) S.length c1) S.length (S.map (Value.int .i64)) ∧ Below w.heap.size w wr) (fun _ i _ => E - (intOf i).toNat)
        case atStart => exact ⟨sk, Nat.le_refl _, hskE, rfl, hown, hrs, hbel⟩
        case round =>
          obtain ⟨j, j1, j2, rfl, hown, hrs, hbel⟩ := hrel
          by_cases hjE : j < E
          · rcases (row_at hrs).at_ with h0 | ⟨b', off', e1, hbw, hcell⟩
            · omega
            obtain ⟨rfl, rfl⟩ : b = b' ∧ off = off' := by simpa using e1
            have hck := hcell k hlt
            rw [← unhide HIN] at hck
            obtain ⟨p1, p2, _⟩ := unhide Hline j j1 hjE
            have HP1 := hide p1
            have HP2 := hide p2
            have HLT := hide hown.lt
            have hjEi : (j : Int) < (E : Int) := by omega
            have hskj : (sk : Int) ≤ (j : Int) := by omega
            clear hcell e1 p1 p2
            go_wp2_with (at_builtin; refine wpList_append_own _ rfl (.tmp 38) (.tmp 49) 39 rfl w.heap.size 43 i0 (.agg #[.int .i64 0, .int .i64 0]) 2 16 Try.underlying39 hi hz0 hz1 hz2 rfl (by decide) _ _ _ rfl (hown.alloc _) ⟨wr.heap.size, 0, none⟩ 1 1 [.int .i64 ((k : Int) + 1), .int .i64 ((j : Int) - (sk : Int) + 1)] rfl rfl (cell_two _ _ _ _) (one_two _ _) (by unfold maxLen; omega) (by omega) (by have := hbel.size; simp; omega) ?_; intro v' w2 hown' hgrow _)
            go_roundw
            case rel =>
              have hb2 : Below w.heap.size w w2 := (hbel.alloc hbel.size _).grown hgrow (by have := hbel.size; simp; omega) (fun k hk => (unhide HLT k hk).1)
              refine ⟨j + 1, by omega, by omega, by go_num, ?_, ?_, hb2⟩
              · rw [plist_succ, unhide HP1, unhide HP2]; exact hown'
              · exact ints_kept hrs hown hgrow
            case measure => simp [intOf]; omega
          · have EJ := hide (show j = E from by omega)
            have hjEi : ¬ (j : Int) < (E : Int) := by omega
            go_wp2
            go_roundw
            case rel => exact ⟨k + 1, by omega, by go_num, by rw [← unhide HE, ← unhide EJ]; exact hown, hrs, hbel⟩
            case measure => simp [intOf]; omega
      · have h2 := stN_out (l := l) (n := n) (k := k + 1) (by rw [← unhide HS]; omega)
        rw [← unhide HS, ← unhide HE] at h2
        have hk1i : ¬ (k : Int) + 1 < (S.length : Int) := by omega
        have hE1 : (E : Int) ≤ (n : Int) + 1 := by omega
        have hE2 : (n : Int) + 1 ≤ (E : Int) := by omega
        clear h2 hcell
        go_wp2
        go_loopw [3, 7] (fun v i wr => ∃ j : Nat, sk ≤ j ∧ j ≤ E ∧ i = .int .i64 j ∧ wr.ownsRow w.heap.size 43 2 v j (posCells (plist l j)) ∧ wr.ownsRow w.heap.size 3 1 (.slice (some ⟨b, off, none⟩) S.length c1) S.length (S.map (Value.int .i64)) ∧ Below w.heap.size w wr) (fun _ i _ => E - (intOf i).toNat)
        case atStart => exact ⟨sk, Nat.le_refl _, hskE, rfl, hown, hrs, hbel⟩
        case round =>
          obtain ⟨j, j1, j2, rfl, hown, hrs, hbel⟩ := hrel
          by_cases hjE : j < E
          · rcases (row_at hrs).at_ with h0 | ⟨b', off', e1, hbw, hcell⟩
            · omega
            obtain ⟨rfl, rfl⟩ : b = b' ∧ off = off' := by simpa using e1
            have hck := hcell k hlt
            rw [← unhide HIN] at hck
            obtain ⟨p1, p2, _⟩ := unhide Hline j j1 hjE
            have HP1 := hide p1
            have HP2 := hide p2
            have HLT := hide hown.lt
            have hjEi : (j : Int) < (n : Int) + 1 := by omega
            have hskj : (sk : Int) ≤ (j : Int) := by omega
            clear hcell e1 p1 p2
            go_wp2_with (at_builtin; refine wpList_append_own _ rfl (.tmp 38) (.tmp 49) 39 rfl w.heap.size 43 i0 (.agg #[.int .i64 0, .int .i64 0]) 2 16 Try.underlying39 hi hz0 hz1 hz2 rfl (by decide) _ _ _ rfl (hown.alloc _) ⟨wr.heap.size, 0, none⟩ 1 1 [.int .i64 ((k : Int) + 1), .int .i64 ((j : Int) - (sk : Int) + 1)] rfl rfl (cell_two _ _ _ _) (one_two _ _) (by unfold maxLen; omega) (by omega) (by have := hbel.size; simp; omega) ?_; intro v' w2 hown' hgrow _)
            go_roundw
            case rel =>
              have hb2 : Below w.heap.size w w2 := (hbel.alloc hbel.size _).grown hgrow (by have := hbel.size; simp; omega) (fun k hk => (unhide HLT k hk).1)
              refine ⟨j + 1, by omega, by omega, by go_num, ?_, ?_, hb2⟩
              · rw [plist_succ, unhide HP1, unhide HP2]; exact hown'
              · exact ints_kept hrs hown hgrow
            case measure => simp [intOf]; omega
          · have EJ := hide (show j = E from by omega)
            have hjEi : ¬ (j : Int) < (n : Int) + 1 := by omega
            go_wp2
            go_roundw
            case rel => exact ⟨k + 1, by omega, by go_num, by rw [← unhide HE, ← unhide EJ]; exact hown, hrs, hbel⟩
            case measure => simp [intOf]; omega
    · have ek : k = S.length := by omega
      have e1 := hide (show stN S n k = n + 1 from by rw [unhide HS]; exact stN_out (by rw [← unhide HS]; omega))
      rw [unhide e1] at hown
      clear hrs
      have hkS : ¬ (k : Int) < (S.length : Int) := by omega
      go_wp2
      go_ret
      exact ⟨_, rfl, hown, hbel⟩
end Go.Proofs.Ytidkdnlbecompac.mem
