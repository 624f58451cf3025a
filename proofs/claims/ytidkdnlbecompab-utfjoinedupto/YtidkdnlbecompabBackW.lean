import Derived.Test.YtidkdnlbecompabAwk
namespace Go.Proofs.Ytidkdnlbecompab.mem
open Go.ChangeShapes Go.WideShapes Go.ChangeAt Go.RowKit
open ints (hide unhide)
set_option linter.unusedVariables false

theorem scalars_any (a : Option Addr) (n c : Nat) (zs : List Int) (w : World) (h : Row .i32 w a n c zs) (hn : n ≤ 9223372036854775807) :
    Calls Try.prog 12 #[.slice a n c] w fun e w' => e = .returned (.bool (zs.all scB)) ∧ Below w.heap.size w w' := by
  go_enter Try.func12, Try.ntmps12
  go_wp2
  go_loopw [3] (fun i wr => ∃ k : Nat, k ≤ n ∧ i = .int .i64 k ∧ Hid (∀ j, j < k → scP (zs.getD j 0)) ∧ Below w.heap.size w wr) (fun i _ => n - (intOf i).toNat)
  case atStart => exact ⟨0, Nat.zero_le _, rfl, hide (fun j hj => by omega), Below.refl _ _⟩
  case round =>
    obtain ⟨k, hk, rfl, hall, hbel⟩ := hrel
    have HL := hide h.len
    by_cases hlt : k < n
    · rcases h.at_ with h0 | ⟨b, off, rfl, hbw, hcell⟩
      · omega
      have c1 := (hbel.cell (p := ⟨b, off + k, none⟩) hbw).trans (hcell k hlt)
      obtain ⟨x, hx⟩ : ∃ x, x = zs.getD k 0 := ⟨_, rfl⟩
      rw [← hx] at c1
      have Hx := hide hx
      have ki : (k : Int) < (n : Int) := by omega
      clear hx hcell
      by_cases hs : scP x
      · have rel : ∀ j, j < k + 1 → scP (zs.getD j 0) := by
          intro j hj
          by_cases hjk : j < k
          · exact unhide hall j hjk
          · obtain rfl : j = k := by omega
            rw [← unhide Hx]; exact hs
        have Rel := hide rel
        have hs' := hs
        rcases hs with ⟨s1, s2⟩ | ⟨s1, s2⟩
        · have t1 : ¬ 55296 ≤ x := by omega
          have t2 : ¬ 1114111 < x := by omega
          have t3 : ¬ x < 0 := by omega
          clear rel hs'
          go_wp2
          go_roundw
          case rel => exact ⟨k + 1, by omega, by go_num, Rel, hbel⟩
          case measure => simp [intOf]; omega
        · have t1 : 55296 ≤ x := by omega
          have t2 : ¬ 1114111 < x := by omega
          have t3 : ¬ x < 0 := by omega
          have t4 : ¬ x ≤ 57343 := by omega
          clear rel hs'
          go_wp2
          go_roundw
          case rel => exact ⟨k + 1, by omega, by go_num, Rel, hbel⟩
          case measure => simp [intOf]; omega
      · have hnot := hide (not_all zs k (by rw [unhide HL]; exact hlt) (by rw [← unhide Hx]; exact hs))
        unfold scP at hs
        by_cases t3 : x < 0
        · go_wp2
          go_ret
          rw [unhide hnot]
          exact ⟨rfl, hbel⟩
        by_cases t2 : 1114111 < x
        · go_wp2
          go_ret
          rw [unhide hnot]
          exact ⟨rfl, hbel⟩
        have t1 : 55296 ≤ x := by omega
        have t4 : x ≤ 57343 := by omega
        clear hs
        go_wp2
        go_ret
        rw [unhide hnot]
        exact ⟨rfl, hbel⟩
    · have hyes := hide (all_of zs (fun j hj => unhide hall j (by rw [unhide HL] at hj; omega)))
      go_wp2
      go_ret
      rw [unhide hyes]
      exact ⟨rfl, hbel⟩
theorem flat_byt : ∀ (zs : List Int), zs.all scB = true → Byt (zs.flatMap putB)
  | [], _ => by intro z hz; simp at hz
  | c :: zs, h => by
    simp only [List.all_cons, Bool.and_eq_true] at h
    intro z hz
    rw [List.flatMap_cons] at hz
    rcases List.mem_append.1 hz with h1 | h1
    · exact putB_byt ((scB_iff c).1 h.1) z h1
    · exact flat_byt zs h.2 z h1
/-- What is written and something behind it, read. -/
theorem decF_app : ∀ (zs : List Int) (f : Nat) (r : List Int), zs.all scB = true → decF (zs.length + f) (zs.flatMap putB ++ r) = (zs ++ (decF f r).1, (zs.flatMap putB).length + (decF f r).2)
  | [], f, r, _ => by simp
  | c :: zs, f, r, h => by
    simp only [List.all_cons, Bool.and_eq_true] at h
    have hc := (scB_iff c).1 h.1
    have hpl := putB_len c
    rw [List.flatMap_cons, List.append_assoc]
    have e : (c :: zs).length + f = (zs.length + f) + 1 := by simp; omega
    have ho := one_put c hc (zs.flatMap putB ++ r)
    rw [e, decF_go _ _ (by rw [ho]; simp only; omega), ho]
    simp only
    rw [List.drop_left' rfl, decF_app zs f r h.2]
    simp [Nat.add_assoc]
theorem decF_fuel : ∀ (f g : Nat) (l : List Int), l.length ≤ f → l.length ≤ g → decF f l = decF g l
  | 0, g, l, hf, _ => by
    have : l = [] := List.eq_nil_of_length_eq_zero (by omega)
    subst this
    rw [decF_end g _ rfl]
    rfl
  | f + 1, 0, l, _, hg => by
    have : l = [] := List.eq_nil_of_length_eq_zero (by omega)
    subst this
    rw [decF_end (f + 1) _ rfl]
    rfl
  | f + 1, g + 1, l, hf, hg => by
    by_cases h : (oneL l).2 = 0
    · rw [decF_end _ _ h, decF_end _ _ h]
    · rw [decF_go _ _ h, decF_go _ _ h, decF_fuel f g (l.drop (oneL l).2) (by simp; omega) (by simp; omega)]
theorem decZ_app (zs r : List Int) (h : zs.all scB = true) : decZ (zs.flatMap putB ++ r) = (zs ++ (decZ r).1, (zs.flatMap putB).length + (decZ r).2) := by
  unfold decZ
  have hge := flat_ge zs
  rw [decF_fuel _ (zs.length + (zs.flatMap putB ++ r).length) _ (Nat.le_refl _) (by omega), decF_app zs _ r h]
  rw [decF_fuel (zs.flatMap putB ++ r).length r.length r (by simp) (Nat.le_refl _)]
theorem decZ_flat (zs : List Int) (h : zs.all scB = true) : decZ (zs.flatMap putB) = (zs, (zs.flatMap putB).length) := by
  have := decZ_app zs [] h
  simpa [decZ, decF] using this
set_option maxHeartbeats 2000000 in
theorem law_back (a : Option Addr) (n c : Nat) (zs : List Int) (w : World) (h : Row .i32 w a n c zs) (hn : 4 * n ≤ 140737488355328) :
    Calls Try.prog 3 #[.slice a n c] w fun e w' => e = .returned (.bool true) ∧ Below w.heap.size w w' := by
  cases hall : zs.all scB
  · have E := hide (fun a' c' w' (h' : Row .i32 w' a' n c' zs) => encode_any a' n c' zs w' h' hn)
    rw [hall, encS_no hall] at E
    have S := hide (fun a' c' w' (h' : Row .i32 w' a' n c' zs) => scalars_any a' n c' zs w' h' (by omega))
    rw [hall] at S
    go_enter Try.func3, Try.ntmps3
    go_wp2_with fail
    refine (awake_true _).mono ?_
    rintro e w1 ⟨rfl, B1⟩
    have h1 := h.below B1
    go_wp2_with fail
    refine (copiedRunes_any _ _ _ _ _ h1 (by omega)).mono ?_
    rintro e w2 ⟨rfl, ho, hb⟩
    obtain ⟨a1, c1, e1, hc⟩ := own_row ho
    simp only [Value.slice.injEq] at e1
    obtain ⟨rfl, _, rfl⟩ := e1
    have B2 := B1.trans (hb.mono B1.size)
    have h2 := h1.below hb
    clear ho hb B1 h1
    go_wp2_with fail
    refine (unhide E _ _ _ hc).mono ?_
    rintro e w3 ⟨rfl, hb⟩
    have B3 := B2.trans (hb.mono B2.size)
    have h3 := h2.below hb
    clear hb B2 h2 E hc
    go_wp2_with fail
    refine (unhide S _ _ _ h3).mono ?_
    rintro e w4 ⟨rfl, hb⟩
    have B4 := B3.trans (hb.mono B3.size)
    clear hb B3 h3 S
    go_wp2
    go_ret
    exact ⟨rfl, B4⟩
  · have E := hide (fun a' c' w' (h' : Row .i32 w' a' n c' zs) => encode_any a' n c' zs w' h' hn)
    rw [hall, encS_yes hall] at E
    have S := hide (fun a' c' w' (h' : Row .i32 w' a' n c' zs) => scalars_any a' n c' zs w' h' (by omega))
    rw [hall] at S
    have hbz := bytesZ_str (zs.flatMap putB) (flat_byt zs hall)
    have hdz := decZ_flat zs hall
    have hfl : (strOfNums (zs.flatMap putB)).size = (zs.flatMap putB).length := strOfNums_size _
    have hf4 := flat_len zs zs.length
    rw [flat_all zs _ (Nat.le_refl _), h.len] at hf4
    have D := hide (fun w' => decode_str_n (strOfNums (zs.flatMap putB)) w' (by omega) (by rw [hbz, hdz]; simp only; rw [h.len]; omega))
    rw [hbz, hdz] at D
    have C := hide (fun w' => clean_str (strOfNums (zs.flatMap putB)) w' (by omega))
    rw [hbz, hdz, hfl] at C
    simp only at D C
    obtain ⟨T, hT⟩ : ∃ T, T = strOfNums (zs.flatMap putB) := ⟨_, rfl⟩
    obtain ⟨M, hM⟩ : ∃ M, M = (zs.flatMap putB).length := ⟨_, rfl⟩
    rw [← hT] at E D C hfl
    rw [← hM] at D C hfl
    have hMM : ((M : Int) == (M : Int)) = true := by simp
    rw [hMM] at C
    have HF := hide hfl
    have hTs : (M : Int) = (T.size : Int) := by omega
    have hTM : ((M : Int) == (T.size : Int)) = true := by simp; omega
    clear hT hM hbz hdz hf4 hall hMM hfl hTs
    go_enter Try.func3, Try.ntmps3
    go_wp2_with fail
    refine (awake_true _).mono ?_
    rintro e w1 ⟨rfl, B1⟩
    have h1 := h.below B1
    go_wp2_with fail
    refine (copiedRunes_any _ _ _ _ _ h1 (by omega)).mono ?_
    rintro e w2 ⟨rfl, ho, hb⟩
    obtain ⟨a1, c1, e1, hc⟩ := own_row ho
    simp only [Value.slice.injEq] at e1
    obtain ⟨rfl, _, rfl⟩ := e1
    have B2 := B1.trans (hb.mono B1.size)
    have h2 := h1.below hb
    clear ho hb B1 h1
    go_wp2_with fail
    refine (unhide E _ _ _ hc).mono ?_
    rintro e w3 ⟨rfl, hb⟩
    have B3 := B2.trans (hb.mono B2.size)
    have h3 := h2.below hb
    clear hb B2 h2 E hc
    go_wp2_with fail
    refine (unhide S _ _ _ h3).mono ?_
    rintro e w4 ⟨rfl, hb⟩
    have B4 := B3.trans (hb.mono B3.size)
    have h4 := h3.below hb
    clear hb B3 h3 S
    go_wp2_with fail
    refine (unhide D _).mono ?_
    rintro e w5 ⟨v5, rfl, ho5, hb⟩
    obtain ⟨a5, c5, rfl, hr5⟩ := own_row ho5
    have B5 := B4.trans (hb.mono B4.size)
    have h5 := h4.below hb
    clear hb B4 h4 D ho5
    go_wp2_with fail
    refine (alike_eq _ _ _ _ _ _ _ _ hr5 h5 (by rw [h5.len]; omega)).mono ?_
    rintro e w6 ⟨rfl, hb⟩
    have B6 := B5.trans (hb.mono B5.size)
    clear hb B5 h5 hr5
    go_wp2_with fail
    refine (unhide C _).mono ?_
    rintro e w7 ⟨rfl, hb⟩
    have B7 := B6.trans (hb.mono B6.size)
    clear hb B6 C
    go_wp2
    go_ret
    exact ⟨rfl, B7⟩
end Go.Proofs.Ytidkdnlbecompab.mem
