import Derived.Test.YtcehhkjlbhodeaaDoorSvB5
namespace Go.Proofs.YtcehhkjlbhodeaaDoor.sv
open Go.ChangeShapes Go.WideShapes Go.ChangeAt Go.RowKit
open mem
open ints (hide unhide soP)
set_option linter.unusedVariables false
set_option maxHeartbeats 1000000 in
theorem white_ok (c : Int) (w : World) : Calls Tryd.prog 23 #[.int .i32 c] w fun e w' => e = .returned (.bool (whB c)) ∧ w' = w := by
  unfold whB
  by_cases h9 : c = 9
  · subst h9
    go_enter Tryd.func23, Tryd.ntmps23
    go_wp2
    go_ret
    exact ⟨rfl, rfl⟩
  · have b9 : (c == 9) = false := by simp [h9]
    rw [b9]
    go_enter Tryd.func23, Tryd.ntmps23
    go_wp2
    go_ret
    exact ⟨rfl, rfl⟩
set_option maxHeartbeats 1000000 in
theorem rindent_ok (a : Option Addr) (n c : Nat) (l : List Int) (w : World) (h : Row .i32 w a n c l) (hn : n ≤ 9223372036854775806) :
    Calls Tryd.prog 46 #[.slice a n c] w fun e w' => e = .returned (.int .i64 (ind l : Nat)) ∧ w' = w := by
  have HL := hide h.len
  go_enter Tryd.func46, Tryd.ntmps46
  go_wp2
  go_loopw [3] (fun i wr => ∃ k : Nat, k ≤ n ∧ i = .int .i64 k ∧ wr = w ∧ Hid (∀ j, j < k → whB (l.getD j 0) = true)) (fun i _ => n - (intOf i).toNat)
  case atStart => exact ⟨0, Nat.zero_le _, rfl, rfl, hide (fun j hj => by omega)⟩
  case round =>
    obtain ⟨k, hk, rfl, rfl, hw⟩ := hrel
    by_cases hlt : k < n
    · rcases h.at_ with h0 | ⟨b, off, rfl, hbw, hcell⟩
      · omega
      have c1 := hcell k hlt
      obtain ⟨x, hx⟩ : ∃ x, x = l.getD k 0 := ⟨_, rfl⟩
      rw [← hx] at c1
      have Hx := hide hx
      clear hx hcell
      have W := hide (fun W => white_ok x W)
      cases hwb : whB x
      · rw [hwb] at W
        have Hw := hide hwb
        clear hwb
        go_wp2_with fail
        refine (unhide W _).mono ?_
        rintro e w1 ⟨rfl, rfl⟩
        go_wp2
        go_ret
        have e : ind l = k := ind_stop l k (by rw [unhide HL]; exact hlt) (unhide hw) (by rw [← unhide Hx]; exact unhide Hw)
        rw [e]
        exact ⟨rfl, rfl⟩
      · rw [hwb] at W
        have Hw := hide hwb
        clear hwb
        go_wp2_with fail
        refine (unhide W _).mono ?_
        rintro e w1 ⟨rfl, rfl⟩
        go_wp2
        refine ⟨⟨k + 1, by omega, rfl, trivial, hide (fun j hj => ?_)⟩, by simp only [intOf]; omega⟩
        by_cases e : j = k
        · subst e; rw [← unhide Hx]; exact unhide Hw
        · exact unhide hw j (by omega)
    · obtain rfl : k = n := by omega
      go_wp2
      go_ret
      have e : ind l = k := by rw [ind_all l (fun j hj => unhide hw j (by rw [← unhide HL]; exact hj)), unhide HL]
      rw [e]
      exact ⟨rfl, rfl⟩
theorem rblank_ok (a : Option Addr) (n c : Nat) (l : List Int) (w : World) (h : Row .i32 w a n c l) (hn : n ≤ 9223372036854775806) :
    Calls Tryd.prog 45 #[.slice a n c] w fun e w' => e = .returned (.bool (blk l)) ∧ w' = w := by
  have I := hide (fun W (hW : Row .i32 W a n c l) => rindent_ok a n c l W hW hn)
  have e : blk l = (((ind l : Nat) : Int) == (n : Int)) := by
    rw [blk_ind, h.len, Bool.eq_iff_iff, beq_iff_eq, beq_iff_eq]
    omega
  rw [e]
  obtain ⟨m, hm⟩ : ∃ m, m = ind l := ⟨_, rfl⟩
  rw [← hm] at I ⊢
  clear e hm
  go_enter Tryd.func45, Tryd.ntmps45
  go_wp2_with fail
  refine (unhide I _ h).mono ?_
  rintro e w1 ⟨rfl, rfl⟩
  clear I
  go_wp2
  go_ret
  exact ⟨rfl, rfl⟩
theorem pos_form' (L : List (List Int)) (hn : 0 < L.length) : pos L = (!blk (L.getD 0 []) && !blk (L.getD (L.length - 1) []) && (L.any (fun l => ind l == 0 && !blk l) || decide (L.length = 1))) := by
  cases L with
  | nil => simp at hn
  | cons x r =>
    unfold pos
    rw [← last_at]
    simp only [List.getD_cons_zero]
    congr 2
    cases r <;> simp
theorem any_at {L : List (List Int)} {k : Nat} (hk : k < L.length) (h : ind (L.getD k []) = 0) (h2 : 0 < (L.getD k []).length) : L.any (fun l => ind l == 0 && !blk l) = true := by
  rw [List.any_eq_true]
  refine ⟨L.getD k [], by simp [List.getD, hk], ?_⟩
  have : blk (L.getD k []) = false := by
    rw [blk_ind, h]
    have h3 : ¬ 0 = (L.getD k []).length := by omega
    exact beq_eq_false_iff_ne.2 h3
  rw [this, h]
  rfl
theorem any_no {L : List (List Int)} (h : ∀ k, k < L.length → ¬ (ind (L.getD k []) = 0 ∧ 0 < (L.getD k []).length)) : L.any (fun l => ind l == 0 && !blk l) = false := by
  cases ha : L.any (fun l => ind l == 0 && !blk l)
  · rfl
  · exfalso
    rw [List.any_eq_true] at ha
    obtain ⟨x, hx, h1⟩ := ha
    obtain ⟨i, hi, e⟩ := List.mem_iff_getElem.1 hx
    have e2 : L.getD i [] = x := by simp [List.getD, hi, e]
    rw [Bool.and_eq_true, beq_iff_eq, Bool.not_eq_true'] at h1
    apply h i hi
    rw [e2]
    refine ⟨h1.1, ?_⟩
    have h3 := h1.2
    rw [blk_ind, h1.1] at h3
    have : ¬ 0 = x.length := fun e => by rw [← e] at h3; simp at h3
    omega
set_option maxHeartbeats 4000000 in
theorem poss_ok (b n c : Nat) (L : List (List Int)) (w : World) (h : Lns w b n c L) (h0 : 0 < n) (hn : n ≤ 1099511627777) (hm : ∀ i, (L.getD i []).length ≤ 1099511627776) :
    Calls Tryd.prog 22 #[.slice (some ⟨b, 0, none⟩) n c] w fun e w' => e = .returned (.bool (pos L)) ∧ Below w.heap.size w w' := by
  have ek : pos L = (!blk (L.getD 0 []) && !blk (L.getD (n - 1) []) && (L.any (fun l => ind l == 0 && !blk l) || decide (n = 1))) := by
    rw [pos_form' L (by rw [h.len]; exact h0), h.len]
  rw [ek]
  clear ek
  obtain ⟨a1, c1, g1, r1⟩ := h.at_ 0 h0
  obtain ⟨a2, c2, g2, r2⟩ := h.at_ (n - 1) (by omega)
  have B1 := hide (fun W (hW : Below w.heap.size w W) => rblank_ok a1 _ c1 _ W (r1.below hW) (by have := hm 0; omega))
  have B2 := hide (fun W (hW : Below w.heap.size w W) => rblank_ok a2 _ c2 _ W (r2.below hW) (by have := hm (n - 1); omega))
  have HH := hide h
  have HM := hide hm
  have hle := h.le
  have HN := hide h.len
  obtain ⟨x1, hx1⟩ : ∃ x, x = blk (L.getD 0 []) := ⟨_, rfl⟩
  obtain ⟨x2, hx2⟩ : ∃ x, x = blk (L.getD (n - 1) []) := ⟨_, rfl⟩
  obtain ⟨q1, hq1⟩ : ∃ q, q = (L.getD 0 []).length := ⟨_, rfl⟩
  obtain ⟨q2, hq2⟩ : ∃ q, q = (L.getD (n - 1) []).length := ⟨_, rfl⟩
  obtain ⟨A, hA⟩ : ∃ A, A = L.any (fun l => ind l == 0 && !blk l) := ⟨_, rfl⟩
  rw [← hx1] at B1
  rw [← hx2] at B2
  rw [← hx1, ← hx2, ← hA]
  rw [← hq1] at g1 B1
  rw [← hq2] at g2 B2
  have HA := hide hA
  clear hx1 hx2 hq1 hq2 r1 r2 h hm hA
  go_enter Tryd.func22, Tryd.ntmps22
  go_wp2_with fail
  refine (unhide B1 _ (Below.refl _ _)).mono ?_
  rintro e w1 ⟨rfl, rfl⟩
  go_wp2_with fail
  refine (unhide B2 _ (Below.refl _ _)).mono ?_
  rintro e w1 ⟨rfl, rfl⟩
  clear B1 B2
  cases x1
  · cases x2
    · go_wp2_with fail
      clear g1 g2
      go_loopw [5] (fun i wr => ∃ k : Nat, k ≤ n ∧ i = .int .i64 k ∧ wr = w1 ∧ Hid (∀ j, j < k → ¬ (ind (L.getD j []) = 0 ∧ 0 < (L.getD j []).length))) (fun i _ => n - (intOf i).toNat)
      case atStart => exact ⟨0, Nat.zero_le _, rfl, rfl, hide (fun j hj => by omega)⟩
      case round =>
        obtain ⟨k, hk, rfl, rfl, hno⟩ := hrel
        by_cases hlt : k < n
        · obtain ⟨ai, ci, g1, r1⟩ := (unhide HH).at_ k hlt
          have hmk := unhide HM k
          have I := hide (rindent_ok ai _ ci _ _ r1 (by omega))
          obtain ⟨q, hq⟩ : ∃ q, q = (L.getD k []).length := ⟨_, rfl⟩
          rw [← hq] at g1 I hmk
          obtain ⟨m, hm⟩ : ∃ m, m = ind (L.getD k []) := ⟨_, rfl⟩
          rw [← hm] at I
          have Hq := hide hq
          have Hm := hide hm
          clear hq hm r1
          by_cases c0 : m = 0
          · by_cases c1 : 0 < q
            · subst c0
              have c2 : (0 : Int) < (q : Int) := by omega
              go_wp2_with fail
              refine (unhide I).mono ?_
              rintro e w2 ⟨rfl, rfl⟩
              go_wp2
              go_ret
              have e : A = true := by rw [unhide HA]; exact any_at (k := k) (by rw [unhide HN]; exact hlt) (unhide Hm).symm (by rw [← unhide Hq]; exact c1)
              rw [e]
              exact ⟨rfl, Below.refl _ _⟩
            · subst c0
              have c2 : ¬ (0 : Int) < (q : Int) := by omega
              go_wp2_with fail
              refine (unhide I).mono ?_
              rintro e w2 ⟨rfl, rfl⟩
              go_wp2
              refine ⟨⟨k + 1, by omega, rfl, trivial, hide (fun j hj => ?_)⟩, by simp only [intOf]; omega⟩
              by_cases e : j = k
              · subst e; rw [← unhide Hq]; omega
              · exact unhide hno j (by omega)
          · have c2 : ¬ (m : Int) = 0 := by omega
            have c3 : ((m : Int) == 0) = false := by simp; omega
            go_wp2_with fail
            refine (unhide I).mono ?_
            rintro e w2 ⟨rfl, rfl⟩
            go_wp2
            refine ⟨⟨k + 1, by omega, rfl, trivial, hide (fun j hj => ?_)⟩, by simp only [intOf]; omega⟩
            by_cases e : j = k
            · subst e; rw [← unhide Hm]; omega
            · exact unhide hno j (by omega)
        · obtain rfl : k = n := by omega
          have e := hide (show A = false by rw [unhide HA]; exact any_no (fun j hj => unhide hno j (by rw [← unhide HN]; exact hj)))
          have e2 := hide (show decide (k = 1) = ((k : Int) == 1) by rw [Bool.eq_iff_iff, decide_eq_true_eq, beq_iff_eq]; omega)
          go_wp2
          go_ret
          rw [unhide e, unhide e2]
          exact ⟨rfl, Below.refl _ _⟩
    · go_wp2
      go_ret
      exact ⟨rfl, Below.refl _ _⟩
  · go_wp2
    go_ret
    exact ⟨rfl, Below.refl _ _⟩
end Go.Proofs.YtcehhkjlbhodeaaDoor.sv
