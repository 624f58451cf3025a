import Derived.Test.YtcehhkjlbhodeaaDoorLinR
import Derived.Test.YtcehhkjlbhodeaaDoorClassR
import Derived.Test.YtcehhkjlbhodeaaDoorSvl
import Derived.Test.YtcehhkjlbhodeaaDoorSv2
namespace Go.Proofs.YtcehhkjlbhodeaaDoor.sv
open Go.ChangeShapes Go.WideShapes Go.ChangeAt Go.RowKit
open mem
open ints (hide unhide soP)
set_option linter.unusedVariables false
theorem whB_eq (c : Int) : whB c = (decide (c = 9) || decide (c = 32)) := by unfold whB; simp [BEq.beq]
/-- how far the white characters go -/
theorem ind_all (l : List Int) (h : ∀ j, j < l.length → whB (l.getD j 0) = true) : ind l = l.length := by
  have hb : blk l = true := by
    unfold blk
    rw [List.all_eq_true]
    intro x hx
    obtain ⟨i, hi, rfl⟩ := List.mem_iff_getElem.1 hx
    have := h i hi
    simpa [List.getD, hi] using this
  rw [blk_ind] at hb
  exact beq_iff_eq.1 hb
theorem ind_stop : ∀ (l : List Int) (k : Nat), k < l.length → (∀ j, j < k → whB (l.getD j 0) = true) → whB (l.getD k 0) = false → ind l = k
  | [], k, h, _, _ => by simp at h
  | c :: r, 0, _, _, h => ind0 (by simpa using h)
  | c :: r, k + 1, h, h1, h2 => by
    have hc : whB c = true := by simpa using h1 0 (by omega)
    have e : ind (c :: r) = ind r + 1 := by unfold ind; rw [List.takeWhile_cons, hc]; simp
    rw [e, ind_stop r k (by simp at h; omega) (fun j hj => by simpa using h1 (j + 1) (by omega)) (by simpa using h2)]
set_option maxHeartbeats 1000000 in
theorem indent_ok (a : Option Addr) (n c : Nat) (l : List Int) (w : World) (h : Row .i32 w a n c l) (hn : n ≤ 9223372036854775806) :
    Calls Tryd.prog 18 #[.slice a n c] w fun e w' => e = .returned (.int .i64 (ind l : Nat)) ∧ w' = w := by
  have HL := hide h.len
  go_enter Tryd.func18, Tryd.ntmps18
  go_wp2
  go_loopw [7] (fun i wr => ∃ k : Nat, k ≤ n ∧ i = .int .i64 k ∧ wr = w ∧ Hid (∀ j, j < k → whB (l.getD j 0) = true)) (fun i _ => n - (intOf i).toNat)
  case atStart => exact ⟨0, Nat.zero_le _, rfl, rfl, hide (fun j hj => by omega)⟩
  case round =>
    obtain ⟨k, hk, rfl, rfl, hw⟩ := hrel
    by_cases hlt : k < n
    · rcases h.at_ with h0 | ⟨b, off, rfl, hbw, hcell⟩
      · omega
      have c1 := hcell k hlt
      obtain ⟨x, hx⟩ : ∃ x, x = l.getD k 0 := ⟨_, rfl⟩
      rw [← hx] at c1
      have Hx := hide hx
      clear hx hcell
      by_cases h9 : x = 9
      · subst h9
        go_wp2
        refine ⟨⟨k + 1, by omega, rfl, trivial, hide (fun j hj => ?_)⟩, by simp only [intOf]; omega⟩
        by_cases e : j = k
        · subst e; rw [← unhide Hx]; rfl
        · exact unhide hw j (by omega)
      · by_cases h32 : x = 32
        · subst h32
          go_wp2
          refine ⟨⟨k + 1, by omega, rfl, trivial, hide (fun j hj => ?_)⟩, by simp only [intOf]; omega⟩
          by_cases e : j = k
          · subst e; rw [← unhide Hx]; rfl
          · exact unhide hw j (by omega)
        · have b9 : (x != 9) = true := by simp [h9]
          have b32 : (x != 32) = true := by simp [h32]
          go_wp2
          go_ret
          have e : ind l = k := ind_stop l k (by rw [unhide HL]; exact hlt) (unhide hw) (by rw [← unhide Hx]; simp [whB, h9, h32])
          rw [e]
          exact ⟨rfl, rfl⟩
    · obtain rfl : k = n := by omega
      go_wp2
      go_ret
      have e : ind l = k := by rw [ind_all l (fun j hj => unhide hw j (by rw [← unhide HL]; exact hj)), unhide HL]
      rw [e]
      exact ⟨rfl, rfl⟩
theorem blank_ok (a : Option Addr) (n c : Nat) (l : List Int) (w : World) (h : Row .i32 w a n c l) (hn : n ≤ 9223372036854775806) :
    Calls Tryd.prog 39 #[.slice a n c] w fun e w' => e = .returned (.bool (blk l)) ∧ w' = w := by
  have I := hide (fun W (hW : Row .i32 W a n c l) => indent_ok a n c l W hW hn)
  have e : blk l = (((ind l : Nat) : Int) == (n : Int)) := by
    rw [blk_ind, h.len, Bool.eq_iff_iff, beq_iff_eq, beq_iff_eq]
    omega
  rw [e]
  obtain ⟨m, hm⟩ : ∃ m, m = ind l := ⟨_, rfl⟩
  rw [← hm] at I ⊢
  clear e hm
  go_enter Tryd.func39, Tryd.ntmps39
  go_wp2_with fail
  refine (unhide I _ h).mono ?_
  rintro e w1 ⟨rfl, rfl⟩
  clear I
  go_wp2
  go_ret
  exact ⟨rfl, rfl⟩
/-- can the characters stand in a block string's value? -/
def fitB (l : List Int) : Bool := l.all soB && !l.contains 13
theorem soB_iff (c : Int) : soB c = true ↔ soP c := by
  unfold soB soP
  simp only [Bool.or_eq_true, Bool.and_eq_true, beq_iff_eq, decide_eq_true_eq]
  omega
theorem fit_all (l : List Int) (h : ∀ j, j < l.length → soP (l.getD j 0) ∧ l.getD j 0 ≠ 13) : fitB l = true := by
  unfold fitB
  rw [Bool.and_eq_true]
  refine ⟨?_, ?_⟩
  · rw [List.all_eq_true]
    intro x hx
    obtain ⟨i, hi, rfl⟩ := List.mem_iff_getElem.1 hx
    have := (h i hi).1
    rw [soB_iff]
    simpa [List.getD, hi] using this
  · simp only [Bool.not_eq_true', List.contains_eq_mem, decide_eq_false_iff_not]
    intro hx
    obtain ⟨i, hi, e⟩ := List.mem_iff_getElem.1 hx
    exact (h i hi).2 (by simpa [List.getD, hi] using e)
theorem fit_no (l : List Int) (k : Nat) (hk : k < l.length) (h : ¬ (soP (l.getD k 0) ∧ l.getD k 0 ≠ 13)) : fitB l = false := by
  have hm : l.getD k 0 ∈ l := by simp [List.getD, hk]
  cases hf : fitB l
  · rfl
  · exfalso
    unfold fitB at hf
    rw [Bool.and_eq_true, List.all_eq_true] at hf
    apply h
    refine ⟨(soB_iff _).1 (hf.1 _ hm), ?_⟩
    intro e
    have h2 := hf.2
    simp only [Bool.not_eq_true', List.contains_eq_mem, decide_eq_false_iff_not] at h2
    rw [e] at hm
    exact h2 hm
set_option maxHeartbeats 1000000 in
theorem fits_ok (a : Option Addr) (n c : Nat) (l : List Int) (w : World) (h : Row .i32 w a n c l) (hn : n ≤ 9223372036854775806) :
    Calls Tryd.prog 15 #[.slice a n c] w fun e w' => e = .returned (.bool (fitB l)) ∧ w' = w := by
  have HL := hide h.len
  obtain ⟨R, hR⟩ : ∃ R, R = fitB l := ⟨_, rfl⟩
  rw [← hR]
  have HR := hide hR
  clear hR
  go_enter Tryd.func15, Tryd.ntmps15
  go_wp2
  go_loopw [7] (fun i wr => ∃ k : Nat, k ≤ n ∧ i = .int .i64 k ∧ wr = w ∧ Hid (∀ j, j < k → soP (l.getD j 0) ∧ l.getD j 0 ≠ 13)) (fun i _ => n - (intOf i).toNat)
  case atStart => exact ⟨0, Nat.zero_le _, rfl, rfl, hide (fun j hj => by omega)⟩
  case round =>
    obtain ⟨k, hk, rfl, rfl, hw⟩ := hrel
    by_cases hlt : k < n
    · rcases h.at_ with h0 | ⟨b, off, rfl, hbw, hcell⟩
      · omega
      have c1 := hcell k hlt
      obtain ⟨x, hx⟩ : ∃ x, x = l.getD k 0 := ⟨_, rfl⟩
      rw [← hx] at c1
      have Hx := hide hx
      clear hx hcell
      by_cases hs : soP x
      · have S := hide (fun W => ints.so_yes x W hs)
        have Hs := hide hs
        clear hs
        by_cases h13 : x = 13
        · subst h13
          go_wp2_with fail
          refine (unhide S _).mono ?_
          rintro e w1 ⟨rfl, rfl⟩
          go_wp2
          go_ret
          have e : R = false := by rw [unhide HR]; exact fit_no l k (by rw [unhide HL]; exact hlt) (fun hh => hh.2 (unhide Hx).symm)
          rw [e]
          exact ⟨rfl, rfl⟩
        · have b13 : (x == 13) = false := by simp [h13]
          go_wp2_with fail
          refine (unhide S _).mono ?_
          rintro e w1 ⟨rfl, rfl⟩
          go_wp2
          refine ⟨⟨k + 1, by omega, rfl, trivial, hide (fun j hj => ?_)⟩, by simp only [intOf]; omega⟩
          by_cases e : j = k
          · subst e; rw [← unhide Hx]; exact ⟨unhide Hs, h13⟩
          · exact unhide hw j (by omega)
      · have S := hide (fun W => ints.so_no x W hs)
        have Hs := hide hs
        clear hs
        go_wp2_with fail
        refine (unhide S _).mono ?_
        rintro e w1 ⟨rfl, rfl⟩
        go_wp2
        go_ret
        have e : R = false := by rw [unhide HR]; exact fit_no l k (by rw [unhide HL]; exact hlt) (fun hh => unhide Hs (by rw [unhide Hx]; exact hh.1))
        rw [e]
        exact ⟨rfl, rfl⟩
    · obtain rfl : k = n := by omega
      go_wp2
      go_ret
      have e : R = true := by rw [unhide HR]; exact fit_all l (fun j hj => unhide hw j (by rw [← unhide HL]; exact hj))
      rw [e]
      exact ⟨rfl, rfl⟩
end Go.Proofs.YtcehhkjlbhodeaaDoor.sv
