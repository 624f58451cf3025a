import Derived.Test.YtfegalieiiaopabEncW
namespace Go.Proofs.Ytfegalieiiaopab.mem
open Go.ChangeShapes Go.WideShapes Go.ChangeAt Go.RowKit
open ints (hide unhide)
set_option linter.unusedVariables false

def encS (zs : List Int) : ByteArray := if zs.all scB = true then strOfNums (zs.flatMap putB) else ⟨#[]⟩
theorem encS_yes {zs : List Int} (h : zs.all scB = true) : encS zs = strOfNums (zs.flatMap putB) := if_pos h
theorem encS_no {zs : List Int} (h : zs.all scB = false) : encS zs = ⟨#[]⟩ := if_neg (by rw [h]; simp)
def flat (zs : List Int) (k : Nat) : List Int := (zs.take k).flatMap putB
theorem flat_zero (zs : List Int) : flat zs 0 = [] := rfl
theorem flat_succ (zs : List Int) (k : Nat) (h : k < zs.length) : flat zs (k + 1) = flat zs k ++ putB (zs.getD k 0) := by
  unfold flat
  rw [List.take_succ_eq_append_getElem h, List.flatMap_append]
  simp [List.getD, h]
theorem flat_len (zs : List Int) (k : Nat) : (flat zs k).length ≤ 4 * k := by
  unfold flat
  have : ∀ l : List Int, (l.flatMap putB).length ≤ 4 * l.length := by
    intro l
    induction l with
    | nil => simp
    | cons a l ih => have := putB_len a; rw [List.flatMap_cons, List.length_append, List.length_cons]; omega
  have h1 := this (zs.take k)
  have h2 : (zs.take k).length ≤ k := List.length_take_le _ _
  omega
theorem flat_all (zs : List Int) (k : Nat) (h : zs.length ≤ k) : flat zs k = zs.flatMap putB := by
  unfold flat; rw [List.take_of_length_le h]
theorem all_of (zs : List Int) (h : ∀ j, j < zs.length → scP (zs.getD j 0)) : zs.all scB = true := by
  rw [List.all_eq_true]
  intro x hx
  obtain ⟨i, hi, rfl⟩ := List.mem_iff_getElem.1 hx
  have := h i hi
  rw [scB_iff]
  simpa [List.getD, hi] using this
theorem not_all (zs : List Int) (k : Nat) (hk : k < zs.length) (h : ¬ scP (zs.getD k 0)) : zs.all scB = false := by
  rw [List.all_eq_false]
  refine ⟨zs.getD k 0, by simp [List.getD, hk], ?_⟩
  intro e
  exact h ((scB_iff _).1 e)

set_option maxHeartbeats 1000000 in
theorem encode_any (a : Option Addr) (n c : Nat) (zs : List Int) (w : World) (h : Row .i32 w a n c zs) (hn : 4 * n ≤ 140737488355328) :
    Calls Try.prog 15 #[.slice a n c] w fun e w' => e = .returned (.tuple #[.string (encS zs), .bool (zs.all scB)]) ∧ Below w.heap.size w w' := by
  go_enter Try.func15, Try.ntmps15
  go_wp2
  go_loopw [4, 9] (fun v i wr => ∃ k : Nat, k ≤ n ∧ i = .int .i64 k ∧ wr.ownsRow w.heap.size 5 1 v (flat zs k).length ((flat zs k).map (Value.int .u8)) ∧ Below w.heap.size w wr ∧ Hid (∀ j, j < k → scP (zs.getD j 0))) (fun _ i _ => n - (intOf i).toNat)
  case atStart => exact ⟨0, Nat.zero_le _, rfl, World.ownsRow_nil _ _ _ _, Below.refl _ _, hide (fun j hj => by omega)⟩
  case round =>
    obtain ⟨k, hk, rfl, hown, hbel, hall⟩ := hrel
    have hlen := h.len
    have HL := hide hlen
    clear hlen
    by_cases hlt : k < n
    · rcases h.at_ with h0 | ⟨b, off, rfl, hbw, hcell⟩
      · omega
      have c1 := (hbel.cell (p := ⟨b, off + k, none⟩) hbw).trans (hcell k hlt)
      obtain ⟨x, hx⟩ : ∃ x, x = zs.getD k 0 := ⟨_, rfl⟩
      rw [← hx] at c1
      have Hx := hide hx
      clear hx hcell
      by_cases hs : scP x
      · have hfl := flat_len zs k
        have R := hide (appendRune_any w.heap.size _ _ (flat zs k) x hs wr hown (by omega) hbel.size)
        have Hlt := hide hown.lt
        clear hown
        go_wp2_with fail
        refine (valid_yes _ _ hs).mono ?_
        rintro e w' ⟨rfl, rfl⟩
        go_wp2_with fail
        refine (unhide R).mono ?_
        rintro e w2 ⟨v', rfl, hown', o, hgrow⟩
        clear R
        go_wp2
        go_roundw
        case rel =>
          refine ⟨k + 1, by omega, by go_num, ?_, ?_, hide (fun j hj => ?_)⟩
          · rw [flat_succ zs k (by rw [unhide HL]; exact hlt), ← unhide Hx]
            simpa using hown'
          · exact (hbel.alloc hbel.size o).grown hgrow (by have := hbel.size; simp; omega) (fun k hk => (unhide Hlt k hk).1)
          · by_cases hjk : j < k
            · exact unhide hall j hjk
            · obtain rfl : j = k := by omega
              rw [← unhide Hx]; exact hs
        case measure => simp [intOf]; omega
      · have hnot := hide (not_all zs k (by rw [unhide HL]; exact hlt) (by rw [← unhide Hx]; exact hs))
        go_wp2_with fail
        refine (valid_no _ _ hs).mono ?_
        rintro e w' ⟨rfl, rfl⟩
        go_wp2
        go_ret2
        rw [unhide hnot, encS_no (unhide hnot)]
        exact ⟨rfl, hbel⟩
    · have hyes := hide (all_of zs (fun j hj => unhide hall j (by rw [unhide HL] at hj; omega)))
      have hfl := hide (flat_all zs k (by rw [unhide HL]; omega))
      obtain ⟨a', cap', rfl, hrow⟩ := own_row hown
      have hconv := row_string (P := Try.prog) hrow 22 9 5 Try.underlying22 Try.underlying5 Try.underlying9
      clear hown
      go_wp2
      go_ret2
      rw [unhide hyes, encS_yes (unhide hyes), ← unhide hfl]
      exact ⟨rfl, hbel⟩
end Go.Proofs.Ytfegalieiiaopab.mem
