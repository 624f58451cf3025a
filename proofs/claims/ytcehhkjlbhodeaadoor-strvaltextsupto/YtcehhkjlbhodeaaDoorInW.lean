import Derived.Test.YtcehhkjlbhodeaaDoorInts
namespace Go.Proofs.YtcehhkjlbhodeaaDoor.ints
open Go.ChangeShapes Go.WideShapes Go.ChangeAt Go.RowKit
set_option linter.unusedVariables false

def inB (c : Int) (s : ByteArray) : Bool := s.data.toList.any fun b => decide ((b.toNat : Int) = c)
theorem inB_yes {c : Int} {s : ByteArray} {k : Nat} (h : k < s.size) (e : (s[k].toNat : Int) = c) : inB c s = true := by
  unfold inB
  rw [List.any_eq_true]
  exact ⟨s[k], by simp [ByteArray.getElem_eq_getElem_data], by simpa using e⟩
theorem inB_no {c : Int} {s : ByteArray} (h : ∀ k (hk : k < s.size), ¬ (s[k].toNat : Int) = c) : inB c s = false := by
  unfold inB
  rw [List.any_eq_false]
  intro b hb
  obtain ⟨k, hk, rfl⟩ := List.mem_iff_getElem.1 hb
  have := h k (by simpa using hk)
  simpa [ByteArray.getElem_eq_getElem_data] using this
theorem wrap32_u8 (b : UInt8) : wrap32 (b.toNat : Int) = (b.toNat : Int) := by
  have := b.toNat_lt
  unfold wrap32
  omega
theorem in_any (c : Int) (s : ByteArray) (w : World) (hs : s.size ≤ maxLen) :
    Calls Tryd.prog 42 #[.int .i32 c, .string s] w fun e w' => e = .returned (.bool (inB c s)) ∧ w' = w := by
  unfold maxLen at hs
  go_enter Tryd.func42, Tryd.ntmps42
  go_wp2
  go_loop [5] (fun i => ∃ k : Nat, k ≤ s.size ∧ i = .int .i64 k ∧ ∀ j (hj : j < s.size), j < k → ¬ (s[j].toNat : Int) = c) (fun i => s.size - (intOf i).toNat)
  case atStart => exact ⟨0, Nat.zero_le _, rfl, fun j _ h => by omega⟩
  case round =>
    obtain ⟨k, hk, rfl, hno⟩ := hrel
    have Hno := hide hno
    clear hno
    by_cases hlt : k < s.size
    · by_cases he : (s[k].toNat : Int) = c
      · have hy := hide (inB_yes hlt he)
        have hb : (wrap32 (s[k].toNat : Int) == c) = true := by rw [wrap32_u8]; simpa using he
        clear he
        go_wp2
        go_ret
        rw [unhide hy]
        exact ⟨rfl, rfl⟩
      · have hb : (wrap32 (s[k].toNat : Int) == c) = false := by rw [wrap32_u8]; simpa using he
        have he' := hide he
        clear he
        go_wp2
        go_round
        case rel => 
          refine ⟨k + 1, by omega, by go_num, fun j hj hjk => ?_⟩
          by_cases hjk' : j < k
          · exact unhide Hno j hj hjk'
          · obtain rfl : j = k := by omega
            exact unhide he'
        case measure => simp [intOf]; omega
    · have hy := hide (inB_no (c := c) (s := s) (fun j hj => unhide Hno j hj (by omega)))
      go_wp2
      go_ret
      rw [unhide hy]
      exact ⟨rfl, rfl⟩
end Go.Proofs.YtcehhkjlbhodeaaDoor.ints
