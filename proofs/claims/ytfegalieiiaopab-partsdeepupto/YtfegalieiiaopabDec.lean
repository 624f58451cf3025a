import Derived.Test.YtfegalieiiaopabUtf
import Derived.Laws.RangeAny
import Derived.Laws.IdiomStrings
namespace Go.Proofs.Ytfegalieiiaopab.mem
open Go.ChangeShapes Go.WideShapes Go.ChangeAt Go.RowKit
open ints (hide unhide)
set_option linter.unusedVariables false

def bytesZ (s : ByteArray) : List Int := s.data.toList.map fun b => (b.toNat : Int)
theorem bytesZ_len (s : ByteArray) : (bytesZ s).length = s.size := by unfold bytesZ; rw [List.length_map, Array.length_toList]; rfl
theorem bytesZ_byt (s : ByteArray) : Byt (bytesZ s) := by
  intro z hz
  obtain ⟨b, _, rfl⟩ := List.mem_map.1 hz
  have := b.toNat_lt
  omega
theorem bytesZ_str (zs : List Int) (h : Byt zs) : bytesZ (strOfNums zs) = zs := by
  unfold bytesZ
  rw [strOfNums_data, List.map_map]
  conv => rhs; rw [← List.map_id zs]
  apply List.map_congr_left
  intro z hz
  have := h z hz
  simp
  omega
theorem bytesZ_get (s : ByteArray) (i : Nat) : (bytesZ s).getD i 0 = ((s.get! i).toNat : Int) := by
  unfold bytesZ
  have e : s.get! i = s.data[i]! := rfl
  rw [e]
  by_cases h : i < s.data.size
  · rw [getElem!_pos s.data i h]
    simp [List.getD, Array.getElem?_eq_getElem h]
  · rw [getElem!_neg s.data i h]
    simp [List.getD, Array.getElem?_eq_none (Nat.le_of_not_lt h)]
    rfl
theorem drop_getD (l : List Int) (p k : Nat) : (l.drop p).getD k 0 = l.getD (p + k) 0 := by simp [List.getD]
theorem oneL_at (s : ByteArray) (p : Nat) : oneL ((bytesZ s).drop p) = oneQ (s.size - p) ((s.get! p).toNat : Int) ((s.get! (p + 1)).toNat : Int) ((s.get! (p + 2)).toNat : Int) ((s.get! (p + 3)).toNat : Int) := by
  unfold oneL
  rw [drop_getD, drop_getD, drop_getD, drop_getD, bytesZ_get, bytesZ_get, bytesZ_get, bytesZ_get]
  simp [bytesZ_len]
theorem oneQ_bad {n : Nat} {b0 : Int} (b1 b2 b3 : Int) (h0 : 128 ≤ b0) (h : b0 < 192 ∨ 248 ≤ b0) : oneQ n b0 b1 b2 b3 = (0, 0) := by
  unfold oneQ
  rw [if_neg (by omega), if_neg (by omega), if_neg (by omega), if_neg (by omega)]
theorem oneQ_2 {n : Nat} {b0 : Int} (b1 b2 b3 : Int) (h0 : 192 ≤ b0) (h1 : b0 < 224) : oneQ n b0 b1 b2 b3 = if 1 < n ∧ b1 / 64 = 2 ∧ 128 ≤ b0 % 32 * 64 + b1 % 64 then (b0 % 32 * 64 + b1 % 64, 2) else (0, 0) := by
  unfold oneQ
  have e1 : b0 / 32 = 6 := by omega
  have e2 : ¬ b0 / 16 = 14 := by omega
  have e3 : ¬ b0 / 8 = 30 := by omega
  rw [if_neg (by omega)]
  simp only [e1, e2, e3, true_and, false_and, and_false, if_false]
theorem oneQ_3 {n : Nat} {b0 : Int} (b1 b2 b3 : Int) (h0 : 224 ≤ b0) (h1 : b0 < 240) : oneQ n b0 b1 b2 b3 = if 2 < n ∧ b1 / 64 = 2 ∧ b2 / 64 = 2 ∧ 2048 ≤ b0 % 16 * 4096 + b1 % 64 * 64 + b2 % 64 ∧ (b0 % 16 * 4096 + b1 % 64 * 64 + b2 % 64 ≤ 55295 ∨ 57344 ≤ b0 % 16 * 4096 + b1 % 64 * 64 + b2 % 64) then (b0 % 16 * 4096 + b1 % 64 * 64 + b2 % 64, 3) else (0, 0) := by
  unfold oneQ
  have e1 : ¬ b0 / 32 = 6 := by omega
  have e2 : b0 / 16 = 14 := by omega
  have e3 : ¬ b0 / 8 = 30 := by omega
  rw [if_neg (by omega)]
  simp only [e1, e2, e3, true_and, false_and, and_false, if_false]
theorem oneQ_4 {n : Nat} {b0 : Int} (b1 b2 b3 : Int) (h0 : 240 ≤ b0) (h1 : b0 < 248) : oneQ n b0 b1 b2 b3 = if 3 < n ∧ b1 / 64 = 2 ∧ b2 / 64 = 2 ∧ b3 / 64 = 2 ∧ 65536 ≤ b0 % 8 * 262144 + b1 % 64 * 4096 + b2 % 64 * 64 + b3 % 64 ∧ b0 % 8 * 262144 + b1 % 64 * 4096 + b2 % 64 * 64 + b3 % 64 ≤ 1114111 then (b0 % 8 * 262144 + b1 % 64 * 4096 + b2 % 64 * 64 + b3 % 64, 4) else (0, 0) := by
  unfold oneQ
  have e1 : ¬ b0 / 32 = 6 := by omega
  have e2 : ¬ b0 / 16 = 14 := by omega
  have e3 : b0 / 8 = 30 := by omega
  rw [if_neg (by omega)]
  simp only [e1, e2, e3, true_and, false_and, and_false, if_false]
/-- The model's own decoding, of four bytes and how many there are. -/
def decQ (n b0 b1 b2 b3 : Nat) : Nat × Nat :=
  if b0 < 128 then (b0, 1)
  else if (b0 / 32 == 6 && (decide (1 < n) && b1 / 64 == 2)) = true then (if b0 % 32 * 64 + b1 % 64 ≥ 128 then (b0 % 32 * 64 + b1 % 64, 2) else (65533, 1))
  else if (b0 / 16 == 14 && (decide (1 < n) && b1 / 64 == 2) && (decide (2 < n) && b2 / 64 == 2)) = true then
    (if (decide (b0 % 16 * 4096 + b1 % 64 * 64 + b2 % 64 ≥ 2048) && Utf8.valid ((b0 % 16 * 4096 + b1 % 64 * 64 + b2 % 64 : Nat) : Int)) = true then (b0 % 16 * 4096 + b1 % 64 * 64 + b2 % 64, 3) else (65533, 1))
  else if (b0 / 8 == 30 && (decide (1 < n) && b1 / 64 == 2) && (decide (2 < n) && b2 / 64 == 2) && (decide (3 < n) && b3 / 64 == 2)) = true then
    (if (decide (b0 % 8 * 262144 + b1 % 64 * 4096 + b2 % 64 * 64 + b3 % 64 ≥ 65536) && Utf8.valid ((b0 % 8 * 262144 + b1 % 64 * 4096 + b2 % 64 * 64 + b3 % 64 : Nat) : Int)) = true then (b0 % 8 * 262144 + b1 % 64 * 4096 + b2 % 64 * 64 + b3 % 64, 4) else (65533, 1))
  else (65533, 1)
theorem decide_lt_sub (p k n : Nat) : decide (p + k < n) = decide (k < n - p) := by
  rw [decide_eq_decide]; omega
theorem decode_Q (s : ByteArray) (p : Nat) : Utf8.decode s p = decQ (s.size - p) (s.get! p).toNat (s.get! (p + 1)).toNat (s.get! (p + 2)).toNat (s.get! (p + 3)).toNat := by
  unfold Utf8.decode decQ
  simp only [Nat.add_zero, decide_lt_sub, Utf8.runeError]
theorem valid_iff (c : Nat) : Utf8.valid (c : Int) = true ↔ (c ≤ 55295 ∨ 57344 ≤ c ∧ c ≤ 1114111) := by
  simp [Utf8.valid]; omega
theorem decQ_bad {n b0 : Nat} (b1 b2 b3 : Nat) (h0 : 128 ≤ b0) (h : b0 < 192 ∨ 248 ≤ b0) : decQ n b0 b1 b2 b3 = (65533, 1) := by
  unfold decQ
  have e1 : (b0 / 32 == 6) = false := by simp; omega
  have e2 : (b0 / 16 == 14) = false := by simp; omega
  have e3 : (b0 / 8 == 30) = false := by simp; omega
  rw [if_neg (by omega)]
  simp [e1, e2, e3]
theorem decQ_2 {n b0 : Nat} (b1 b2 b3 : Nat) (h0 : 192 ≤ b0) (h1 : b0 < 224) : decQ n b0 b1 b2 b3 = if (1 < n ∧ b1 / 64 = 2) ∧ 128 ≤ b0 % 32 * 64 + b1 % 64 then (b0 % 32 * 64 + b1 % 64, 2) else (65533, 1) := by
  unfold decQ
  have e1 : (b0 / 32 == 6) = true := by simp; omega
  have e2 : (b0 / 16 == 14) = false := by simp; omega
  have e3 : (b0 / 8 == 30) = false := by simp; omega
  rw [if_neg (by omega)]
  simp only [e1, e2, e3, Bool.true_and, Bool.false_and, Bool.and_eq_true, decide_eq_true_eq, beq_iff_eq, Bool.false_eq_true, if_false, ge_iff_le]
  by_cases a : 1 < n ∧ b1 / 64 = 2
  · by_cases b : 128 ≤ b0 % 32 * 64 + b1 % 64
    · rw [if_pos a, if_pos b, if_pos ⟨a, b⟩]
    · rw [if_pos a, if_neg b, if_neg (fun h => b h.2)]
  · rw [if_neg a, if_neg (fun h => a h.1)]
theorem decQ_3 {n b0 : Nat} (b1 b2 b3 : Nat) (h0 : 224 ≤ b0) (h1 : b0 < 240) : decQ n b0 b1 b2 b3 = if ((1 < n ∧ b1 / 64 = 2) ∧ 2 < n ∧ b2 / 64 = 2) ∧ 2048 ≤ b0 % 16 * 4096 + b1 % 64 * 64 + b2 % 64 ∧ (b0 % 16 * 4096 + b1 % 64 * 64 + b2 % 64 ≤ 55295 ∨ 57344 ≤ b0 % 16 * 4096 + b1 % 64 * 64 + b2 % 64 ∧ b0 % 16 * 4096 + b1 % 64 * 64 + b2 % 64 ≤ 1114111) then (b0 % 16 * 4096 + b1 % 64 * 64 + b2 % 64, 3) else (65533, 1) := by
  unfold decQ
  have e1 : (b0 / 32 == 6) = false := by simp; omega
  have e2 : (b0 / 16 == 14) = true := by simp; omega
  have e3 : (b0 / 8 == 30) = false := by simp; omega
  rw [if_neg (by omega)]
  simp only [e1, e2, e3, Bool.true_and, Bool.false_and, Bool.and_eq_true, decide_eq_true_eq, beq_iff_eq, Bool.false_eq_true, if_false, ge_iff_le, valid_iff]
  generalize b0 % 16 * 4096 + b1 % 64 * 64 + b2 % 64 = C
  by_cases a : (1 < n ∧ b1 / 64 = 2) ∧ 2 < n ∧ b2 / 64 = 2
  · by_cases b : 2048 ≤ C ∧ (C ≤ 55295 ∨ 57344 ≤ C ∧ C ≤ 1114111)
    · rw [if_pos a, if_pos b, if_pos ⟨a, b⟩]
    · rw [if_pos a, if_neg b, if_neg (fun h => b h.2)]
  · rw [if_neg a, if_neg (fun h => a h.1)]
theorem decQ_4 {n b0 : Nat} (b1 b2 b3 : Nat) (h0 : 240 ≤ b0) (h1 : b0 < 248) : decQ n b0 b1 b2 b3 = if (((1 < n ∧ b1 / 64 = 2) ∧ 2 < n ∧ b2 / 64 = 2) ∧ 3 < n ∧ b3 / 64 = 2) ∧ 65536 ≤ b0 % 8 * 262144 + b1 % 64 * 4096 + b2 % 64 * 64 + b3 % 64 ∧ (b0 % 8 * 262144 + b1 % 64 * 4096 + b2 % 64 * 64 + b3 % 64 ≤ 55295 ∨ 57344 ≤ b0 % 8 * 262144 + b1 % 64 * 4096 + b2 % 64 * 64 + b3 % 64 ∧ b0 % 8 * 262144 + b1 % 64 * 4096 + b2 % 64 * 64 + b3 % 64 ≤ 1114111) then (b0 % 8 * 262144 + b1 % 64 * 4096 + b2 % 64 * 64 + b3 % 64, 4) else (65533, 1) := by
  unfold decQ
  have e1 : (b0 / 32 == 6) = false := by simp; omega
  have e2 : (b0 / 16 == 14) = false := by simp; omega
  have e3 : (b0 / 8 == 30) = true := by simp; omega
  rw [if_neg (by omega)]
  simp only [e1, e2, e3, Bool.true_and, Bool.false_and, Bool.and_eq_true, decide_eq_true_eq, beq_iff_eq, Bool.false_eq_true, if_false, ge_iff_le, valid_iff]
  generalize b0 % 8 * 262144 + b1 % 64 * 4096 + b2 % 64 * 64 + b3 % 64 = C
  by_cases a : ((1 < n ∧ b1 / 64 = 2) ∧ 2 < n ∧ b2 / 64 = 2) ∧ 3 < n ∧ b3 / 64 = 2
  · by_cases b : 65536 ≤ C ∧ (C ≤ 55295 ∨ 57344 ≤ C ∧ C ≤ 1114111)
    · rw [if_pos a, if_pos b, if_pos ⟨a, b⟩]
    · rw [if_pos a, if_neg b, if_neg (fun h => b h.2)]
  · rw [if_neg a, if_neg (fun h => a h.1)]
theorem decQ_one (n b0 b1 b2 b3 : Nat) (hn : 0 < n) (l0 : b0 < 256) : decQ n b0 b1 b2 b3 = if (oneQ n b0 b1 b2 b3).2 = 0 then (65533, 1) else ((oneQ n b0 b1 b2 b3).1.toNat, (oneQ n b0 b1 b2 b3).2) := by
  by_cases h1 : b0 < 128
  · have e : oneQ n b0 b1 b2 b3 = ((b0 : Int), 1) := by unfold oneQ; rw [if_pos (by omega)]
    rw [e]
    unfold decQ
    rw [if_pos h1]
    simp
  by_cases h2 : b0 < 192 ∨ 248 ≤ b0
  · rw [decQ_bad b1 b2 b3 (by omega) h2, oneQ_bad (b0 := (b0 : Int)) _ _ _ (by omega) (by omega)]
    simp
  by_cases h3 : b0 < 224
  · rw [decQ_2 b1 b2 b3 (by omega) h3]
    by_cases c : (1 < n ∧ b1 / 64 = 2) ∧ 128 ≤ b0 % 32 * 64 + b1 % 64
    · have e : oneQ n b0 b1 b2 b3 = ((b0 : Int) % 32 * 64 + (b1 : Int) % 64, 2) := by rw [oneQ_2 (b0 := (b0 : Int)) _ _ _ (by omega) (by omega), if_pos (by omega)]
      rw [if_pos c, e]
      simp
      omega
    · have e : oneQ n b0 b1 b2 b3 = (0, 0) := by rw [oneQ_2 (b0 := (b0 : Int)) _ _ _ (by omega) (by omega), if_neg (by omega)]
      rw [if_neg c, e]
      simp
  by_cases h4 : b0 < 240
  · rw [decQ_3 b1 b2 b3 (by omega) h4]
    by_cases c : ((1 < n ∧ b1 / 64 = 2) ∧ 2 < n ∧ b2 / 64 = 2) ∧ 2048 ≤ b0 % 16 * 4096 + b1 % 64 * 64 + b2 % 64 ∧ (b0 % 16 * 4096 + b1 % 64 * 64 + b2 % 64 ≤ 55295 ∨ 57344 ≤ b0 % 16 * 4096 + b1 % 64 * 64 + b2 % 64 ∧ b0 % 16 * 4096 + b1 % 64 * 64 + b2 % 64 ≤ 1114111)
    · have e : oneQ n b0 b1 b2 b3 = ((b0 : Int) % 16 * 4096 + (b1 : Int) % 64 * 64 + (b2 : Int) % 64, 3) := by rw [oneQ_3 (b0 := (b0 : Int)) _ _ _ (by omega) (by omega), if_pos (by omega)]
      rw [if_pos c, e]
      simp
      omega
    · have e : oneQ n b0 b1 b2 b3 = (0, 0) := by rw [oneQ_3 (b0 := (b0 : Int)) _ _ _ (by omega) (by omega), if_neg (by omega)]
      rw [if_neg c, e]
      simp
  · rw [decQ_4 b1 b2 b3 (by omega) (by omega)]
    by_cases c : (((1 < n ∧ b1 / 64 = 2) ∧ 2 < n ∧ b2 / 64 = 2) ∧ 3 < n ∧ b3 / 64 = 2) ∧ 65536 ≤ b0 % 8 * 262144 + b1 % 64 * 4096 + b2 % 64 * 64 + b3 % 64 ∧ (b0 % 8 * 262144 + b1 % 64 * 4096 + b2 % 64 * 64 + b3 % 64 ≤ 55295 ∨ 57344 ≤ b0 % 8 * 262144 + b1 % 64 * 4096 + b2 % 64 * 64 + b3 % 64 ∧ b0 % 8 * 262144 + b1 % 64 * 4096 + b2 % 64 * 64 + b3 % 64 ≤ 1114111)
    · have e : oneQ n b0 b1 b2 b3 = ((b0 : Int) % 8 * 262144 + (b1 : Int) % 64 * 4096 + (b2 : Int) % 64 * 64 + (b3 : Int) % 64, 4) := by rw [oneQ_4 (b0 := (b0 : Int)) _ _ _ (by omega) (by omega), if_pos (by omega)]
      rw [if_pos c, e]
      simp
      omega
    · have e : oneQ n b0 b1 b2 b3 = (0, 0) := by rw [oneQ_4 (b0 := (b0 : Int)) _ _ _ (by omega) (by omega), if_neg (by omega)]
      rw [if_neg c, e]
      simp
theorem decode_one (s : ByteArray) (p : Nat) (h : p < s.size) :
    Utf8.decode s p = if (oneL ((bytesZ s).drop p)).2 = 0 then (65533, 1) else ((oneL ((bytesZ s).drop p)).1.toNat, (oneL ((bytesZ s).drop p)).2) := by
  rw [oneL_at, decode_Q]
  exact decQ_one _ _ _ _ _ (by omega) (s.get! p).toNat_lt
end Go.Proofs.Ytfegalieiiaopab.mem
