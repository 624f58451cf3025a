import Derived.Test.YtgphiollpbahgaaSta2
import Derived.Laws.RangeAny
import Derived.Laws.IdiomStrings
import Derived.Deep.LoopGhost
import Derived.WalkMore
import Derived.Shelf.Strings.Runes
import Derived.Test.YtgphiollpbahgaaProg
namespace Go.Proofs.Ytgphiollpbahgaa.mem
open Go.ChangeShapes Go.WideShapes Go.ChangeAt Go.RowKit
open ints (hide unhide)
set_option linter.unusedVariables false

def bytesZ (s : ByteArray) : List Int := s.data.toList.map fun b => (b.toNat : Int)
theorem bytesZ_len (s : ByteArray) : (bytesZ s).length = s.size := by unfold bytesZ; rw [List.length_map, Array.length_toList]; rfl
theorem bytesZ_byt (s : ByteArray) : Byt (bytesZ s) := by
  intro z hz
  obtain ⟨b, _, rfl⟩ := List.mem_map.1 hz
  have := b.toNat_lt
  omega
theorem bytesZ_str (zs : List Int) (h : Byt zs) : bytesZ (strOfNums zs) = zs := by
  unfold bytesZ
  rw [strOfNums_data, List.map_map]
  conv => rhs; rw [← List.map_id zs]
  apply List.map_congr_left
  intro z hz
  have := h z hz
  simp
  omega
theorem bytesZ_get (s : ByteArray) (i : Nat) : (bytesZ s).getD i 0 = ((s.get! i).toNat : Int) := by
  unfold bytesZ
  have e : s.get! i = s.data[i]! := rfl
  rw [e]
  by_cases h : i < s.data.size
  · rw [getElem!_pos s.data i h]
    simp [List.getD, Array.getElem?_eq_getElem h]
  · rw [getElem!_neg s.data i h]
    simp [List.getD, Array.getElem?_eq_none (Nat.le_of_not_lt h)]
    rfl
theorem drop_getD (l : List Int) (p k : Nat) : (l.drop p).getD k 0 = l.getD (p + k) 0 := by simp [List.getD]
theorem oneL_at (s : ByteArray) (p : Nat) : oneL ((bytesZ s).drop p) = oneQ (s.size - p) ((s.get! p).toNat : Int) ((s.get! (p + 1)).toNat : Int) ((s.get! (p + 2)).toNat : Int) ((s.get! (p + 3)).toNat : Int) := by
  unfold oneL
  rw [drop_getD, drop_getD, drop_getD, drop_getD, bytesZ_get, bytesZ_get, bytesZ_get, bytesZ_get]
  simp [bytesZ_len]
theorem oneQ_bad {n : Nat} {b0 : Int} (b1 b2 b3 : Int) (h0 : 128 ≤ b0) (h : b0 < 192 ∨ 248 ≤ b0) : oneQ n b0 b1 b2 b3 = (0, 0) := by
  unfold oneQ
  rw [if_neg (by omega), if_neg (by omega), if_neg (by omega), if_neg (by omega)]
theorem oneQ_2 {n : Nat} {b0 : Int} (b1 b2 b3 : Int) (h0 : 192 ≤ b0) (h1 : b0 < 224) : oneQ n b0 b1 b2 b3 = if 1 < n ∧ b1 / 64 = 2 ∧ 128 ≤ b0 % 32 * 64 + b1 % 64 then (b0 % 32 * 64 + b1 % 64, 2) else (0, 0) := by
  unfold oneQ
  have e1 : b0 / 32 = 6 := by omega
  have e2 : ¬ b0 / 16 = 14 := by omega
  have e3 : ¬ b0 / 8 = 30 := by omega
  rw [if_neg (by omega)]
  simp only [e1, e2, e3, true_and, false_and, and_false, if_false]
theorem oneQ_3 {n : Nat} {b0 : Int} (b1 b2 b3 : Int) (h0 : 224 ≤ b0) (h1 : b0 < 240) : oneQ n b0 b1 b2 b3 = if 2 < n ∧ b1 / 64 = 2 ∧ b2 / 64 = 2 ∧ 2048 ≤ b0 % 16 * 4096 + b1 % 64 * 64 + b2 % 64 ∧ (b0 % 16 * 4096 + b1 % 64 * 64 + b2 % 64 ≤ 55295 ∨ 57344 ≤ b0 % 16 * 4096 + b1 % 64 * 64 + b2 % 64) then (b0 % 16 * 4096 + b1 % 64 * 64 + b2 % 64, 3) else (0, 0) := by
  unfold oneQ
  have e1 : ¬ b0 / 32 = 6 := by omega
  have e2 : b0 / 16 = 14 := by omega
  have e3 : ¬ b0 / 8 = 30 := by omega
  rw [if_neg (by omega)]
  simp only [e1, e2, e3, true_and, false_and, and_false, if_false]
theorem oneQ_4 {n : Nat} {b0 : Int} (b1 b2 b3 : Int) (h0 : 240 ≤ b0) (h1 : b0 < 248) : oneQ n b0 b1 b2 b3 = if 3 < n ∧ b1 / 64 = 2 ∧ b2 / 64 = 2 ∧ b3 / 64 = 2 ∧ 65536 ≤ b0 % 8 * 262144 + b1 % 64 * 4096 + b2 % 64 * 64 + b3 % 64 ∧ b0 % 8 * 262144 + b1 % 64 * 4096 + b2 % 64 * 64 + b3 % 64 ≤ 1114111 then (b0 % 8 * 262144 + b1 % 64 * 4096 + b2 % 64 * 64 + b3 % 64, 4) else (0, 0) := by
  unfold oneQ
  have e1 : ¬ b0 / 32 = 6 := by omega
  have e2 : ¬ b0 / 16 = 14 := by omega
  have e3 : b0 / 8 = 30 := by omega
  rw [if_neg (by omega)]
  simp only [e1, e2, e3, true_and, false_and, and_false, if_false]
/-- The model's own decoding, of four bytes and how many there are. -/
def decQ (n b0 b1 b2 b3 : Nat) : Nat × Nat :=
  if b0 < 128 then (b0, 1)
  else if (b0 / 32 == 6 && (decide (1 < n) && b1 / 64 == 2)) = true then (if b0 % 32 * 64 + b1 % 64 ≥ 128 then (b0 % 32 * 64 + b1 % 64, 2) else (65533, 1))
  else if (b0 / 16 == 14 && (decide (1 < n) && b1 / 64 == 2) && (decide (2 < n) && b2 / 64 == 2)) = true then
    (if (decide (b0 % 16 * 4096 + b1 % 64 * 64 + b2 % 64 ≥ 2048) && Utf8.valid ((b0 % 16 * 4096 + b1 % 64 * 64 + b2 % 64 : Nat) : Int)) = true then (b0 % 16 * 4096 + b1 % 64 * 64 + b2 % 64, 3) else (65533, 1))
  else if (b0 / 8 == 30 && (decide (1 < n) && b1 / 64 == 2) && (decide (2 < n) && b2 / 64 == 2) && (decide (3 < n) && b3 / 64 == 2)) = true then
    (if (decide (b0 % 8 * 262144 + b1 % 64 * 4096 + b2 % 64 * 64 + b3 % 64 ≥ 65536) && Utf8.valid ((b0 % 8 * 262144 + b1 % 64 * 4096 + b2 % 64 * 64 + b3 % 64 : Nat) : Int)) = true then (b0 % 8 * 262144 + b1 % 64 * 4096 + b2 % 64 * 64 + b3 % 64, 4) else (65533, 1))
  else (65533, 1)
theorem decide_lt_sub (p k n : Nat) : decide (p + k < n) = decide (k < n - p) := by
  rw [decide_eq_decide]; omega
theorem decode_Q (s : ByteArray) (p : Nat) : Utf8.decode s p = decQ (s.size - p) (s.get! p).toNat (s.get! (p + 1)).toNat (s.get! (p + 2)).toNat (s.get! (p + 3)).toNat := by
  unfold Utf8.decode decQ
  simp only [Nat.add_zero, decide_lt_sub, Utf8.runeError]
theorem valid_iff (c : Nat) : Utf8.valid (c : Int) = true ↔ (c ≤ 55295 ∨ 57344 ≤ c ∧ c ≤ 1114111) := by
  simp [Utf8.valid]; omega
theorem decQ_bad {n b0 : Nat} (b1 b2 b3 : Nat) (h0 : 128 ≤ b0) (h : b0 < 192 ∨ 248 ≤ b0) : decQ n b0 b1 b2 b3 = (65533, 1) := by
  unfold decQ
  have e1 : (b0 / 32 == 6) = false := by simp; omega
  have e2 : (b0 / 16 == 14) = false := by simp; omega
  have e3 : (b0 / 8 == 30) = false := by simp; omega
  rw [if_neg (by omega)]
  simp [e1, e2, e3]
theorem decQ_2 {n b0 : Nat} (b1 b2 b3 : Nat) (h0 : 192 ≤ b0) (h1 : b0 < 224) : decQ n b0 b1 b2 b3 = if (1 < n ∧ b1 / 64 = 2) ∧ 128 ≤ b0 % 32 * 64 + b1 % 64 then (b0 % 32 * 64 + b1 % 64, 2) else (65533, 1) := by
  unfold decQ
  have e1 : (b0 / 32 == 6) = true := by simp; omega
  have e2 : (b0 / 16 == 14) = false := by simp; omega
  have e3 : (b0 / 8 == 30) = false := by simp; omega
  rw [if_neg (by omega)]
  simp only [e1, e2, e3, Bool.true_and, Bool.false_and, Bool.and_eq_true, decide_eq_true_eq, beq_iff_eq, Bool.false_eq_true, if_false, ge_iff_le]
  by_cases a : 1 < n ∧ b1 / 64 = 2
  · by_cases b : 128 ≤ b0 % 32 * 64 + b1 % 64
    · rw [if_pos a, if_pos b, if_pos ⟨a, b⟩]
    · rw [if_pos a, if_neg b, if_neg (fun h => b h.2)]
  · rw [if_neg a, if_neg (fun h => a h.1)]
theorem decQ_3 {n b0 : Nat} (b1 b2 b3 : Nat) (h0 : 224 ≤ b0) (h1 : b0 < 240) : decQ n b0 b1 b2 b3 = if ((1 < n ∧ b1 / 64 = 2) ∧ 2 < n ∧ b2 / 64 = 2) ∧ 2048 ≤ b0 % 16 * 4096 + b1 % 64 * 64 + b2 % 64 ∧ (b0 % 16 * 4096 + b1 % 64 * 64 + b2 % 64 ≤ 55295 ∨ 57344 ≤ b0 % 16 * 4096 + b1 % 64 * 64 + b2 % 64 ∧ b0 % 16 * 4096 + b1 % 64 * 64 + b2 % 64 ≤ 1114111) then (b0 % 16 * 4096 + b1 % 64 * 64 + b2 % 64, 3) else (65533, 1) := by
  unfold decQ
  have e1 : (b0 / 32 == 6) = false := by simp; omega
  have e2 : (b0 / 16 == 14) = true := by simp; omega
  have e3 : (b0 / 8 == 30) = false := by simp; omega
  rw [if_neg (by omega)]
  simp only [e1, e2, e3, Bool.true_and, Bool.false_and, Bool.and_eq_true, decide_eq_true_eq, beq_iff_eq, Bool.false_eq_true, if_false, ge_iff_le, valid_iff]
  generalize b0 % 16 * 4096 + b1 % 64 * 64 + b2 % 64 = C
  by_cases a : (1 < n ∧ b1 / 64 = 2) ∧ 2 < n ∧ b2 / 64 = 2
  · by_cases b : 2048 ≤ C ∧ (C ≤ 55295 ∨ 57344 ≤ C ∧ C ≤ 1114111)
    · rw [if_pos a, if_pos b, if_pos ⟨a, b⟩]
    · rw [if_pos a, if_neg b, if_neg (fun h => b h.2)]
  · rw [if_neg a, if_neg (fun h => a h.1)]
theorem decQ_4 {n b0 : Nat} (b1 b2 b3 : Nat) (h0 : 240 ≤ b0) (h1 : b0 < 248) : decQ n b0 b1 b2 b3 = if (((1 < n ∧ b1 / 64 = 2) ∧ 2 < n ∧ b2 / 64 = 2) ∧ 3 < n ∧ b3 / 64 = 2) ∧ 65536 ≤ b0 % 8 * 262144 + b1 % 64 * 4096 + b2 % 64 * 64 + b3 % 64 ∧ (b0 % 8 * 262144 + b1 % 64 * 4096 + b2 % 64 * 64 + b3 % 64 ≤ 55295 ∨ 57344 ≤ b0 % 8 * 262144 + b1 % 64 * 4096 + b2 % 64 * 64 + b3 % 64 ∧ b0 % 8 * 262144 + b1 % 64 * 4096 + b2 % 64 * 64 + b3 % 64 ≤ 1114111) then (b0 % 8 * 262144 + b1 % 64 * 4096 + b2 % 64 * 64 + b3 % 64, 4) else (65533, 1) := by
  unfold decQ
  have e1 : (b0 / 32 == 6) = false := by simp; omega
  have e2 : (b0 / 16 == 14) = false := by simp; omega
  have e3 : (b0 / 8 == 30) = true := by simp; omega
  rw [if_neg (by omega)]
  simp only [e1, e2, e3, Bool.true_and, Bool.false_and, Bool.and_eq_true, decide_eq_true_eq, beq_iff_eq, Bool.false_eq_true, if_false, ge_iff_le, valid_iff]
  generalize b0 % 8 * 262144 + b1 % 64 * 4096 + b2 % 64 * 64 + b3 % 64 = C
  by_cases a : ((1 < n ∧ b1 / 64 = 2) ∧ 2 < n ∧ b2 / 64 = 2) ∧ 3 < n ∧ b3 / 64 = 2
  · by_cases b : 65536 ≤ C ∧ (C ≤ 55295 ∨ 57344 ≤ C ∧ C ≤ 1114111)
    · rw [if_pos a, if_pos b, if_pos ⟨a, b⟩]
    · rw [if_pos a, if_neg b, if_neg (fun h => b h.2)]
  · rw [if_neg a, if_neg (fun h => a h.1)]
theorem decQ_one (n b0 b1 b2 b3 : Nat) (hn : 0 < n) (l0 : b0 < 256) : decQ n b0 b1 b2 b3 = if (oneQ n b0 b1 b2 b3).2 = 0 then (65533, 1) else ((oneQ n b0 b1 b2 b3).1.toNat, (oneQ n b0 b1 b2 b3).2) := by
  by_cases h1 : b0 < 128
  · have e : oneQ n b0 b1 b2 b3 = ((b0 : Int), 1) := by unfold oneQ; rw [if_pos (by omega)]
    rw [e]
    unfold decQ
    rw [if_pos h1]
    simp
  by_cases h2 : b0 < 192 ∨ 248 ≤ b0
  · rw [decQ_bad b1 b2 b3 (by omega) h2, oneQ_bad (b0 := (b0 : Int)) _ _ _ (by omega) (by omega)]
    simp
  by_cases h3 : b0 < 224
  · rw [decQ_2 b1 b2 b3 (by omega) h3]
    by_cases c : (1 < n ∧ b1 / 64 = 2) ∧ 128 ≤ b0 % 32 * 64 + b1 % 64
    · have e : oneQ n b0 b1 b2 b3 = ((b0 : Int) % 32 * 64 + (b1 : Int) % 64, 2) := by rw [oneQ_2 (b0 := (b0 : Int)) _ _ _ (by omega) (by omega), if_pos (by omega)]
      rw [if_pos c, e]
      simp
      omega
    · have e : oneQ n b0 b1 b2 b3 = (0, 0) := by rw [oneQ_2 (b0 := (b0 : Int)) _ _ _ (by omega) (by omega), if_neg (by omega)]
      rw [if_neg c, e]
      simp
  by_cases h4 : b0 < 240
  · rw [decQ_3 b1 b2 b3 (by omega) h4]
    by_cases c : ((1 < n ∧ b1 / 64 = 2) ∧ 2 < n ∧ b2 / 64 = 2) ∧ 2048 ≤ b0 % 16 * 4096 + b1 % 64 * 64 + b2 % 64 ∧ (b0 % 16 * 4096 + b1 % 64 * 64 + b2 % 64 ≤ 55295 ∨ 57344 ≤ b0 % 16 * 4096 + b1 % 64 * 64 + b2 % 64 ∧ b0 % 16 * 4096 + b1 % 64 * 64 + b2 % 64 ≤ 1114111)
    · have e : oneQ n b0 b1 b2 b3 = ((b0 : Int) % 16 * 4096 + (b1 : Int) % 64 * 64 + (b2 : Int) % 64, 3) := by rw [oneQ_3 (b0 := (b0 : Int)) _ _ _ (by omega) (by omega), if_pos (by omega)]
      rw [if_pos c, e]
      simp
      omega
    · have e : oneQ n b0 b1 b2 b3 = (0, 0) := by rw [oneQ_3 (b0 := (b0 : Int)) _ _ _ (by omega) (by omega), if_neg (by omega)]
      rw [if_neg c, e]
      simp
  · rw [decQ_4 b1 b2 b3 (by omega) (by omega)]
    by_cases c : (((1 < n ∧ b1 / 64 = 2) ∧ 2 < n ∧ b2 / 64 = 2) ∧ 3 < n ∧ b3 / 64 = 2) ∧ 65536 ≤ b0 % 8 * 262144 + b1 % 64 * 4096 + b2 % 64 * 64 + b3 % 64 ∧ (b0 % 8 * 262144 + b1 % 64 * 4096 + b2 % 64 * 64 + b3 % 64 ≤ 55295 ∨ 57344 ≤ b0 % 8 * 262144 + b1 % 64 * 4096 + b2 % 64 * 64 + b3 % 64 ∧ b0 % 8 * 262144 + b1 % 64 * 4096 + b2 % 64 * 64 + b3 % 64 ≤ 1114111)
    · have e : oneQ n b0 b1 b2 b3 = ((b0 : Int) % 8 * 262144 + (b1 : Int) % 64 * 4096 + (b2 : Int) % 64 * 64 + (b3 : Int) % 64, 4) := by rw [oneQ_4 (b0 := (b0 : Int)) _ _ _ (by omega) (by omega), if_pos (by omega)]
      rw [if_pos c, e]
      simp
      omega
    · have e : oneQ n b0 b1 b2 b3 = (0, 0) := by rw [oneQ_4 (b0 := (b0 : Int)) _ _ _ (by omega) (by omega), if_neg (by omega)]
      rw [if_neg c, e]
      simp
theorem decode_one (s : ByteArray) (p : Nat) (h : p < s.size) :
    Utf8.decode s p = if (oneL ((bytesZ s).drop p)).2 = 0 then (65533, 1) else ((oneL ((bytesZ s).drop p)).1.toNat, (oneL ((bytesZ s).drop p)).2) := by
  rw [oneL_at, decode_Q]
  exact decQ_one _ _ _ _ _ (by omega) (s.get! p).toNat_lt
end Go.Proofs.Ytgphiollpbahgaa.mem
namespace Go.Proofs.Ytgphiollpbahgaa.mem
open Go.ChangeShapes Go.WideShapes Go.ChangeAt Go.RowKit
open ints (hide unhide)
set_option linter.unusedVariables false

def hpB (t p : ByteArray) : Bool := decide (p.size ≤ t.size) && ((t.extract 0 p.size).toList == p.toList)
theorem hp_in (t p : ByteArray) (w : World) (ht : t.size ≤ 9223372036854775807) (hp : p.size ≤ 9223372036854775807) :
    Calls Try.prog 68 #[.string t, .string p] w fun e w' => e = .returned (.bool (hpB t p)) ∧ w' = w := by
  by_cases h : p.size ≤ t.size
  · have hb := hide (show hpB t p = ((t.extract 0 p.size).toList == p.toList) from by simp [hpB, h])
    have h1 : (p.size : Int) ≤ (t.size : Int) := by omega
    go_enter Try.func68, Try.ntmps68
    go_wp2
    go_ret
    rw [unhide hb]
    exact ⟨rfl, rfl⟩
  · have hb := hide (show hpB t p = false from by simp [hpB, h])
    have h1 : ¬ (p.size : Int) ≤ (t.size : Int) := by omega
    go_enter Try.func68, Try.ntmps68
    go_wp2
    go_ret
    rw [unhide hb]
    exact ⟨rfl, rfl⟩
theorem hp_any (t p : ByteArray) (w : World) (ht : t.size ≤ 9223372036854775807) (hp : p.size ≤ 9223372036854775807) :
    Calls Try.prog 46 #[.string t, .string p] w fun e w' => e = .returned (.bool (hpB t p)) ∧ w' = w := by
  go_enter Try.func46, Try.ntmps46
  go_wp2_with fail
  refine (hp_in _ _ _ ht hp).mono ?_
  rintro e w' ⟨rfl, rfl⟩
  go_wp2
  go_ret
  exact ⟨rfl, rfl⟩

theorem extract_list (s : ByteArray) (a b : Nat) : (s.extract a b).data.toList = (s.data.toList.drop a).take (b - a) := by
  rw [ByteArray.data_extract, Array.toList_extract]
theorem bytesZ_extract (s : ByteArray) (a b : Nat) : bytesZ (s.extract a b) = ((bytesZ s).drop a).take (b - a) := by
  unfold bytesZ
  rw [extract_list, List.map_take, List.map_drop]
theorem hp_fffd (s : ByteArray) (p : Nat) (h : p ≤ s.size) : hpB (s.extract p s.size) ⟨#[239, 191, 189]⟩ = decide (((bytesZ s).drop p).take 3 = [239, 191, 189]) := by
  have hz : (s.extract p s.size).size = s.size - p := by simp
  have hp3 : (⟨#[239, 191, 189]⟩ : ByteArray).size = 3 := rfl
  have hl : s.data.toList.length = s.size := by rw [Array.length_toList]; rfl
  unfold hpB
  rw [hz, hp3, ByteArray.toList_eq, ByteArray.toList_eq, extract_list, extract_list]
  rw [List.take_of_length_le (l := s.data.toList.drop p) (by simp)]
  unfold bytesZ
  rw [← List.map_drop]
  have hd : (s.data.toList.drop p).length = s.size - p := by rw [List.length_drop, hl]
  rw [← hd]
  generalize s.data.toList.drop p = L
  rw [Bool.eq_iff_iff]
  match L with
  | [] => simp
  | [a] => simp
  | [a, b] => simp
  | a :: b :: c :: r =>
    simp only [List.drop_zero, Nat.sub_zero, List.length_cons, List.take_succ_cons, List.take_zero, List.map_cons, Bool.and_eq_true, decide_eq_true_eq, beq_iff_eq, List.cons.injEq, and_true]
    constructor
    · rintro ⟨_, rfl, rfl, rfl⟩
      exact ⟨rfl, rfl, rfl⟩
    · rintro ⟨h1, h2, h3⟩
      refine ⟨by omega, ?_, ?_, ?_⟩
      all_goals apply UInt8.toNat_inj.1
      · show _ = 239
        omega
      · show _ = 191
        omega
      · show _ = 189
        omega
theorem put_fffd : putB 65533 = [239, 191, 189] := by decide
theorem hp_yes (s : ByteArray) (p : Nat) (h : p ≤ s.size) (ho : (oneL ((bytesZ s).drop p)).2 ≠ 0) (hc : (oneL ((bytesZ s).drop p)).1 = 65533) : hpB (s.extract p s.size) ⟨#[239, 191, 189]⟩ = true := by
  rw [hp_fffd s p h, decide_eq_true_iff]
  obtain ⟨h1, h2, h3⟩ := one_back _ (byt_drop (bytesZ_byt s) p) ho
  rw [hc, put_fffd] at h2
  rw [h2]
  rfl
theorem hp_no (s : ByteArray) (p : Nat) (h : p ≤ s.size) (ho : (oneL ((bytesZ s).drop p)).2 = 0) : hpB (s.extract p s.size) ⟨#[239, 191, 189]⟩ = false := by
  rw [hp_fffd s p h, decide_eq_false_iff_not]
  intro e
  have h1 : (oneL (putB 65533 ++ ((bytesZ s).drop p).drop 3)).2 = 3 := by rw [one_put 65533 (by unfold scP; omega)]; rfl
  rw [put_fffd, ← e, List.take_append_drop, ho] at h1
  cases h1
theorem below_iter (w : World) (s : ByteArray) (p : Nat) : Below w.heap.size w (w.iter s p) := (Below.refl _ _).alloc (Nat.le_refl _) _
set_option maxHeartbeats 1000000 in
theorem good_any (s : ByteArray) (w : World) (hs : s.size ≤ 9223372036854775807) :
    Calls Try.prog 32 #[.string s] w fun e w' => e = .returned (.int .i64 ((decZ (bytesZ s)).2 : Int)) ∧ Below w.heap.size w w' := by
  go_enter Try.func32, Try.ntmps32
  go_wp2
  go_loopw [3] (fun _ wr => ∃ pos f : Nat, wr = w.iter s pos ∧ pos ≤ s.size ∧ s.size - pos ≤ f ∧ Hid (pos + (decF f ((bytesZ s).drop pos)).2 = (decZ (bytesZ s)).2)) (fun _ wr => s.size - wr.iterPos w.heap.size)
  case atStart => exact ⟨0, (bytesZ s).length, rfl, Nat.zero_le _, by rw [bytesZ_len]; omega, hide (by simp [decZ])⟩
  case round =>
    obtain ⟨pos, f, rfl, hpl, hf, hr⟩ := hrel
    by_cases hp : pos < s.size
    · have hd := hide (decode_one s pos hp)
      obtain ⟨ch, wd, hdec⟩ : ∃ ch wd : Nat, Utf8.decode s pos = (ch, wd) := ⟨_, _, rfl⟩
      have hnx : ∀ ty, (Instr.next (.pointer (some ⟨w.heap.size, 0, none⟩)) true ty).run Try.prog (w.iter s pos) = .ok (.tuple #[.bool true, .int .i64 pos, .int .i32 (ch : Int)]) (w.iter s (pos + wd)) := fun ty => by
        have := run_next_any (P := Try.prog) w s pos ty hp
        rw [hdec] at this
        exact this
      rw [hdec] at hd
      have hex : (s.extract pos s.size).size ≤ 9223372036854775807 := by simp; omega
      by_cases ho : (oneL ((bytesZ s).drop pos)).2 = 0
      · have hd' := unhide hd
        rw [if_pos ho] at hd'
        simp only [Prod.mk.injEq] at hd'
        obtain ⟨rfl, rfl⟩ := hd'
        have hfin := hide (show (decZ (bytesZ s)).2 = pos from by have := unhide hr; rw [decF_end _ _ ho] at this; simpa using this.symm)
        have hh := hide (hp_no s pos (by omega) ho)
        clear hd hdec ho hr
        go_wp2_with fail
        refine (hp_any _ _ _ hex (by show 3 ≤ _; omega)).mono ?_
        rintro e w' ⟨rfl, rfl⟩
        rw [unhide hh]
        go_wp2
        go_ret
        rw [unhide hfin]
        exact ⟨rfl, below_iter _ _ _⟩
      · have hd' := unhide hd
        rw [if_neg ho] at hd'
        simp only [Prod.mk.injEq] at hd'
        obtain ⟨hch, hwd⟩ := hd'
        obtain ⟨f', rfl⟩ : ∃ f', f = f' + 1 := ⟨f - 1, by omega⟩
        obtain ⟨hsc, _, _⟩ := one_back _ (byt_drop (bytesZ_byt s) pos) ho
        have hle := oneL_le ((bytesZ s).drop pos)
        rw [List.length_drop, bytesZ_len] at hle
        have hstep := hide (show pos + wd + (decF f' ((bytesZ s).drop (pos + wd))).2 = (decZ (bytesZ s)).2 from by
          have := unhide hr
          rw [decF_go _ _ ho] at this
          simp only at this
          rw [← hwd, List.drop_drop] at this
          omega)
        have w1 : 1 ≤ wd := by omega
        have w2 : pos + wd ≤ s.size := by omega
        have hcz : (ch : Int) = (oneL ((bytesZ s).drop pos)).1 := by unfold scP at hsc; omega
        by_cases hff : ch = 65533
        · have hh := hide (hp_yes s pos (by omega) ho (by omega))
          have hb : ((ch : Int) == 65533) = true := by simp; omega
          clear hd hdec ho hr hch hwd hsc hcz hle hff
          go_wp2_with fail
          refine (hp_any _ _ _ hex (by show 3 ≤ _; omega)).mono ?_
          rintro e w' ⟨rfl, rfl⟩
          rw [unhide hh]
          go_wp2
          go_roundw
          case rel => exact ⟨pos + wd, f', rfl, w2, by omega, hstep⟩
          case measure => simp; omega
        · have hb : ((ch : Int) == 65533) = false := by simp; omega
          clear hd hdec ho hr hch hwd hsc hcz hle hff
          go_wp2
          go_roundw
          case rel => exact ⟨pos + wd, f', rfl, w2, by omega, hstep⟩
          case measure => simp; omega
    · have hfin := hide (show (decZ (bytesZ s)).2 = s.size from by
        have := unhide hr
        have e : (bytesZ s).drop pos = [] := List.drop_eq_nil_of_le (by rw [bytesZ_len]; omega)
        rw [decF_end _ _ (by rw [e]; rfl)] at this
        simp at this
        omega)
      have hnx : ∀ ty, (Instr.next (.pointer (some ⟨w.heap.size, 0, none⟩)) true ty).run Try.prog (w.iter s pos) = .ok (.tuple #[.bool false]) (w.iter s pos) := fun ty => run_next_end w s pos ty hp
      clear hr
      go_wp2
      go_ret
      rw [unhide hfin]
      exact ⟨rfl, below_iter _ _ _⟩
end Go.Proofs.Ytgphiollpbahgaa.mem
namespace Go.Proofs.Ytgphiollpbahgaa.mem
open Go.ChangeShapes Go.WideShapes Go.ChangeAt Go.RowKit
open ints (hide unhide)
set_option linter.unusedVariables false

theorem runes_flat : ∀ (zs : List Int) (s : ByteArray) (pre : List Int) (bound : Nat) (acc : Array Value), zs.all scB = true → bytesZ s = pre ++ zs.flatMap putB → zs.length ≤ bound →
    Conv.runesFrom s bound pre.length acc = acc ++ (zs.map (Value.int .i32)).toArray
  | [], s, pre, bound, acc, _, hb, _ => by
    have hz : pre.length = s.size := by rw [← bytesZ_len, hb]; simp
    cases bound with
    | zero => simp [Conv.runesFrom]
    | succ b => unfold Conv.runesFrom; rw [if_neg (by omega)]; simp
  | c :: zs, s, pre, 0, acc, _, _, hl => by simp at hl
  | c :: zs, s, pre, b + 1, acc, ha, hb, hl => by
    simp only [List.all_cons, Bool.and_eq_true] at ha
    have hc := (scB_iff c).1 ha.1
    have hpl := putB_len c
    simp only [List.flatMap_cons] at hb
    have hlt : pre.length < s.size := by
      rw [← bytesZ_len, hb]; simp; omega
    have hd : (bytesZ s).drop pre.length = putB c ++ zs.flatMap putB := by rw [hb]; simp
    have hdec := decode_one s pre.length hlt
    rw [hd, one_put c hc] at hdec
    rw [if_neg (by simp only; omega)] at hdec
    unfold Conv.runesFrom
    rw [if_pos hlt, hdec]
    simp only
    have hcz : Int.ofNat c.toNat = c := by unfold scP at hc; show ((c.toNat : Nat) : Int) = c; omega
    rw [hcz]
    have ih := runes_flat zs s (pre ++ putB c) b (acc.push (.int .i32 c)) ha.2 (by rw [hb, List.append_assoc]) (by simp at hl; omega)
    rw [List.length_append] at ih
    rw [ih]
    simp
theorem flat_ge (zs : List Int) : zs.length ≤ (zs.flatMap putB).length := by
  induction zs with
  | nil => simp
  | cons a l ih => have := putB_len a; rw [List.flatMap_cons, List.length_append, List.length_cons]; omega
/-- The conversion to characters of the good beginning. -/
theorem runes_good (s : ByteArray) : Conv.runesFrom (s.extract 0 (decZ (bytesZ s)).2) (s.extract 0 (decZ (bytesZ s)).2).size 0 #[] = ((decZ (bytesZ s)).1.map (Value.int .i32)).toArray := by
  obtain ⟨h1, h2, h3, h4⟩ := decF_flat (bytesZ s).length (bytesZ s) (bytesZ_byt s)
  have hb : bytesZ (s.extract 0 (decZ (bytesZ s)).2) = [] ++ (decZ (bytesZ s)).1.flatMap putB := by
    rw [bytesZ_extract]
    simp only [List.drop_zero, Nat.sub_zero, List.nil_append]
    exact h1.symm
  have hl : (decZ (bytesZ s)).1.length ≤ (s.extract 0 (decZ (bytesZ s)).2).size := by
    have := flat_ge (decZ (bytesZ s)).1
    rw [← bytesZ_len, hb]
    simpa using this
  have := runes_flat (decZ (bytesZ s)).1 (s.extract 0 (decZ (bytesZ s)).2) [] _ #[] h3 hb hl
  simpa using this
theorem decZ_le (l : List Int) (h : Byt l) : (decZ l).2 ≤ l.length := (decF_flat l.length l h).2.1
theorem decZ_len (l : List Int) (h : Byt l) : (decZ l).1.length ≤ (decZ l).2 := by
  have h1 := flat_ge (decZ l).1
  have h2 := (decF_flat l.length l h).2.2.2
  exact Nat.le_trans h1 (Nat.le_of_eq h2)
theorem conv_runes_n (s : ByteArray) (w : World) (hs : (decZ (bytesZ s)).1.length ≤ 70368744177664) (g : Nat) (hg : g = (decZ (bytesZ s)).2) : ∃ V W2, (convert 9 60 (.string (s.extract 0 g))).run Try.prog w = .ok V W2 ∧
    W2.ownsRow w.heap.size 21 1 V (decZ (bytesZ s)).1.length ((decZ (bytesZ s)).1.map (Value.int .i32)) ∧ Below w.heap.size w W2 := by
  subst hg
  have hr := runes_good s
  have hsz : (Conv.runesFrom (s.extract 0 (decZ (bytesZ s)).2) (s.extract 0 (decZ (bytesZ s)).2).size 0 #[]).size = (decZ (bytesZ s)).1.length := by rw [hr]; simp
  have h := run_runes_of_string (P := Try.prog) w 9 60 21 (s.extract 0 (decZ (bytesZ s)).2) Try.underlying9 Try.underlying60 Try.underlying21 (by rw [hsz]; omega)
  rw [hsz, hr] at h
  refine ⟨_, _, h, ⟨by simp, .inr ⟨w.heap.size, _, _, rfl, Nat.le_refl _, heap_alloc_new w.drew _, grownCap_ge _ _ _ _, grownCap_le_maxLen _ _ _ _ (by unfold maxLen; omega), ?_, ?_⟩⟩, ?_⟩
  · have := grownCap_ge w (decZ (bytesZ s)).1.length 0 21
    simp
    omega
  · simp
  · exact (Below.refl _ _).drew.alloc (Nat.le_refl _) _
theorem conv_runes (s : ByteArray) (w : World) (hs : s.size ≤ 70368744177664) (g : Nat) (hg : g = (decZ (bytesZ s)).2) : ∃ V W2, (convert 9 60 (.string (s.extract 0 g))).run Try.prog w = .ok V W2 ∧
    W2.ownsRow w.heap.size 21 1 V (decZ (bytesZ s)).1.length ((decZ (bytesZ s)).1.map (Value.int .i32)) ∧ Below w.heap.size w W2 :=
  conv_runes_n s w (by
    have h1 := decZ_len (bytesZ s) (bytesZ_byt s)
    have h2 := decZ_le (bytesZ s) (bytesZ_byt s)
    rw [bytesZ_len] at h2
    omega) g hg
end Go.Proofs.Ytgphiollpbahgaa.mem
namespace Go.Proofs.Ytgphiollpbahgaa.mem
open Go.ChangeShapes Go.WideShapes Go.ChangeAt Go.RowKit
open ints (hide unhide)
set_option linter.unusedVariables false

theorem own_low {w : World} {base base' : Nat} {e : TypeId} {size : Nat} {v : Value} {n : Nat} {xs : List Value} (h : w.ownsRow base e size v n xs) (hb : base' ≤ base) : w.ownsRow base' e size v n xs :=
  ⟨h.1, h.2.imp id (fun ⟨g', r1, r2, r3, r4, r5⟩ => ⟨g', r1, r2, r3, Nat.le_trans hb r4, r5⟩)⟩
set_option maxHeartbeats 1000000 in
theorem decode_bytes (a : Option Addr) (n c : Nat) (zs : List Int) (w : World) (h : Row .u8 w a n c zs) (hz : Byt zs) (hs : n ≤ 70368744177664) :
    Calls Try.prog 16 #[.slice a n c] w fun e w' => ∃ v, e = .returned (.tuple #[v, .int .i64 ((decZ zs).2 : Int)]) ∧
      w'.ownsRow w.heap.size 21 1 v (decZ zs).1.length ((decZ zs).1.map (Value.int .i32)) ∧ Below w.heap.size w w' := by
  have hsz : (strOfNums zs).size = n := by rw [strOfNums_size, h.len]
  have hbz := bytesZ_str zs hz
  have hconv0 := row_string (P := Try.prog) h 22 9 5 Try.underlying22 Try.underlying5 Try.underlying9
  have hg1 := decZ_le zs hz
  rw [h.len] at hg1
  obtain ⟨g, hg⟩ : ∃ g, g = (decZ zs).2 := ⟨_, rfl⟩
  have G := hide (good_any (strOfNums zs) w (by omega))
  have C := hide (fun W => conv_runes (strOfNums zs) W (by omega) g (by rw [hbz]; exact hg))
  rw [hbz] at G C
  rw [← hg] at hg1 G ⊢
  obtain ⟨S, hS⟩ : ∃ S, S = strOfNums zs := ⟨_, rfl⟩
  rw [← hS] at hsz G C hconv0
  have hle : g ≤ S.size := by omega
  clear hg hbz hS h hsz
  go_enter Try.func16, Try.ntmps16
  go_wp2_with fail
  refine (unhide G).mono ?_
  rintro e w1 ⟨rfl, hb1⟩
  obtain ⟨V, W2, hconv, hown, hb2⟩ := unhide C w1
  have hg1i : (g : Int) ≤ (S.size : Int) := by omega
  clear C G hconv0
  go_wp2
  go_ret2
  exact ⟨V, rfl, own_low hown hb1.size, hb1.trans (hb2.mono hb1.size)⟩
end Go.Proofs.Ytgphiollpbahgaa.mem
namespace Go.Proofs.Ytgphiollpbahgaa.lx
open Go.ChangeShapes Go.WideShapes Go.ChangeAt Go.RowKit
open ints (hide unhide)
open mem (Row)
set_option linter.unusedVariables false
def src (a : Option Addr) (n c : Nat) (cl : Bool) : Value := .agg #[.slice a n c, .bool cl]
theorem at_ok (a : Option Addr) (n c : Nat) (cl : Bool) (l : List Int) (i : Nat) (w : World) (h : Row .i32 w a n c l) (hn : n ≤ 4611686018427387904) :
    Calls Try.prog 56 #[src a n c cl, .int .i64 (i : Int)] w fun e w' => e = .returned (.int .i32 (cAt l i)) ∧ Below w.heap.size w w' := by
  unfold src
  by_cases hi : i < n
  · have hc := hide (cAt_in (l := l) (i := i) (by rw [h.len]; exact hi))
    rcases h.at_ with h0 | ⟨b, off, rfl, hb, hcell⟩
    · omega
    have c1 := hcell i hi
    obtain ⟨x, hx⟩ : ∃ x, x = l.getD i 0 := ⟨_, rfl⟩
    rw [← hx] at c1 hc
    have ii : (i : Int) < (n : Int) := by omega
    clear hx hcell
    go_enter Try.func56, Try.ntmps56
    go_wp2
    go_ret
    rw [unhide hc]
    exact ⟨rfl, (Below.refl _ _).alloc (Nat.le_refl _) _⟩
  · have hc := hide (cAt_end (l := l) (i := i) (by rw [h.len]; omega))
    have ii : ¬ (i : Int) < (n : Int) := by omega
    go_enter Try.func56, Try.ntmps56
    go_wp2
    go_ret
    rw [unhide hc]
    exact ⟨rfl, (Below.refl _ _).alloc (Nat.le_refl _) _⟩
end Go.Proofs.Ytgphiollpbahgaa.lx
namespace Go.Proofs.Ytgphiollpbahgaa.lx
open Go.ChangeShapes Go.WideShapes Go.ChangeAt Go.RowKit
open ints (hide unhide)
open mem (Row)
set_option linter.unusedVariables false
theorem blank_ok (c : Int) (w : World) : Calls Try.prog 57 #[.int .i32 c] w fun e w' => e = .returned (.bool (blB c)) ∧ w' = w := by
  by_cases h : ints.blP c
  · have : blB c = true := decide_eq_true h
    rw [this]; exact ints.bl_yes c w h
  · have : blB c = false := decide_eq_false h
    rw [this]; exact ints.bl_no c w h
theorem source_ok (c : Int) (w : World) : Calls Try.prog 58 #[.int .i32 c] w fun e w' => e = .returned (.bool (soB c)) ∧ w' = w := by
  by_cases h : ints.soP c
  · have : soB c = true := decide_eq_true h
    rw [this]; exact ints.so_yes c w h
  · have : soB c = false := decide_eq_false h
    rw [this]; exact ints.so_no c w h
theorem ns_ok (c : Int) (w : World) : Calls Try.prog 60 #[.int .i32 c] w fun e w' => e = .returned (.bool (nsB c)) ∧ w' = w := by
  by_cases h : ints.nsP c
  · have : nsB c = true := decide_eq_true h
    rw [this]; exact ints.ns_yes c w h
  · have : nsB c = false := decide_eq_false h
    rw [this]; exact ints.ns_no c w h
theorem nr_ok (c : Int) (w : World) : Calls Try.prog 74 #[.int .i32 c] w fun e w' => e = .returned (.bool (nrB c)) ∧ w' = w := by
  by_cases h : ints.nrP c
  · have : nrB c = true := decide_eq_true h
    rw [this]; exact ints.nr_yes c w h
  · have : nrB c = false := decide_eq_false h
    rw [this]; exact ints.nr_no c w h
theorem digit_ok (c : Int) (w : World) : Calls Try.prog 62 #[.int .i32 c] w fun e w' => e = .returned (.bool (mem.digB c)) ∧ w' = w := by
  by_cases h : 48 ≤ c ∧ c ≤ 57
  · have : mem.digB c = true := by unfold mem.digB; simpa using h
    rw [this]; exact ints.digit_yes c w h.1 h.2
  · have : mem.digB c = false := by unfold mem.digB; rw [← Bool.not_eq_true]; simpa using h
    rw [this]; exact ints.digit_no c w h
/-- the receiver, in a block of its own -/
structure Sb (w0 w : World) (a : Option Addr) (n c : Nat) (cl : Bool) : Prop where
  lt : w0.heap.size < w.heap.size
  c0 : w.cell? ⟨w0.heap.size, 0, none⟩ = some (.slice a n c)
  c1 : w.cell? ⟨w0.heap.size, 1, none⟩ = some (.bool cl)
  bel : Below w0.heap.size w0 w
theorem Sb.new (w : World) (a : Option Addr) (n c : Nat) (cl : Bool) : Sb w (w.alloc (.cells #[.slice a n c, .bool cl] 78)) a n c cl :=
  ⟨by simp, by simp, by simp, (Below.refl _ _).alloc (Nat.le_refl _) _⟩
theorem Sb.below {w0 w w' : World} {a : Option Addr} {n c : Nat} {cl : Bool} (h : Sb w0 w a n c cl) (hb : Below w.heap.size w w') : Sb w0 w' a n c cl :=
  ⟨Nat.lt_of_lt_of_le h.lt hb.size, (hb.cell (p := ⟨w0.heap.size, 0, none⟩) h.lt).trans h.c0, (hb.cell (p := ⟨w0.heap.size, 1, none⟩) h.lt).trans h.c1, h.bel.trans (hb.mono (Nat.le_of_lt h.lt))⟩
set_option maxHeartbeats 2000000 in
theorem ign_ok (a : Option Addr) (n c : Nat) (cl : Bool) (l : List Int) (i : Nat) (w : World) (h : Row .i32 w a n c l) (hn : n ≤ 1099511627776) (hi : i ≤ n) :
    Calls Try.prog 44 #[src a n c cl, .int .i64 (i : Int)] w fun e w' => e = .returned (.int .i64 (ign l false i : Nat)) ∧ Below w.heap.size w w' := by
  have hl := hide h.len
  obtain ⟨R, hR⟩ : ∃ R, R = ign l false i := ⟨_, rfl⟩
  rw [← hR]
  have HR := hide hR.symm
  clear hR
  unfold src
  have hsb := hide (Sb.new w a n c cl)
  go_enter Try.func44, Try.ntmps44
  go_wp2_with fail
  go_step3
  go_wp2_with fail
  go_step3
  go_wp2_with fail
  obtain ⟨w1, hw1⟩ : ∃ w1, w1 = w.alloc (.cells #[.slice a n c, .bool cl] 78) := ⟨_, rfl⟩
  rw [← hw1] at hsb ⊢
  clear hw1
  go_loopg [1] (n + 1) (fun g vi wr => ∃ k : Nat, k ≤ n ∧ n + 1 ≤ g + k ∧ vi = .int .i64 k ∧ Hid (ign l false k = R) ∧ Sb w wr a n c cl)
  case atStart => exact ⟨i, hi, by omega, rfl, HR, unhide hsb⟩
  case round =>
    obtain ⟨k, hk, hg, rfl, hik, hs⟩ := hrel
    have d0 := hs.c0
    have d1 := hs.c1
    go_wp2_with fail
    refine (at_ok a n c cl l k wr (h.below hs.bel) (by omega)).mono ?_
    rintro e w2 ⟨rfl, b2⟩
    have hs2 := hs.below b2
    obtain ⟨x, hx⟩ : ∃ x, x = cAt l k := ⟨_, rfl⟩
    rw [← hx]
    have Hx := hide hx.symm
    clear hx hs d0 d1
    go_wp2_with fail
    refine (blank_ok x w2).mono ?_
    rintro e w3 ⟨rfl, rfl⟩
    have hL := unhide hl
    cases hb : blB x
    · have n35 : ∀ y : Int, y = 35 → (y != 35) = false := fun y e => by subst e; rfl
      by_cases h35 : x = 35
      · subst h35
        have hlt : k < n := by rw [← hL]; exact cAt_lt (unhide Hx) (by decide)
        have hik2 := hide (show ign l true (k + 1) = R from by
          have e := unhide hik
          rw [ign_f, unhide Hx] at e
          exact e)
        clear n35 hL
        go_wp2_with fail
        go_loopg [1] (n + 1) (fun g vi wq => ∃ j : Nat, j < n ∧ k ≤ j ∧ n + 1 ≤ g + j ∧ vi = .int .i64 j ∧ Hid (ign l true (j + 1) = R) ∧ Sb w wq a n c cl)
        case atStart => exact ⟨k, hlt, Nat.le_refl _, by omega, rfl, hik2, hs2⟩
        case round =>
          obtain ⟨j, hj, hkj, hg2, rfl, hij, hs3⟩ := hrel
          have d0 := hs3.c0
          have d1 := hs3.c1
          go_wp2_with fail
          rw [show ((j : Int) + 1) = ((j + 1 : Nat) : Int) by omega]
          refine (at_ok a n c cl l (j + 1) _ (h.below hs3.bel) (by omega)).mono ?_
          rintro e w4 ⟨rfl, b4⟩
          have hs4 := hs3.below b4
          obtain ⟨y, hy⟩ : ∃ y, y = cAt l (j + 1) := ⟨_, rfl⟩
          rw [← hy]
          have Hy := hide hy.symm
          clear hy hs3 d0 d1
          have hL := unhide hl
          by_cases hnl : y = 10 ∨ y = 13
          · have hlt2 : j + 1 < n := by rw [← hL]; exact cAt_lt (unhide Hy) (by omega)
            have hij2 := hide (show ign l false (j + 2) = R from by
              have e := unhide hij
              rw [ign_t, unhide Hy, if_pos hnl] at e
              exact e)
            clear hL
            rcases hnl with rfl | rfl
            · go_wp2_with fail
              go_roundg (n - 1 - j)
              case rel => exact ⟨j + 2, by omega, by omega, by go_num, hij2, hs4⟩
              case measure => omega
            · go_wp2_with fail
              go_roundg (n - 1 - j)
              case rel => exact ⟨j + 2, by omega, by omega, by go_num, hij2, hs4⟩
              case measure => omega
          · have e10 : (y == 10) = false := by simp; omega
            have e13 : (y == 13) = false := by simp; omega
            have Hnl := hide hnl
            clear hnl
            go_wp2_with fail
            refine (source_ok y _).mono ?_
            rintro e w5 ⟨rfl, rfl⟩
            cases hso : soB y
            · have hij2 := hide (show j + 1 = R from by
                have e := unhide hij
                rw [ign_t, unhide Hy, if_neg (unhide Hnl), hso] at e
                exact e)
              clear hL
              go_wp2_with fail
              try rw [Exit.noGoto_ret]
              go_ret
              exact ⟨by rw [← unhide hij2]; rfl, hs4.bel⟩
            · have hlt2 : j + 1 < n := by
                rw [← hL]; exact cAt_lt (unhide Hy) (fun e => by rw [e] at hso; revert hso; decide)
              have hij2 := hide (show ign l true (j + 1 + 1) = R from by
                have e := unhide hij
                rw [ign_t, unhide Hy, if_neg (unhide Hnl), hso] at e
                exact e)
              clear hL
              go_wp2_with fail
              go_roundg (gk - 1)
              case rel => exact ⟨j + 1, by omega, by omega, by omega, by go_num, hij2, hs4⟩
              case measure => omega
      · have hb35 : (x != 35) = true := by simpa using h35
        have hik2 := hide (show k = R from by
          have e := unhide hik
          rw [ign_f, unhide Hx, hb, if_neg (by decide), if_neg h35] at e
          exact e)
        clear h35 n35
        go_wp2_with fail
        try rw [Exit.noGoto_ret]
        go_ret
        exact ⟨by rw [← unhide hik2]; rfl, hs2.bel⟩
    · have hlt : k < n := by
        rw [← hL]; exact cAt_lt (unhide Hx) (fun e => by rw [e] at hb; revert hb; decide)
      have hik2 := hide (show ign l false (k + 1) = R from by
        have e := unhide hik
        rw [ign_f, unhide Hx, hb] at e
        exact e)
      clear hL
      go_wp2_with fail
      go_roundg (gk - 1)
      case rel => exact ⟨k + 1, by omega, by omega, by go_num, hik2, hs2⟩
      case measure => omega
end Go.Proofs.Ytgphiollpbahgaa.lx
namespace Go.Proofs.Ytgphiollpbahgaa.lx
open Go.ChangeShapes Go.WideShapes Go.ChangeAt Go.RowKit
open ints (hide unhide)
open mem (Row)
set_option linter.unusedVariables false
set_option maxHeartbeats 2000000 in
theorem nam_ok (a : Option Addr) (n c : Nat) (cl : Bool) (l : List Int) (i : Nat) (w : World) (h : Row .i32 w a n c l) (hn : n ≤ 1099511627776) (hi : i ≤ n) :
    Calls Try.prog 61 #[src a n c cl, .int .i64 (i : Int)] w fun e w' => e = .returned (.int .i64 (nam l i : Nat)) ∧ Below w.heap.size w w' := by
  have hl := hide h.len
  obtain ⟨R, hR⟩ : ∃ R, R = nam l i := ⟨_, rfl⟩
  rw [← hR]
  have HR := hide hR.symm
  clear hR
  unfold src
  have hsb := hide (Sb.new w a n c cl)
  go_enter Try.func61, Try.ntmps61
  go_wp2_with fail
  obtain ⟨w1, hw1⟩ : ∃ w1, w1 = w.alloc (.cells #[.slice a n c, .bool cl] 78) := ⟨_, rfl⟩
  rw [← hw1] at hsb ⊢
  clear hw1
  go_loopg [1] (n + 1) (fun g vi wr => ∃ k : Nat, k ≤ n ∧ n + 1 ≤ g + k ∧ vi = .int .i64 k ∧ Hid (nam l k = R) ∧ Sb w wr a n c cl)
  case atStart => exact ⟨i, hi, by omega, rfl, HR, unhide hsb⟩
  case round =>
    obtain ⟨k, hk, hg, rfl, hik, hs⟩ := hrel
    have d0 := hs.c0
    have d1 := hs.c1
    go_wp2_with fail
    refine (at_ok a n c cl l k wr (h.below hs.bel) (by omega)).mono ?_
    rintro e w2 ⟨rfl, b2⟩
    have hs2 := hs.below b2
    obtain ⟨x, hx⟩ : ∃ x, x = cAt l k := ⟨_, rfl⟩
    rw [← hx]
    have Hx := hide hx.symm
    clear hx hs d0 d1
    go_wp2_with fail
    refine (nr_ok x w2).mono ?_
    rintro e w3 ⟨rfl, rfl⟩
    have hL := unhide hl
    cases hb : nrB x
    · have hik2 := hide (show k = R from by
        have e := unhide hik
        rw [nam_eq, unhide Hx, hb] at e
        exact e)
      clear hL
      go_wp2_with fail
      go_ret
      exact ⟨by rw [← unhide hik2]; rfl, hs2.bel⟩
    · have hlt : k < n := by
        rw [← hL]; exact cAt_lt (unhide Hx) (fun e => by rw [e] at hb; revert hb; decide)
      have hik2 := hide (show nam l (k + 1) = R from by
        have e := unhide hik
        rw [nam_eq, unhide Hx, hb] at e
        exact e)
      clear hL
      go_wp2_with fail
      go_roundg (gk - 1)
      case rel => exact ⟨k + 1, by omega, by omega, by go_num, hik2, hs2⟩
      case measure => omega
theorem bad_ok (i : Nat) (w : World) : Calls Try.prog 67 #[.int .i64 (i : Int)] w fun e w' => e = .returned (.tuple #[.int .i64 1, .int .i64 (i : Int), .string ⟨#[]⟩]) ∧ w' = w := by
  go_enter Try.func67, Try.ntmps67
  go_wp2
  go_ret3
  exact ⟨rfl, rfl⟩
set_option maxHeartbeats 2000000 in
theorem num_ok (a : Option Addr) (n c : Nat) (cl : Bool) (l : List Int) (i : Nat) (w : World) (h : Row .i32 w a n c l) (hn : n ≤ 1099511627776) (hi : i ≤ n) :
    Calls Try.prog 63 #[src a n c cl, .int .i64 (i : Int)] w fun e w' => e = .returned (.tuple #[.int .i64 (num l i).1, .int .i64 ((num l i).2 : Nat), .string ⟨#[]⟩]) ∧ Below w.heap.size w w' := by
  have hl := hide h.len
  have hsb := hide (Sb.new w a n c cl)
  have hpl := mem.pfx_le l i (by rw [h.len]; exact hi)
  have hP := hide (fun W (hb : Below w.heap.size w W) => mem.prefix_in_i a n c l i W (h.below hb) (by omega) hi)
  have hN := hide (show num l i = (if cAt l (mem.pfx l i).1 = 46 ∨ nrB (cAt l (mem.pfx l i).1) then (1, i) else if (mem.pfx l i).2.2 = 1 then (4, (mem.pfx l i).1) else if (mem.pfx l i).2.2 = 2 then (5, (mem.pfx l i).1) else (1, i)) from rfl)
  have hpl1 := hpl.1
  obtain ⟨N, hNe⟩ : ∃ N, N = num l i := ⟨_, rfl⟩
  rw [← hNe] at hN ⊢
  clear hpl hNe
  obtain ⟨u, hu⟩ : ∃ u, u = (mem.pfx l i).2.1 := ⟨_, rfl⟩
  rw [← hu] at hP
  clear hu
  obtain ⟨t, ht⟩ : ∃ t, t = (mem.pfx l i).1 := ⟨_, rfl⟩
  obtain ⟨f, hf⟩ : ∃ f, f = (mem.pfx l i).2.2 := ⟨_, rfl⟩
  rw [← ht, ← hf] at hP hN
  rw [← ht] at hpl1
  clear ht hf
  have hL := unhide hl
  have htn : t ≤ n := by omega
  clear hpl1 hL
  unfold src
  go_enter Try.func63, Try.ntmps63
  go_wp2_with fail
  obtain ⟨w1, hw1⟩ : ∃ w1, w1 = w.alloc (.cells #[.slice a n c, .bool cl] 78) := ⟨_, rfl⟩
  rw [← hw1] at hsb ⊢
  clear hw1
  refine ((unhide hP) w1 (unhide hsb).bel).mono ?_
  rintro e w2 ⟨rfl, b2⟩
  have hs2 := (unhide hsb).below b2
  have d0 := hs2.c0
  have d1 := hs2.c1
  clear hP
  go_wp2_with fail
  refine (at_ok a n c cl l t w2 (h.below hs2.bel) (by omega)).mono ?_
  rintro e w3 ⟨rfl, b3⟩
  have hs3 := hs2.below b3
  obtain ⟨x, hx⟩ : ∃ x, x = cAt l t := ⟨_, rfl⟩
  rw [← hx] at hN ⊢
  clear hx d0 d1
  by_cases h46 : x = 46
  · subst h46
    have hN2 := hide (show N = (1, i) from by rw [unhide hN]; simp)
    go_wp2_with fail
    refine (bad_ok i _).mono ?_
    rintro e w4 ⟨rfl, rfl⟩
    go_wp2_with fail
    go_ret3
    exact ⟨by rw [unhide hN2]; rfl, hs3.bel⟩
  · have e46 : (x == 46) = false := by simpa using h46
    have H46 := hide h46
    clear h46
    go_wp2_with fail
    refine (nr_ok x _).mono ?_
    rintro e w4 ⟨rfl, rfl⟩
    cases hnr : nrB x
    · have hN1 := hide (show N = (if f = 1 then (4, t) else if f = 2 then (5, t) else (1, i)) from by
        rw [unhide hN, if_neg (fun e => by rcases e with e | e; exact unhide H46 e; rw [hnr] at e; cases e)])
      clear hN
      by_cases f1 : f = 1
      · subst f1
        go_wp2_with fail
        go_ret3
        exact ⟨by rw [unhide hN1]; rfl, hs3.bel⟩
      · by_cases f2 : f = 2
        · subst f2
          go_wp2_with fail
          go_ret3
          exact ⟨by rw [unhide hN1]; rfl, hs3.bel⟩
        · have hN2 := hide (show N = (1, i) from by rw [unhide hN1, if_neg f1, if_neg f2])
          have e1 : (f == 1) = false := by simpa using f1
          have e2 : (f == 2) = false := by simpa using f2
          clear f1 f2
          go_wp2_with fail
          refine (bad_ok i _).mono ?_
          rintro e w4 ⟨rfl, rfl⟩
          go_wp2_with fail
          go_ret3
          exact ⟨by rw [unhide hN2]; rfl, hs3.bel⟩
    · have hN2 := hide (show N = (1, i) from by rw [unhide hN]; simp [hnr])
      go_wp2_with fail
      refine (bad_ok i _).mono ?_
      rintro e w4 ⟨rfl, rfl⟩
      go_wp2_with fail
      go_ret3
      exact ⟨by rw [unhide hN2]; rfl, hs3.bel⟩
end Go.Proofs.Ytgphiollpbahgaa.lx
namespace Go.Proofs
open Go.Shelf
def Try.lays151_ren : Go.Shelf.Ren := ⟨fun | 151 => 59 | 152 => 73 | 137 => 78 | 119 => 33 | 224 => 79 | 225 => 80 | 217 => 91 | 266 => 99 | n => n, fun | 9 => 9 | 21 => 21 | 4 => 4 | 3 => 3 | 5 => 5 | 0 => 0 | 46 => 111 | n => n, fun | n => n⟩
theorem Try.lays151 : Go.Proofs.Lays.n151 Try.prog Try.lays151_ren := {
  mixed := by kernel_rfl
  f119 := Try.func33.trans (congrArg some (by kernel_rfl))
  f137 := Try.func78.trans (congrArg some (by kernel_rfl))
  f151 := Try.func59.trans (congrArg some (by kernel_rfl))
  f152 := Try.func73.trans (congrArg some (by kernel_rfl))
  f217 := Try.func91.trans (congrArg some (by kernel_rfl))
  f224 := Try.func79.trans (congrArg some (by kernel_rfl))
  f225 := Try.func80.trans (congrArg some (by kernel_rfl))
  f266 := Try.func99.trans (congrArg some (by kernel_rfl))
  t0 := Try.underlying0
  a0 := Try.isAgg0
  z0 := Try.sizeOf0
  v0 := Try.zeroValue0
  t3 := Try.underlying3
  a3 := Try.isAgg3
  z3 := Try.sizeOf3
  v3 := Try.zeroValue3
  t4 := Try.underlying4
  a4 := Try.isAgg4
  z4 := Try.sizeOf4
  v4 := Try.zeroValue4
  t5 := Try.underlying5
  a5 := Try.isAgg5
  z5 := Try.sizeOf5
  v5 := Try.zeroValue5
  t9 := Try.underlying9
  a9 := Try.isAgg9
  z9 := Try.sizeOf9
  v9 := Try.zeroValue9
  t21 := Try.underlying21
  a21 := Try.isAgg21
  z21 := Try.sizeOf21
  v21 := Try.zeroValue21
  t46 := Try.underlying111
  a46 := Try.isAgg111
  z46 := Try.sizeOf111
  v46 := Try.zeroValue111 }
open Go.RowKit Go.Lib in
theorem Try.strings_ContainsRune_ascii (s : ByteArray) (r : Int) (w : World) (h0 : 0 ≤ r) (h1 : r < 128) :
    Calls Try.prog 59 #[.string s, .int .i32 r] w fun e w' => e = .returned (.bool (decide (0 ≤ Lib.indexByte s.data.toList r.toNat.toUInt8))) ∧ w' = w := Any.strings_ContainsRune_ascii Try.lays151 s r w h0 h1
end Go.Proofs
namespace Go.Proofs.Ytgphiollpbahgaa.lx
open Go.ChangeShapes Go.WideShapes Go.ChangeAt Go.RowKit
open ints (hide unhide)
open mem (Row)
set_option linter.unusedVariables false
/-- plain sources: ASCII, no quote -/
def Plain (l : List Int) : Prop := ∀ c ∈ l, 0 ≤ c ∧ c ≤ 127 ∧ c ≠ 34
theorem Plain.at_ {l : List Int} (h : Plain l) {i : Nat} (hi : i < l.length) : 0 ≤ cAt l i ∧ cAt l i ≤ 127 ∧ cAt l i ≠ 34 := by
  rw [cAt_in hi]
  exact h _ (by rw [List.getD_eq_getElem?_getD, List.getElem?_eq_getElem hi]; exact List.getElem_mem hi)
theorem pu_dec : ∀ k : Nat, k < 128 → decide (0 ≤ Lib.indexByte [33, 36, 38, 40, 41, 58, 61, 64, 91, 93, 123, 124, 125] ((k : Int).toNat.toUInt8)) = puB (k : Int) := by decide +kernel
theorem contains_ok (c : Int) (w : World) (h0 : 0 ≤ c) (h1 : c ≤ 127) :
    Calls Try.prog 59 #[.string ⟨#[33, 36, 38, 40, 41, 58, 61, 64, 91, 93, 123, 124, 125]⟩, .int .i32 c] w fun e w' => e = .returned (.bool (puB c)) ∧ w' = w := by
  have h := Try.strings_ContainsRune_ascii ⟨#[33, 36, 38, 40, 41, 58, 61, 64, 91, 93, 123, 124, 125]⟩ c w h0 (by omega)
  have e := pu_dec c.toNat (by omega)
  rw [Int.toNat_of_nonneg h0] at e
  rw [show decide (0 ≤ Lib.indexByte (⟨#[33, 36, 38, 40, 41, 58, 61, 64, 91, 93, 123, 124, 125]⟩ : ByteArray).data.toList c.toNat.toUInt8) = puB c from e] at h
  exact h
set_option maxHeartbeats 2000000 in
theorem tq_no (a : Option Addr) (n c : Nat) (cl : Bool) (l : List Int) (i : Nat) (w : World) (h : Row .i32 w a n c l) (hn : n ≤ 1099511627776) (hi : i ≤ n) (h34 : cAt l i ≠ 34) :
    Calls Try.prog 64 #[src a n c cl, .int .i64 (i : Int)] w fun e w' => e = .returned (.bool false) ∧ Below w.heap.size w w' := by
  have hsb := hide (Sb.new w a n c cl)
  unfold src
  go_enter Try.func64, Try.ntmps64
  go_wp2_with fail
  obtain ⟨w1, hw1⟩ : ∃ w1, w1 = w.alloc (.cells #[.slice a n c, .bool cl] 78) := ⟨_, rfl⟩
  rw [← hw1] at hsb ⊢
  clear hw1
  have d0 := (unhide hsb).c0
  have d1 := (unhide hsb).c1
  refine wp_loop_rounds 1 ?_
  rw [rounds_succ]
  go_wp2_with fail
  refine (at_ok a n c cl l i w1 (h.below (unhide hsb).bel) (by omega)).mono ?_
  rintro e w2 ⟨rfl, b2⟩
  have hs2 := (unhide hsb).below b2
  have e34 : (cAt l i != 34) = true := by simpa using h34
  go_wp2_with fail
  go_ret
  exact ⟨rfl, hs2.bel⟩
end Go.Proofs.Ytgphiollpbahgaa.lx
