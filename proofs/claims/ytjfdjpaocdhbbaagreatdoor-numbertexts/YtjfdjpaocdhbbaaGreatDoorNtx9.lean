import Derived.Test.YtjfdjpaocdhbbaaGreatDoorNtx1
import Derived.Test.YtjfdjpaocdhbbaaGreatDoorNtx2
namespace Go.Proofs.YtjfdjpaocdhbbaaGreatDoor.mem
set_option linter.unusedVariables false

/-- The number that the first k digits write. -/
def dT (zs : List Int) : Nat → Nat
  | 0 => 0
  | k + 1 => 10 * dT zs k + (zs.getD k 0 - 48).toNat
def dig (zs : List Int) : Prop := ∀ z ∈ zs, 48 ≤ z ∧ z ≤ 57
/-- k digits of u, the lowest first; the highest first. -/
def lowD (u k : Nat) : List Int := (List.range k).map fun i => 48 + ((u / 10 ^ i % 10 : Nat) : Int)
def topD (u k : Nat) : List Int := (List.range k).map fun i => 48 + ((u / 10 ^ (k - 1 - i) % 10 : Nat) : Int)
theorem lowD_len (u k : Nat) : (lowD u k).length = k := by simp [lowD]
theorem topD_len (u k : Nat) : (topD u k).length = k := by simp [topD]
theorem lowD_succ (u k : Nat) : lowD u (k + 1) = lowD u k ++ [48 + ((u / 10 ^ k % 10 : Nat) : Int)] := by simp [lowD, List.range_succ]
theorem lowD_get {u k i : Nat} (h : i < k) : (lowD u k).getD i 0 = 48 + ((u / 10 ^ i % 10 : Nat) : Int) := by simp [lowD, List.getD, h]
theorem topD_get {u k i : Nat} (h : i < k) : (topD u k).getD i 0 = 48 + ((u / 10 ^ (k - 1 - i) % 10 : Nat) : Int) := by simp [topD, List.getD, h]
theorem topD_low {u k i : Nat} (h : i < k) : (topD u k).getD i 0 = (lowD u k).getD (k - 1 - i) 0 := by rw [topD_get h, lowD_get (by omega)]
theorem topD_dig (u k : Nat) : dig (topD u k) := by
  intro z hz
  simp only [topD, List.mem_map] at hz
  obtain ⟨i, _, rfl⟩ := hz
  have := Nat.mod_lt (u / 10 ^ (k - 1 - i)) (show 10 > 0 by decide)
  omega
theorem dT_top (u k : Nat) (hu : u < 10 ^ k) : ∀ j, j ≤ k → dT (topD u k) j = u / 10 ^ (k - j) := by
  intro j
  induction j with
  | zero => intro _; simp only [dT, Nat.sub_zero]; exact (Nat.div_eq_of_lt hu).symm
  | succ j ih =>
    intro hj
    simp only [dT]
    rw [ih (by omega), topD_get (by omega), show k - 1 - j = k - (j + 1) by omega]
    have e : u / 10 ^ (k - j) = u / 10 ^ (k - (j + 1)) / 10 := by
      rw [Nat.div_div_eq_div_mul, ← Nat.pow_succ, show (k - (j + 1)).succ = k - j by omega]
    rw [e]
    omega
theorem dT_all (u k : Nat) (hu : u < 10 ^ k) : dT (topD u k) k = u := by
  rw [dT_top u k hu k (Nat.le_refl _)]
  simp
/-- A row that is turned about from both ends, k steps of it. -/
def swp (L : List Int) (k : Nat) : List Int := (List.range L.length).map fun i => if i < k ∨ L.length - k ≤ i then L.getD (L.length - 1 - i) 0 else L.getD i 0
theorem swp_len (L : List Int) (k : Nat) : (swp L k).length = L.length := by simp [swp]
theorem swp_get {L : List Int} {k i : Nat} (h : i < L.length) : (swp L k).getD i 0 = if i < k ∨ L.length - k ≤ i then L.getD (L.length - 1 - i) 0 else L.getD i 0 := by
  simp only [swp, List.getD_eq_getElem?_getD, List.getElem?_map, List.getElem?_range h, Option.map_some, Option.getD_some]
theorem swp_zero (L : List Int) : swp L 0 = L := by
  refine getD_ext (swp_len L 0) fun j hj => ?_
  rw [swp_len] at hj
  rw [swp_get hj, if_neg (by omega)]
theorem getD_set {l : List Int} {i j : Nat} {x : Int} (hi : i < l.length) : (l.set i x).getD j 0 = if i = j then x else l.getD j 0 := by
  simp only [List.getD_eq_getElem?_getD, List.getElem?_set]
  by_cases h : i = j
  · subst h; simp [hi]
  · simp [h]
theorem swp_step {L : List Int} {k : Nat} (hk : 2 * k + 1 < L.length) :
    ((swp L k).set k ((swp L k).getD (L.length - 1 - k) 0)).set (L.length - 1 - k) ((swp L k).getD k 0) = swp L (k + 1) := by
  refine getD_ext (by simp [swp_len]) fun j hj => ?_
  have hj' : j < L.length := by simpa [swp_len] using hj
  rw [getD_set (by rw [List.length_set, swp_len]; omega), getD_set (by rw [swp_len]; omega), swp_get (k := k + 1) hj']
  by_cases h1 : L.length - 1 - k = j
  · rw [if_pos h1, if_pos (by omega), swp_get (by omega), if_neg (by omega)]
    congr 1; omega
  · rw [if_neg h1]
    by_cases h2 : k = j
    · rw [if_pos h2, if_pos (by omega), swp_get (by omega), if_neg (by omega)]
      congr 1; omega
    · rw [if_neg h2, swp_get hj']
      by_cases h3 : j < k ∨ L.length - k ≤ j
      · rw [if_pos h3, if_pos (by omega)]
      · rw [if_neg h3, if_neg (by omega)]
theorem swp_all {L : List Int} {k : Nat} (hk : k = L.length / 2) (i : Nat) (hi : i < L.length) : (swp L k).getD i 0 = L.getD (L.length - 1 - i) 0 := by
  rw [swp_get hi]
  split
  · rfl
  · congr 1; omega
theorem swp_top (u n : Nat) : swp (lowD u n) (n / 2) = topD u n := by
  refine getD_ext (by rw [swp_len, lowD_len, topD_len]) fun j hj => ?_
  rw [swp_len, lowD_len] at hj
  rw [swp_all (by rw [lowD_len]) j (by rw [lowD_len]; exact hj), lowD_len, topD_low hj]
end Go.Proofs.YtjfdjpaocdhbbaaGreatDoor.mem
