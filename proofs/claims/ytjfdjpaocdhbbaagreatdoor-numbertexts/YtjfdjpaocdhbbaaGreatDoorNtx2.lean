import Derived.Test.YtjfdjpaocdhbbaaGreatDoorRows
namespace Go.Proofs.YtjfdjpaocdhbbaaGreatDoor.mem
set_option linter.unusedVariables false

/-- Words of 32 bits, the lowest first, as one number: the first k of them. -/
def vT (zs : List Int) : Nat → Nat
  | 0 => 0
  | k + 1 => vT zs k + (zs.getD k 0).toNat * 2 ^ (32 * k)
def val (zs : List Int) : Nat := vT zs zs.length
def wds (zs : List Int) : Prop := ∀ z ∈ zs, 0 ≤ z ∧ z < 4294967296
def nrm (zs : List Int) : Prop := zs = [] ∨ zs.getD (zs.length - 1) 0 ≠ 0

theorem getD_mem {zs : List Int} {k : Nat} (h : k < zs.length) : zs.getD k 0 ∈ zs := by
  rw [List.getD_eq_getElem?_getD, List.getElem?_eq_getElem h]
  exact List.getElem_mem h
theorem wds.at {zs : List Int} (h : wds zs) (k : Nat) : 0 ≤ zs.getD k 0 ∧ zs.getD k 0 < 4294967296 := by
  by_cases hk : k < zs.length
  · exact h _ (getD_mem hk)
  · rw [List.getD_eq_getElem?_getD, List.getElem?_eq_none (by omega)]
    decide
theorem wds_nil : wds [] := by intro z hz; cases hz
theorem wds_snoc {zs : List Int} {x : Int} (h : wds zs) (hx : 0 ≤ x ∧ x < 4294967296) : wds (zs ++ [x]) := by
  intro z hz
  rcases List.mem_append.1 hz with hz | hz
  · exact h z hz
  · rw [List.mem_singleton.1 hz]; exact hx
theorem wds_take {zs : List Int} (h : wds zs) (k : Nat) : wds (zs.take k) := fun z hz => h z (List.mem_of_mem_take hz)
theorem wds_append {xs ys : List Int} (h : wds xs) (h' : wds ys) : wds (xs ++ ys) := by
  intro z hz
  rcases List.mem_append.1 hz with hz | hz
  · exact h z hz
  · exact h' z hz
theorem getD_out {zs : List Int} {k : Nat} (h : zs.length ≤ k) : zs.getD k 0 = 0 := by
  rw [List.getD_eq_getElem?_getD, List.getElem?_eq_none h]; rfl
theorem getD_left {xs ys : List Int} {k : Nat} (h : k < xs.length) : (xs ++ ys).getD k 0 = xs.getD k 0 := by
  rw [List.getD_eq_getElem?_getD, List.getD_eq_getElem?_getD, List.getElem?_append_left h]
theorem getD_right {xs ys : List Int} {k : Nat} (h : xs.length ≤ k) : (xs ++ ys).getD k 0 = ys.getD (k - xs.length) 0 := by
  rw [List.getD_eq_getElem?_getD, List.getD_eq_getElem?_getD, List.getElem?_append_right h]
theorem getD_take {zs : List Int} {j k : Nat} (h : k < j) : (zs.take j).getD k 0 = zs.getD k 0 := by
  rw [List.getD_eq_getElem?_getD, List.getD_eq_getElem?_getD, List.getElem?_take_of_lt h]

theorem vT_congr {xs ys : List Int} {k : Nat} (h : ∀ j, j < k → xs.getD j 0 = ys.getD j 0) : vT xs k = vT ys k := by
  induction k with
  | zero => rfl
  | succ k ih => simp only [vT]; rw [ih (fun j hj => h j (by omega)), h k (by omega)]
theorem vT_ext {zs : List Int} {k m : Nat} (hkm : k ≤ m) (h : ∀ j, k ≤ j → j < m → zs.getD j 0 = 0) : vT zs m = vT zs k := by
  induction m with
  | zero => rw [show k = 0 by omega]
  | succ m ih =>
    by_cases e : k = m + 1
    · rw [e]
    · simp only [vT]
      rw [ih (by omega) (fun j h1 h2 => h j h1 (by omega)), h m (by omega) (by omega)]
      simp
theorem vT_ge {zs : List Int} {k : Nat} (h : zs.length ≤ k) : vT zs k = val zs := vT_ext h (fun j hj _ => getD_out hj)
theorem pow32 (k : Nat) : 2 ^ (32 * (k + 1)) = 4294967296 * 2 ^ (32 * k) := by rw [show 32 * (k + 1) = 32 + 32 * k by omega, Nat.pow_add]
theorem toNat_lt {z : Int} (h : 0 ≤ z ∧ z < 4294967296) : z.toNat < 4294967296 := by omega
theorem vT_lt {zs : List Int} (h : wds zs) (k : Nat) : vT zs k < 2 ^ (32 * k) := by
  induction k with
  | zero => simp [vT]
  | succ k ih =>
    simp only [vT]
    rw [pow32]
    have h1 := toNat_lt (h.at k)
    have h2 := Nat.mul_le_mul_right (2 ^ (32 * k)) (show (zs.getD k 0).toNat + 1 ≤ 4294967296 by omega)
    rw [Nat.add_mul, Nat.one_mul] at h2
    omega
theorem val_lt {zs : List Int} (h : wds zs) : val zs < 2 ^ (32 * zs.length) := vT_lt h _
theorem val_nil : val [] = 0 := rfl
theorem val_snoc (zs : List Int) (x : Int) : val (zs ++ [x]) = val zs + x.toNat * 2 ^ (32 * zs.length) := by
  unfold val
  rw [List.length_append, List.length_singleton]
  simp only [vT]
  rw [vT_congr (fun j hj => getD_left hj), getD_right (Nat.le_refl _), Nat.sub_self]
  rfl
theorem val_take {zs : List Int} {j : Nat} (hj : j ≤ zs.length) (h : ∀ i, j ≤ i → i < zs.length → zs.getD i 0 = 0) : val (zs.take j) = val zs := by
  unfold val
  rw [List.length_take, Nat.min_eq_left hj, vT_congr (fun i hi => getD_take hi), vT_ext hj h]
theorem val_low {zs : List Int} {k : Nat} (hk : k < zs.length) (h : zs.getD k 0 ≠ 0) (hw : wds zs) : 2 ^ (32 * k) ≤ val zs := by
  have h1 : vT zs (k + 1) ≤ val zs := by
    unfold val
    have : ∀ m, k + 1 ≤ m → vT zs (k + 1) ≤ vT zs m := by
      intro m hm
      induction m with
      | zero => omega
      | succ m ih =>
        by_cases e : k + 1 = m + 1
        · rw [e]; exact Nat.le_refl _
        · have := ih (by omega)
          simp only [vT] at this ⊢
          omega
    exact this _ (by omega)
  have h2 : 1 ≤ (zs.getD k 0).toNat := by have := (hw.at k).1; omega
  have h3 := Nat.mul_le_mul_right (2 ^ (32 * k)) h2
  simp only [vT] at h1
  omega
theorem val_zero {zs : List Int} (hn : nrm zs) (hw : wds zs) (h : val zs = 0) : zs = [] := by
  rcases hn with h0 | h0
  · exact h0
  · cases zs with
    | nil => rfl
    | cons z r =>
      have := val_low (zs := z :: r) (k := (z :: r).length - 1) (by simp) h0 hw
      have := Nat.two_pow_pos (32 * ((z :: r).length - 1))
      omega
theorem len_le {zs : List Int} (hn : nrm zs) (hw : wds zs) {k : Nat} (h : val zs < 2 ^ (32 * k)) : zs.length ≤ k := by
  rcases hn with h0 | h0
  · rw [h0]; exact Nat.zero_le _
  · rcases Nat.eq_zero_or_pos zs.length with e | e
    · omega
    · have h1 := val_low (zs := zs) (k := zs.length - 1) (by omega) h0 hw
      have h2 : 2 ^ (32 * (zs.length - 1)) < 2 ^ (32 * k) := by omega
      have h3 := (Nat.pow_lt_pow_iff_right (a := 2) (by decide)).1 h2
      omega
theorem val_shorter {xs ys : List Int} (hx : wds xs) (hy : wds ys) (hn : nrm ys) (h : xs.length < ys.length) : val xs < val ys := by
  have h1 := val_lt hx
  rcases hn with h0 | h0
  · rw [h0] at h; simp at h
  · have h2 := val_low (zs := ys) (k := ys.length - 1) (by omega) h0 hy
    have h3 : 2 ^ (32 * xs.length) ≤ 2 ^ (32 * (ys.length - 1)) := Nat.pow_le_pow_right (by decide) (by omega)
    omega
theorem vT_up {xs ys : List Int} {i m : Nat} (him : i ≤ m) (h : vT xs i < vT ys i) (e : ∀ j, i ≤ j → j < m → xs.getD j 0 = ys.getD j 0) : vT xs m < vT ys m := by
  induction m with
  | zero => rw [show i = 0 by omega] at h; exact h
  | succ m ih =>
    by_cases e' : i = m + 1
    · rw [← e']; exact h
    · simp only [vT]
      rw [e m (by omega) (by omega)]
      have := ih (by omega) (fun j h1 h2 => e j h1 (by omega))
      omega
theorem val_less {xs ys : List Int} (hx : wds xs) (hy : wds ys) (hl : xs.length = ys.length) {i : Nat} (hi : i < xs.length) (h : xs.getD i 0 < ys.getD i 0) (e : ∀ j, i < j → j < xs.length → xs.getD j 0 = ys.getD j 0) : val xs < val ys := by
  unfold val
  rw [← hl]
  refine vT_up (i := i + 1) (by omega) ?_ (fun j h1 h2 => e j (by omega) h2)
  simp only [vT]
  have h1 := vT_lt hx i
  have h2 := (hx.at i).1
  have h3 : (xs.getD i 0).toNat + 1 ≤ (ys.getD i 0).toNat := by omega
  have h4 := Nat.mul_le_mul_right (2 ^ (32 * i)) h3
  rw [Nat.add_mul, Nat.one_mul] at h4
  omega
theorem val_eq {xs ys : List Int} (hl : xs.length = ys.length) (e : ∀ j, j < xs.length → xs.getD j 0 = ys.getD j 0) : val xs = val ys := by
  unfold val
  rw [← hl]
  exact vT_congr e
theorem val_append (xs ys : List Int) : val (xs ++ ys) = val xs + val ys * 2 ^ (32 * xs.length) := by
  have : ∀ k, vT (xs ++ ys) (xs.length + k) = val xs + vT ys k * 2 ^ (32 * xs.length) := by
    intro k
    induction k with
    | zero => rw [Nat.add_zero, vT_congr (fun j hj => getD_left hj)]; simp [vT, val]
    | succ k ih =>
      rw [← Nat.add_assoc]
      simp only [vT]
      rw [ih, getD_right (by omega), show xs.length + k - xs.length = k by omega, show 32 * (xs.length + k) = 32 * k + 32 * xs.length by omega, Nat.pow_add, Nat.add_mul]
      rw [Nat.mul_assoc]
      omega
  have h := this ys.length
  unfold val at *
  rw [List.length_append]
  exact h
theorem val_noughts (k : Nat) : val (List.replicate k 0) = 0 := by
  have : ∀ m, vT (List.replicate k 0) m = 0 := by
    intro m
    induction m with
    | zero => rfl
    | succ m ih =>
      simp only [vT]
      rw [ih]
      have : (List.replicate k (0 : Int)).getD m 0 = 0 := by
        by_cases h : m < k
        · rw [List.getD_eq_getElem?_getD, List.getElem?_replicate, if_pos h]; rfl
        · exact getD_out (by simp; omega)
      rw [this]; simp
  exact this _
theorem wds_noughts (k : Nat) : wds (List.replicate k 0) := by
  intro z hz
  rw [List.eq_of_mem_replicate hz]
  decide
theorem nrm_append {xs ys : List Int} (hn : nrm ys) (h : ys ≠ []) : nrm (xs ++ ys) := by
  refine .inr ?_
  have hp := List.length_pos_iff.2 h
  rw [List.length_append, getD_right (by omega), show xs.length + ys.length - 1 - xs.length = ys.length - 1 by omega]
  rcases hn with h0 | h0
  · exact absurd h0 h
  · exact h0
end Go.Proofs.YtjfdjpaocdhbbaaGreatDoor.mem
