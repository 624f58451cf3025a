import Derived.Test.YtjlaoeigfokkiaaGreatDoorBs25
import Derived.Test.YtjlaoeigfokkiaaGreatDoorBs22
import Derived.Test.YtjlaoeigfokkiaaGreatDoorBs23
import Derived.Test.YtjlaoeigfokkiaaGreatDoorBs17
import Derived.Shelf.Strconv.ToErrorRange
import Derived.Test.YtjlaoeigfokkiaaGreatDoorProg
namespace Go.Proofs.YtjlaoeigfokkiaaGreatDoor.dcm
open Go.ChangeShapes Go.WideShapes Go.ChangeAt Go.RowKit
open mem fto
open ints (hide unhide)
set_option linter.unusedVariables false
set_option linter.unusedSimpArgs false
/-- the nearest float rises with the number -/
theorem round_mono {P B P' B' lo lo' : Nat} (hB : 0 < B) (hB' : 0 < B') (h : Lo P B lo) (h' : Lo P' B' lo') (hle : P * B' ≤ P' * B) : roundR P B lo ≤ roundR P' B' lo' := by
  have hlo : lo ≤ lo' := by
    rcases Nat.lt_or_ge lo' lo with g | g
    · exfalso
      have h1 := vR_mono_le (show lo' + 1 ≤ lo by omega)
      have h2 : P' * B < B' * vR (lo' + 1) * B := Nat.mul_lt_mul_of_pos_right h'.2 hB
      have h3 : B' * vR (lo' + 1) * B ≤ B' * vR lo * B := Nat.mul_le_mul_right _ (Nat.mul_le_mul_left _ h1)
      have h4 : B * vR lo * B' ≤ P * B' := Nat.mul_le_mul_right _ h.1
      have e : B' * vR lo * B = B * vR lo * B' := by rw [Nat.mul_comm B', Nat.mul_right_comm, Nat.mul_comm (vR lo)]
      omega
    · exact g
  have hr' : lo' ≤ roundR P' B' lo' := by unfold roundR; split <;> omega
  have hr : roundR P B lo ≤ lo + 1 := by unfold roundR; split <;> omega
  rcases Nat.lt_or_ge lo lo' with g | g
  · omega
  · have e : lo = lo' := by omega
    subst e
    unfold roundR
    by_cases c : B * (2 * vR lo + 2 ^ exR lo) < 2 * P ∨ (2 * P = B * (2 * vR lo + 2 ^ exR lo) ∧ lo % 2 = 1)
    · rw [if_pos c, if_pos]
      · exact Nat.le_refl _
      · generalize 2 * vR lo + 2 ^ exR lo = M at *
        have e1 : B * M * B' = B' * M * B := by rw [Nat.mul_right_comm, Nat.mul_comm B B', Nat.mul_right_comm]
        rcases c with c | ⟨c1, c2⟩
        · left
          have h1 := Nat.mul_lt_mul_of_pos_right c hB'
          have h2 : 2 * P * B' ≤ 2 * P' * B := by rw [Nat.mul_assoc, Nat.mul_assoc]; exact Nat.mul_le_mul_left 2 hle
          exact Nat.lt_of_mul_lt_mul_right (a := B) (by omega)
        · have h1 : B' * M * B ≤ 2 * P' * B := by
            rw [← e1, ← c1, Nat.mul_assoc, Nat.mul_assoc]; exact Nat.mul_le_mul_left 2 hle
          have h2 := Nat.le_of_mul_le_mul_right h1 hB
          rcases Nat.lt_or_ge (B' * M) (2 * P') with q | q
          · exact Or.inl q
          · exact Or.inr ⟨by omega, c2⟩
    · rw [if_neg c]; split <;> omega
theorem pow_cross' (q : Int) (j : Nat) : 10 ^ j * 10 ^ q.toNat * 10 ^ (-(q + j)).toNat = 10 ^ (q + j).toNat * 10 ^ (-q).toNat := by
  rw [← Nat.pow_add, ← Nat.pow_add, ← Nat.pow_add]
  congr 1
  omega
/-- one number times a power of ten held against another -/
theorem cross_le {d N j : Nat} {q : Int} (h : d * 10 ^ j ≤ N) : d * 10 ^ (q + j).toNat * k74 * 10 ^ (-q).toNat ≤ N * 10 ^ q.toNat * k74 * 10 ^ (-(q + j)).toNat := by
  have e := pow_cross' q j
  have e1 : d * 10 ^ (q + j).toNat * k74 * 10 ^ (-q).toNat = d * 10 ^ j * (10 ^ q.toNat * 10 ^ (-(q + j)).toNat * k74) := by
    rw [Nat.mul_right_comm, Nat.mul_assoc d, ← e, Nat.mul_assoc d, Nat.mul_assoc d, Nat.mul_assoc (10 ^ j), Nat.mul_assoc (10 ^ j)]
  have e2 : N * 10 ^ q.toNat * k74 * 10 ^ (-(q + j)).toNat = N * (10 ^ q.toNat * 10 ^ (-(q + j)).toNat * k74) := by
    rw [Nat.mul_right_comm, Nat.mul_assoc N, Nat.mul_assoc N]
  rw [e1, e2]
  exact Nat.mul_le_mul_right _ h
theorem cross_ge {d N j : Nat} {q : Int} (h : N ≤ d * 10 ^ j) : N * 10 ^ q.toNat * k74 * 10 ^ (-(q + j)).toNat ≤ d * 10 ^ (q + j).toNat * k74 * 10 ^ (-q).toNat := by
  have e := pow_cross' q j
  have e1 : d * 10 ^ (q + j).toNat * k74 * 10 ^ (-q).toNat = d * 10 ^ j * (10 ^ q.toNat * 10 ^ (-(q + j)).toNat * k74) := by
    rw [Nat.mul_right_comm, Nat.mul_assoc d, ← e, Nat.mul_assoc d, Nat.mul_assoc d, Nat.mul_assoc (10 ^ j), Nat.mul_assoc (10 ^ j)]
  have e2 : N * 10 ^ q.toNat * k74 * 10 ^ (-(q + j)).toNat = N * (10 ^ q.toNat * 10 ^ (-(q + j)).toNat * k74) := by
    rw [Nat.mul_right_comm, Nat.mul_assoc N, Nat.mul_assoc N]
  rw [e1, e2]
  exact Nat.mul_le_mul_right _ h
/-- a float that is no greater than the infinity, and the error beside it -/
def cpR (R : Nat) : Nat := if R < infR then R else infR
def erR (R : Nat) : Value := if R < infR then .nilIface else errR
/-- parseFloat64 at whatever number of at most 64 bits -/
theorem parse_full (d S : Nat) (p : Int) (hd0 : 1 ≤ d) (hd : d < 18446744073709551616) (hp : -345 ≤ p ∧ p ≤ 310) (hS : S = 0 ∨ S = 9223372036854775808) :
    ∃ lo, Lo (d * 10 ^ p.toNat * k74) (10 ^ (-p).toNat) lo ∧ ∀ w, PT w → 15 < w.heap.size →
      Calls Tryz.prog 158 #[.int .u64 d, .int .i64 p, .int .u64 S] w fun ed w' => ed = .returned (.tuple #[.float .f64 (S + cpR (roundR (d * 10 ^ p.toNat * k74) (10 ^ (-p).toNat) lo)), erR (roundR (d * 10 ^ p.toNat * k74) (10 ^ (-p).toNat) lo)]) ∧ Below w.heap.size w w' := by
  obtain ⟨lo, hlo, H⟩ := parse_any d S p hd0 hd hp hS
  obtain ⟨lo2, hlo2, H2⟩ := parse_inf d S p hd0 hd hp hS
  obtain rfl := hlo.unique hlo2
  refine ⟨lo, hlo, fun w hT hg => ?_⟩
  unfold cpR erR
  by_cases hR : roundR (d * 10 ^ p.toNat * k74) (10 ^ (-p).toNat) lo < infR
  · rw [if_pos hR, if_pos hR]; exact H hR w hT hg
  · rw [if_neg hR, if_neg hR]; exact H2 (by omega) w hT hg
theorem cpR_le (R : Nat) : cpR R ≤ infR := by unfold cpR; split <;> omega
theorem cpR_mono {a b : Nat} (h : a ≤ b) : cpR a ≤ cpR b := by unfold cpR; split <;> split <;> omega
theorem erR_same {a b : Nat} (h : cpR a = cpR b) : erR a = erR b := by
  unfold cpR at h
  unfold erR
  by_cases ha : a < infR <;> by_cases hb : b < infR <;> simp only [ha, hb, if_true, if_false] at h ⊢ <;> omega
theorem word_S (S r : Nat) (ng : Bool) (hS : S = if ng then 9223372036854775808 else 0) (hr : r < 9223372036854775808) : Ieee.double.word ng r = S + r := by
  have h := word_of (S + r) (by subst hS; split <;> omega)
  cases ng
  · simp only [Bool.false_eq_true, if_false] at hS
    subst hS
    rw [decide_eq_false (by omega), Nat.mod_eq_of_lt (by omega), Nat.zero_add] at h
    rw [h]; omega
  · simp only [if_true] at hS
    subst hS
    rw [decide_eq_true (by omega), show (9223372036854775808 + r) % 9223372036854775808 = r by omega] at h
    exact h
/-- two floats of one sign are equal just if their bits are -/
theorem ord_eq (S a b : Nat) (ng : Bool) (hS : S = if ng then 9223372036854775808 else 0) (ha : a ≤ infR) (hb : b ≤ infR) : (FloatKind.f64.format.order (S + a) (S + b) == some Ordering.eq) = decide (a = b) := by
  have hi : infR = 9218868437227405312 := rfl
  by_cases e : a = b
  · subst e
    rw [decide_eq_true rfl]
    have h := order_self (S + a) (by subst hS; split <;> omega)
    have hn : nanB (S + a) = false := by
      unfold nanB
      subst hS
      split <;> simp <;> omega
    rw [hn] at h
    cases hc : (FloatKind.f64.format.order (S + a) (S + a) == some Ordering.eq) with
    | true => rfl
    | false => simp [bne, hc] at h
  · rw [decide_eq_false e]
    rw [← word_S S a ng hS (by omega), ← word_S S b ng hS (by omega)]
    by_cases ha' : a < infR <;> by_cases hb' : b < infR
    · rw [order_word ng ng a b ha' hb']
      have hne : sv ng (vR a) ≠ sv ng (vR b) := by
        intro g
        have : vR a = vR b := by
          unfold sv at g
          cases ng <;> simp at g <;> omega
        rcases Nat.lt_trichotomy a b with q | q | q
        · have := vR_mono q; omega
        · exact e q
        · have := vR_mono q; omega
      cases hc : compare (sv ng (vR a)) (sv ng (vR b)) with
      | eq => exact absurd (Int.compare_eq_eq.1 hc) hne
      | lt => rfl
      | gt => rfl
    · have e2 : b = infR := by omega
      subst e2
      show ((FloatKind.f64.decode _).order (FloatKind.f64.decode _) == _) = _
      rw [dec_fin ng a ha', show infR = 9218868437227405312 from rfl, dec_inf]
      cases ng <;> rfl
    · have e2 : a = infR := by omega
      subst e2
      show ((FloatKind.f64.decode _).order (FloatKind.f64.decode _) == _) = _
      rw [dec_fin ng b hb', show infR = 9218868437227405312 from rfl, dec_inf]
      cases ng <;> rfl
    · omega
end Go.Proofs.YtjlaoeigfokkiaaGreatDoor.dcm
namespace Go.Proofs.YtjlaoeigfokkiaaGreatDoor.dcm
open Go.ChangeShapes Go.WideShapes Go.ChangeAt Go.RowKit
open mem fto
open ints (hide unhide)
set_option linter.unusedVariables false
set_option linter.unusedSimpArgs false
theorem vR_zero : vR 0 = 0 := by decide
theorem lo_below {P B : Nat} : ∀ n, P < B * vR (n + 1) → ∃ lo, Lo P B lo
  | 0, h => ⟨0, by rw [vR_zero]; omega, h⟩
  | n + 1, h => by
    rcases Nat.lt_or_ge P (B * vR (n + 1)) with g | g
    · exact lo_below n g
    · exact ⟨n + 1, g, h⟩
theorem vR_ge : ∀ n, n ≤ vR n
  | 0 => Nat.zero_le _
  | n + 1 => by
    have := vR_ge n
    rw [vR_succ]
    have := Nat.two_pow_pos (exR n)
    omega
/-- every number has a greatest float not above it -/
theorem lo_some (P : Nat) {B : Nat} (hB : 0 < B) : ∃ lo, Lo P B lo := lo_below P (by
  have h := vR_ge (P + 1)
  have : 1 * vR (P + 1) ≤ B * vR (P + 1) := Nat.mul_le_mul_right _ hB
  omega)
theorem inf_310 : vR infR ≤ 10 ^ n31 * k74 := by decide +kernel
theorem round_inf {P B lo : Nat} (h : Lo P B lo) (hB : 0 < B) (hv : B * vR infR ≤ P) : infR ≤ roundR P B lo := by
  have h1 : infR ≤ lo := by
    rcases Nat.lt_or_ge lo infR with g | g
    · exfalso
      have h2 := Nat.mul_le_mul_left B (vR_mono_le (show lo + 1 ≤ infR from g))
      have := h.2
      omega
    · exact g
  have : lo ≤ roundR P B lo := by unfold roundR; split <;> omega
  omega
set_option maxRecDepth 10000 in
/-- atof64 at a text with more digits than a word holds -/
theorem atof_cut (k : Nat) (s : ByteArray) (m g z : Nat) (e : Int) (h : Ntx s k m g z) (hk : k ≤ 1) (hm : 20 ≤ m) (ht : trs s (k + 2) m = true)
    (he : e = if g = 1 then - (mvs s (k + 3 + m + g) z : Int) else (mvs s (k + 3 + m + g) z : Int)) (hp : -345 ≤ e - 19 ∧ e - 19 ≤ 310) (w : World) (hF : Fy w) (hSl : Slow w w.heap.size) :
    ∃ lo, Lo (mvs s (k + 2) m * 10 ^ (e - m).toNat * k74) (10 ^ (-(e - m)).toNat) lo ∧
      Calls Tryz.prog 126 #[.string s] w fun ed w' => ed = .returned (.tuple #[.float .f64 (k * 9223372036854775808 + cpR (roundR (mvs s (k + 2) m * 10 ^ (e - m).toNat * k74) (10 ^ (-(e - m)).toNat) lo)), .int .i64 s.size, erR (roundR (mvs s (k + 2) m * 10 ^ (e - m).toNat * k74) (10 ^ (-(e - m)).toNat) lo)]) ∧ Below w.heap.size w w' := by
  have hsz1 : s.size ≤ 2000000 := by have := h.sz; have := h.m1; have := h.z1; have := h.g1; omega
  have hsz2 : k + 4 ≤ s.size := by have := h.sz; have := h.z0; omega
  have hBq : 0 < 10 ^ (-(e - m)).toNat := Nat.pow_pos (by decide)
  obtain ⟨lo, hlo⟩ := lo_some (mvs s (k + 2) m * 10 ^ (e - m).toNat * k74) hBq
  refine ⟨lo, hlo, ?_⟩
  obtain ⟨j, hj⟩ : ∃ j, m = 19 + j := ⟨m - 19, by omega⟩
  have hpq : e - 19 = (e - m) + (j : Int) := by omega
  obtain ⟨d, hd⟩ : ∃ d, d = mvs s (k + 2) 19 := ⟨_, rfl⟩
  have f1 : 49 ≤ bz s (k + 2) := by have a1 := h.bf (by omega); have a2 := h.bd 0 (by omega); rw [Nat.add_zero] at a2; omega
  have hd0 : 1 ≤ d := by rw [hd]; exact mvs_pos s (k + 2) f1 _ (by omega)
  have hd1 : d < 10000000000000000000 := by rw [hd]; exact mvs_lt s (k + 2) m h.bd 19 (by omega)
  obtain ⟨r, hr, hrj⟩ := dvN_split (tdec_ok h.bd) 19 j
  rw [tdec_dv h.bd 19 (by omega), tdec_dv h.bd (19 + j) (by omega), ← hj, ← hd] at hr
  have hS2 : k * 9223372036854775808 = 0 ∨ k * 9223372036854775808 = 9223372036854775808 := by omega
  obtain ⟨S, hS⟩ : ∃ S, S = k * 9223372036854775808 := ⟨_, rfl⟩
  rw [← hS] at hS2 ⊢
  obtain ⟨lo0, hlo0, PA⟩ := parse_full d S (e - 19) hd0 (by omega) hp hS2
  obtain ⟨lo1, hlo1, PB⟩ := parse_full (d + 1) S (e - 19) (by omega) (by omega) hp hS2
  have hBp : 0 < 10 ^ (-(e - 19)).toNat := Nat.pow_pos (by decide)
  have m0 : roundR (d * 10 ^ (e - 19).toNat * k74) (10 ^ (-(e - 19)).toNat) lo0 ≤ roundR (mvs s (k + 2) m * 10 ^ (e - m).toNat * k74) (10 ^ (-(e - m)).toNat) lo := by
    refine round_mono hBp hBq hlo0 hlo ?_
    rw [hpq]
    exact cross_le (by rw [hr]; omega)
  have m1 : roundR (mvs s (k + 2) m * 10 ^ (e - m).toNat * k74) (10 ^ (-(e - m)).toNat) lo ≤ roundR ((d + 1) * 10 ^ (e - 19).toNat * k74) (10 ^ (-(e - 19)).toNat) lo1 := by
    refine round_mono hBq hBp hlo hlo1 ?_
    rw [hpq]
    exact cross_ge (by rw [hr, Nat.add_mul]; omega)
  -- a number too great for the decimal is an infinity on both sides
  have big : 310 < e → cpR (roundR (d * 10 ^ (e - 19).toNat * k74) (10 ^ (-(e - 19)).toNat) lo0) = cpR (roundR ((d + 1) * 10 ^ (e - 19).toNat * k74) (10 ^ (-(e - 19)).toNat) lo1) := by
    intro he3
    have hB1 : 10 ^ (-(e - 19)).toNat = 1 := by rw [show (-(e - 19)).toNat = 0 by omega, Nat.pow_zero]
    have hd18 : 1000000000000000000 ≤ d := by
      obtain ⟨r1, hr1, -⟩ := dvN_split (tdec_ok h.bd) 1 18
      rw [show (1 + 18 : Nat) = 19 from rfl, tdec_dv h.bd 1 (by omega), tdec_dv h.bd 19 (by omega), ← hd] at hr1
      have e1 : mvs s (k + 2) 1 = (bz s (k + 2) - 48).toNat := by
        show 0 * 10 + (bz s (k + 2 + 0) - 48).toNat = _
        rw [Nat.add_zero]; omega
      rw [e1] at hr1
      have h4 : 1 * 10 ^ 18 ≤ (bz s (k + 2) - 48).toNat * 10 ^ 18 := Nat.mul_le_mul_right _ (by omega)
      have h5 : (10 : Nat) ^ 18 = 1000000000000000000 := by decide
      rw [h5] at h4 hr1
      omega
    have key : ∀ (x l : Nat), 1000000000000000000 ≤ x → Lo (x * 10 ^ (e - 19).toNat * k74) (10 ^ (-(e - 19)).toNat) l → cpR (roundR (x * 10 ^ (e - 19).toNat * k74) (10 ^ (-(e - 19)).toNat) l) = infR := by
      intro x l hx hl
      have h5 := round_inf hl hBp (by
        rw [hB1, Nat.one_mul]
        refine Nat.le_trans inf_310 (Nat.mul_le_mul_right _ ?_)
        have h6 : (10 : Nat) ^ n31 = 10 ^ 18 * 10 ^ (n31 - 18) := by rw [← Nat.pow_add, show 18 + (n31 - 18) = n31 from rfl]
        rw [h6]
        exact Nat.mul_le_mul hx (Nat.pow_le_pow_right (by decide) (by have : n31 = 310 := rfl; omega)))
      unfold cpR
      rw [if_neg (by omega)]
    rw [key d lo0 hd18 hlo0, key (d + 1) lo1 (by omega) hlo1]
  generalize hR0 : roundR (d * 10 ^ (e - 19).toNat * k74) (10 ^ (-(e - 19)).toNat) lo0 = R0 at *
  generalize hR1 : roundR ((d + 1) * 10 ^ (e - 19).toNat * k74) (10 ^ (-(e - 19)).toNat) lo1 = R1 at *
  obtain ⟨ng, hng⟩ : ∃ ng : Bool, ng = decide (k = 1) := ⟨_, rfl⟩
  have hSn : S = if ng then 9223372036854775808 else 0 := by
    rw [hS, hng]
    have : k = 0 ∨ k = 1 := by omega
    rcases this with rfl | rfl <;> rfl
  have hmin : min m 19 = 19 := by omega
  have m0' : ¬ m = 0 := by omega
  have SP : Calls Tryz.prog 146 #[.string s] w fun e w' => e = .returned (.tuple #[.float .f64 0, .int .i64 0, .bool false]) ∧ w' = w := by
    have : k = 0 ∨ k = 1 := by omega
    rcases this with rfl | rfl
    · exact special0 s w (by omega) (by rw [← bz_at]; exact h.b1)
    · exact special1 s w (by omega) hsz1 (by omega) (by rw [← bz_at]; exact h.b0 rfl) (by rw [← bz_at]; exact h.b1)
  have RF : Calls Tryz.prog 147 #[.string s] w fun ed w' => ed = .returned (.tuple #[.int .u64 d, .int .i64 (e - 19), .bool ng, .bool true, .bool false, .int .i64 s.size, .bool true]) ∧ w' = w := by
    have : k = 0 ∨ k = 1 := by omega
    rcases this with rfl | rfl
    · have RF := readF0 s m g z w h
      rw [if_neg m0', hmin, ht, ← hd, ← he] at RF
      rw [hng]; exact RF
    · have RF := readF1 s m g z w h
      rw [if_neg m0', hmin, ht, ← hd, ← he] at RF
      rw [hng]; exact RF
  have PA' := PA w hF.fx.fw.pt hF.fx.fw.g
  have PB' : ∀ W, Below w.heap.size w W → Calls Tryz.prog 158 #[.int .u64 ((d + 1 : Nat) : Int), .int .i64 (e - 19), .int .u64 S] W fun ed w' => ed = .returned (.tuple #[.float .f64 (S + cpR R1), erR R1]) ∧ Below w.heap.size W w' := fun W hW => by
    refine (PB W (hF.below hW).fx.fw.pt (hF.below hW).fx.fw.g).mono ?_
    rintro ed w' ⟨h1, h2⟩
    exact ⟨h1, h2.mono hW.size⟩
  have hord := ord_eq S (cpR R0) (cpR R1) ng hSn (cpR_le _) (cpR_le _)
  by_cases hsame : cpR R0 = cpR R1
  · rw [decide_eq_true hsame] at hord
    have C := atof_same s d S (S + cpR R0) (S + cpR R1) (e - 19) ng w hSn hd0 (by omega) hp hsz1 hF.opt hord SP RF (erR R0) (erR R1) PA' PB'
    refine C.mono ?_
    rintro ed w' ⟨rfl, hb⟩
    have hc : cpR R0 = cpR (roundR (mvs s (k + 2) m * 10 ^ (e - m).toNat * k74) (10 ^ (-(e - m)).toNat) lo) := Nat.le_antisymm (cpR_mono m0) (by rw [hsame]; exact cpR_mono m1)
    exact ⟨by rw [hc, erR_same hc], hb⟩
  · rw [decide_eq_false hsame] at hord
    have he3 : e ≤ 310 := by
      rcases Int.lt_or_le 310 e with q | q
      · exact absurd (big q) hsame
      · exact q
    have SET : ∀ W b, Dec W b zdc → Calls Tryz.prog 153 #[.pointer (some ⟨b, 0, none⟩), .string s] W fun ed w' => ed = .returned (.bool true) ∧ (∃ s', Dec w' b s' ∧ St (mvs s (k + 2) m * 10 ^ (e - m).toNat) (10 ^ (-(e - m)).toNat) s' (800 - s'.dp).toNat ∧ -330 ≤ s'.dp ∧ s'.ng = ng) ∧ Below b W w' ∧ w'.heap.size = W.heap.size := fun W b hz => by
      have fin : ∀ ed w', (ed = Ending.returned (.bool true) ∧ (∃ s', Dec w' b s' ∧ SI s (k + 2) s' m ∧ s'.dp = (if g = 1 then - (mvs s (k + 3 + m + g) z : Int) else (mvs s (k + 3 + m + g) z : Int)) ∧ s'.ng = ng) ∧ Below b W w' ∧ w'.heap.size = W.heap.size) → ed = .returned (.bool true) ∧ (∃ s', Dec w' b s' ∧ St (mvs s (k + 2) m * 10 ^ (e - m).toNat) (10 ^ (-(e - m)).toNat) s' (800 - s'.dp).toNat ∧ -330 ≤ s'.dp ∧ s'.ng = ng) ∧ Below b W w' ∧ w'.heap.size = W.heap.size := by
        rintro ed w' ⟨h1, ⟨s', g1, g2, g3, g4⟩, h2, h3⟩
        rw [← he] at g3
        have q := set_st h.bd (by intro q; omega) (by omega) g2 (by omega)
        rw [g3] at q
        refine ⟨h1, ⟨s', g1, ?_, by omega, g4⟩, h2, h3⟩
        rw [g3]; exact q
      have : k = 0 ∨ k = 1 := by omega
      rcases this with rfl | rfl
      · rw [hng] at fin ⊢
        exact (set0 s b m g z zdc W h (by omega) hz rfl rfl).mono fin
      · rw [hng] at fin ⊢
        exact (set1 s b m g z zdc W h (by omega) hz rfl rfl).mono fin
    have FB : ∀ W b s', Dec W b s' → St (mvs s (k + 2) m * 10 ^ (e - m).toNat) (10 ^ (-(e - m)).toNat) s' (800 - s'.dp).toNat → -330 ≤ s'.dp → Slow W b → Calls Tryz.prog 154 #[.pointer (some ⟨b, 0, none⟩), .pointer (some ⟨9, 0, none⟩)] W fun ed w' => FbA (mvs s (k + 2) m * 10 ^ (e - m).toNat) (10 ^ (-(e - m)).toNat) s'.ng ed ∧ Below b W w' :=
      fun W b s' h1 h2 h3 h4 => fbits_ok b _ _ s' W h1 h2 h3 h4.lc h4.pw h4.fi
    have C := atof_slow s d S (S + cpR R0) (S + cpR R1) _ _ (e - 19) ng w hSn hd0 (by omega) hp hsz1 hF.opt hord SP RF (erR R0) (erR R1) PA' PB' hSl SET FB
    refine C.mono ?_
    rintro ed w' ⟨⟨lo2, R, hlo2, hR⟩, hb⟩
    obtain rfl := hlo.unique hlo2
    refine ⟨?_, hb⟩
    unfold cpR erR
    rcases hR with ⟨r1, r2, r3⟩ | ⟨r1, r3⟩
    · rw [if_pos r1, if_pos r1, r3, r2]
    · rw [if_neg (by omega), if_neg (by omega), r3]
end Go.Proofs.YtjlaoeigfokkiaaGreatDoor.dcm
namespace Go.Proofs.YtjlaoeigfokkiaaGreatDoor.dcm
open Go.ChangeShapes Go.WideShapes Go.ChangeAt Go.RowKit
open mem fto
open ints (hide unhide)
set_option linter.unusedVariables false
set_option linter.unusedSimpArgs false
set_option maxHeartbeats 1000000 in
set_option maxRecDepth 100000 in
/-- atof64 at a power beyond the floats -/
theorem atof_high (s : ByteArray) (d S : Nat) (n p : Int) (ng tr : Bool) (w : World) (hS : S = if ng then 9223372036854775808 else 0) (hd0 : 1 ≤ d) (hp : 310 < p) (hn : 0 ≤ n ∧ n ≤ 2000000)
    (opt : w.cell? ⟨5, 0, none⟩ = some (.bool true))
    (SP : Calls Tryz.prog 146 #[.string s] w fun e w' => e = .returned (.tuple #[.float .f64 0, .int .i64 0, .bool false]) ∧ w' = w)
    (RF : Calls Tryz.prog 147 #[.string s] w fun e w' => e = .returned (.tuple #[.int .u64 d, .int .i64 p, .bool ng, .bool tr, .bool false, .int .i64 n, .bool true]) ∧ w' = w) :
    Calls Tryz.prog 126 #[.string s] w fun e w' => e = .returned (.tuple #[.float .f64 (S + infR), .int .i64 n, errR]) ∧ Below w.heap.size w w' := by
  have HSP := hide SP
  have HRF := hide RF
  have hfb := run_fromb
  have hdi : ((d : Int) == 0) = false := by rw [beq_eq_false_iff_ne]; omega
  have o1 : bits .or .u64 9223372036854775808 9218868437227405312 = 18442240474082181120 := by decide
  have o0 : bits .or .u64 0 9218868437227405312 = 9218868437227405312 := by decide
  have B1 := hide b2_yes
  have B0 := hide b2_no
  clear SP RF
  go_enter Tryz.func126, Tryz.ntmps126
  go_wp2_with fail
  refine (unhide HSP).mono ?_
  rintro e w1 ⟨rfl, hw⟩
  subst w1
  go_wp2_with fail
  refine (unhide HRF).mono ?_
  rintro e w1 ⟨rfl, hw⟩
  subst w1
  cases ng
  all_goals
    simp only [Bool.false_eq_true, if_false, if_true] at hS
    subst hS
    go_wp2_with fail
    first
      | refine (unhide B0 _).mono ?_
      | refine (unhide B1 _).mono ?_
    rintro e w1 ⟨rfl, hw⟩
    subst w1
    go_wp2
    go_ret3
    exact ⟨rfl, Below.refl _ _⟩
set_option maxHeartbeats 1000000 in
set_option maxRecDepth 100000 in
/-- and below them -/
theorem atof_low (s : ByteArray) (d S : Nat) (n p : Int) (ng tr : Bool) (w : World) (hS : S = if ng then 9223372036854775808 else 0) (hd0 : 1 ≤ d) (hp : p < -345) (hn : 0 ≤ n ∧ n ≤ 2000000)
    (opt : w.cell? ⟨5, 0, none⟩ = some (.bool true))
    (SP : Calls Tryz.prog 146 #[.string s] w fun e w' => e = .returned (.tuple #[.float .f64 0, .int .i64 0, .bool false]) ∧ w' = w)
    (RF : Calls Tryz.prog 147 #[.string s] w fun e w' => e = .returned (.tuple #[.int .u64 d, .int .i64 p, .bool ng, .bool tr, .bool false, .int .i64 n, .bool true]) ∧ w' = w) :
    Calls Tryz.prog 126 #[.string s] w fun e w' => e = .returned (.tuple #[.float .f64 S, .int .i64 n, .nilIface]) ∧ Below w.heap.size w w' := by
  have HSP := hide SP
  have HRF := hide RF
  have hfb := run_fromb
  have hdi : ((d : Int) == 0) = false := by rw [beq_eq_false_iff_ne]; omega
  have hp3 : ¬ (310 : Int) < p := by omega
  have o1 : bits .or .u64 9223372036854775808 0 = 9223372036854775808 := by decide
  have o0 : bits .or .u64 0 0 = 0 := by decide
  have B1 := hide b2_yes
  have B0 := hide b2_no
  clear SP RF
  go_enter Tryz.func126, Tryz.ntmps126
  go_wp2_with fail
  refine (unhide HSP).mono ?_
  rintro e w1 ⟨rfl, hw⟩
  subst w1
  go_wp2_with fail
  refine (unhide HRF).mono ?_
  rintro e w1 ⟨rfl, hw⟩
  subst w1
  cases ng
  all_goals
    simp only [Bool.false_eq_true, if_false, if_true] at hS
    subst hS
    go_wp2_with fail
    first
      | refine (unhide B0 _).mono ?_
      | refine (unhide B1 _).mono ?_
    rintro e w1 ⟨rfl, hw⟩
    subst w1
    go_wp2
    go_ret3
    exact ⟨rfl, Below.refl _ _⟩
set_option maxHeartbeats 1000000 in
set_option maxRecDepth 100000 in
/-- atof64 at digits that fit a word, whatever error stands beside the float -/
theorem atof_nt (s : ByteArray) (n : Int) (d S F : Nat) (p : Int) (ng : Bool) (er : Value) (w : World) (hS : S = if ng then 9223372036854775808 else 0) (hd0 : 1 ≤ d) (hd : d < 18446744073709551616) (hp : -345 ≤ p ∧ p ≤ 310) (hn : 0 ≤ n ∧ n ≤ 2000000)
    (opt : w.cell? ⟨5, 0, none⟩ = some (.bool true))
    (SP : Calls Tryz.prog 146 #[.string s] w fun e w' => e = .returned (.tuple #[.float .f64 0, .int .i64 0, .bool false]) ∧ w' = w)
    (RF : Calls Tryz.prog 147 #[.string s] w fun e w' => e = .returned (.tuple #[.int .u64 d, .int .i64 p, .bool ng, .bool false, .bool false, .int .i64 n, .bool true]) ∧ w' = w)
    (EX : Calls Tryz.prog 157 #[.int .u64 d, .int .i64 p, .bool ng] w fun e w' => (∃ (G : Nat) (ok : Bool), e = .returned (.tuple #[.float .f64 G, .bool ok]) ∧ (ok = true → G = F ∧ er = .nilIface)) ∧ w' = w)
    (PA : Calls Tryz.prog 158 #[.int .u64 d, .int .i64 p, .int .u64 S] w fun e w' => e = .returned (.tuple #[.float .f64 F, er]) ∧ Below w.heap.size w w') :
    Calls Tryz.prog 126 #[.string s] w fun e w' => e = .returned (.tuple #[.float .f64 F, .int .i64 n, er]) ∧ Below w.heap.size w w' := by
  have HSP := hide SP
  have HRF := hide RF
  have HEX := hide EX
  have HPA := hide PA
  have hdi : ((d : Int) == 0) = false := by rw [beq_eq_false_iff_ne]; omega
  have B1 := hide b2_yes
  have B0 := hide b2_no
  clear SP RF EX PA hd
  go_enter Tryz.func126, Tryz.ntmps126
  go_wp2_with fail
  refine (unhide HSP).mono ?_
  rintro e w1 ⟨rfl, hw⟩
  subst w1
  go_wp2_with fail
  refine (unhide HRF).mono ?_
  rintro e w1 ⟨rfl, hw⟩
  subst w1
  cases ng
  all_goals
    simp only [Bool.false_eq_true, if_false, if_true] at hS
    subst hS
    go_wp2_with fail
    first
      | refine (unhide B0 _).mono ?_
      | refine (unhide B1 _).mono ?_
    rintro e w1 ⟨rfl, hw⟩
    subst w1
    go_wp2_with fail
    refine (unhide HEX).mono ?_
    rintro e w1 ⟨⟨G, ok, rfl, hok⟩, hw⟩
    subst w1
    cases ok
    · go_wp2_with fail
      refine (unhide HPA).mono ?_
      rintro e w1 ⟨rfl, b1⟩
      have HB := hide b1
      clear b1
      go_wp2
      go_ret3
      exact ⟨rfl, unhide HB⟩
    · obtain ⟨hG, hE⟩ := hok rfl
      subst hG
      subst hE
      go_wp2
      go_ret3
      exact ⟨rfl, Below.refl _ _⟩
theorem fin_37 : 18446744073709551616 * 10 ^ 37 * k74 < vR (infR - 1) := by decide +kernel
/-- an infinity wants a great power -/
theorem inf_far {d lo : Nat} {p : Int} (hd : d < 18446744073709551616) (hlo : Lo (d * 10 ^ p.toNat * k74) (10 ^ (-p).toNat) lo) (hR : infR ≤ roundR (d * 10 ^ p.toNat * k74) (10 ^ (-p).toNat) lo) : 37 < p := by
  rcases Int.lt_or_le 37 p with g | g
  · exact g
  · exfalso
    have h1 : infR - 1 ≤ lo := by
      have : roundR (d * 10 ^ p.toNat * k74) (10 ^ (-p).toNat) lo ≤ lo + 1 := by unfold roundR; split <;> omega
      omega
    have h2 := vR_mono_le h1
    have h3 : 1 * vR lo ≤ 10 ^ (-p).toNat * vR lo := Nat.mul_le_mul_right _ (Nat.pow_pos (by decide))
    have h4 := hlo.1
    have h5 : d * 10 ^ p.toNat * k74 ≤ 18446744073709551616 * 10 ^ 37 * k74 := Nat.mul_le_mul_right _ (Nat.mul_le_mul (by omega) (Nat.pow_le_pow_right (by decide) (by omega)))
    have h6 := fin_37
    generalize vR (infR - 1) = A at *
    generalize 18446744073709551616 * 10 ^ 37 * k74 = C at *
    omega
end Go.Proofs.YtjlaoeigfokkiaaGreatDoor.dcm
namespace Go.Proofs.YtjlaoeigfokkiaaGreatDoor.dcm
open Go.ChangeShapes Go.WideShapes Go.ChangeAt Go.RowKit
open mem fto
open ints (hide unhide)
set_option linter.unusedVariables false
set_option linter.unusedSimpArgs false
theorem trs_noughts {s : ByteArray} {a : Nat} : ∀ i, trs s a (19 + i) = false → mvs s a (19 + i) = mvs s a 19 * 10 ^ i
  | 0, _ => by simp
  | i + 1, h => by
    have h1 : trs s a (19 + i) = false ∧ (decide (19 ≤ 19 + i) && decide (bz s (a + (19 + i)) ≠ 48)) = false := by
      have : trs s a (19 + i + 1) = false := h
      rw [trs, Bool.or_eq_false_iff] at this
      exact this
    have h2 : bz s (a + (19 + i)) = 48 := by
      have := h1.2
      simpa using this
    show mvs s a (19 + i) * 10 + (bz s (a + (19 + i)) - 48).toNat = _
    rw [trs_noughts i h1.1, h2, Nat.pow_succ]
    simp [Nat.mul_assoc]
def n345 : Nat := 345
theorem low_345 : 2 * (18446744073709551616 * k74) < 10 ^ n345 := by decide +kernel
theorem vR_one : vR 1 = 1 := by decide
/-- a number below half the least float -/
theorem round_none {P B lo : Nat} (h : Lo P B lo) (hB : 0 < B) (hs : 2 * P < B) : roundR P B lo = 0 := by
  have h0 : lo = 0 := by
    rcases Nat.eq_zero_or_pos lo with g | g
    · exact g
    · exfalso
      have h1 := Nat.mul_le_mul_left B (vR_mono_le g)
      have h2 := h.1
      rw [vR_one] at h1
      omega
  subst h0
  unfold roundR
  rw [vR_zero, if_neg]
  have e : exR 0 = 0 := by decide
  rw [e]
  rintro (c | ⟨c, -⟩) <;> omega
set_option maxRecDepth 10000 in
/-- atof64 at every text that number.nearest hands on, but for those without digits -/
theorem atof_all (k : Nat) (s : ByteArray) (m g z : Nat) (e : Int) (h : Ntx s k m g z) (hk : k ≤ 1) (hm : 1 ≤ m)
    (he : e = if g = 1 then - (mvs s (k + 3 + m + g) z : Int) else (mvs s (k + 3 + m + g) z : Int)) (w : World) (hF : Fy w) (hSl : Slow w w.heap.size) :
    ∃ lo, Lo (mvs s (k + 2) m * 10 ^ (e - m).toNat * k74) (10 ^ (-(e - m)).toNat) lo ∧
      Calls Tryz.prog 126 #[.string s] w fun ed w' => ed = .returned (.tuple #[.float .f64 (k * 9223372036854775808 + cpR (roundR (mvs s (k + 2) m * 10 ^ (e - m).toNat * k74) (10 ^ (-(e - m)).toNat) lo)), .int .i64 s.size, erR (roundR (mvs s (k + 2) m * 10 ^ (e - m).toNat * k74) (10 ^ (-(e - m)).toNat) lo)]) ∧ Below w.heap.size w w' := by
  have hsz1 : s.size ≤ 2000000 := by have := h.sz; have := h.m1; have := h.z1; have := h.g1; omega
  have hsz2 : k + 4 ≤ s.size := by have := h.sz; have := h.z0; omega
  have hBq : 0 < 10 ^ (-(e - m)).toNat := Nat.pow_pos (by decide)
  obtain ⟨c, hc⟩ : ∃ c, c = min m 19 := ⟨_, rfl⟩
  obtain ⟨j, hj⟩ : ∃ j, m = c + j := ⟨m - c, by omega⟩
  have hpq : e - c = (e - m) + (j : Int) := by omega
  obtain ⟨d, hd⟩ : ∃ d, d = mvs s (k + 2) c := ⟨_, rfl⟩
  have f1 : 49 ≤ bz s (k + 2) := by have a1 := h.bf (by omega); have a2 := h.bd 0 (by omega); rw [Nat.add_zero] at a2; omega
  have hd0 : 1 ≤ d := by rw [hd]; exact mvs_pos s (k + 2) f1 _ (by omega)
  have hd1 : d < 10000000000000000000 := by
    rw [hd]
    exact Nat.lt_of_lt_of_le (mvs_lt s (k + 2) m h.bd c (by omega)) (Nat.le_trans (Nat.pow_le_pow_right (by decide) (show c ≤ 19 by omega)) (by decide))
  obtain ⟨r, hr, hrj⟩ := dvN_split (tdec_ok h.bd) c j
  rw [tdec_dv h.bd c (by omega), tdec_dv h.bd (c + j) (by omega), ← hj, ← hd] at hr
  have hS2 : k * 9223372036854775808 = 0 ∨ k * 9223372036854775808 = 9223372036854775808 := by omega
  obtain ⟨ng, hng⟩ : ∃ ng : Bool, ng = decide (k = 1) := ⟨_, rfl⟩
  have hSn : k * 9223372036854775808 = if ng then 9223372036854775808 else 0 := by
    rw [hng]
    have : k = 0 ∨ k = 1 := by omega
    rcases this with rfl | rfl <;> rfl
  have m0' : ¬ m = 0 := by omega
  have SP : Calls Tryz.prog 146 #[.string s] w fun e w' => e = .returned (.tuple #[.float .f64 0, .int .i64 0, .bool false]) ∧ w' = w := by
    have : k = 0 ∨ k = 1 := by omega
    rcases this with rfl | rfl
    · exact special0 s w (by omega) (by rw [← bz_at]; exact h.b1)
    · exact special1 s w (by omega) hsz1 (by omega) (by rw [← bz_at]; exact h.b0 rfl) (by rw [← bz_at]; exact h.b1)
  have RF : Calls Tryz.prog 147 #[.string s] w fun ed w' => ed = .returned (.tuple #[.int .u64 d, .int .i64 (e - c), .bool ng, .bool (trs s (k + 2) m), .bool false, .int .i64 s.size, .bool true]) ∧ w' = w := by
    have : k = 0 ∨ k = 1 := by omega
    rcases this with rfl | rfl
    · have RF := readF0 s m g z w h
      rw [if_neg m0', ← hc, ← hd, ← he] at RF
      rw [hng]; exact RF
    · have RF := readF1 s m g z w h
      rw [if_neg m0', ← hc, ← hd, ← he] at RF
      rw [hng]; exact RF
  by_cases hhi : 310 < e - c
  · obtain ⟨lo, hlo⟩ := lo_some (mvs s (k + 2) m * 10 ^ (e - m).toNat * k74) hBq
    refine ⟨lo, hlo, ?_⟩
    have hinf : infR ≤ roundR (mvs s (k + 2) m * 10 ^ (e - m).toNat * k74) (10 ^ (-(e - m)).toNat) lo := by
      refine round_inf hlo hBq ?_
      have hx := cross_le (d := d) (N := mvs s (k + 2) m) (j := j) (q := e - m) (by rw [hr]; omega)
      rw [← hpq, show (-(e - c)).toNat = 0 by omega, Nat.pow_zero, Nat.mul_one] at hx
      refine Nat.le_trans ?_ hx
      rw [Nat.mul_comm]
      refine Nat.mul_le_mul_right _ (Nat.le_trans inf_310 (Nat.mul_le_mul_right _ ?_))
      have h7 : 1 * 10 ^ n31 ≤ d * 10 ^ (e - c).toNat := Nat.mul_le_mul hd0 (Nat.pow_le_pow_right (by decide) (by have : n31 = 310 := rfl; omega))
      rw [Nat.one_mul] at h7
      exact h7
    refine (atof_high s d _ s.size (e - c) ng _ w hSn hd0 hhi (by omega) hF.opt SP RF).mono ?_
    rintro ed w' ⟨rfl, hb⟩
    unfold cpR erR
    rw [if_neg (by omega), if_neg (by omega)]
    exact ⟨rfl, hb⟩
  by_cases hlow : e - c < -345
  · obtain ⟨lo, hlo⟩ := lo_some (mvs s (k + 2) m * 10 ^ (e - m).toNat * k74) hBq
    refine ⟨lo, hlo, ?_⟩
    have hz : roundR (mvs s (k + 2) m * 10 ^ (e - m).toNat * k74) (10 ^ (-(e - m)).toNat) lo = 0 := by
      refine round_none hlo hBq ?_
      have hx := cross_ge (d := d + 1) (N := mvs s (k + 2) m) (j := j) (q := e - m) (by rw [hr, Nat.add_mul]; omega)
      rw [← hpq, show (e - c).toNat = 0 by omega, Nat.pow_zero, Nat.mul_one] at hx
      have h8 : 10 ^ n345 ≤ 10 ^ (-(e - c)).toNat := Nat.pow_le_pow_right (by decide) (by have : n345 = 345 := rfl; omega)
      have h9 : 2 * ((d + 1) * k74) ≤ 2 * (18446744073709551616 * k74) := Nat.mul_le_mul_left 2 (Nat.mul_le_mul_right _ (by omega))
      have h10 := low_345
      have h11 : 0 < 10 ^ (-(e - c)).toNat := Nat.pow_pos (by decide)
      generalize mvs s (k + 2) m * 10 ^ (e - m).toNat * k74 = P at *
      generalize 10 ^ (-(e - m)).toNat = B at *
      generalize 10 ^ (-(e - c)).toNat = T at *
      generalize 10 ^ n345 = T0 at *
      generalize 2 * (18446744073709551616 * k74) = Z at *
      have h12 : 2 * P * T ≤ 2 * ((d + 1) * k74) * B := by rw [Nat.mul_assoc, Nat.mul_assoc]; exact Nat.mul_le_mul_left 2 hx
      have h13 : 2 * ((d + 1) * k74) * B < T * B := Nat.mul_lt_mul_of_pos_right (by omega) hBq
      exact Nat.lt_of_mul_lt_mul_right (a := T) (by rw [Nat.mul_comm B]; omega)
    refine (atof_low s d _ s.size (e - c) ng _ w hSn hd0 hlow (by omega) hF.opt SP RF).mono ?_
    rintro ed w' ⟨rfl, hb⟩
    rw [hz]
    have q1 : cpR 0 = 0 := by unfold cpR; rw [if_pos (by decide)]
    have q2 : erR 0 = .nilIface := by unfold erR; rw [if_pos (by decide)]
    rw [q1, q2, Nat.add_zero]
    exact ⟨rfl, hb⟩
  have hp : -345 ≤ e - c ∧ e - c ≤ 310 := by omega
  cases ht : trs s (k + 2) m with
  | true =>
    have h19 : 20 ≤ m := by
      rcases Nat.lt_or_ge m 20 with q | q
      · rw [trs_small s (k + 2) m (by omega)] at ht; cases ht
      · exact q
    have hc19 : c = 19 := by omega
    rw [hc19] at hp
    exact atof_cut k s m g z e h hk h19 ht he hp w hF hSl
  | false =>
    rw [ht] at RF
    have hN : mvs s (k + 2) m = d * 10 ^ j := by
      rcases Nat.lt_or_ge m 19 with q | q
      · have : c = m := by omega
        have hj0 : j = 0 := by omega
        rw [hj0, Nat.pow_zero, Nat.mul_one, hd, this]
      · have hc19 : c = 19 := by omega
        have := trs_noughts (s := s) (a := k + 2) j (by rw [← hc19, ← hj]; exact ht)
        rw [← hc19, ← hj, ← hd] at this
        exact this
    obtain ⟨lo0, hlo0, PA⟩ := parse_full d (k * 9223372036854775808) (e - c) hd0 (by omega) hp hS2
    obtain ⟨lo, hlo⟩ := lo_some (mvs s (k + 2) m * 10 ^ (e - m).toNat * k74) hBq
    have hBp : 0 < 10 ^ (-(e - c)).toNat := Nat.pow_pos (by decide)
    have eR : roundR (d * 10 ^ (e - c).toNat * k74) (10 ^ (-(e - c)).toNat) lo0 = roundR (mvs s (k + 2) m * 10 ^ (e - m).toNat * k74) (10 ^ (-(e - m)).toNat) lo := by
      refine Nat.le_antisymm (round_mono hBp hBq hlo0 hlo ?_) (round_mono hBq hBp hlo hlo0 ?_)
      · rw [hpq]; exact cross_le (by rw [hN]; exact Nat.le_refl _)
      · rw [hpq]; exact cross_ge (by rw [hN]; exact Nat.le_refl _)
    refine ⟨lo, hlo, ?_⟩
    rw [← eR]
    refine atof_nt s s.size d (k * 9223372036854775808) _ (e - c) ng _ w hSn hd0 (by omega) hp (by omega) hF.opt SP RF ?_ (PA w hF.fx.fw.pt hF.fx.fw.g)
    by_cases hRi : roundR (d * 10 ^ (e - c).toNat * k74) (10 ^ (-(e - c)).toNat) lo0 < infR
    · refine (ex_any d (e - c) ng (k * 9223372036854775808) lo0 w hd0 (by omega) hp hF.info hF.ten hSn hlo0 hRi).mono ?_
      rintro ed w' ⟨⟨G, ok, h1, h2⟩, hw⟩
      refine ⟨⟨G, ok, h1, fun h3 => ⟨?_, ?_⟩⟩, hw⟩
      · unfold cpR; rw [if_pos hRi]; exact h2 h3
      · unfold erR; rw [if_pos hRi]
    · have h37 := inf_far (by omega) hlo0 (by omega)
      rcases Nat.lt_or_ge d 4503599627370496 with q | q
      · refine (ex_far d (e - c) ng w q (Or.inr h37) (by omega) hF.info).mono ?_
        rintro ed w' ⟨⟨G, h1⟩, hw⟩
        exact ⟨⟨G, false, h1, fun h3 => by cases h3⟩, hw⟩
      · refine (ex_long d (e - c) ng w q (by omega) hF.info).mono ?_
        rintro ed w' ⟨h1, hw⟩
        exact ⟨⟨0, false, h1, fun h3 => by cases h3⟩, hw⟩
end Go.Proofs.YtjlaoeigfokkiaaGreatDoor.dcm
namespace Go.Proofs
open Go.Shelf
def Tryz.laysC245_ren : Go.Shelf.Ren := ⟨fun | 245 => 38 | 279 => 58 | 280 => 59 | 281 => 60 | 282 => 61 | 316 => 91 | 171 => 93 | 205 => 92 | 243 => 118 | 246 => 56 | 283 => 85 | 284 => 86 | 285 => 87 | 286 => 88 | 129 => 114 | 317 => 113 | 318 => 115 | 319 => 116 | 320 => 117 | 337 => 142 | 338 => 143 | n => n, fun | 9 => 9 | 3 => 3 | 75 => 53 | 167 => 96 | 4 => 4 | 168 => 100 | 210 => 137 | 37 => 45 | 0 => 0 | 127 => 153 | 145 => 164 | 143 => 162 | 2 => 2 | 171 => 129 | 53 => 31 | 5 => 5 | 173 => 132 | 212 => 159 | 51 => 114 | 20 => 20 | 213 => 160 | 46 => 99 | 232 => 174 | 233 => 224 | 80 => 124 | n => n, fun | 15 => 1 | 16 => 2 | 17 => 3 | 18 => 10 | 19 => 11 | n => n⟩
theorem Tryz.laysC245 : Go.Proofs.LaysC.n245 Tryz.prog Tryz.laysC245_ren := {
  mixed := by kernel_rfl
  f129 := Tryz.func114.trans (congrArg some (by kernel_rfl))
  f171 := Tryz.func93.trans (congrArg some (by kernel_rfl))
  f205 := Tryz.func92.trans (congrArg some (by kernel_rfl))
  f243 := Tryz.func118.trans (congrArg some (by kernel_rfl))
  f245 := Tryz.func38.trans (congrArg some (by kernel_rfl))
  f246 := Tryz.func56.trans (congrArg some (by kernel_rfl))
  f279 := Tryz.func58.trans (congrArg some (by kernel_rfl))
  f280 := Tryz.func59.trans (congrArg some (by kernel_rfl))
  f281 := Tryz.func60.trans (congrArg some (by kernel_rfl))
  f282 := Tryz.func61.trans (congrArg some (by kernel_rfl))
  f283 := Tryz.func85.trans (congrArg some (by kernel_rfl))
  f284 := Tryz.func86.trans (congrArg some (by kernel_rfl))
  f285 := Tryz.func87.trans (congrArg some (by kernel_rfl))
  f286 := Tryz.func88.trans (congrArg some (by kernel_rfl))
  f316 := Tryz.func91.trans (congrArg some (by kernel_rfl))
  f317 := Tryz.func113.trans (congrArg some (by kernel_rfl))
  f318 := Tryz.func115.trans (congrArg some (by kernel_rfl))
  f319 := Tryz.func116.trans (congrArg some (by kernel_rfl))
  f320 := Tryz.func117.trans (congrArg some (by kernel_rfl))
  f337 := Tryz.func142.trans (congrArg some (by kernel_rfl))
  f338 := Tryz.func143.trans (congrArg some (by kernel_rfl))
  t0 := Tryz.underlying0
  a0 := Tryz.isAgg0
  z0 := Tryz.sizeOf0
  v0 := Tryz.zeroValue0
  t2 := Tryz.underlying2
  a2 := Tryz.isAgg2
  z2 := Tryz.sizeOf2
  v2 := Tryz.zeroValue2
  t3 := Tryz.underlying3
  a3 := Tryz.isAgg3
  z3 := Tryz.sizeOf3
  v3 := Tryz.zeroValue3
  t4 := Tryz.underlying4
  a4 := Tryz.isAgg4
  z4 := Tryz.sizeOf4
  v4 := Tryz.zeroValue4
  t5 := Tryz.underlying5
  a5 := Tryz.isAgg5
  z5 := Tryz.sizeOf5
  v5 := Tryz.zeroValue5
  t9 := Tryz.underlying9
  a9 := Tryz.isAgg9
  z9 := Tryz.sizeOf9
  v9 := Tryz.zeroValue9
  t20 := Tryz.underlying20
  a20 := Tryz.isAgg20
  z20 := Tryz.sizeOf20
  v20 := Tryz.zeroValue20
  t37 := Tryz.underlying45
  a37 := Tryz.isAgg45
  z37 := Tryz.sizeOf45
  v37 := Tryz.zeroValue45
  t46 := Tryz.underlying99
  a46 := Tryz.isAgg99
  z46 := Tryz.sizeOf99
  v46 := Tryz.zeroValue99
  t51 := Tryz.underlying114
  a51 := Tryz.isAgg114
  z51 := Tryz.sizeOf114
  v51 := Tryz.zeroValue114
  t53 := Tryz.underlying31
  a53 := Tryz.isAgg31
  z53 := Tryz.sizeOf31
  v53 := Tryz.zeroValue31
  t75 := Tryz.underlying53
  a75 := Tryz.isAgg53
  z75 := Tryz.sizeOf53
  v75 := Tryz.zeroValue53
  t127 := Tryz.underlying153
  a127 := Tryz.isAgg153
  z127 := Tryz.sizeOf153
  v127 := Tryz.zeroValue153
  t143 := Tryz.underlying162
  a143 := Tryz.isAgg162
  z143 := Tryz.sizeOf162
  v143 := Tryz.zeroValue162
  t145 := Tryz.underlying164
  a145 := Tryz.isAgg164
  z145 := Tryz.sizeOf164
  v145 := Tryz.zeroValue164
  t167 := Tryz.underlying96
  a167 := Tryz.isAgg96
  z167 := Tryz.sizeOf96
  v167 := Tryz.zeroValue96
  t168 := Tryz.underlying100
  a168 := Tryz.isAgg100
  z168 := Tryz.sizeOf100
  v168 := Tryz.zeroValue100
  t171 := Tryz.underlying129
  a171 := Tryz.isAgg129
  z171 := Tryz.sizeOf129
  v171 := Tryz.zeroValue129
  t173 := Tryz.underlying132
  a173 := Tryz.isAgg132
  z173 := Tryz.sizeOf132
  v173 := Tryz.zeroValue132
  t210 := Tryz.underlying137
  a210 := Tryz.isAgg137
  z210 := Tryz.sizeOf137
  v210 := Tryz.zeroValue137
  t212 := Tryz.underlying159
  a212 := Tryz.isAgg159
  z212 := Tryz.sizeOf159
  v212 := Tryz.zeroValue159
  t213 := Tryz.underlying160
  a213 := Tryz.isAgg160
  z213 := Tryz.sizeOf160
  t232 := Tryz.underlying174
  a232 := Tryz.isAgg174
  z232 := Tryz.sizeOf174
  v232 := Tryz.zeroValue174
  t233 := Tryz.underlying224
  a233 := Tryz.isAgg224
  z233 := Tryz.sizeOf224
  v233 := Tryz.zeroValue224
  g15 := by kernel_rfl
  g16 := by kernel_rfl
  g17 := by kernel_rfl
  g18 := by kernel_rfl
  g19 := by kernel_rfl
  t80 := Tryz.underlying124
  a80 := Tryz.isAgg124
  z80 := Tryz.sizeOf124
  v80 := Tryz.zeroValue124
  i0 := by kernel_rfl
  i2 := by kernel_rfl
  i3 := by kernel_rfl
  i4 := by kernel_rfl
  i5 := by kernel_rfl
  i9 := by kernel_rfl
  i20 := by kernel_rfl
  i37 := by kernel_rfl
  i46 := by kernel_rfl
  i51 := by kernel_rfl
  i53 := by kernel_rfl
  i75 := by kernel_rfl
  i80 := by kernel_rfl
  i127 := by kernel_rfl
  i143 := by kernel_rfl
  i145 := by kernel_rfl
  i167 := by kernel_rfl
  i168 := by kernel_rfl
  i171 := by kernel_rfl
  i173 := by kernel_rfl
  i210 := by kernel_rfl
  i212 := by kernel_rfl
  i232 := by kernel_rfl
  i233 := by kernel_rfl
  m15 := by kernel_rfl
  m16 := by kernel_rfl
  m17 := by kernel_rfl
  m18 := by kernel_rfl
  m19 := by kernel_rfl
  c0 := by kernel_rfl
  c2 := by kernel_rfl
  c3 := by kernel_rfl
  c4 := by kernel_rfl
  c5 := by kernel_rfl
  c9 := by kernel_rfl
  c20 := by kernel_rfl
  c37 := by kernel_rfl
  c46 := by kernel_rfl
  c51 := by kernel_rfl
  c53 := by kernel_rfl
  c75 := by kernel_rfl
  c80 := by kernel_rfl
  c127 := by kernel_rfl
  c143 := by kernel_rfl
  c145 := by kernel_rfl
  c167 := by kernel_rfl
  c168 := by kernel_rfl
  c171 := by kernel_rfl
  c173 := by kernel_rfl
  c210 := by kernel_rfl
  c212 := by kernel_rfl
  c213 := by kernel_rfl
  c232 := by kernel_rfl
  c233 := by kernel_rfl }
open Go.RowKit in
theorem Tryz.strconv_toError_range (fn s : ByteArray) (base bits : Int) (ev : Value) (w : World) (hlim : s.size ≤ 281474976710656) (hv : w.cell? ⟨2, 0, none⟩ = some ev) (hev : ev = .nilIface ∨ ∃ te pe, ev = .iface te pe) :
    Calls Tryz.prog 38 #[.string fn, .string s, .int .i64 base, .int .i64 bits, .iface 96 (.int .i64 1)] w fun e w' => ∃ N, e = .returned (.iface 100 (.pointer (some ⟨N, 0, none⟩))) ∧ w.heap.size ≤ N ∧ w'.heap[N]? = some (.cells #[.string fn, .string s, ev] 137 (0, 0)) ∧ Below w.heap.size w w' := Any.strconv_toError_range Tryz.laysC245 fn s base bits ev w hlim hv hev
end Go.Proofs
