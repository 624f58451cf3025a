import Derived.Test.YtjlaoeigfokkiaaGreatDoorBs30
import Derived.Test.YtjlaoeigfokkiaaGreatDoorBs29
namespace Go.Proofs.YtjlaoeigfokkiaaGreatDoor.fto
open Go.ChangeShapes Go.WideShapes Go.ChangeAt Go.RowKit
open mem Go.Sort
open ints (hide unhide)
set_option linter.unusedVariables false
set_option linter.unusedSimpArgs false
/-- the law's weight -/
def wt : List Int → Nat → Nat → Nat
  | [], _, L => L
  | c :: r, n, L => if c = 101 ∨ c = 69 then L else if c < 48 ∨ 57 < c ∨ (c = 48 ∧ n = 0) then wt r n L else wt r (n + 1) (if c = 48 then L else n + 1)
theorem wt_cons (c : Int) (r : List Int) (n L : Nat) : wt (c :: r) n L = if c = 101 ∨ c = 69 then L else if c < 48 ∨ 57 < c ∨ (c = 48 ∧ n = 0) then wt r n L else wt r (n + 1) (if c = 48 then L else n + 1) := rfl
theorem bytZ_drop (s : ByteArray) (k : Nat) (h : k < s.size) : (bytZ s).drop k = ((s[k]'h).toNat : Int) :: (bytZ s).drop (k + 1) := by
  have h' : k < (bytZ s).length := by rw [bytZ_len]; exact h
  rw [List.drop_eq_getElem_cons h']
  congr 1
  have := bz_at s k h
  rw [← this]
  show (bytZ s)[k] = (bytZ s).getD k 0
  rw [List.getD_eq_getElem?_getD, List.getElem?_eq_getElem h']
  rfl
set_option maxHeartbeats 1000000 in
theorem weight_ok (s : ByteArray) (w : World) (hs : s.size ≤ 1100000) :
    Calls Tryz.prog 13 #[.string s] w fun e w' => e = .returned (.int .i64 (wt (bytZ s) 0 0 : Nat)) ∧ Below w.heap.size w w' := by
  obtain ⟨T, hT⟩ : ∃ T, T = wt (bytZ s) 0 0 := ⟨_, rfl⟩
  rw [← hT]
  have HT := hide hT
  have hsz : (s.size : Int) ≤ 1100000 := by omega
  clear hT
  go_enter Tryz.func13, Tryz.ntmps13
  go_wp2
  go_loopw [5, 3, 4] (fun x y z wr => ∃ k N L : Nat, k ≤ s.size ∧ N ≤ k ∧ L ≤ k ∧ x = .int .i64 k ∧ y = .int .i64 N ∧ z = .int .i64 L ∧ Hid (wt ((bytZ s).drop k) N L = T) ∧ Below w.heap.size w wr) (fun x _ _ _ => s.size - (intOf x).toNat)
  case atStart => exact ⟨0, 0, 0, Nat.zero_le _, Nat.le_refl _, Nat.le_refl _, rfl, rfl, rfl, hide (by rw [List.drop_zero]; exact (unhide HT).symm), Below.refl _ _⟩
  case round =>
    obtain ⟨k, N, L, hk, hNk, hLk, rfl, rfl, rfl, HV, hbel⟩ := hrel
    have HB := hide hbel
    clear hbel
    by_cases hlt : k < s.size
    · have ki : (k : Int) < (s.size : Int) := by omega
      have hV := unhide HV
      rw [bytZ_drop s k hlt] at hV
      obtain ⟨C, hC⟩ : ∃ C : Nat, (s[k]'hlt).toNat = C := ⟨_, rfl⟩
      rw [hC] at hV
      have hCi : ((s[k]'hlt).toNat : Int) = (C : Int) := by rw [hC]
      have hC8 : (C : Int) ≤ 255 := by have := (s[k]'hlt).toNat_lt; omega
      clear hC HV
      rw [wt_cons] at hV
      by_cases hE : (C : Int) = 101 ∨ (C : Int) = 69
      · rw [if_pos hE] at hV
        have HL := hide hV
        clear hV
        rcases hE with h1 | h1
        · have e1 : ((C : Int) == 101) = true := by rw [beq_iff_eq]; exact h1
          clear h1
          go_wp2
          go_ret
          exact ⟨by rw [unhide HL]; rfl, unhide HB⟩
        · have e1 : ((C : Int) == 101) = false := by rw [beq_eq_false_iff_ne]; omega
          have e2 : ((C : Int) == 69) = true := by rw [beq_iff_eq]; exact h1
          clear h1
          go_wp2
          go_ret
          exact ⟨by rw [unhide HL]; rfl, unhide HB⟩
      · rw [if_neg hE] at hV
        have e1 : ((C : Int) == 101) = false := by rw [beq_eq_false_iff_ne]; omega
        have e2 : ((C : Int) == 69) = false := by rw [beq_eq_false_iff_ne]; omega
        clear hE
        by_cases hS : (C : Int) < 48 ∨ 57 < (C : Int) ∨ ((C : Int) = 48 ∧ N = 0)
        · rw [if_pos hS] at hV
          have HL := hide hV
          clear hV
          rcases hS with h1 | h1 | ⟨h1, h2⟩
          · go_wp2
            go_roundw
            case rel => exact ⟨k + 1, N, L, by omega, by omega, by omega, by go_num, rfl, rfl, HL, unhide HB⟩
            case measure => simp [intOf]; omega
          · have n1 : ¬ (C : Int) < 48 := by omega
            go_wp2
            go_roundw
            case rel => exact ⟨k + 1, N, L, by omega, by omega, by omega, by go_num, rfl, rfl, HL, unhide HB⟩
            case measure => simp [intOf]; omega
          · have n1 : ¬ (C : Int) < 48 := by omega
            have n2 : ¬ 57 < (C : Int) := by omega
            have e3 : ((C : Int) == 48) = true := by rw [beq_iff_eq]; exact h1
            have e4 : ((N : Int) == 0) = true := by rw [beq_iff_eq]; omega
            clear h1 h2
            go_wp2
            go_roundw
            case rel => exact ⟨k + 1, N, L, by omega, by omega, by omega, by go_num, rfl, rfl, HL, unhide HB⟩
            case measure => simp [intOf]; omega
        · rw [if_neg hS] at hV
          have n1 : ¬ (C : Int) < 48 := by omega
          have n2 : ¬ 57 < (C : Int) := by omega
          by_cases h48 : (C : Int) = 48
          · rw [if_pos h48] at hV
            have HL := hide hV
            have e3 : ((C : Int) == 48) = true := by rw [beq_iff_eq]; exact h48
            have e4 : ((N : Int) == 0) = false := by rw [beq_eq_false_iff_ne]; omega
            have e5 : ((C : Int) != 48) = false := by simp [h48]
            clear h48 hV hS
            go_wp2
            go_roundw
            case rel => exact ⟨k + 1, N + 1, L, by omega, by omega, by omega, by go_num, by go_num, rfl, HL, unhide HB⟩
            case measure => simp [intOf]; omega
          · rw [if_neg h48] at hV
            have HL := hide hV
            have e3 : ((C : Int) == 48) = false := by rw [beq_eq_false_iff_ne]; exact h48
            have e5 : ((C : Int) != 48) = true := by simp; omega
            clear h48 hV hS
            go_wp2
            go_roundw
            case rel => exact ⟨k + 1, N + 1, N + 1, by omega, by omega, by omega, by go_num, by go_num, by go_num, HL, unhide HB⟩
            case measure => simp [intOf]; omega
    · have ki : ¬ (k : Int) < (s.size : Int) := by omega
      have hV := unhide HV
      rw [List.drop_eq_nil_of_le (by rw [bytZ_len]; omega)] at hV
      have HL := hide (show L = T from hV)
      clear hV HV
      go_wp2
      go_ret
      exact ⟨by rw [unhide HL]; rfl, unhide HB⟩
/-- weight of digits -/
theorem wt_app_dg (l r : List Int) (hr : ∀ c ∈ l, c ≠ 101 ∧ c ≠ 69 ∧ (c < 48 ∨ 57 < c)) : ∀ n L, wt (l ++ r) n L = wt r n L := by
  induction l with
  | nil => intro n L; rfl
  | cons c l ih =>
    intro n L
    obtain ⟨h1, h2, h3⟩ := hr c (by simp)
    rw [List.cons_append]
    rw [wt_cons, if_neg (by omega), if_pos (by omega)]
    exact ih (fun c hc => hr c (List.mem_cons_of_mem _ hc)) n L
theorem wt_skip (A r r' : List Int) (hA : Dg A) (h : ∀ n L, wt r n L = wt r' n L) : ∀ n L, wt (A ++ r) n L = wt (A ++ r') n L := by
  induction A with
  | nil => exact h
  | cons c A ih =>
    intro n L
    have hc := hA c (by simp)
    rw [List.cons_append, List.cons_append]
    have e1 : ¬ (c = 101 ∨ c = 69) := by omega
    rw [wt_cons, wt_cons, if_neg e1, if_neg e1, ih hA.tail, ih hA.tail]
theorem wt_end (A r : List Int) (hA : Dg A) (hr : ∀ z r', r = z :: r' → z = 101 ∨ z = 69) : ∀ n L, wt (A ++ r) n L = wt A n L := by
  intro n L
  have : ∀ n L, wt r n L = wt [] n L := by
    intro n L
    cases r with
    | nil => rfl
    | cons z r' =>
      rw [wt_cons, if_pos (hr z r' rfl)]
      rfl
  rw [wt_skip A r [] hA this, List.append_nil]
/-- the weight of a number's text is that of its digits -/
theorem wt_num (ng : Bool) (A F : List Int) (E : Option (Int × Option Bool × List Int)) (hA : Dg A) (hF : Dg F) (hE : ∀ q, E = some q → (q.1 = 101 ∨ q.1 = 69)) : wt (sgL ng ++ (A ++ (frL F ++ exA E))) 0 0 = wt (A ++ F) 0 0 := by
  have hx : ∀ z r', exA E = z :: r' → z = 101 ∨ z = 69 := by
    intro z r' h
    rcases E with _ | ⟨ec, o, X⟩
    · simp [exA] at h
    · simp [exA] at h
      rw [← h.1]
      exact hE _ rfl
  rw [wt_app_dg (sgL ng) _ (fun c hc => by cases ng <;> simp [sgL] at hc; subst hc; omega)]
  refine wt_skip A _ _ hA (fun n L => ?_) 0 0
  unfold frL
  by_cases h0 : F = []
  · rw [if_pos h0, h0, List.nil_append]
    exact wt_end [] (exA E) Dg.nil hx n L
  · rw [if_neg h0]
    have := wt_app_dg [46] (F ++ exA E) (fun c hc => by simp at hc; subst hc; omega) n L
    rw [List.cons_append]
    exact this.trans (wt_end F (exA E) hF hx n L)
/-- digits are a number of as many digits as they weigh, and noughts behind -/
theorem wt_val : ∀ (D : List Int) (n L : Nat) (v q : Nat), Dg D → L ≤ n → q < 10 ^ L → v = q * 10 ^ (n - L) → (n = 0 → v = 0) → ∃ q' j, v * 10 ^ D.length + dv D = q' * 10 ^ j ∧ q' < 10 ^ wt D n L := by
  intro D
  induction D with
  | nil =>
    intro n L v q _ hL hq hv _
    exact ⟨q, n - L, by simp [dv, hv], hq⟩
  | cons c D ih =>
    intro n L v q hD hL hq hv h0
    have hc := hD c (by simp)
    have key : v * 10 ^ (c :: D).length + dv (c :: D) = (v * 10 + (c - 48).toNat) * 10 ^ D.length + dv D := by
      rw [dv_cons, List.length_cons, Nat.pow_succ (n := 10), Nat.add_mul, Nat.mul_comm (10 ^ D.length) 10, ← Nat.mul_assoc]
      omega
    rw [key]
    rw [wt_cons, if_neg (by omega)]
    by_cases hS : c < 48 ∨ 57 < c ∨ (c = 48 ∧ n = 0)
    · rw [if_pos hS]
      have hn : c = 48 ∧ n = 0 := by omega
      have hv0 := h0 hn.2
      refine ih n L _ q hD.tail hL hq ?_ (fun _ => ?_)
      · rw [hn.1, hv0]
        rw [hv0] at hv
        rw [← hv]
        rfl
      · rw [hn.1, hv0]; rfl
    · rw [if_neg hS]
      by_cases h48 : c = 48
      · rw [if_pos h48]
        refine ih (n + 1) L _ q hD.tail (by omega) hq ?_ (fun h => by omega)
        rw [hv, h48, show n + 1 - L = (n - L) + 1 by omega, Nat.pow_succ, Nat.mul_assoc]
        rfl
      · rw [if_neg h48]
        have hvn : v < 10 ^ n := by
          rw [hv]
          have : q * 10 ^ (n - L) < 10 ^ L * 10 ^ (n - L) := Nat.mul_lt_mul_of_pos_right hq (Nat.pow_pos (by decide))
          rw [← Nat.pow_add, show L + (n - L) = n by omega] at this
          exact this
        refine ih (n + 1) (n + 1) _ (v * 10 + (c - 48).toNat) hD.tail (Nat.le_refl _) ?_ ?_ (fun h => by omega)
        · rw [Nat.pow_succ]; omega
        · rw [Nat.sub_self, Nat.pow_zero, Nat.mul_one]
theorem wt_bound : ∀ (K : List Int) (n L : Nat), Dg K → L ≤ n → wt K n L ≤ n + K.length := by
  intro K
  induction K with
  | nil => intro n L _ h; exact h
  | cons c K ih =>
    intro n L hK h
    have hc := hK c (by simp)
    rw [wt_cons, if_neg (by omega), List.length_cons]
    split
    · have := ih n L hK.tail h; omega
    · split
      · have := ih (n + 1) L hK.tail (by omega); omega
      · have := ih (n + 1) (n + 1) hK.tail (Nat.le_refl _); omega
theorem wt_zeros : ∀ (K : List Int) (j n L : Nat), Dg K → wt (K ++ List.replicate j 48) n L = wt K n L := by
  intro K
  induction K with
  | nil =>
    intro j
    induction j with
    | zero => intro n L _; rfl
    | succ j ih =>
      intro n L h
      rw [List.nil_append, List.replicate_succ]
      have := fun n => ih n L h
      simp only [List.nil_append] at this
      rw [wt_cons, if_neg (by omega), if_pos rfl]
      split <;> rw [this] <;> rfl
  | cons c K ih =>
    intro j n L hK
    rw [List.cons_append]
    rw [wt_cons, wt_cons, ih j _ _ hK.tail, ih j _ _ hK.tail]
theorem wt_trm : ∀ D : List Int, Dg D → wt (trm D) 0 0 = wt D 0 0 := by
  intro D
  induction D with
  | nil => intro _; rfl
  | cons c D ih =>
    intro hD
    by_cases h : c = 48
    · subst h
      have : trm (48 :: D) = trm D := by unfold trm; rw [List.dropWhile_cons, if_pos (by decide)]
      rw [this, ih hD.tail]
      conv => rhs; rw [wt_cons]
      rw [if_neg (by omega), if_pos (by omega)]
    · rw [trm_of (fun r e => h (List.cons.inj e).1)]
/-- no more than the digits without noughts at either end -/
theorem wt_le (D K : List Int) (j : Nat) (hD : Dg D) (hK : Dg K) (h : trm D = K ++ List.replicate j 48) : wt D 0 0 ≤ K.length := by
  rw [← wt_trm D hD, h, wt_zeros K j 0 0 hK]
  have := wt_bound K 0 0 hK (Nat.le_refl _)
  omega
end Go.Proofs.YtjlaoeigfokkiaaGreatDoor.fto
