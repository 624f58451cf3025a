import Derived.Test.YtechaplindbfoaaGreatDoorJpa13
import Derived.Lib.ItoaNum
import Derived.Lib.ItoaMem
import Derived.Lib.Repeat
import Derived.Barred
namespace Go.Proofs.YtechaplindbfoaaGreatDoor.jsn
open Go.ChangeShapes Go.WideShapes Go.ChangeAt Go.RowKit
open mem
open ints (hide unhide)
set_option linter.unusedVariables false
/-- the number that digits write -/
def nvG (l : List UInt8) : Nat := l.foldl (fun a c => a * 10 + (c.toNat - 48)) 0
theorem nv_fold (l : List UInt8) : ∀ a, l.foldl (fun a c => a * 10 + (c.toNat - 48)) a = a * 10 ^ l.length + nvG l := by
  unfold nvG
  induction l with
  | nil => intro a; simp
  | cons c r ih =>
    intro a
    simp only [List.foldl_cons, List.length_cons]
    rw [ih (a * 10 + (c.toNat - 48)), ih (0 * 10 + (c.toNat - 48)), Nat.pow_succ, Nat.add_mul]
    have e : a * 10 * 10 ^ r.length = a * (10 ^ r.length * 10) := by rw [Nat.mul_assoc, Nat.mul_comm 10]
    rw [e, Nat.zero_mul, Nat.zero_add]
    omega
theorem nv_app (l r : List UInt8) : nvG (l ++ r) = nvG l * 10 ^ r.length + nvG r := by
  rw [nvG, List.foldl_append, nv_fold]
  rfl
theorem nv_zeros : ∀ n, nvG (Lib.repeatL [48] n) = 0
  | 0 => rfl
  | n + 1 => by rw [Lib.repeatL, nv_app, nv_zeros n]; show 0 * _ + 0 = 0; omega
theorem nv_dec (u : Nat) : nvG (Lib.decDigits u) = u := by
  induction u using Nat.strongRecOn with
  | _ u ih =>
    by_cases h : u < 10
    · rw [Lib.decDigits, dif_pos h]
      show 0 * 10 + ((UInt8.ofNat (48 + u)).toNat - 48) = u
      rw [UInt8.toNat_ofNat_of_lt' (by show _ < 256; omega)]
      omega
    · rw [Lib.decDigits, dif_neg h, nv_app, ih (u / 10) (by omega)]
      show u / 10 * 10 ^ 1 + (0 * 10 + ((UInt8.ofNat (48 + u % 10)).toNat - 48)) = u
      rw [UInt8.toNat_ofNat_of_lt' (by show _ < 256; omega)]
      omega
theorem dec_digs (u : Nat) : ∀ c ∈ Lib.decDigits u, 48 ≤ c.toNat ∧ c.toNat ≤ 57 := by
  rw [Lib.decDigits_eq]
  intro c hc
  obtain ⟨t, -, rfl⟩ := List.mem_map.1 hc
  unfold Lib.dg
  have : u / 10 ^ (Lib.nDigits u - 1 - t) % 10 < 10 := Nat.mod_lt _ (by decide)
  rw [UInt8.toNat_ofNat_of_lt' (by show _ < 256; omega)]
  omega
theorem dec_ne (u : Nat) : ∃ c r, Lib.decDigits u = c :: r := by
  have h := Lib.decDigits_length u
  have h1 := Lib.nDigits_pos u
  cases hd : Lib.decDigits u with
  | nil => rw [hd] at h; simp at h; omega
  | cons c r => exact ⟨c, r, rfl⟩
theorem itoa_inj {x y : Int} (h : Lib.itoa x = Lib.itoa y) : x = y := by
  unfold Lib.itoa at h
  have no : ∀ u v : Nat, 45 :: Lib.decDigits u ≠ Lib.decDigits v := fun u v e => by
    have := dec_digs v 45 (by rw [← e]; simp)
    exact absurd this (by decide)
  by_cases hx : x < 0 <;> by_cases hy : y < 0 <;> simp only [hx, hy, if_true, if_false] at h
  · have := congrArg nvG (List.cons.inj h).2
    rw [nv_dec, nv_dec] at this
    omega
  · exact absurd h (no _ _)
  · exact absurd h.symm (no _ _)
  · have := congrArg nvG h
    rw [nv_dec, nv_dec] at this
    omega
def Dgs (D : List UInt8) : Prop := ∀ c ∈ D, 48 ≤ c.toNat ∧ c.toNat ≤ 57
/-- the text behind the sign: digits D, the point behind the first p of them -/
def layL (D : List UInt8) (p : Int) : List UInt8 :=
  if p < -5 ∨ 21 < p then (if 1 < D.length then D.take 1 ++ 46 :: D.drop 1 else D.take 1) ++ 101 :: Lib.itoa (p - 1)
  else if p ≤ 0 then 48 :: 46 :: (Lib.repeatL [48] (-p).toNat ++ D)
  else if (D.length : Int) ≤ p then D ++ (Lib.repeatL [48] (p.toNat - D.length) ++ [46, 48])
  else D.take p.toNat ++ 46 :: D.drop p.toNat
theorem rep_digs (n : Nat) : Dgs (Lib.repeatL [48] n) := by
  induction n with
  | zero => intro c hc; cases hc
  | succ n ih =>
    intro c hc
    rw [Lib.repeatL] at hc
    rcases List.mem_append.1 hc with h | h
    · simp at h; subst h; decide
    · exact ih c h
theorem cut_at {a b a' b' : List UInt8} {z : UInt8} (ha : z ∉ a) (ha' : z ∉ a') (h : a ++ z :: b = a' ++ z :: b') : a = a' ∧ b = b' := by
  induction a generalizing a' with
  | nil =>
    cases a' with
    | nil => simpa using h
    | cons c r => simp at h; exact absurd (by simp [h.1]) ha'
  | cons c r ih =>
    cases a' with
    | nil => simp at h; exact absurd (by simp [h.1]) ha
    | cons c' r' =>
      simp only [List.cons_append, List.cons.injEq] at h
      obtain ⟨h1, h2⟩ := ih (fun hm => ha (List.mem_cons_of_mem _ hm)) (fun hm => ha' (List.mem_cons_of_mem _ hm)) h.2
      exact ⟨by rw [h.1, h1], h2⟩
theorem digs_no {D : List UInt8} (h : Dgs D) {z : UInt8} (hz : z.toNat < 48 ∨ 57 < z.toNat) : z ∉ D := fun hm => by
  have := h z hm
  omega
/-- a text without an e: what stands ahead of its point and behind it -/
def PtT (l A F : List UInt8) : Prop := l = A ++ 46 :: F ∧ Dgs A ∧ Dgs F
theorem PtT.uniq {l A F A' F' : List UInt8} (h : PtT l A F) (h' : PtT l A' F') : A = A' ∧ F = F' :=
  cut_at (digs_no h.2.1 (.inl (by decide))) (digs_no h'.2.1 (.inl (by decide))) (h.1.symm.trans h'.1)
theorem Dgs.app {a b : List UInt8} (h : Dgs a) (k : Dgs b) : Dgs (a ++ b) := fun c hc => by
  rcases List.mem_append.1 hc with h' | h'
  · exact h c h'
  · exact k c h'
theorem Dgs.take {a : List UInt8} (h : Dgs a) (n : Nat) : Dgs (a.take n) := fun c hc => h c (List.mem_of_mem_take hc)
theorem Dgs.drop {a : List UInt8} (h : Dgs a) (n : Nat) : Dgs (a.drop n) := fun c hc => h c (List.mem_of_mem_drop hc)
/-- what a text says: either an e and what it says, or a point -/
theorem lay_form (M : Nat) (hM : 1000 ≤ M) (D : List UInt8) (p : Int) (hD : Dgs D) (h1 : 1 ≤ D.length) (hl : D.length ≤ 20) (hp : -500 ≤ p) (hp2 : p ≤ 500) :
    ((p < -5 ∨ 21 < p) ∧ ∃ m, layL D p = m ++ 101 :: Lib.itoa (p - 1) ∧ (101 : UInt8) ∉ m ∧ m.filter (· ≠ 46) = D) ∨
    (-5 ≤ p ∧ p ≤ 21 ∧ ∃ A F, PtT (layL D p) A F ∧ 1 ≤ A.length ∧ 1 ≤ F.length ∧ F.length ≤ 100 ∧ nvG (A ++ F) * 10 ^ (M - F.length) = nvG D * 10 ^ ((M : Int) + p - D.length).toNat) := by
  unfold layL
  by_cases hc : p < -5 ∨ 21 < p
  · rw [if_pos hc]
    have hf : ∀ l : List UInt8, Dgs l → l.filter (· ≠ 46) = l := fun l hl => List.filter_eq_self.2 fun c hc => by
      have := hl c hc
      have : c ≠ 46 := fun e => by subst e; exact absurd this (by decide)
      simpa using this
    refine .inl ⟨hc, _, rfl, ?_, ?_⟩
    · split
      · intro hm
        rcases List.mem_append.1 hm with h | h
        · exact digs_no (hD.take 1) (.inr (by decide)) h
        · rcases List.mem_cons.1 h with h | h
          · exact absurd h (by decide)
          · exact digs_no (hD.drop 1) (.inr (by decide)) h
      · exact digs_no (hD.take 1) (.inr (by decide))
    · split
      · rw [List.filter_append, List.filter_cons, hf _ (hD.take 1), hf _ (hD.drop 1)]
        exact List.take_append_drop 1 D
      · rw [hf _ (hD.take 1)]
        exact List.take_of_length_le (by omega)
  · rw [if_neg hc]
    refine .inr ⟨by omega, by omega, ?_⟩
    by_cases h0 : p ≤ 0
    · rw [if_pos h0]
      refine ⟨[48], Lib.repeatL [48] (-p).toNat ++ D, ⟨rfl, fun c hc => by simp at hc; subst hc; decide, (rep_digs _).app hD⟩, by simp, by rw [List.length_append]; omega, ?_, ?_⟩
      · rw [List.length_append, Lib.repeatL_length]; simp; omega
      · rw [nv_app, nv_app, nv_zeros]
        have e : nvG [48] = 0 := rfl
        rw [e, Nat.zero_mul, Nat.zero_mul, Nat.zero_add, Nat.zero_add]
        congr 2
        rw [List.length_append, Lib.repeatL_length]
        simp
        omega
    · rw [if_neg h0]
      by_cases h2 : (D.length : Int) ≤ p
      · rw [if_pos h2]
        refine ⟨D ++ Lib.repeatL [48] (p.toNat - D.length), [48], ⟨by simp, hD.app (rep_digs _), fun c hc => by simp at hc; subst hc; decide⟩, by rw [List.length_append]; omega, by simp, by simp, ?_⟩
        rw [nv_app, nv_app, nv_zeros]
        have e : nvG [48] = 0 := rfl
        rw [e, Nat.add_zero, Nat.add_zero, Lib.repeatL_length]
        simp only [List.length_cons, List.length_nil, Nat.mul_one, Nat.zero_add]
        rw [Nat.mul_assoc, Nat.mul_assoc, ← Nat.pow_add, ← Nat.pow_add]
        congr 2
        omega
      · rw [if_neg h2]
        refine ⟨D.take p.toNat, D.drop p.toNat, ⟨rfl, hD.take _, hD.drop _⟩, by rw [List.length_take]; omega, by rw [List.length_drop]; omega, by rw [List.length_drop]; omega, ?_⟩
        rw [List.take_append_drop, List.length_drop]
        congr 2
        omega
theorem lay_inj (M : Nat) (hM : 1000 ≤ M) {D D' : List UInt8} {p p' : Int} (hD : Dgs D) (h1 : 1 ≤ D.length) (hl : D.length ≤ 20) (hp : -500 ≤ p) (hp2 : p ≤ 500)
    (hD' : Dgs D') (h1' : 1 ≤ D'.length) (hl' : D'.length ≤ 20) (hp' : -500 ≤ p') (hp2' : p' ≤ 500) (h : layL D p = layL D' p') :
    nvG D * 10 ^ ((M : Int) + p - D.length).toNat = nvG D' * 10 ^ ((M : Int) + p' - D'.length).toNat := by
  have no : ∀ {l A F m t : List UInt8}, PtT l A F → l = m ++ 101 :: t → False := fun {l A F m t} hP he => by
    have hm : (101 : UInt8) ∈ l := by rw [he]; simp
    rw [hP.1] at hm
    rcases List.mem_append.1 hm with h | h
    · exact digs_no hP.2.1 (.inr (by decide)) h
    · rcases List.mem_cons.1 h with h | h
      · exact absurd h (by decide)
      · exact digs_no hP.2.2 (.inr (by decide)) h
  rcases lay_form M hM D p hD h1 hl hp hp2 with ⟨-, m, e1, n1, f1⟩ | ⟨-, -, A, F, P1, -, -, l1, q1⟩ <;> rcases lay_form M hM D' p' hD' h1' hl' hp' hp2' with ⟨-, m', e2, n2, f2⟩ | ⟨-, -, A', F', P2, -, -, l2, q2⟩
  · rw [e1, e2] at h
    obtain ⟨a, b⟩ := cut_at n1 n2 h
    have hpp := itoa_inj b
    have : D = D' := by rw [← f1, ← f2, a]
    subst this
    have : p = p' := by omega
    rw [this]
  · rw [← h] at P2
    exact (no P2 e1).elim
  · rw [h] at P1
    exact (no P1 e2).elim
  · rw [h] at P1
    obtain ⟨rfl, rfl⟩ := P1.uniq P2
    rw [← q1, ← q2]
/-- digits of a number, cut behind the last that counts -/
theorem nv_dgs {d k : Nat} (hk : fto.Kept d k) : d = nvG (strOfNums (fto.dgs d k)).data.toList * 10 ^ (Lib.nDigits d - k) := by
  obtain ⟨k1, k2, k3, -⟩ := hk
  have e : Lib.decDigits d = (strOfNums (fto.dgs d k)).data.toList ++ List.replicate (Lib.nDigits d - k) 48 := by
    rw [Lib.decDigits_eq, strOfNums_data]
    apply List.ext_getElem
    · simp [fto.dgs_len]; omega
    · intro i h1 h2
      have hi : i < Lib.nDigits d := by simpa using h1
      by_cases hik : i < k
      · rw [List.getElem_append_left (by simp [fto.dgs_len]; exact hik)]
        simp only [List.getElem_map, List.getElem_range, fto.dgs, fto.dgt]
        simp
      · rw [List.getElem_append_right (by simp [fto.dgs_len]; omega)]
        simp only [List.getElem_map, List.getElem_range, List.getElem_replicate]
        have := k3 i (by omega) hi
        unfold fto.dgt at this
        have h48 : (Lib.dg d (Lib.nDigits d - 1 - i)).toNat = 48 := by omega
        exact UInt8.toNat_inj.1 (by rw [h48]; rfl)
  have h0 : ∀ n, nvG (List.replicate n 48) = 0 := fun n => by
    induction n with
    | zero => rfl
    | succ n ih => rw [List.replicate_succ, show (48 : UInt8) :: List.replicate n 48 = [48] ++ List.replicate n 48 from rfl, nv_app, ih]; show 0 * _ + 0 = 0; omega
  have h := nv_dec d
  rw [e, nv_app, h0, List.length_replicate] at h
  omega
theorem midR_lt {a b : Nat} (h : a < b) : midR a < midR b := by
  rw [midR_eq, midR_eq]
  have h1 := vR_mono h
  have h2 := vR_mono (show a + 1 < b + 1 by omega)
  omega
theorem inR_uniq {P B a b : Nat} (hB : 0 < B) (ha : 0 < a) (hb : 0 < b) (h : InR P B a) (h' : InR P B b) : a = b := by
  have key : ∀ {a b : Nat}, 0 < a → a < b → InR P B a → InR P B b → False := fun {a b} ha hab h h' => by
    obtain ⟨-, h2⟩ := h
    obtain ⟨h3, -⟩ := h'
    rcases Nat.lt_or_ge a (b - 1) with g | g
    · have := Nat.mul_lt_mul_of_pos_left (midR_lt g) hB
      omega
    · obtain rfl : b = a + 1 := by omega
      simp only [Nat.add_sub_cancel] at h3
      omega
  rcases Nat.lt_trichotomy a b with g | g | g
  · exact (key ha g h h').elim
  · exact g
  · exact (key hb g h' h).elim
/-- two decimals of one value are read as one float -/
theorem rd_uniq {M N N' a b : Nat} {x x' : Int} (hx : -(M : Int) ≤ x) (hx' : -(M : Int) ≤ x') (ha : 0 < a) (hb : 0 < b) (h : Rd N x a) (h' : Rd N' x' b) (e : N * 10 ^ (x + M).toNat = N' * 10 ^ (x' + M).toNat) : a = b := by
  unfold Rd at h h'
  rw [InR_ten N (x + M).toNat a M x (by omega)] at h
  rw [InR_ten N' (x' + M).toNat b M x' (by omega), ← e] at h'
  exact inR_uniq (Nat.pow_pos (by decide)) ha hb h h'
theorem rd_ten {N j a : Nat} {q : Int} (M : Nat) (hM : -(M : Int) ≤ q) (h : Rd (N * 10 ^ j) q a) : Rd N (q + j) a := by
  unfold Rd at h ⊢
  rw [InR_ten (N * 10 ^ j) (q + M).toNat a M q (by omega)] at h
  rw [InR_ten N (q + j + M).toNat a M (q + j) (by omega)]
  have e : N * 10 ^ j * 10 ^ (q + M).toNat = N * 10 ^ (q + j + M).toNat := by
    rw [Nat.mul_assoc, ← Nat.pow_add]
    congr 2
    omega
  rw [← e]
  exact h
theorem lay_list (D : ByteArray) (p : Int) : (fto.layB D p).data.toList = layL D.data.toList p := by
  have ex : ∀ a b : Nat, (D.extract a b).data.toList = (D.data.toList.drop a).take (b - a) := fun a b => by
    rw [ByteArray.data_extract, Array.toList_extract, List.extract_eq_take_drop]
  have sz : D.size = D.data.toList.length := by rw [Array.length_toList]; rfl
  have ap : ∀ a b : ByteArray, (a ++ b).data.toList = a.data.toList ++ b.data.toList := fun a b => by simp
  unfold fto.layB fto.expB fto.rpB fto.itB layL
  rw [sz]
  split
  · split
    · simp only [ap, ex, List.drop_zero, List.append_assoc]
      rw [List.take_of_length_le (i := D.data.toList.length - 1) (by rw [List.length_drop]; exact Nat.le_refl _)]
      rfl
    · simp only [ap, ex, List.drop_zero, List.append_assoc]
      rfl
  · split
    · simp only [ap, List.append_assoc]
      rfl
    · split
      · simp only [ap, List.append_assoc]
      · simp only [ap, ex, List.drop_zero, List.append_assoc]
        rw [List.take_of_length_le (i := D.data.toList.length - p.toNat) (by rw [List.length_drop]; exact Nat.le_refl _)]
        rfl
/-- one call has one end -/
theorem one_endJ {f : FuncId} {xs : Array Value} {w : World} {R R' : Value → Prop} (h : Calls Tryz.prog f xs w fun e _ => ∃ v, e = .returned v ∧ R v) (h' : Calls Tryz.prog f xs w fun e _ => ∃ v, e = .returned v ∧ R' v) (hi : Tryz.prog.inits.idxOf? f = none) : ∃ v, R v ∧ R' v := by
  have g := Calls.done (R := fun v _ => R v) (h.mono fun e w' ⟨v, he, hr⟩ => by subst he; exact hr) hi
  have g' := Calls.done (R := fun v _ => R' v) (h'.mono fun e w' ⟨v, he, hr⟩ => by subst he; exact hr) hi
  obtain ⟨n, v, w1, e1, r1⟩ := g
  obtain ⟨m, v', w2, e2, r2⟩ := g'
  have a := runN_ended e1 m
  have b := runN_ended e2 n
  rw [Nat.add_comm, a] at b
  injection b with ho hw
  injection ho with hv
  subst hv
  exact ⟨_, r1, r2⟩
/-- what a float's text is: a sign, digits and a point -/
structure FtD (x : Nat) (D : List UInt8) (p : Int) : Prop where
  dig : Dgs D
  len : 1 ≤ D.length
  len2 : D.length ≤ 20
  lo : -400 ≤ p
  hi : p ≤ 400
  val : (x % 9223372036854775808 = 0 ∧ nvG D = 0) ∨ (x % 9223372036854775808 ≠ 0 ∧ nvG D ≠ 0 ∧ Rd (nvG D) (p - D.length) (x % 9223372036854775808))
theorem ft_form {x : Nat} (h : x < 18446744073709551616) (hb : fto.badF x = false) {w : World} (hF : fto.Fx w) : ∃ D p, FtD x D p ∧ (ftZ x).data.toList = (fto.sgB x).data.toList ++ layL D p := by
  have h2 : Calls Tryz.prog 70 #[.float .f64 x] w fun e _ => ∃ v, e = .returned v ∧ v = .string (ftZ x) := ((ftZ_ok h hb).1 w hF).mono fun e w' ⟨he, _⟩ => ⟨_, he, rfl⟩
  by_cases h0 : x % 9223372036854775808 = 0
  · have h1 : Calls Tryz.prog 70 #[.float .f64 x] w fun e _ => ∃ v, e = .returned v ∧ v = .string (fto.sgB x ++ ⟨#[48, 46, 48]⟩) := (fto.ftext_nought x w h h0).mono fun e w' ⟨he, _⟩ => ⟨_, he, rfl⟩
    obtain ⟨v, e1, e2⟩ := one_endJ h1 h2 (by kernel_rfl)
    rw [e1] at e2
    injection e2 with e3
    refine ⟨[48], 1, ⟨fun c hc => by simp at hc; subst hc; decide, by decide, by decide, by decide, by decide, .inl ⟨h0, rfl⟩⟩, ?_⟩
    rw [← e3]
    have : layL [48] 1 = [48, 46, 48] := by decide
    rw [this]
    simp
  · obtain ⟨d, q, hc, H⟩ := fto.ftext_any x h hb h0
    obtain ⟨hR, d1, d2, q1, q2⟩ := hc.rng
    have h1 : Calls Tryz.prog 70 #[.float .f64 x] w fun e _ => ∃ v, e = .returned v ∧ ∃ k, fto.Kept d k ∧ v = .string (fto.ftB x d k q) := (H w hF).mono fun e w' ⟨k, hk, he, _⟩ => ⟨_, he, k, hk, rfl⟩
    obtain ⟨v, ⟨k, hk, e1⟩, e2⟩ := one_endJ h1 h2 (by kernel_rfl)
    rw [e1] at e2
    injection e2 with e3
    have n4 : Lib.nDigits d ≤ 18 := fto.nd_le d1 (Nat.lt_of_le_of_lt d2 (by decide))
    have n1 := (fto.nd_pow d d1).2.2
    have hv := nv_dgs hk
    have hl : (strOfNums (fto.dgs d k)).data.toList.length = k := by rw [strOfNums_data, List.length_map, fto.dgs_len]
    refine ⟨(strOfNums (fto.dgs d k)).data.toList, (Lib.nDigits d : Int) + q, ⟨?_, by rw [hl]; exact hk.1, by rw [hl]; have := hk.2.1; omega, by omega, by omega, .inr ⟨h0, ?_, ?_⟩⟩, ?_⟩
    · rw [strOfNums_data]
      intro c hc
      obtain ⟨z, hz, rfl⟩ := List.mem_map.1 hc
      obtain ⟨h1, h2⟩ := fto.dgs_rng d k z hz
      rw [UInt8.toNat_ofNat_of_lt' (by show _ < 256; omega)]
      omega
    · intro e
      rw [e, Nat.zero_mul] at hv
      omega
    · rw [hl]
      have hk2 := hk.2.1
      generalize nvG (strOfNums (fto.dgs d k)).data.toList = N at *
      rw [hv] at hR
      have := rd_ten 400 (by omega) hR
      rw [show ((Lib.nDigits d : Int) + q - k) = q + ((Lib.nDigits d - k : Nat) : Int) by omega]
      exact this
    · rw [← e3, ← lay_list]
      show (fto.ftB x d k q).data.toList = _
      unfold fto.ftB
      simp
/-- the text behind the sign opens with a digit -/
theorem lay_head (D : List UInt8) (p : Int) (hD : Dgs D) (h1 : 1 ≤ D.length) : ∃ c r, layL D p = c :: r ∧ 48 ≤ c.toNat ∧ c.toNat ≤ 57 := by
  obtain ⟨c, r, rfl⟩ : ∃ c r, D = c :: r := by
    cases D with
    | nil => simp at h1
    | cons c r => exact ⟨c, r, rfl⟩
  have hc := hD c (List.mem_cons_self ..)
  unfold layL
  split
  · split <;> exact ⟨_, _, rfl, hc⟩
  · split
    · exact ⟨_, _, rfl, by decide, by decide⟩
    · split
      · exact ⟨_, _, rfl, hc⟩
      · rename_i h2 h3
        obtain ⟨n, hn⟩ : ∃ n, p.toNat = n + 1 := ⟨p.toNat - 1, by omega⟩
        rw [hn, List.take_succ_cons]
        exact ⟨_, _, rfl, hc⟩
/-- floats of one text are one -/
theorem ft_inj {x y : Nat} (hx : x < 18446744073709551616) (hbx : fto.badF x = false) (hy : y < 18446744073709551616) (hby : fto.badF y = false) {w : World} (hF : fto.Fx w) (h : (ftZ x).data.toList = (ftZ y).data.toList) : x = y := by
  obtain ⟨D, p, FD, e⟩ := ft_form hx hbx hF
  obtain ⟨D', p', FD', e'⟩ := ft_form hy hby hF
  rw [e, e'] at h
  obtain ⟨c, r, hl, c1, c2⟩ := lay_head D p FD.dig FD.len
  obtain ⟨c', r', hl', c1', c2'⟩ := lay_head D' p' FD'.dig FD'.len
  have hs : (9223372036854775808 ≤ x ↔ 9223372036854775808 ≤ y) ∧ layL D p = layL D' p' := by
    unfold fto.sgB at h
    by_cases sx : 9223372036854775808 ≤ x <;> by_cases sy : 9223372036854775808 ≤ y
    · simp only [sx, sy, if_true] at h ⊢
      exact ⟨trivial, by simpa using h⟩
    · simp only [sx, sy, if_true, if_false] at h
      rw [hl'] at h
      have : (45 : UInt8) = c' := by simpa using (List.cons.inj h).1
      rw [← this] at c1'
      exact absurd c1' (by decide)
    · simp only [sx, sy, if_true, if_false] at h
      rw [hl] at h
      have : c = (45 : UInt8) := by simpa using (List.cons.inj h).1
      rw [this] at c1
      exact absurd c1 (by decide)
    · simp only [sx, sy, if_false] at h ⊢
      exact ⟨trivial, by simpa using h⟩
  obtain ⟨s1, s2⟩ := hs
  obtain ⟨M, hM⟩ : ∃ M : Nat, M = 1000 := ⟨_, rfl⟩
  have hi := lay_inj M (by omega) FD.dig FD.len FD.len2 (by have := FD.lo; omega) (by have := FD.hi; omega) FD'.dig FD'.len FD'.len2 (by have := FD'.lo; omega) (by have := FD'.hi; omega) s2
  have l1 := FD.lo; have l2 := FD.len2; have l1' := FD'.lo; have l2' := FD'.len2
  have hp : ∀ n : Nat, 0 < 10 ^ n := fun n => Nat.pow_pos (by decide)
  have key : x % 9223372036854775808 = y % 9223372036854775808 := by
    rcases FD.val with ⟨z, nz⟩ | ⟨z, nz, R⟩ <;> rcases FD'.val with ⟨z', nz'⟩ | ⟨z', nz', R'⟩
    · omega
    · rw [nz, Nat.zero_mul] at hi
      rcases Nat.mul_eq_zero.1 hi.symm with g | g
      · exact absurd g nz'
      · have := hp ((M : Int) + p' - D'.length).toNat
        omega
    · rw [nz', Nat.zero_mul] at hi
      rcases Nat.mul_eq_zero.1 hi with g | g
      · exact absurd g nz
      · have := hp ((M : Int) + p - D.length).toNat
        omega
    · refine rd_uniq (M := M) (by omega) (by omega) (by omega) (by omega) R R' ?_
      rw [show p - (D.length : Int) + M = (M : Int) + p - D.length by omega, show p' - (D'.length : Int) + M = (M : Int) + p' - D'.length by omega]
      exact hi
  omega
end Go.Proofs.YtechaplindbfoaaGreatDoor.jsn
