import Derived.Test.YtjlaoeigfokkiaaGreatDoorBs25
import Derived.Test.YtjlaoeigfokkiaaGreatDoorBs28
import Derived.Test.YtjlaoeigfokkiaaGreatDoorBs13
import Derived.Deep.RegionHeld3
import Derived.Test.YtjlaoeigfokkiaaGreatDoorBs17
import Derived.Lib.LaidTab
import Derived.LaidMore
import Derived.OpenShut
import Derived.MakeChecks
import Derived.Shelf.Vars
import Derived.ProofKit
namespace Go.Proofs.YtjlaoeigfokkiaaGreatDoor.fto
open Go.ChangeShapes Go.WideShapes Go.ChangeAt Go.RowKit
open mem Go.Sort
open ints (hide unhide)
set_option linter.unusedVariables false
/-- the digits that are kept, as a number -/
theorem dv_dgs (d : Nat) : ∀ k, k ≤ Lib.nDigits d → dv (dgs d k) = d / 10 ^ (Lib.nDigits d - k) := by
  intro k
  induction k with
  | zero =>
    intro _
    rw [Nat.sub_zero, Nat.div_eq_of_lt (Lib.lt_pow_nDigits d)]
    rfl
  | succ k ih =>
    intro hk
    have e : dgs d (k + 1) = dgs d k ++ [dgt d (Lib.nDigits d) k] := by simp [dgs, List.range_succ]
    rw [e, dv_app, ih (by omega), dv_cons, dgt_eq]
    have e1 : Lib.nDigits d - k = (Lib.nDigits d - 1 - k) + 1 := by omega
    have e2 : Lib.nDigits d - (k + 1) = Lib.nDigits d - 1 - k := by omega
    rw [e1, e2, Nat.pow_succ, ← Nat.div_div_eq_div_mul]
    generalize d / 10 ^ (Lib.nDigits d - 1 - k) = y
    simp [dv]
    omega
theorem dgs_split (d k : Nat) (hk : k ≤ Lib.nDigits d) (h0 : ∀ j, k ≤ j → j < Lib.nDigits d → dgt d (Lib.nDigits d) j = 48) : dgs d (Lib.nDigits d) = dgs d k ++ List.replicate (Lib.nDigits d - k) 48 := by
  apply List.ext_getElem
  · simp [dgs_len]; omega
  · intro i h1 h2
    rw [dgs_len] at h1
    by_cases hi : i < k
    · rw [List.getElem_append_left (by rw [dgs_len]; exact hi)]
      simp [dgs]
    · rw [List.getElem_append_right (by rw [dgs_len]; omega), List.getElem_replicate]
      simp only [dgs, List.getElem_map, List.getElem_range]
      exact h0 i (by omega) h1
theorem kept_val {d k : Nat} (hk : Kept d k) : d = dv (dgs d k) * 10 ^ (Lib.nDigits d - k) := by
  obtain ⟨h1, h2, h3, h4⟩ := hk
  have e1 := dv_dgs d (Lib.nDigits d) (Nat.le_refl _)
  rw [Nat.sub_self, Nat.pow_zero, Nat.div_one, dgs_split d k h2 h3, dv_app, dv_zeros, List.length_replicate, Nat.add_zero] at e1
  exact e1.symm
theorem dgs_first (d k : Nat) (hd : 1 ≤ d) (hk : 1 ≤ k) : ∀ r, dgs d k ≠ 48 :: r := by
  intro r h
  rw [dgs_cons d k hk] at h
  have h0 : dgt d (Lib.nDigits d) 0 = 48 := by simpa using (List.cons.inj h).1
  rw [dgt_eq] at h0
  obtain ⟨a1, a2, a3⟩ := nd_pow d hd
  rw [Nat.sub_zero] at h0
  have hp : 0 < 10 ^ (Lib.nDigits d - 1) := Nat.pow_pos (by decide)
  have b1 : 1 ≤ d / 10 ^ (Lib.nDigits d - 1) := by rw [Nat.le_div_iff_mul_le hp, Nat.one_mul]; exact a1
  have b2 : d / 10 ^ (Lib.nDigits d - 1) < 10 := by
    rw [Nat.div_lt_iff_lt_mul hp]
    have : 10 * 10 ^ (Lib.nDigits d - 1) = 10 ^ Lib.nDigits d := by
      conv => rhs; rw [show Lib.nDigits d = (Lib.nDigits d - 1) + 1 by omega, Nat.pow_succ]
      rw [Nat.mul_comm]
    omega
  rw [Nat.mod_eq_of_lt b2] at h0
  omega
theorem trm_of {l : List Int} (h : ∀ r, l ≠ 48 :: r) : trm l = l := by
  unfold trm
  cases l with
  | nil => rfl
  | cons a r =>
    rw [List.dropWhile_cons, if_neg]
    simp
    exact fun e => h r (by rw [e])
theorem trm_zeros (n : Nat) (l : List Int) : trm (List.replicate n 48 ++ l) = trm l := by
  induction n with
  | zero => rfl
  | succ n ih =>
    rw [List.replicate_succ, List.cons_append]
    show List.dropWhile _ (48 :: _) = _
    rw [List.dropWhile_cons, if_pos (by decide)]
    exact ih
theorem rpB_eq (n : Nat) : rpB n = strOfNums (List.replicate n 48) := by
  have e : ∀ n, Lib.repeatL [48] n = u8s (List.replicate n 48) := by
    intro n
    induction n with
    | zero => rfl
    | succ n ih => rw [Lib.repeatL, ih, List.replicate_succ]; rfl
  unfold rpB
  rw [e]
  rfl
/-- what layOut writes is a number's text -/
theorem lay_text (K : List Int) (p : Int) (hK : Dg K) (hf : ∀ r, K ≠ 48 :: r) (k1 : 1 ≤ K.length) (k2 : K.length ≤ 19) (p0 : -390 ≤ p) (p1 : p ≤ 390) :
    ∃ (A F : List Int) (E : Option (Bool × List Int)) (j : Nat), layB (strOfNums K) p = strOfNums (A ++ (frL F ++ exL E)) ∧ Dg A ∧ A ≠ [] ∧ (∀ r, A = 48 :: r → r = []) ∧ Dg F ∧ exO E ∧ exS E ∧ A.length ≤ 1000 ∧ F.length ≤ 1000 ∧
      trm (A ++ F) = K ++ List.replicate j 48 ∧ pwr A F E = p ∧ ¬ (F = [] ∧ E = none) := by
  have hr : ∀ n, Dg (List.replicate n 48) := fun n z hz => by have := List.eq_of_mem_replicate hz; omega
  obtain ⟨a, K', rfl⟩ : ∃ a K', K = a :: K' := by
    cases K with
    | nil => simp at k1
    | cons a r => exact ⟨a, r, rfl⟩
  have ha : a ≠ 48 := fun e => hf K' (by rw [e])
  have htr := trm_of hf
  unfold layB
  rw [str_size]
  by_cases c1 : p < -5 ∨ 21 < p
  · rw [if_pos c1]
    refine ⟨[a], K', some (decide (p - 1 < 0), dz (p - 1).natAbs), 0, ?_, fun z hz => hK z (by simp at hz; simp [hz]), by simp, fun r h => by simp at h; exact absurd h.1 ha, hK.tail, ⟨dz_dg _, dz_ne _⟩, ?_, by simp, ?_, ?_, ?_, by simp⟩
    · unfold expB
      rw [str_size, itB_itZ]
      have e1 : (strOfNums (a :: K')).extract 0 1 = strOfNums [a] := ext_left [a] K'
      have e2 : (strOfNums (a :: K')).extract 1 (a :: K').length = strOfNums K' := ext_right [a] K' rfl rfl
      have e3 : (⟨#[46]⟩ : ByteArray) = strOfNums [46] := rfl
      have e4 : (⟨#[101]⟩ : ByteArray) = strOfNums [101] := rfl
      rw [e1, e2, e3, e4]
      by_cases h0 : K' = []
      · subst h0
        rw [if_neg (by simp), str_app, str_app]
        simp [frL, exL, itZ]
      · rw [if_pos (by have := List.length_pos_iff.2 h0; simp; omega), str_app, str_app, str_app, str_app]
        simp [frL, exL, itZ, h0]
    · have := dz_len (p - 1).natAbs (by omega)
      show (dz (p - 1).natAbs).length ≤ 10
      omega
    · simp at k2; omega
    · simp only [List.singleton_append, List.replicate_zero, List.append_nil]; exact htr
    · unfold pwr
      rw [List.singleton_append, htr]
      simp only [exV, dz_val, List.length_cons]
      by_cases h : p - 1 < 0
      · simp only [decide_eq_true h, if_true]; omega
      · simp only [decide_eq_false h, Bool.false_eq_true, if_false]; omega
  · rw [if_neg c1]
    have e46 : (⟨#[46]⟩ : ByteArray) = strOfNums [46] := rfl
    by_cases c2 : p ≤ 0
    · rw [if_pos c2]
      refine ⟨[48], List.replicate (-p).toNat 48 ++ a :: K', none, 0, ?_, fun z hz => by simp at hz; omega, by simp, fun r h => by simpa using h.symm, (hr _).app hK, trivial, trivial, by simp, ?_, ?_, ?_, by simp⟩
      · have e : (⟨#[48, 46]⟩ : ByteArray) = strOfNums [48, 46] := rfl
        rw [e, rpB_eq, str_app, str_app]
        simp [frL, exL]
      · simp at k2 ⊢; omega
      · rw [← List.append_assoc, List.singleton_append, ← List.replicate_succ, trm_zeros, htr]; simp
      · unfold pwr
        rw [← List.append_assoc, List.singleton_append, ← List.replicate_succ, trm_zeros, htr]
        simp [exV]
        omega
    · rw [if_neg c2]
      by_cases c3 : ((a :: K').length : Int) ≤ p
      · rw [if_pos c3]
        have hAf : ∀ r, (a :: K') ++ List.replicate (p.toNat - (a :: K').length) 48 ++ [48] ≠ 48 :: r := fun r h => by simp at h; exact ha h.1
        refine ⟨(a :: K') ++ List.replicate (p.toNat - (a :: K').length) 48, [48], none, p.toNat - (a :: K').length + 1, ?_, hK.app (hr _), by simp, fun r h => by simp at h; exact absurd h.1 ha, fun z hz => by simp at hz; omega, trivial, trivial, ?_, by simp, ?_, ?_, by simp⟩
        · have e : (⟨#[46, 48]⟩ : ByteArray) = strOfNums [46, 48] := rfl
          rw [e, rpB_eq, str_app, str_app]
          simp [frL, exL]
        · rw [List.length_append, List.length_replicate]; omega
        · rw [trm_of hAf, List.replicate_succ', List.append_assoc]
        · unfold pwr
          rw [trm_of hAf]
          simp only [exV, List.length_append, List.length_replicate, List.length_singleton]
          omega
      · rw [if_neg c3]
        have hsp : (a :: K').take p.toNat ++ (a :: K').drop p.toNat = a :: K' := List.take_append_drop _ _
        have l1 : ((a :: K').take p.toNat).length = p.toNat := by rw [List.length_take]; omega
        have hd0 : (a :: K').drop p.toNat ≠ [] := by
          intro h
          have := congrArg List.length h
          rw [List.length_drop] at this
          simp at this c3
          omega
        refine ⟨(a :: K').take p.toNat, (a :: K').drop p.toNat, none, 0, ?_, fun z hz => hK z (List.mem_of_mem_take hz), ?_, ?_, fun z hz => hK z (List.mem_of_mem_drop hz), trivial, trivial, ?_, ?_, ?_, ?_, fun h => hd0 h.1⟩
        · have e1 : (strOfNums (a :: K')).extract 0 p.toNat = strOfNums ((a :: K').take p.toNat) := by
            have := ext_left ((a :: K').take p.toNat) ((a :: K').drop p.toNat)
            rw [hsp, l1] at this
            exact this
          have e2 : (strOfNums (a :: K')).extract p.toNat (a :: K').length = strOfNums ((a :: K').drop p.toNat) := by
            have := ext_right ((a :: K').take p.toNat) ((a :: K').drop p.toNat) (k := p.toNat) (n := (a :: K').length) l1.symm (by rw [hsp])
            rw [hsp] at this
            exact this
          rw [e1, e2, e46, str_app, str_app]
          simp [frL, exL, hd0]
        · intro h
          have := congrArg List.length h
          rw [l1] at this
          simp at this
          omega
        · intro r h
          exfalso
          have : (a :: K').take p.toNat = a :: K'.take (p.toNat - 1) := by
            obtain ⟨m, hm⟩ : ∃ m, p.toNat = m + 1 := ⟨p.toNat - 1, by omega⟩
            rw [hm]; rfl
          rw [this] at h
          exact ha (List.cons.inj h).1
        · omega
        · rw [List.length_drop]; omega
        · rw [hsp, htr]; simp
        · unfold pwr
          rw [hsp, htr, List.length_drop]
          simp only [exV]
          omega
end Go.Proofs.YtjlaoeigfokkiaaGreatDoor.fto
namespace Go.Proofs.YtjlaoeigfokkiaaGreatDoor.fto
open Go.ChangeShapes Go.WideShapes Go.ChangeAt Go.RowKit
open mem Go.Sort
open ints (hide unhide)
set_option linter.unusedVariables false
def e125 : Nat := 1028
def u125 : Nat := 2 ^ e125
theorem m125 : midR 4638496509959077888 = 17592186044416001 * u125 ∧ midR 4638496509959077887 = 17592186044415999 * u125 ∧ k74 = 70368744177664 * u125 := by decide +kernel
theorem cmp_u (x1 x2 y u : Nat) (hu : 0 < u) : ((x1 * u < y * u ∨ (x1 * u = y * u ∧ 0 = 0)) ∧ (y * u < x2 * u ∨ (y * u = x2 * u ∧ 0 = 0))) ↔ x1 ≤ y ∧ y ≤ x2 := by
  rw [Nat.mul_lt_mul_right hu, Nat.mul_lt_mul_right hu, Nat.mul_right_cancel_iff hu, Nat.mul_right_cancel_iff hu]
  omega
theorem in125 (c E B : Nat) : InR (c * E * k74) B 4638496509959077888 ↔ B * 17592186044415999 ≤ c * E * 140737488355328 ∧ c * E * 140737488355328 ≤ B * 17592186044416001 := by
  obtain ⟨h1, h2, h3⟩ := m125
  have hu : 0 < u125 := Nat.two_pow_pos _
  have ha : 4638496509959077888 - 1 = 4638496509959077887 := rfl
  have hb : 4638496509959077888 % 2 = 0 := rfl
  unfold InR
  rw [ha, hb, h1, h2, h3]
  generalize u125 = u at *
  clear h1 h2 h3 ha hb
  have e1 : 2 * (c * E * (70368744177664 * u)) = c * E * 140737488355328 * u := by
    generalize c * E = z
    rw [← Nat.mul_assoc z, ← Nat.mul_assoc 2]
    congr 1
    omega
  have e2 : ∀ x, B * (x * u) = B * x * u := fun x => (Nat.mul_assoc _ _ _).symm
  rw [e1, e2, e2]
  clear e1 e2
  exact cmp_u _ _ _ u hu
theorem ch_125 {d : Nat} {q : Int} (h : Chosen 4638496509959077888 d q) : ∃ j : Nat, j ≤ 20 ∧ d = 125 * 10 ^ j ∧ q = -(j : Int) := by
  obtain ⟨s, t, p, Xv, W, dmin, dmax, r, F, rfl, rfl⟩ := h
  have key : ∀ c, 0 < c → (10 ^ p.toNat * 17592186044415999 ≤ c * 10 ^ (-p).toNat * 140737488355328 ∧ c * 10 ^ (-p).toNat * 140737488355328 ≤ 10 ^ p.toNat * 17592186044416001 ↔ dmin ≤ c ∧ c ≤ dmax) := fun c hc => by
    rw [← in125]; exact F.cin c hc
  have hd0 := F.d0
  have hne := F.ne
  have hwd := F.wd
  rcases Int.lt_or_le p 0 with hp | hp
  · exfalso
    have h1 := (key dmin hd0).2 ⟨Nat.le_refl _, hne⟩
    obtain ⟨m, hm⟩ : ∃ m : Nat, (-p).toNat = m + 1 := ⟨(-p).toNat - 1, by omega⟩
    rw [show p.toNat = 0 by omega, hm, Nat.pow_zero, Nat.pow_succ, ← Nat.mul_assoc] at h1
    generalize dmin * 10 ^ m = z at h1
    clear key F hwd hne hd0
    omega
  · rw [show (-p).toNat = 0 by omega] at key
    simp only [Nat.pow_zero, Nat.mul_one] at key
    rcases Nat.lt_or_ge p.toNat 15 with h15 | h15
    · have hN : 10 ^ p.toNat ≤ 10 ^ 14 := Nat.pow_le_pow_right (by decide) (by omega)
      have hN0 : 0 < 10 ^ p.toNat := Nat.pow_pos (by decide)
      have h1 := (key dmin hd0).2 ⟨Nat.le_refl _, hne⟩
      have h2 := (key dmax (by omega)).2 ⟨hne, Nat.le_refl _⟩
      have e1 : dmin = 125 * 10 ^ p.toNat := by omega
      have e2 : dmax = 125 * 10 ^ p.toNat := by omega
      cases hpp : p.toNat with
      | zero =>
        rw [hpp, Nat.pow_zero] at e1 e2
        refine ⟨0, by omega, ?_, ?_⟩
        · unfold chD; rw [e1, e2, if_neg (by decide), if_neg (by decide)]
        · unfold chQ; rw [e1, e2, if_neg (by decide)]; omega
      | succ m =>
        rw [hpp, Nat.pow_succ] at e1 e2
        have e3 : dmax / 10 = 125 * 10 ^ m := by omega
        have e4 : dmin ≤ dmax / 10 * 10 := by omega
        refine ⟨m, by omega, ?_, ?_⟩
        · unfold chD; rw [if_pos e4, e3]
        · unfold chQ; rw [if_pos e4]; omega
    · exfalso
      have hN : 10 ^ 15 ≤ 10 ^ p.toNat := Nat.pow_le_pow_right (by decide) h15
      have h1 := (key (125 * 10 ^ p.toNat - 7) (by omega)).1 ⟨by omega, by omega⟩
      have h2 := (key (125 * 10 ^ p.toNat + 7) (by omega)).1 ⟨by omega, by omega⟩
      omega
end Go.Proofs.YtjlaoeigfokkiaaGreatDoor.fto
namespace Go.Proofs.YtjlaoeigfokkiaaGreatDoor.fto
open Go.ChangeShapes Go.WideShapes Go.ChangeAt Go.RowKit
open mem Go.Sort
open ints (hide unhide)
set_option linter.unusedVariables false
/-- what Read answers: the float -/
def RdF (x : Nat) (s : ByteArray) : Prop := ∀ W, Fy W → Calls Tryz.prog 8 #[.string s] W fun e w' => e = .returned (.tuple #[.agg #[.int .i64 3, .int .i64 0, .float .f64 x], .int .i64 0]) ∧ Below W.heap.size W w'
/-- Read at a number's text whose digits are not all noughts -/
theorem read_text (ng : Bool) (A F : List Int) (E : Option (Bool × List Int)) (a : Nat) (hA : Dg A) (hA0 : A ≠ []) (hA1 : ∀ r, A = 48 :: r → r = []) (hF : Dg F) (hE : exO E) (hX : exS E) (lA : A.length ≤ 1000) (lF : F.length ≤ 1000) (hFE : ¬ (F = [] ∧ E = none))
    (hne : trm (A ++ F) ≠ []) (h19 : ∀ z ∈ (trm (A ++ F)).drop 19, z = 48) (hR : Rd (dv (trm (A ++ F))) (pwr A F E - (trm (A ++ F)).length) a) (ha : 0 < a) (hai : a < infR) :
    RdF (ng.toNat * 9223372036854775808 + a) (strOfNums (sgL ng ++ (A ++ (frL F ++ exL E)))) := by
  intro W hW
  have hai' : a < 9218868437227405312 := hai
  have hn1 := Bool.toNat_le ng
  have lfr : (frL F).length ≤ F.length + 1 := by unfold frL; split <;> simp
  have lsg : (sgL ng).length = ng.toNat := by cases ng <;> rfl
  have lex : (exL E).length ≤ 12 := by
    cases E with
    | none => simp [exL]
    | some q =>
      obtain ⟨g, X⟩ := q
      have : X.length ≤ 10 := hX
      cases g <;> simp [exL, sgL] <;> omega
  have lt := trm_len (A ++ F)
  rw [List.length_append] at lt
  have hbt : Bt (sgL ng ++ (A ++ (frL F ++ exL E))) := by
    refine (sg_bt ng).app (hA.bt.app (Bt.app ?_ ?_))
    · unfold frL
      split
      · exact Bt.nil
      · exact .cons (by omega) hF.bt
    · cases E with
      | none => exact Bt.nil
      | some q => exact .cons (by omega) ((sg_bt q.1).app hE.1.bt)
  refine read_in _ _ W hW ?_ (by omega) ?_ ?_ (fun W' hW' => nearest_text ng A F E _ W' hW' hA hA0 hF hE hX (by omega) (by omega) (fun W2 hW2 => pf_text ng _ _ a (trm_dg (hA.app hF)) hne (fun r h => trm_head (A ++ F) 48 r h rfl) (by omega) h19 ?_ hR ha hai W2 hW2))
  · rw [str_size]; simp only [List.length_append]; omega
  · unfold badF
    rw [decide_eq_false_iff_not]
    rcases (show ng.toNat = 0 ∨ ng.toNat = 1 by omega) with h | h <;> rw [h] <;> omega
  · rw [bytZ_str _ hbt, str_size]
    have := pfx_text ng A F E hA hA0 hA1 hF hE
    rw [if_neg hFE] at this
    exact this
  · unfold pwr; omega
theorem read_nought (ng : Bool) : RdF (ng.toNat * 9223372036854775808) (strOfNums (sgL ng ++ [48, 46, 48])) := by
  intro W hW
  have hn1 := Bool.toNat_le ng
  have h48 : Dg [48] := fun z hz => by simp at hz; omega
  have e : sgL ng ++ [48, 46, 48] = sgL ng ++ ([48] ++ (frL [48] ++ exL none)) := by simp [frL, exL]
  have hbt : Bt (sgL ng ++ [48, 46, 48]) := (sg_bt ng).app (.cons (by omega) (.cons (by omega) (.cons (by omega) Bt.nil)))
  have e2 : trm ([48] ++ [48]) = [] := by decide
  have e3 : pwr [48] [48] none = -1 := by decide
  refine read_in _ _ W hW ?_ (by omega) ?_ ?_ (fun W' hW' => ?_)
  · rw [str_size]; simp only [List.length_append]; cases ng <;> simp [sgL]
  · unfold badF
    rw [decide_eq_false_iff_not]
    rcases (show ng.toNat = 0 ∨ ng.toNat = 1 by omega) with h | h <;> rw [h] <;> omega
  · rw [bytZ_str _ hbt, str_size]
    have := pfx_text ng [48] [48] none h48 (by simp) (fun r h => by simpa using h.symm) h48 trivial
    rw [← e] at this
    exact this
  · rw [e]
    refine nearest_text ng [48] [48] none _ W' hW' h48 (by simp) h48 trivial trivial (by simp) (by simp) (fun W2 hW2 => ?_)
    rw [e2, e3]
    exact pf_text0 ng (-1) (by decide) W2 hW2
theorem sgB_sgL (x : Nat) : sgB x = strOfNums (sgL (decide (9223372036854775808 ≤ x))) := by
  unfold sgB
  by_cases h : 9223372036854775808 ≤ x
  · rw [if_pos h, decide_eq_true h]; rfl
  · rw [if_neg h, decide_eq_false h]; rfl
theorem sg_part (x : Nat) (h : x < 18446744073709551616) : (decide (9223372036854775808 ≤ x)).toNat * 9223372036854775808 + x % 9223372036854775808 = x := by
  by_cases hx : 9223372036854775808 ≤ x
  · rw [decide_eq_true hx]; simp; omega
  · rw [decide_eq_false hx]; simp; omega
/-- what FloatText writes is read as that very float -/
theorem ft_read (x d k : Nat) (q : Int) (h : x < 18446744073709551616) (hb : badF x = false) (h0 : x % 9223372036854775808 ≠ 0) (hc : Chosen (x % 9223372036854775808) d q) (hk : Kept d k) : RdF x (ftB x d k q) := by
  obtain ⟨r1, d1, d2, q1, q2⟩ := hc.rng
  have n4 : Lib.nDigits d ≤ 18 := nd_le d1 (Nat.lt_of_le_of_lt d2 (by decide))
  obtain ⟨k1, k2, k3, k4⟩ := hk
  have hr : x % 9223372036854775808 < infR := by unfold badF at hb; have := of_decide_eq_false hb; unfold infR; omega
  have hKl := dgs_len d k
  obtain ⟨A, F, E, j, e1, hA, hA0, hA1, hF, hE, hX, lA, lF, ht, hp, hFE⟩ := lay_text (dgs d k) ((Lib.nDigits d : Int) + q) (dgs_rng d k) (dgs_first d k d1 k1) (by omega) (by omega) (by omega) (by omega)
  have hv := kept_val (d := d) (k := k) ⟨k1, k2, k3, k4⟩
  have hR : Rd (dv (trm (A ++ F))) (pwr A F E - (trm (A ++ F)).length) (x % 9223372036854775808) := by
    rw [ht, dv_app, dv_zeros, List.length_replicate, Nat.add_zero, hp, List.length_append, List.length_replicate, hKl]
    rw [rd_scale]
    rw [hv, rd_scale] at r1
    rw [show (Lib.nDigits d : Int) + q - ((k + j : Nat) : Int) + (j : Int) = q + ((Lib.nDigits d - k : Nat) : Int) by omega]
    exact r1
  have := read_text (decide (9223372036854775808 ≤ x)) A F E (x % 9223372036854775808) hA hA0 hA1 hF hE hX lA lF hFE (by
    rw [ht]
    intro hh
    have := congrArg List.length hh
    rw [List.length_append, hKl] at this
    simp at this
    omega) (by
    rw [ht]
    intro z hz
    rw [List.drop_append, List.drop_eq_nil_of_le (by omega), List.nil_append] at hz
    exact List.eq_of_mem_replicate (List.mem_of_mem_drop hz)) hR (by omega) hr
  rw [sg_part x h] at this
  unfold ftB
  rw [sgB_sgL, e1, str_app]
  exact this
/-- FloatText at a finite float, and what Read makes of it -/
theorem ft_back (x : Nat) (h : x < 18446744073709551616) (hb : badF x = false) (w : World) (hW : Fy w) :
    Calls Tryz.prog 11 #[.float .f64 x] w fun e w' => ∃ s, e = .returned (.string s) ∧ RdF x s ∧ Below w.heap.size w w' := by
  by_cases h0 : x % 9223372036854775808 = 0
  · refine (ftext_nought x w h h0).mono ?_
    rintro e w1 ⟨rfl, b1⟩
    refine ⟨_, rfl, ?_, b1⟩
    have := read_nought (decide (9223372036854775808 ≤ x))
    have e1 := sg_part x h
    rw [h0, Nat.add_zero] at e1
    rw [e1, ← str_app, ← sgB_sgL] at this
    exact this
  · obtain ⟨d, q, hc, H⟩ := ftext_any x h hb h0
    refine (H w hW.fx).mono ?_
    rintro e w1 ⟨k, hk, rfl, b1⟩
    exact ⟨_, rfl, ft_read x d k q h hb h0 hc hk, b1⟩
end Go.Proofs.YtjlaoeigfokkiaaGreatDoor.fto
namespace Go.Proofs.YtjlaoeigfokkiaaGreatDoor.fto
open Go.ChangeShapes Go.WideShapes Go.ChangeAt Go.RowKit
open mem Go.Sort
open ints (hide unhide)
set_option linter.unusedVariables false
theorem dgt_125 (j i : Nat) (h3 : i < 3 + j) : dgt (125 * 10 ^ j) (3 + j) i = if i = 0 then 49 else if i = 1 then 50 else if i = 2 then 53 else 48 := by
  rw [dgt_eq]
  have hj : 0 < 10 ^ j := Nat.pow_pos (by decide)
  by_cases h0 : i = 0
  · subst h0
    rw [if_pos rfl, show 3 + j - 1 - 0 = j + 2 by omega, Nat.pow_add, ← Nat.div_div_eq_div_mul, Nat.mul_div_cancel _ hj]
    rfl
  · rw [if_neg h0]
    by_cases h1 : i = 1
    · subst h1
      rw [if_pos rfl, show 3 + j - 1 - 1 = j + 1 by omega, Nat.pow_add, ← Nat.div_div_eq_div_mul, Nat.mul_div_cancel _ hj]
      rfl
    · rw [if_neg h1]
      by_cases h2 : i = 2
      · subst h2
        rw [if_pos rfl, show 3 + j - 1 - 2 = j by omega, Nat.mul_div_cancel _ hj]
        rfl
      · rw [if_neg h2]
        obtain ⟨m, hm⟩ : ∃ m, j = (3 + j - 1 - i) + 1 + m := ⟨i - 3, by omega⟩
        have e : 125 * 10 ^ j / 10 ^ (3 + j - 1 - i) = 125 * 10 ^ m * 10 := by
          have hp : 0 < 10 ^ (3 + j - 1 - i) := Nat.pow_pos (by decide)
          have : 125 * 10 ^ j = 125 * 10 ^ m * 10 * 10 ^ (3 + j - 1 - i) := by
            conv => lhs; rw [hm, Nat.pow_add, Nat.pow_add]
            generalize 10 ^ (3 + j - 1 - i) = y
            generalize 10 ^ m = z
            rw [Nat.pow_one, Nat.mul_comm (y * 10) z, Nat.mul_comm y 10, ← Nat.mul_assoc z 10 y, ← Nat.mul_assoc 125, ← Nat.mul_assoc 125]
          rw [this, Nat.mul_div_cancel _ hp]
        rw [e]
        omega
theorem nd_125 (j : Nat) : Lib.nDigits (125 * 10 ^ j) = 3 + j := by
  have := Lib.nDigits_unique (2 + j) (125 * 10 ^ j) (by
    rw [Nat.pow_add]
    exact Nat.mul_le_mul_right _ (by decide)) (by
    rw [show 2 + j + 1 = 3 + j by omega, Nat.pow_add]
    exact Nat.mul_lt_mul_of_pos_right (by decide) (Nat.pow_pos (by decide)))
  omega
/-- FloatText(-125) -/
theorem text_125 {d k : Nat} {q : Int} (hc : Chosen 4638496509959077888 d q) (hk : Kept d k) : ftB 13861868546813853696 d k q = ⟨#[45, 49, 50, 53, 46, 48]⟩ := by
  obtain ⟨j, -, rfl, rfl⟩ := ch_125 hc
  obtain ⟨k1, k2, k3, k4⟩ := hk
  rw [nd_125] at k2 k3 k4
  have hk3 : k = 3 := by
    have h1 : k ≤ 3 := by
      rcases Nat.lt_or_ge 3 k with h | h
      · exfalso
        apply k4
        rw [dgt_125 j (k - 1) (by omega), if_neg (by omega), if_neg (by omega), if_neg (by omega)]
      · exact h
    rcases Nat.lt_or_ge k 3 with h | h
    · exfalso
      have := k3 2 (by omega) (by omega)
      rw [dgt_125 j 2 (by omega)] at this
      simp at this
    · omega
  subst hk3
  have e1 : dgs (125 * 10 ^ j) 3 = [49, 50, 53] := by
    unfold dgs
    rw [nd_125]
    have a0 := dgt_125 j 0 (by omega)
    have a1 := dgt_125 j 1 (by omega)
    have a2 := dgt_125 j 2 (by omega)
    simp only [List.range, List.range.loop, List.map_cons, List.map_nil, a0, a1, a2]
    rfl
  unfold ftB
  rw [e1, nd_125, show ((3 + j : Nat) : Int) + -(j : Int) = 3 by omega]
  unfold layB
  rw [if_neg (by decide), if_neg (by decide), str_size]
  simp only [List.length_cons, List.length_nil]
  rw [if_pos (by decide), rpB_eq]
  rfl
theorem rd_125 : RdF 13861868546813853696 ⟨#[45, 49, 50, 46, 53, 101, 49]⟩ := by
  have hd : ∀ l : List Int, (l.all fun z => decide (48 ≤ z) && decide (z ≤ 57)) = true → Dg l := fun l h z hz => by
    have := List.all_eq_true.1 h z hz
    simp at this
    exact this
  have e : trm ([49, 50] ++ [53]) = [49, 50, 53] := by decide
  have e2 : pwr [49, 50] [53] (some (false, [49])) = 3 := by decide
  have := read_text true [49, 50] [53] (some (false, [49])) 4638496509959077888 (hd _ (by decide)) (by simp) (fun r h => by simp at h) (hd _ (by decide)) ⟨hd _ (by decide), by simp⟩ (show ([49] : List Int).length ≤ 10 by decide) (by simp) (by simp) (by simp) (by rw [e]; simp) (by rw [e]; simp) (by
    rw [e, e2]
    have h1 : dv [49, 50, 53] = 125 := by decide
    rw [h1]
    rw [show (3 : Int) - (([49, 50, 53] : List Int).length : Int) = 0 from rfl]
    unfold Rd
    rw [in125]
    decide) (by decide) (by decide)
  exact this
theorem rd_907 (W : World) : Calls Tryz.prog 8 #[.string ⟨#[57, 48, 55]⟩] W fun e w' => e = .returned (.tuple #[.agg #[.int .i64 2, .int .i64 907, .float .f64 0], .int .i64 0]) ∧ Below W.heap.size W w' := by
  have := read_whole 907 (by decide) (by decide) W
  have e : itB 907 = ⟨#[57, 48, 55]⟩ := by
    rw [itB_itZ]
    unfold itZ
    rw [show (907 : Int).natAbs = 907 from rfl, dz_big (by decide), dz_big (by decide), dz_small (by decide)]
    rfl
  rw [e] at this
  exact this
theorem ft_125 (w : World) (hW : Fy w) : Calls Tryz.prog 11 #[.float .f64 13861868546813853696] w fun e w' => e = .returned (.string ⟨#[45, 49, 50, 53, 46, 48]⟩) ∧ Below w.heap.size w w' := by
  obtain ⟨d, q, hc, H⟩ := ftext_any 13861868546813853696 (by decide) (by decide) (by decide)
  refine (H w hW.fx).mono ?_
  rintro e w1 ⟨k, hk, rfl, b1⟩
  exact ⟨by rw [text_125 hc hk], b1⟩
theorem ord_125 : (FloatKind.f64.format.order 13861868546813853696 13861868546813853696 == some Ordering.eq) = true := by decide +kernel
set_option maxHeartbeats 1000000 in
set_option maxRecDepth 100000 in
/-- what the document fixes -/
theorem fixed_ok (w : World) (hW : Fy w) : Calls Tryz.prog 7 #[] w fun e w' => e = .returned (.bool true) ∧ Below w.heap.size w w' := by
  have R1 := hide rd_125
  have R2 := hide rd_907
  have R3 := hide ft_125
  have HF := hide hW
  have ho := ord_125
  have hsf := fun (a : Addr) (n : Nat) (w : World) => run_store Tryz.prog w a (.float .f64 n) .plain rfl
  clear hW
  go_enter Tryz.func7, Tryz.ntmps7
  go_wp2_with fail
  refine (unhide R1 _ (unhide HF)).mono ?_
  rintro e w1 ⟨rfl, b1⟩
  have F1 := hide ((unhide HF).below b1)
  have B1 := hide b1
  clear b1 R1
  go_wp2_with fail
  refine (unhide R2 _).mono ?_
  rintro e w2 ⟨rfl, b2⟩
  have hz : (w1.alloc (.cells #[.int .i64 3, .int .i64 0, .float .f64 13861868546813853696] 27)).heap.size = w1.heap.size + 1 := by simp
  rw [hz] at b2
  have hb2 : w2.heap[w1.heap.size]? = some (.cells #[.int .i64 3, .int .i64 0, .float .f64 13861868546813853696] 27 (0, 0)) := (b2.block w1.heap.size (by omega)).trans (heap_alloc_new w1 _)
  have x2 : Below w1.heap.size w1 w2 := ((Below.refl _ _).alloc (Nat.le_refl _) _).trans (b2.mono (by omega))
  have z2 : w1.heap.size < w2.heap.size := by have := b2.size; rw [hz] at this; omega
  have F2 := hide ((unhide F1).below x2)
  have B2 := hide ((unhide B1).trans (x2.mono (unhide B1).size))
  have bA : ∀ o, Below w2.heap.size w2 (w2.alloc o) := fun o => (Below.refl _ _).alloc (Nat.le_refl _) o
  have c0 : ∀ o, (w2.alloc o).cell? ⟨w1.heap.size, 0, none⟩ = some (.int .i64 3) := fun o => by rw [(bA o).cell (p := ⟨w1.heap.size, 0, none⟩) z2]; simp [World.cell?, hb2]
  have c2 : ∀ o, (w2.alloc o).cell? ⟨w1.heap.size, 2, none⟩ = some (.float .f64 13861868546813853696) := fun o => by rw [(bA o).cell (p := ⟨w1.heap.size, 2, none⟩) z2]; simp [World.cell?, hb2]
  clear b2 hb2 x2 z2 F1 B1 R2 bA hz
  go_wp2_with fail
  refine (unhide R3 _ ((unhide F2).below ((Below.refl _ _).alloc (Nat.le_refl _) _))).mono ?_
  rintro e w3 ⟨rfl, b3⟩
  have B3 := hide ((unhide B2).trans ((((Below.refl w2.heap.size w2).alloc (Nat.le_refl _) _).trans (b3.mono (by simp))).mono (unhide B2).size))
  clear b3
  go_wp2
  go_ret
  exact ⟨rfl, unhide B3⟩
end Go.Proofs.YtjlaoeigfokkiaaGreatDoor.fto
namespace Go.Proofs.YtjlaoeigfokkiaaGreatDoor.fto
open Go.ChangeShapes Go.WideShapes Go.ChangeAt Go.RowKit
open mem Go.Sort
open ints (hide unhide)
set_option linter.unusedVariables false
theorem cell_of {w : World} {b : Nat} {arr : Array Value} {t : TypeId} {fr : Nat × Nat} (h : w.heap[b]? = some (.cells arr t fr)) (o : Nat) : w.cell? ⟨b, o, none⟩ = arr[o]? := by
  simp [World.cell?, h]
theorem gd_mem {zs : List Int} {k : Nat} (h : k < zs.length) : zs.getD k 0 ∈ zs := by
  rw [List.getD_eq_getElem?_getD, List.getElem?_eq_getElem h]
  exact List.getElem_mem h
theorem wf_u64 {zs : List Int} (h : ∀ z ∈ zs, (Lit.int .u64 z).wf = true) : ∀ z ∈ zs, 0 ≤ z ∧ z < 18446744073709551616 := fun z hz => by
  have := h z hz
  simp [Lit.wf, IntKind.min, IntKind.max, IntKind.signed, IntKind.bits] at this
  omega
theorem wf_i64 {zs : List Int} (h : ∀ z ∈ zs, (Lit.int .i64 z).wf = true) : ∀ z ∈ zs, -9223372036854775808 ≤ z ∧ z ≤ 9223372036854775807 := fun z hz => by
  have := h z hz
  simp [Lit.wf, IntKind.min, IntKind.max, IntKind.signed, IntKind.bits] at this
  omega
end Go.Proofs.YtjlaoeigfokkiaaGreatDoor.fto
namespace Go.Proofs.YtjlaoeigfokkiaaGreatDoor.fto
open Go.ChangeShapes Go.WideShapes Go.ChangeAt Go.RowKit
open mem Go.Sort
open ints (hide unhide)
set_option linter.unusedVariables false
set_option linter.unusedSimpArgs false
/-- the law's isNumber, by what Read answers -/
theorem isNum_in (s : ByteArray) (k i : Int) (f : Nat) (e : Int) (w : World) (RD : Calls Tryz.prog 8 #[.string s] w fun x w' => x = .returned (.tuple #[.agg #[.int .i64 k, .int .i64 i, .float .f64 f], .int .i64 e]) ∧ Below w.heap.size w w') :
    Calls Tryz.prog 14 #[.string s] w fun x w' => x = .returned (.bool (e != 20)) ∧ Below w.heap.size w w' := by
  have HR := hide RD
  have hsf := fun (a : Addr) (n : Nat) (w : World) => run_store Tryz.prog w a (.float .f64 n) .plain rfl
  clear RD
  go_enter Tryz.func14, Tryz.ntmps14
  go_wp2_with fail
  refine (unhide HR).mono ?_
  rintro x w1 ⟨rfl, b1⟩
  have B1 := hide b1
  clear b1 HR
  go_wp2
  go_ret
  exact ⟨rfl, (unhide B1).alloc (unhide B1).size _⟩
theorem RdV.num {l : List Int} {k i : Int} {f : Nat} {e : Int} (h : RdV l k i f e) : (e != 20) = numP l := by
  have key : ∀ {ng : Bool} {A F : List Int} {E : Option (Int × Option Bool × List Int)}, NumT l ng A F E → numP l = true := fun h => by
    unfold numP
    rw [h.num]
    split <;> decide
  cases h with
  | none h => rw [h]; rfl
  | int ng A h hr => rw [key h]; rfl
  | flt ng A F E R h hn hR h1 => rw [key h]; rfl
  | big ng A F E h hn hR => rw [key h]; rfl
/-- the law's isNumber -/
theorem isNum_ok (s : ByteArray) (hs : s.size ≤ 1050000) (w : World) (hW : dcm.Fz w) :
    Calls Tryz.prog 14 #[.string s] w fun x w' => x = .returned (.bool (numP (bytZ s))) ∧ Below w.heap.size w w' := by
  obtain ⟨k, i, f, e, h, C⟩ := read_any s hs
  rw [← h.num]
  exact isNum_in s k i f e w (C w hW)
/-- the law's float at a finite one -/
theorem float_f (s : ByteArray) (f : Nat) (w : World) (RD : Calls Tryz.prog 8 #[.string s] w fun x w' => x = .returned (.tuple #[.agg #[.int .i64 3, .int .i64 0, .float .f64 f], .int .i64 0]) ∧ Below w.heap.size w w') :
    Calls Tryz.prog 18 #[.string s] w fun x w' => x = .returned (.tuple #[.float .f64 f, .bool true]) ∧ Below w.heap.size w w' := by
  have HR := hide RD
  have hsf := fun (a : Addr) (n : Nat) (w : World) => run_store Tryz.prog w a (.float .f64 n) .plain rfl
  clear RD
  go_enter Tryz.func18, Tryz.ntmps18
  go_wp2_with fail
  refine (unhide HR).mono ?_
  rintro x w1 ⟨rfl, b1⟩
  obtain ⟨WN, hWN⟩ : ∃ WN, WN = w1.alloc (.cells #[.int .i64 3, .int .i64 0, .float .f64 f] 27) := ⟨_, rfl⟩
  have d0 : WN.cell? ⟨w1.heap.size, 0, none⟩ = some (.int .i64 3) := by rw [hWN]; exact cell_of (heap_alloc_new _ _) _
  have d2 : WN.cell? ⟨w1.heap.size, 2, none⟩ = some (.float .f64 f) := by rw [hWN]; exact cell_of (heap_alloc_new _ _) _
  have HBN := hide (show Below w.heap.size w WN by rw [hWN]; exact b1.alloc b1.size _)
  clear b1 HR
  go_wp2
  rw [← hWN]
  clear hWN
  go_region_held3 (fun w' => w'.cell? ⟨w1.heap.size, 0, none⟩ = some (.int .i64 3) ∧ w'.cell? ⟨w1.heap.size, 2, none⟩ = some (.float .f64 f)) (go_keep) (fail)
  go_wp2
  go_ret2
  exact ⟨rfl, (unhide HBN).drew⟩
/-- and beyond the floats -/
theorem float_b (s : ByteArray) (w : World) (RD : Calls Tryz.prog 8 #[.string s] w fun x w' => x = .returned (.tuple #[.agg #[.int .i64 0, .int .i64 0, .float .f64 0], .int .i64 7]) ∧ Below w.heap.size w w') :
    Calls Tryz.prog 18 #[.string s] w fun x w' => x = .returned (.tuple #[.float .f64 9218868437227405312, .bool true]) ∧ Below w.heap.size w w' := by
  have HR := hide RD
  have FA := fun W => run_frombits 9218868437227405312 W
  have hsf := fun (a : Addr) (n : Nat) (w : World) => run_store Tryz.prog w a (.float .f64 n) .plain rfl
  clear RD
  go_enter Tryz.func18, Tryz.ntmps18
  go_wp2_with fail
  refine (unhide HR).mono ?_
  rintro x w1 ⟨rfl, b1⟩
  have B1 := hide b1
  clear b1 HR
  go_wp2
  go_ret2
  exact ⟨rfl, (unhide B1).alloc (unhide B1).size _⟩
/-- the law's float at a number's text that is no whole number -/
theorem float_ok (s : ByteArray) (hs : s.size ≤ 1050000) (A F : List Int) (E : Option (Int × Option Bool × List Int)) (h : NumT (bytZ s) false A F E) (hn : ¬ isW false A F E) (R : Nat) (hR : FlV A F E R) (w : World) (hW : dcm.Fz w) :
    Calls Tryz.prog 18 #[.string s] w fun x w' => x = .returned (.tuple #[.float .f64 R, .bool true]) ∧ Below w.heap.size w w' := by
  have hl := hR.le
  by_cases hi : R < infR
  · have := read_f s hs false A F E h hn R hR hi w hW
    rw [show (false.toNat * 9223372036854775808 + R) = R by simp] at this
    exact float_f s R w this
  · obtain rfl : R = infR := by omega
    exact float_b s w (read_b s hs false A F E h hn hR w hW)
theorem FlV.mono {A F A' F' : List Int} {E : Option (Int × Option Bool × List Int)} {R R' : Nat} (hl : F.length = F'.length) (h : dv (A ++ F) ≤ dv (A' ++ F')) (hR : FlV A F E R) (hR' : FlV A' F' E R') : R ≤ R' := by
  obtain ⟨lo, hlo, rfl⟩ := hR
  obtain ⟨lo', hlo', rfl⟩ := hR'
  refine dcm.cpR_mono (dcm.round_mono (Nat.pow_pos (by decide)) (Nat.pow_pos (by decide)) hlo hlo' ?_)
  rw [dv_trm, dv_trm, hl]
  exact Nat.mul_le_mul_right _ (Nat.mul_le_mul_right _ (Nat.mul_le_mul_right _ h))
/-- floats that are not negative are held against each other as their bits -/
theorem ord_le {a b : Nat} (h : a ≤ b) (hb : b ≤ infR) : FloatKind.f64.format.order a b = some .lt ∨ FloatKind.f64.format.order a b = some .eq := by
  have hi : infR = 9218868437227405312 := rfl
  have wa := dcm.word_S 0 a false (by simp) (by omega)
  have wb := dcm.word_S 0 b false (by simp) (by omega)
  rw [Nat.zero_add] at wa wb
  rw [← wa, ← wb]
  by_cases ha' : a < 9218868437227405312 <;> by_cases hb' : b < 9218868437227405312
  · rw [order_word false false a b ha' hb']
    rcases Nat.lt_or_ge a b with q | q
    · left
      have := vR_mono q
      refine congrArg some (Int.compare_eq_lt.2 ?_)
      unfold sv
      simp only [Bool.false_eq_true, if_false]
      omega
    · right
      obtain rfl : a = b := by omega
      exact congrArg some (Int.compare_eq_eq.2 rfl)
  · left
    have e2 : b = 9218868437227405312 := by omega
    subst e2
    show ((FloatKind.f64.decode _).order (FloatKind.f64.decode _)) = _
    rw [dec_fin false a ha', dec_inf]
    rfl
  · omega
  · right
    have e2 : b = 9218868437227405312 := by omega
    have e1 : a = 9218868437227405312 := by omega
    subst e2
    subst e1
    show ((FloatKind.f64.decode _).order (FloatKind.f64.decode _)) = _
    rw [dec_inf]
    rfl
end Go.Proofs.YtjlaoeigfokkiaaGreatDoor.fto
namespace Go.Proofs.YtjlaoeigfokkiaaGreatDoor.dcw
open Go.ChangeShapes Go.WideShapes Go.ChangeAt Go.RowKit
open mem Go.Sort
open ints (hide unhide)
set_option linter.unusedVariables false
set_option linter.unusedSimpArgs false
/-- a listed variable's cells, and what they read as -/
theorem lead {P : Program} {W : World} {name : String} {d : DataW Unit} {rest : List (String × DataW Unit)} (h : laidMet P ((name, d) :: rest) W) {g : Nat} {t : TypeId} (hg : P.globalNamed name = some g) (ht : (P.globals[g]?).map (·.type) = some t) :
    ∃ (cs : Array Value) (fuel : Nat) (p : List MemPlace), (∀ i, W.cell? ⟨g, i, none⟩ = cs[i]?) ∧ DataW.trod (fun _ => ()) P W 0 (fun _ => true) false fuel t cs.toList = some (d, p) := by
  obtain ⟨ps, ⟨g', t', cs, fuel, p, q, hg', ht', hvar, hd, _, _⟩, _⟩ := h
  obtain rfl := Option.some.inj (hg.symm.trans hg')
  obtain rfl := Option.some.inj (ht.symm.trans ht')
  exact ⟨cs, fuel, p, fun i => World.var?_cell hg hvar i, hd⟩
theorem cell_lt {W : World} {g i : Nat} {v : Value} (h : W.cell? ⟨g, i, none⟩ = some v) : g < W.heap.size := by
  rcases Nat.lt_or_ge g W.heap.size with hh | hh
  · exact hh
  · simp [World.cell?, Array.getElem?_eq_none hh] at h
theorem spot_none {W : World} {a : Addr} {v : Value} (h : W.cell? a = some v) : a.spot = none := by
  unfold World.cell? at h
  split at h
  · split at h
    · cases h
    · rename_i hs
      cases hq : a.spot with
      | none => rfl
      | some x => rw [hq] at hs; simp at hs
  · cases h
theorem trod_float {H : Type} {enc : TypeId × Value → H} {P : Program} {w : World} {base : Nat} {sp : Nat → Bool} {held : Bool} {fuel : Nat} {t : TypeId} {cs : List Value} {x : DataW H × List MemPlace} {k : FloatKind} (ht : P.underlying t = some (.float k)) (h : DataW.trod enc P w base sp held fuel t cs = some x) : ∃ n, cs = [.float k n] ∧ x = (.lit (.float k n), []) := by
  cases fuel with
  | zero => simp [DataW.trod] at h
  | succ m =>
    unfold DataW.trod at h
    rw [ht] at h
    split at h <;> simp_all
theorem gPw : Tryz.prog.globalNamed "internal/strconv.powtab" = some 13 := by kernel_rfl
theorem gPwT : (Tryz.prog.globals[13]?).map (·.type) = some 228 := by kernel_rfl
theorem gFi : Tryz.prog.globalNamed "internal/strconv.float64info" = some 9 := by kernel_rfl
theorem gFiT : (Tryz.prog.globals[9]?).map (·.type) = some 199 := by kernel_rfl
/-- the table of shifts, out of the row's list -/
theorem pw_of {W : World} {rest : List (String × DataW Unit)} (h : laidMet Tryz.prog (("internal/strconv.powtab", Rows.laid_internal_strconv_powtab) :: rest) W) : dcm.PW W W.heap.size := by
  obtain ⟨cs, fuel, p, hc, hd⟩ := lead h gPw gPwT
  have hce : Tryz.prog.cellsOf 3 = 1 := by kernel_rfl
  have ed : (Rows.laid_internal_strconv_powtab : DataW Unit) = .slice ([1, 3, 6, 9, 13, 16, 19, 23, 26].map fun r : Nat => .lit (.int .i64 (r : Int))) [] := by rfl
  rw [ed] at hd
  obtain ⟨a, cap, hcs, hcap, hcell⟩ := open_row Tryz.underlying228 hce hd
  have key : ∀ (i r : Nat), [1, 3, 6, 9, 13, 16, 19, 23, 26][i]? = some r → W.cell? (a.add i) = some (.int .i64 (r : Int)) := fun i r hr => by
    obtain ⟨v, n, q, hv, ht⟩ := hcell i (.lit (.int .i64 (r : Int))) (by rw [List.getElem?_map, hr]; rfl)
    obtain ⟨m, hm, hx, _⟩ := DataW.trod_int Tryz.underlying3 ht
    have e1 : v = .int .i64 m := by simpa using hm
    have e2 : (r : Int) = m := by
      have := congrArg Prod.fst hx
      simpa using this
    rw [hv, e1, e2]
  have h0 := key 0 _ rfl
  have hs : a.spot = none := spot_none (a := a) (by simpa [Addr.add] using h0)
  obtain ⟨b, off, sp⟩ := a
  simp only at hs
  subst hs
  have hg : W.cell? ⟨13, 0, none⟩ = some (.slice (some ⟨b, off, none⟩) 9 cap) := by
    rw [hc 0, ← Array.getElem?_toList, hcs]
    rfl
  have hadd : ∀ i, (⟨b, off, none⟩ : Addr).add i = ⟨b, off + i, none⟩ := fun i => by
    unfold Addr.add
    by_cases h : i = 0
    · rw [if_pos h, h, Nat.add_zero]
    · rw [if_neg h]
  rw [hadd 0] at h0
  refine ⟨b, off, cap, hg, cell_lt h0, cell_lt hg, fun q hq => ?_⟩
  have hk : ∀ q, q < 9 → [1, 3, 6, 9, 13, 16, 19, 23, 26][q]? = some (dcm.ptab q) := by decide
  rw [← hadd q]
  exact key q _ (hk q hq)
theorem one_cell {W : World} {fuel : Nat} {t : TypeId} {cs : List Value} {off : Nat} {q : DataW Unit × List MemPlace} {k : IntKind} {v : Int} (hu : Tryz.prog.underlying t = some (.int k)) (h : DataW.trod (fun _ => ()) Tryz.prog W 0 (fun _ => true) false fuel t (List.take 1 (List.drop off cs)) = some q) (hq : q.1 = .lit (.int k v)) : cs[off]? = some (.int k v) := by
  obtain ⟨z, hz, hx, _⟩ := DataW.trod_int hu h
  rw [hx] at hq
  simp only [DataW.lit.injEq, Lit.int.injEq, true_and] at hq
  subst hq
  have e := congrArg (·[0]?) hz
  simp only [List.getElem?_take, List.getElem?_drop, List.getElem?_cons_zero] at e
  simpa using e
/-- float64's numbers, out of the row's list -/
theorem fi_of {W : World} {rest : List (String × DataW Unit)} (h : laidMet Tryz.prog (("internal/strconv.float64info", Rows.laid_internal_strconv_float64info) :: rest) W) : dcm.FI W W.heap.size := by
  obtain ⟨cs, fuel, p, hc, hd⟩ := lead h gFi gFiT
  obtain ⟨xs, n, _, hx, hl, hxl, hf⟩ := DataW.trod_struct Tryz.underlying199 hd
  have hu : Tryz.prog.cellsOf 99 = 1 := by kernel_rfl
  have hi : Tryz.prog.cellsOf 3 = 1 := by kernel_rfl
  have h0 := hf 0 _ rfl
  have h1 := hf 1 _ rfl
  have h2 := hf 2 _ rfl
  have hx1 := congrArg Prod.fst hx
  simp only [Rows.laid_internal_strconv_float64info, DataW.agg.injEq] at hx1
  have x0 := congrArg (·[0]?) hx1
  have x1 := congrArg (·[1]?) hx1
  have x2 := congrArg (·[2]?) hx1
  simp only [List.getElem?_map, List.getElem?_cons_zero, List.getElem?_cons_succ] at x0 x1 x2
  have g0 : cs.toList[0]? = some (.int .u64 52) := by
    cases hy : xs[0]? with
    | none => rw [hy] at x0; simp at x0
    | some y =>
      rw [hy] at h0 x0
      have h' : DataW.trod (fun _ => ()) Tryz.prog W 0 (fun _ => true) false n 99 (List.take (Tryz.prog.cellsOf 99) (List.drop 0 cs.toList)) = some y := h0
      rw [hu] at h'
      exact one_cell Tryz.underlying99 h' (by simpa using x0.symm)
  have g1 : cs.toList[1]? = some (.int .u64 11) := by
    cases hy : xs[1]? with
    | none => rw [hy] at x1; simp at x1
    | some y =>
      rw [hy] at h1 x1
      have h' : DataW.trod (fun _ => ()) Tryz.prog W 0 (fun _ => true) false n 99 (List.take (Tryz.prog.cellsOf 99) (List.drop 1 cs.toList)) = some y := h1
      rw [hu] at h'
      exact one_cell Tryz.underlying99 h' (by simpa using x1.symm)
  have g2 : cs.toList[2]? = some (.int .i64 (-1023)) := by
    cases hy : xs[2]? with
    | none => rw [hy] at x2; simp at x2
    | some y =>
      rw [hy] at h2 x2
      have h' : DataW.trod (fun _ => ()) Tryz.prog W 0 (fun _ => true) false n 3 (List.take (Tryz.prog.cellsOf 3) (List.drop 2 cs.toList)) = some y := h2
      rw [hi] at h'
      exact one_cell Tryz.underlying3 h' (by simpa using x2.symm)
  have c0 : W.cell? ⟨9, 0, none⟩ = some (.int .u64 52) := by rw [hc 0, ← Array.getElem?_toList]; exact g0
  exact ⟨cell_lt c0, c0, by rw [hc 1, ← Array.getElem?_toList]; exact g1, by rw [hc 2, ← Array.getElem?_toList]; exact g2⟩
end Go.Proofs.YtjlaoeigfokkiaaGreatDoor.dcw
