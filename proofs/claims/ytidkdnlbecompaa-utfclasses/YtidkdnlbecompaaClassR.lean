import Derived.Test.YtidkdnlbecompaaClassU
namespace Go.Proofs.Ytidkdnlbecompaa.ints
open Go.ChangeShapes Go.WideShapes Go.ChangeAt Go.RowKit
set_option linter.unusedVariables false

abbrev lettersC : ByteArray := ⟨#[97, 98, 99, 100, 101, 102, 103, 104, 105, 106, 107, 108, 109, 110, 111, 112, 113, 114, 115, 116, 117, 118, 119, 120, 121, 122, 65, 66, 67, 68, 69, 70, 71, 72, 73, 74, 75, 76, 77, 78, 79, 80, 81, 82, 83, 84, 85, 86, 87, 88, 89, 90, 95]⟩
abbrev digitsC : ByteArray := ⟨#[48, 49, 50, 51, 52, 53, 54, 55, 56, 57]⟩
abbrev endsC : ByteArray := ⟨#[9, 10, 13]⟩
abbrev blanksC : ByteArray := ⟨#[9, 10, 13, 32, 44]⟩
theorem inB_of (L : ByteArray) (P : Int → Bool) (h1 : ∀ n : Fin 128, inB (n.val : Int) L = P (n.val : Int)) (h2 : (L.data.toList.all fun b => decide (b.toNat < 128)) = true)
    (h3 : ∀ c, c < 0 ∨ 128 ≤ c → P c = false) (c : Int) : inB c L = P c := by
  by_cases h : 0 ≤ c ∧ c < 128
  · have := h1 ⟨c.toNat, by omega⟩
    have e : ((c.toNat : Nat) : Int) = c := by omega
    simpa [e] using this
  · rw [h3 c (by omega)]
    unfold inB
    rw [List.any_eq_false]
    intro b hb
    have := List.all_eq_true.1 h2 b hb
    simp at this ⊢
    omega
def nsB (c : Int) : Bool := (decide (65 ≤ c) && decide (c ≤ 90)) || (decide (97 ≤ c) && decide (c ≤ 122)) || decide (c = 95)
theorem nsB_yes {c : Int} (h : nsP c) : nsB c = true := by
  unfold nsP at h; simp [nsB]; omega
theorem nsB_no {c : Int} (h : ¬ nsP c) : nsB c = false := by
  unfold nsP at h; simp [nsB]; omega
def diB (c : Int) : Bool := decide (48 ≤ c) && decide (c ≤ 57)
def enB (c : Int) : Bool := decide (c = 9) || decide (c = 10) || decide (c = 13)
def bkB (c : Int) : Bool := decide (c = 9) || decide (c = 10) || decide (c = 13) || decide (c = 32) || decide (c = 44)
theorem in_letters (c : Int) : inB c lettersC = nsB c := inB_of _ nsB (by decide +kernel) (by decide +kernel) (fun c h => by simp [nsB]; omega) c
theorem in_digits (c : Int) : inB c digitsC = diB c := inB_of _ diB (by decide +kernel) (by decide +kernel) (fun c h => by simp [diB]; omega) c
theorem in_ends (c : Int) : inB c endsC = enB c := inB_of _ enB (by decide +kernel) (by decide +kernel) (fun c h => by simp [enB]; omega) c
theorem in_blanks (c : Int) : inB c blanksC = bkB c := inB_of _ bkB (by decide +kernel) (by decide +kernel) (fun c h => by simp [bkB]; omega) c
theorem in_at (c : Int) (s : ByteArray) (b : Bool) (w : World) (hs : s.size ≤ maxLen) (h : inB c s = b) :
    Calls Try.prog 61 #[.int .i32 c, .string s] w fun e w' => e = .returned (.bool b) ∧ w' = w := by
  subst h; exact in_any c s w hs
theorem rdigit_yes (c : Int) (w : World) (h1 : 48 ≤ c) (h2 : c ≤ 57) :
    Calls Try.prog 47 #[.int .i32 c] w fun e w' => e = .returned (.bool true) ∧ w' = w := by
  have hd := hide (show inB c digitsC = true from by rw [in_digits]; simp [diB]; omega)
  go_enter Try.func47, Try.ntmps47
  go_wp2_with fail
  refine (in_at _ digitsC _ _ (by unfold maxLen; decide) (unhide hd)).mono ?_
  rintro e w' ⟨rfl, rfl⟩
  go_wp2
  go_ret
  exact ⟨rfl, rfl⟩
theorem rdigit_no (c : Int) (w : World) (h : ¬ (48 ≤ c ∧ c ≤ 57)) :
    Calls Try.prog 47 #[.int .i32 c] w fun e w' => e = .returned (.bool false) ∧ w' = w := by
  have hd := hide (show inB c digitsC = false from by rw [in_digits]; simp [diB]; omega)
  go_enter Try.func47, Try.ntmps47
  go_wp2_with fail
  refine (in_at _ digitsC _ _ (by unfold maxLen; decide) (unhide hd)).mono ?_
  rintro e w' ⟨rfl, rfl⟩
  go_wp2
  go_ret
  exact ⟨rfl, rfl⟩
theorem rns_yes (c : Int) (w : World) (h : nsP c) :
    Calls Try.prog 43 #[.int .i32 c] w fun e w' => e = .returned (.bool true) ∧ w' = w := by
  have hd := hide (show inB c lettersC = true from by rw [in_letters]; exact nsB_yes h)
  go_enter Try.func43, Try.ntmps43
  go_wp2_with fail
  refine (in_at _ lettersC _ _ (by unfold maxLen; decide) (unhide hd)).mono ?_
  rintro e w' ⟨rfl, rfl⟩
  go_wp2
  go_ret
  exact ⟨rfl, rfl⟩
theorem rns_no (c : Int) (w : World) (h : ¬ nsP c) :
    Calls Try.prog 43 #[.int .i32 c] w fun e w' => e = .returned (.bool false) ∧ w' = w := by
  have hd := hide (show inB c lettersC = false from by rw [in_letters]; exact nsB_no h)
  go_enter Try.func43, Try.ntmps43
  go_wp2_with fail
  refine (in_at _ lettersC _ _ (by unfold maxLen; decide) (unhide hd)).mono ?_
  rintro e w' ⟨rfl, rfl⟩
  go_wp2
  go_ret
  exact ⟨rfl, rfl⟩
theorem rnr_yes (c : Int) (w : World) (h : nrP c) :
    Calls Try.prog 45 #[.int .i32 c] w fun e w' => e = .returned (.bool true) ∧ w' = w := by
  by_cases h1 : nsP c
  · have hd := hide (show inB c lettersC = true from by rw [in_letters]; exact nsB_yes h1)
    go_enter Try.func45, Try.ntmps45
    go_wp2_with fail
    refine (in_at _ lettersC _ _ (by unfold maxLen; decide) (unhide hd)).mono ?_
    rintro e w' ⟨rfl, rfl⟩
    go_wp2
    go_ret
    exact ⟨rfl, rfl⟩
  · have h2 : 48 ≤ c ∧ c ≤ 57 := by rcases h with h | h; exact absurd h h1; exact h
    have hd := hide (show inB c lettersC = false from by rw [in_letters]; exact nsB_no h1)
    have hg := hide (show inB c digitsC = true from by rw [in_digits]; simp [diB]; omega)
    clear h
    go_enter Try.func45, Try.ntmps45
    go_wp2_with fail
    refine (in_at _ lettersC _ _ (by unfold maxLen; decide) (unhide hd)).mono ?_
    rintro e w' ⟨rfl, rfl⟩
    go_wp2_with fail
    refine (in_at _ digitsC _ _ (by unfold maxLen; decide) (unhide hg)).mono ?_
    rintro e w' ⟨rfl, rfl⟩
    go_wp2
    go_ret
    exact ⟨rfl, rfl⟩
theorem rnr_no (c : Int) (w : World) (h : ¬ nrP c) :
    Calls Try.prog 45 #[.int .i32 c] w fun e w' => e = .returned (.bool false) ∧ w' = w := by
  have h1 : ¬ nsP c := fun x => h (.inl x)
  have h2 : ¬ (48 ≤ c ∧ c ≤ 57) := fun x => h (.inr x)
  clear h
  have hd := hide (show inB c lettersC = false from by rw [in_letters]; exact nsB_no h1)
  have hg := hide (show inB c digitsC = false from by rw [in_digits]; simp [diB]; omega)
  go_enter Try.func45, Try.ntmps45
  go_wp2_with fail
  refine (in_at _ lettersC _ _ (by unfold maxLen; decide) (unhide hd)).mono ?_
  rintro e w' ⟨rfl, rfl⟩
  go_wp2_with fail
  refine (in_at _ digitsC _ _ (by unfold maxLen; decide) (unhide hg)).mono ?_
  rintro e w' ⟨rfl, rfl⟩
  go_wp2
  go_ret
  exact ⟨rfl, rfl⟩
theorem rbl_yes (c : Int) (w : World) (h : blP c) :
    Calls Try.prog 41 #[.int .i32 c] w fun e w' => e = .returned (.bool true) ∧ w' = w := by
  by_cases h1 : c = 65279
  · subst h1
    go_enter Try.func41, Try.ntmps41
    go_wp2
    go_ret
    exact ⟨rfl, rfl⟩
  · have hb : (c == 65279) = false := by simpa using h1
    have hd := hide (show inB c blanksC = true from by rw [in_blanks]; unfold blP at h; simp [bkB]; omega)
    clear h h1
    go_enter Try.func41, Try.ntmps41
    go_wp2_with fail
    refine (in_at _ blanksC _ _ (by unfold maxLen; decide) (unhide hd)).mono ?_
    rintro e w' ⟨rfl, rfl⟩
    go_wp2
    go_ret
    exact ⟨rfl, rfl⟩
theorem rbl_no (c : Int) (w : World) (h : ¬ blP c) :
    Calls Try.prog 41 #[.int .i32 c] w fun e w' => e = .returned (.bool false) ∧ w' = w := by
  unfold blP at h
  have hb : (c == 65279) = false := by simp; omega
  have hd := hide (show inB c blanksC = false from by rw [in_blanks]; simp [bkB]; omega)
  clear h
  go_enter Try.func41, Try.ntmps41
  go_wp2_with fail
  refine (in_at _ blanksC _ _ (by unfold maxLen; decide) (unhide hd)).mono ?_
  rintro e w' ⟨rfl, rfl⟩
  go_wp2
  go_ret
  exact ⟨rfl, rfl⟩
def scP (c : Int) : Prop := (0 ≤ c ∧ c ≤ 55295) ∨ (57344 ≤ c ∧ c ≤ 1114111)
theorem sc_yes (c : Int) (w : World) (h : scP c) :
    Calls Try.prog 62 #[.int .i32 c] w fun e w' => e = .returned (.bool true) ∧ w' = w := by
  rcases h with ⟨h1, h2⟩ | ⟨h1, h2⟩
  · have a1 : ¬ 55296 ≤ c := by omega
    have a2 : c ≤ 1114111 := by omega
    go_enter Try.func62, Try.ntmps62
    go_wp2
    go_ret
    exact ⟨rfl, rfl⟩
  · have a1 : 55296 ≤ c := by omega
    have a2 : ¬ c ≤ 57343 := by omega
    have a3 : 0 ≤ c := by omega
    go_enter Try.func62, Try.ntmps62
    go_wp2
    go_ret
    exact ⟨rfl, rfl⟩
theorem sc_no (c : Int) (w : World) (h : ¬ scP c) :
    Calls Try.prog 62 #[.int .i32 c] w fun e w' => e = .returned (.bool false) ∧ w' = w := by
  unfold scP at h
  by_cases h1 : c < 0
  · have a1 : ¬ 55296 ≤ c := by omega
    have a2 : ¬ 0 ≤ c := by omega
    go_enter Try.func62, Try.ntmps62
    go_wp2
    go_ret
    exact ⟨rfl, rfl⟩
  by_cases h2 : c ≤ 57343
  · have a1 : 55296 ≤ c := by omega
    go_enter Try.func62, Try.ntmps62
    go_wp2
    go_ret
    exact ⟨rfl, rfl⟩
  have a1 : 55296 ≤ c := by omega
  have a2 : 0 ≤ c := by omega
  have a3 : ¬ c ≤ 1114111 := by omega
  go_enter Try.func62, Try.ntmps62
  go_wp2
  go_ret
  exact ⟨rfl, rfl⟩
theorem rso_yes (c : Int) (w : World) (h : soP c) :
    Calls Try.prog 39 #[.int .i32 c] w fun e w' => e = .returned (.bool true) ∧ w' = w := by
  unfold soP at h
  by_cases h1 : c < 32
  · have hd := hide (show inB c endsC = true from by rw [in_ends]; simp [enB]; omega)
    clear h
    go_enter Try.func39, Try.ntmps39
    go_wp2_with fail
    refine (in_at _ endsC _ _ (by unfold maxLen; decide) (unhide hd)).mono ?_
    rintro e w' ⟨rfl, rfl⟩
    go_wp2
    go_ret
    exact ⟨rfl, rfl⟩
  have h2 : c < 65536 := by omega
  have h3 : scP c := by unfold scP; omega
  clear h
  go_enter Try.func39, Try.ntmps39
  go_wp2_with fail
  refine (sc_yes _ _ h3).mono ?_
  rintro e w' ⟨rfl, rfl⟩
  go_wp2
  go_ret
  exact ⟨rfl, rfl⟩
theorem rso_no (c : Int) (w : World) (h : ¬ soP c) :
    Calls Try.prog 39 #[.int .i32 c] w fun e w' => e = .returned (.bool false) ∧ w' = w := by
  unfold soP at h
  by_cases h1 : c < 32
  · have hd := hide (show inB c endsC = false from by rw [in_ends]; simp [enB]; omega)
    clear h
    go_enter Try.func39, Try.ntmps39
    go_wp2_with fail
    refine (in_at _ endsC _ _ (by unfold maxLen; decide) (unhide hd)).mono ?_
    rintro e w' ⟨rfl, rfl⟩
    go_wp2
    go_ret
    exact ⟨rfl, rfl⟩
  by_cases h2 : c < 65536
  · have h3 : ¬ scP c := by unfold scP; omega
    clear h
    go_enter Try.func39, Try.ntmps39
    go_wp2_with fail
    refine (sc_no _ _ h3).mono ?_
    rintro e w' ⟨rfl, rfl⟩
    go_wp2
    go_ret
    exact ⟨rfl, rfl⟩
  clear h
  go_enter Try.func39, Try.ntmps39
  go_wp2
  go_ret
  exact ⟨rfl, rfl⟩
abbrev smallC : ByteArray := ⟨#[48, 49, 50, 51, 52, 53, 54, 55, 56, 57, 97, 98, 99, 100, 101, 102]⟩
abbrev largeC : ByteArray := ⟨#[48, 49, 50, 51, 52, 53, 54, 55, 56, 57, 65, 66, 67, 68, 69, 70]⟩
theorem hex_small (k : Nat) (h : k < 16) : (smallC[k]'(by exact h)).toNat = if k < 10 then 48 + k else 87 + k := by
  have : ∀ k : Fin 16, (smallC[k.val]'(by exact k.isLt)).toNat = if k.val < 10 then 48 + k.val else 87 + k.val := by decide +kernel
  exact this ⟨k, h⟩
theorem hex_large (k : Nat) (h : k < 16) : (largeC[k]'(by exact h)).toNat = if k < 10 then 48 + k else 55 + k := by
  have : ∀ k : Fin 16, (largeC[k.val]'(by exact k.isLt)).toNat = if k.val < 10 then 48 + k.val else 55 + k.val := by decide +kernel
  exact this ⟨k, h⟩
theorem hexV_lt (c : Int) : hexV c < 16 := by
  unfold hexV; repeat' split
  all_goals omega
theorem hexV_hit (c : Int) (k : Nat) (h : k < 16) (a b : Nat) (ha : a = if k < 10 then 48 + k else 87 + k) (hb : b = if k < 10 then 48 + k else 55 + k) : ((a : Int) = c ∨ (b : Int) = c) ↔ hexV c = (k : Int) := by
  unfold hexV
  by_cases k10 : k < 10
  · rw [if_pos k10] at ha hb
    repeat' split
    all_goals omega
  · rw [if_neg k10] at ha hb
    repeat' split
    all_goals omega
theorem rhex_any (c : Int) (w : World) :
    Calls Try.prog 49 #[.int .i32 c] w fun e w' => e = .returned (.int .i64 (hexV c)) ∧ w' = w := by
  obtain ⟨S, hS, sS, vS⟩ : ∃ S : ByteArray, Hid (S = ⟨#[48, 49, 50, 51, 52, 53, 54, 55, 56, 57, 97, 98, 99, 100, 101, 102]⟩) ∧ S.size = 16 ∧ ∀ k (h : k < S.size), S[k].toNat = if k < 10 then 48 + k else 87 + k := ⟨smallC, rfl, rfl, fun k h => hex_small k h⟩
  obtain ⟨L, hL, sL, vL⟩ : ∃ L : ByteArray, Hid (L = ⟨#[48, 49, 50, 51, 52, 53, 54, 55, 56, 57, 65, 66, 67, 68, 69, 70]⟩) ∧ L.size = 16 ∧ ∀ k (h : k < L.size), L[k].toNat = if k < 10 then 48 + k else 55 + k := ⟨largeC, rfl, rfl, fun k h => hex_large k h⟩
  have VS := hide vS
  have VL := hide vL
  have zS : 16 ≤ S.size := by omega
  have zL : 16 ≤ L.size := by omega
  clear vS vL sS sL
  go_enter Try.func49, Try.ntmps49
  go_wp2
  rw [← unhide hS, ← unhide hL]
  go_loop [5] (fun i => ∃ k : Nat, k ≤ 16 ∧ i = .int .i64 k ∧ Hid (hexV c = -1 ∨ (k : Int) ≤ hexV c)) (fun i => 16 - (intOf i).toNat)
  case atStart =>
    refine ⟨0, by omega, rfl, hide ?_⟩
    unfold hexV; repeat' split
    all_goals omega
  case round =>
    obtain ⟨k, hk, rfl, hv⟩ := hrel
    by_cases hlt : k < 16
    · have hit := hexV_hit c k hlt _ _ (unhide VS k (by omega)) (unhide VL k (by omega))
      have kS : k < S.size := by omega
      have kL : k < L.size := by omega
      by_cases e1 : (S[k].toNat : Int) = c
      · have hy := hide (hit.1 (.inl e1))
        have b1 : (wrap32 (S[k].toNat : Int) == c) = true := by rw [wrap32_u8]; simpa using e1
        clear e1 hit
        go_wp2
        go_ret
        rw [unhide hy]
        exact ⟨rfl, rfl⟩
      · have b1 : (wrap32 (S[k].toNat : Int) == c) = false := by rw [wrap32_u8]; simpa using e1
        by_cases e2 : (L[k].toNat : Int) = c
        · have hy := hide (hit.1 (.inr e2))
          have b2 : (wrap32 (L[k].toNat : Int) == c) = true := by rw [wrap32_u8]; simpa using e2
          clear e1 e2 hit
          go_wp2
          go_ret
          rw [unhide hy]
          exact ⟨rfl, rfl⟩
        · have b2 : (wrap32 (L[k].toNat : Int) == c) = false := by rw [wrap32_u8]; simpa using e2
          have hy := hide (show ¬ hexV c = (k : Int) from fun h => by rcases hit.2 h with h | h; exact e1 h; exact e2 h)
          clear e1 e2 hit
          go_wp2
          go_round
          case rel =>
            have h1 := unhide hv
            have h2 := unhide hy
            exact ⟨k + 1, by omega, by go_num, hide (by omega)⟩
          case measure => simp [intOf]; omega
    · have hy := hide (show hexV c = -1 from by have := hexV_lt c; have h1 := unhide hv; omega)
      go_wp2
      go_ret
      rw [unhide hy]
      exact ⟨rfl, rfl⟩
theorem two_source (c : Int) : ∃ b : Bool, Hid (∀ w, Calls Try.prog 38 #[.int .i32 c] w fun e w' => e = .returned (.bool b) ∧ w' = w) ∧ Hid (∀ w, Calls Try.prog 39 #[.int .i32 c] w fun e w' => e = .returned (.bool b) ∧ w' = w) := by
  by_cases h : soP c
  · exact ⟨true, fun w => so_yes c w h, fun w => rso_yes c w h⟩
  · exact ⟨false, fun w => so_no c w h, fun w => rso_no c w h⟩
theorem two_blank (c : Int) : ∃ b : Bool, Hid (∀ w, Calls Try.prog 40 #[.int .i32 c] w fun e w' => e = .returned (.bool b) ∧ w' = w) ∧ Hid (∀ w, Calls Try.prog 41 #[.int .i32 c] w fun e w' => e = .returned (.bool b) ∧ w' = w) := by
  by_cases h : blP c
  · exact ⟨true, fun w => bl_yes c w h, fun w => rbl_yes c w h⟩
  · exact ⟨false, fun w => bl_no c w h, fun w => rbl_no c w h⟩
theorem two_ns (c : Int) : ∃ b : Bool, Hid (∀ w, Calls Try.prog 42 #[.int .i32 c] w fun e w' => e = .returned (.bool b) ∧ w' = w) ∧ Hid (∀ w, Calls Try.prog 43 #[.int .i32 c] w fun e w' => e = .returned (.bool b) ∧ w' = w) := by
  by_cases h : nsP c
  · exact ⟨true, fun w => ns_yes c w h, fun w => rns_yes c w h⟩
  · exact ⟨false, fun w => ns_no c w h, fun w => rns_no c w h⟩
theorem two_nr (c : Int) : ∃ b : Bool, Hid (∀ w, Calls Try.prog 44 #[.int .i32 c] w fun e w' => e = .returned (.bool b) ∧ w' = w) ∧ Hid (∀ w, Calls Try.prog 45 #[.int .i32 c] w fun e w' => e = .returned (.bool b) ∧ w' = w) := by
  by_cases h : nrP c
  · exact ⟨true, fun w => nr_yes c w h, fun w => rnr_yes c w h⟩
  · exact ⟨false, fun w => nr_no c w h, fun w => rnr_no c w h⟩
theorem two_digit (c : Int) : ∃ b : Bool, Hid (∀ w, Calls Try.prog 46 #[.int .i32 c] w fun e w' => e = .returned (.bool b) ∧ w' = w) ∧ Hid (∀ w, Calls Try.prog 47 #[.int .i32 c] w fun e w' => e = .returned (.bool b) ∧ w' = w) := by
  by_cases h : 48 ≤ c ∧ c ≤ 57
  · exact ⟨true, fun w => digit_yes c w h.1 h.2, fun w => rdigit_yes c w h.1 h.2⟩
  · exact ⟨false, fun w => digit_no c w h, fun w => rdigit_no c w h⟩
theorem classes_true (c : Int) (w : World) :
    Calls Try.prog 12 #[.int .i32 c] w fun e w' => e = .returned (.bool true) ∧ w' = w := by
  obtain ⟨sourceB, usource, rsource⟩ := two_source c
  obtain ⟨blankB, ublank, rblank⟩ := two_blank c
  obtain ⟨nsB, uns, rns⟩ := two_ns c
  obtain ⟨nrB, unr, rnr⟩ := two_nr c
  obtain ⟨digitB, udigit, rdigit⟩ := two_digit c
  go_enter Try.func12, Try.ntmps12
  go_wp2_with fail
  refine ((unhide usource) _).mono ?_
  rintro e w' ⟨rfl, rfl⟩
  go_wp2_with fail
  refine ((unhide rsource) _).mono ?_
  rintro e w' ⟨rfl, rfl⟩
  go_wp2_with fail
  refine ((unhide ublank) _).mono ?_
  rintro e w' ⟨rfl, rfl⟩
  go_wp2_with fail
  refine ((unhide rblank) _).mono ?_
  rintro e w' ⟨rfl, rfl⟩
  go_wp2_with fail
  refine ((unhide uns) _).mono ?_
  rintro e w' ⟨rfl, rfl⟩
  go_wp2_with fail
  refine ((unhide rns) _).mono ?_
  rintro e w' ⟨rfl, rfl⟩
  go_wp2_with fail
  refine ((unhide unr) _).mono ?_
  rintro e w' ⟨rfl, rfl⟩
  go_wp2_with fail
  refine ((unhide rnr) _).mono ?_
  rintro e w' ⟨rfl, rfl⟩
  go_wp2_with fail
  refine ((unhide udigit) _).mono ?_
  rintro e w' ⟨rfl, rfl⟩
  go_wp2_with fail
  refine ((unhide rdigit) _).mono ?_
  rintro e w' ⟨rfl, rfl⟩
  go_wp2_with fail
  refine (hex_any _ _).mono ?_
  rintro e w' ⟨rfl, rfl⟩
  go_wp2_with fail
  refine (rhex_any _ _).mono ?_
  rintro e w' ⟨rfl, rfl⟩
  go_wp2
  go_ret
  exact ⟨rfl, rfl⟩
end Go.Proofs.Ytidkdnlbecompaa.ints
