import Derived.Test.YtcehhkjlbhodeaaDoorClassU
namespace Go.Proofs.YtcehhkjlbhodeaaDoor.ints
open Go.ChangeShapes Go.WideShapes Go.ChangeAt Go.RowKit
set_option linter.unusedVariables false

abbrev lettersC : ByteArray := ⟨#[97, 98, 99, 100, 101, 102, 103, 104, 105, 106, 107, 108, 109, 110, 111, 112, 113, 114, 115, 116, 117, 118, 119, 120, 121, 122, 65, 66, 67, 68, 69, 70, 71, 72, 73, 74, 75, 76, 77, 78, 79, 80, 81, 82, 83, 84, 85, 86, 87, 88, 89, 90, 95]⟩
abbrev digitsC : ByteArray := ⟨#[48, 49, 50, 51, 52, 53, 54, 55, 56, 57]⟩
abbrev endsC : ByteArray := ⟨#[9, 10, 13]⟩
abbrev blanksC : ByteArray := ⟨#[9, 10, 13, 32, 44]⟩
theorem inB_of (L : ByteArray) (P : Int → Bool) (h1 : ∀ n : Fin 128, inB (n.val : Int) L = P (n.val : Int)) (h2 : (L.data.toList.all fun b => decide (b.toNat < 128)) = true)
    (h3 : ∀ c, c < 0 ∨ 128 ≤ c → P c = false) (c : Int) : inB c L = P c := by
  by_cases h : 0 ≤ c ∧ c < 128
  · have := h1 ⟨c.toNat, by omega⟩
    have e : ((c.toNat : Nat) : Int) = c := by omega
    simpa [e] using this
  · rw [h3 c (by omega)]
    unfold inB
    rw [List.any_eq_false]
    intro b hb
    have := List.all_eq_true.1 h2 b hb
    simp at this ⊢
    omega
def nsB (c : Int) : Bool := (decide (65 ≤ c) && decide (c ≤ 90)) || (decide (97 ≤ c) && decide (c ≤ 122)) || decide (c = 95)
theorem nsB_yes {c : Int} (h : nsP c) : nsB c = true := by
  unfold nsP at h; simp [nsB]; omega
theorem nsB_no {c : Int} (h : ¬ nsP c) : nsB c = false := by
  unfold nsP at h; simp [nsB]; omega
def diB (c : Int) : Bool := decide (48 ≤ c) && decide (c ≤ 57)
def enB (c : Int) : Bool := decide (c = 9) || decide (c = 10) || decide (c = 13)
def bkB (c : Int) : Bool := decide (c = 9) || decide (c = 10) || decide (c = 13) || decide (c = 32) || decide (c = 44)
theorem in_letters (c : Int) : inB c lettersC = nsB c := inB_of _ nsB (by decide +kernel) (by decide +kernel) (fun c h => by simp [nsB]; omega) c
theorem in_digits (c : Int) : inB c digitsC = diB c := inB_of _ diB (by decide +kernel) (by decide +kernel) (fun c h => by simp [diB]; omega) c
theorem in_ends (c : Int) : inB c endsC = enB c := inB_of _ enB (by decide +kernel) (by decide +kernel) (fun c h => by simp [enB]; omega) c
theorem in_blanks (c : Int) : inB c blanksC = bkB c := inB_of _ bkB (by decide +kernel) (by decide +kernel) (fun c h => by simp [bkB]; omega) c
theorem in_at (c : Int) (s : ByteArray) (b : Bool) (w : World) (hs : s.size ≤ maxLen) (h : inB c s = b) :
    Calls Tryd.prog 42 #[.int .i32 c, .string s] w fun e w' => e = .returned (.bool b) ∧ w' = w := by
  subst h; exact in_any c s w hs
def scP (c : Int) : Prop := (0 ≤ c ∧ c ≤ 55295) ∨ (57344 ≤ c ∧ c ≤ 1114111)
theorem sc_yes (c : Int) (w : World) (h : scP c) :
    Calls Tryd.prog 43 #[.int .i32 c] w fun e w' => e = .returned (.bool true) ∧ w' = w := by
  rcases h with ⟨h1, h2⟩ | ⟨h1, h2⟩
  · have a1 : ¬ 55296 ≤ c := by omega
    have a2 : c ≤ 1114111 := by omega
    go_enter Tryd.func43, Tryd.ntmps43
    go_wp2
    go_ret
    exact ⟨rfl, rfl⟩
  · have a1 : 55296 ≤ c := by omega
    have a2 : ¬ c ≤ 57343 := by omega
    have a3 : 0 ≤ c := by omega
    go_enter Tryd.func43, Tryd.ntmps43
    go_wp2
    go_ret
    exact ⟨rfl, rfl⟩
theorem sc_no (c : Int) (w : World) (h : ¬ scP c) :
    Calls Tryd.prog 43 #[.int .i32 c] w fun e w' => e = .returned (.bool false) ∧ w' = w := by
  unfold scP at h
  by_cases h1 : c < 0
  · have a1 : ¬ 55296 ≤ c := by omega
    have a2 : ¬ 0 ≤ c := by omega
    go_enter Tryd.func43, Tryd.ntmps43
    go_wp2
    go_ret
    exact ⟨rfl, rfl⟩
  by_cases h2 : c ≤ 57343
  · have a1 : 55296 ≤ c := by omega
    go_enter Tryd.func43, Tryd.ntmps43
    go_wp2
    go_ret
    exact ⟨rfl, rfl⟩
  have a1 : 55296 ≤ c := by omega
  have a2 : 0 ≤ c := by omega
  have a3 : ¬ c ≤ 1114111 := by omega
  go_enter Tryd.func43, Tryd.ntmps43
  go_wp2
  go_ret
  exact ⟨rfl, rfl⟩
theorem rso_yes (c : Int) (w : World) (h : soP c) :
    Calls Tryd.prog 20 #[.int .i32 c] w fun e w' => e = .returned (.bool true) ∧ w' = w := by
  unfold soP at h
  by_cases h1 : c < 32
  · have hd := hide (show inB c endsC = true from by rw [in_ends]; simp [enB]; omega)
    clear h
    go_enter Tryd.func20, Tryd.ntmps20
    go_wp2_with fail
    refine (in_at _ endsC _ _ (by unfold maxLen; decide) (unhide hd)).mono ?_
    rintro e w' ⟨rfl, rfl⟩
    go_wp2
    go_ret
    exact ⟨rfl, rfl⟩
  have h2 : c < 65536 := by omega
  have h3 : scP c := by unfold scP; omega
  clear h
  go_enter Tryd.func20, Tryd.ntmps20
  go_wp2_with fail
  refine (sc_yes _ _ h3).mono ?_
  rintro e w' ⟨rfl, rfl⟩
  go_wp2
  go_ret
  exact ⟨rfl, rfl⟩
theorem rso_no (c : Int) (w : World) (h : ¬ soP c) :
    Calls Tryd.prog 20 #[.int .i32 c] w fun e w' => e = .returned (.bool false) ∧ w' = w := by
  unfold soP at h
  by_cases h1 : c < 32
  · have hd := hide (show inB c endsC = false from by rw [in_ends]; simp [enB]; omega)
    clear h
    go_enter Tryd.func20, Tryd.ntmps20
    go_wp2_with fail
    refine (in_at _ endsC _ _ (by unfold maxLen; decide) (unhide hd)).mono ?_
    rintro e w' ⟨rfl, rfl⟩
    go_wp2
    go_ret
    exact ⟨rfl, rfl⟩
  by_cases h2 : c < 65536
  · have h3 : ¬ scP c := by unfold scP; omega
    clear h
    go_enter Tryd.func20, Tryd.ntmps20
    go_wp2_with fail
    refine (sc_no _ _ h3).mono ?_
    rintro e w' ⟨rfl, rfl⟩
    go_wp2
    go_ret
    exact ⟨rfl, rfl⟩
  clear h
  go_enter Tryd.func20, Tryd.ntmps20
  go_wp2
  go_ret
  exact ⟨rfl, rfl⟩
abbrev smallC : ByteArray := ⟨#[48, 49, 50, 51, 52, 53, 54, 55, 56, 57, 97, 98, 99, 100, 101, 102]⟩
abbrev largeC : ByteArray := ⟨#[48, 49, 50, 51, 52, 53, 54, 55, 56, 57, 65, 66, 67, 68, 69, 70]⟩
theorem hex_small (k : Nat) (h : k < 16) : (smallC[k]'(by exact h)).toNat = if k < 10 then 48 + k else 87 + k := by
  have : ∀ k : Fin 16, (smallC[k.val]'(by exact k.isLt)).toNat = if k.val < 10 then 48 + k.val else 87 + k.val := by decide +kernel
  exact this ⟨k, h⟩
theorem hex_large (k : Nat) (h : k < 16) : (largeC[k]'(by exact h)).toNat = if k < 10 then 48 + k else 55 + k := by
  have : ∀ k : Fin 16, (largeC[k.val]'(by exact k.isLt)).toNat = if k.val < 10 then 48 + k.val else 55 + k.val := by decide +kernel
  exact this ⟨k, h⟩
theorem hexV_lt (c : Int) : hexV c < 16 := by
  unfold hexV; repeat' split
  all_goals omega
theorem hexV_hit (c : Int) (k : Nat) (h : k < 16) (a b : Nat) (ha : a = if k < 10 then 48 + k else 87 + k) (hb : b = if k < 10 then 48 + k else 55 + k) : ((a : Int) = c ∨ (b : Int) = c) ↔ hexV c = (k : Int) := by
  unfold hexV
  by_cases k10 : k < 10
  · rw [if_pos k10] at ha hb
    repeat' split
    all_goals omega
  · rw [if_neg k10] at ha hb
    repeat' split
    all_goals omega
theorem two_source (c : Int) : ∃ b : Bool, Hid (∀ w, Calls Tryd.prog 35 #[.int .i32 c] w fun e w' => e = .returned (.bool b) ∧ w' = w) ∧ Hid (∀ w, Calls Tryd.prog 20 #[.int .i32 c] w fun e w' => e = .returned (.bool b) ∧ w' = w) := by
  by_cases h : soP c
  · exact ⟨true, fun w => so_yes c w h, fun w => rso_yes c w h⟩
  · exact ⟨false, fun w => so_no c w h, fun w => rso_no c w h⟩
end Go.Proofs.YtcehhkjlbhodeaaDoor.ints
