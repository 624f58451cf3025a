import Derived.Test.YtechaplindbfoaaGreatDoorJsa1
import Derived.Test.YtechaplindbfoaaGreatDoorJsa10
namespace Go.Proofs.YtechaplindbfoaaGreatDoor.jsn
open Go.ChangeShapes Go.WideShapes Go.ChangeAt Go.RowKit
open mem
open vl hiding hide unhide Hid
open ints (hide unhide)
set_option linter.unusedVariables false
set_option linter.unusedSimpArgs false
/-- what may stand behind a value -/
def Endy (s : List UInt8) : Prop := s = [] ∨ ∃ c r, s = c :: r ∧ (c = 44 ∨ c = 93 ∨ c = 125)
/-- the signs of numbers -/
def NC (c : UInt8) : Bool := (decide (48 ≤ c.toNat) && decide (c.toNat ≤ 57)) || c == 45 || c == 46 || c == 101
theorem Endy.no {c : UInt8} {r : List UInt8} (h : Endy (c :: r)) : NC c = false := by
  rcases h with h | ⟨x, r', h, hx⟩
  · cases h
  · injection h with h1 h2
    subst h1
    rcases hx with rfl | rfl | rfl <;> decide
theorem span_eq {a s t : List UInt8} (hs : Endy s) (ht : Endy t) : ∀ {b : List UInt8}, (∀ c ∈ a, NC c = true) → (∀ c ∈ b, NC c = true) → a ++ s = b ++ t → a = b ∧ s = t := by
  induction a with
  | nil =>
    intro b ha hb h
    cases b with
    | nil => exact ⟨rfl, h⟩
    | cons c r =>
      simp only [List.nil_append, List.cons_append] at h
      rw [h] at hs
      have := hb c (List.mem_cons_self ..)
      rw [hs.no] at this
      cases this
  | cons c r ih =>
    intro b ha hb h
    cases b with
    | nil =>
      simp only [List.nil_append, List.cons_append] at h
      rw [← h] at ht
      have := ha c (List.mem_cons_self ..)
      rw [ht.no] at this
      cases this
    | cons c' r' =>
      simp only [List.cons_append, List.cons.injEq] at h
      obtain ⟨h1, h2⟩ := ih (fun x hx => ha x (List.mem_cons_of_mem _ hx)) (fun x hx => hb x (List.mem_cons_of_mem _ hx)) h.2
      exact ⟨by rw [h.1, h1], h2⟩
theorem esc_all : ∀ i j : Fin 256, (escU (UInt8.ofNat i.val)).isPrefixOf (escU (UInt8.ofNat j.val)) = true → i = j := by decide +kernel
theorem esc_hd : ∀ i : Fin 256, ((escU (UInt8.ofNat i.val)).head? == some 34) = false ∧ (escU (UInt8.ofNat i.val)).isEmpty = false := by decide +kernel
theorem u8_fin (c : UInt8) : ∃ i : Fin 256, c = UInt8.ofNat i.val := ⟨⟨c.toNat, c.toNat_lt⟩, by simp⟩
theorem esc_inj {c d : UInt8} {s t : List UInt8} (h : escU c ++ s = escU d ++ t) : c = d ∧ s = t := by
  have key : c = d := by
    obtain ⟨i, rfl⟩ := u8_fin c
    obtain ⟨j, rfl⟩ := u8_fin d
    rcases List.prefix_or_prefix_of_prefix (List.prefix_append (escU (UInt8.ofNat i.val)) s) (by rw [h]; exact List.prefix_append _ t) with g | g
    · rw [esc_all i j (by simpa using g)]
    · rw [esc_all j i (by simpa using g)]
  subst key
  exact ⟨rfl, List.append_cancel_left h⟩
theorem esc_form (c : UInt8) : ∃ x r, escU c = x :: r ∧ x ≠ 34 := by
  obtain ⟨i, rfl⟩ := u8_fin c
  obtain ⟨h1, h2⟩ := esc_hd i
  cases he : escU (UInt8.ofNat i.val) with
  | nil => rw [he] at h2; cases h2
  | cons x r =>
    rw [he] at h1
    exact ⟨x, r, rfl, fun e => by subst e; simp at h1⟩
theorem body_inj : ∀ {a b s t : List UInt8}, body a ++ 34 :: s = body b ++ 34 :: t → a = b ∧ s = t
  | [], [], s, t, h => ⟨rfl, by simpa [body] using h⟩
  | [], d :: b, s, t, h => by
    obtain ⟨x, r, e, hx⟩ := esc_form d
    simp only [body, List.flatMap_nil, List.flatMap_cons, e, List.nil_append, List.cons_append, List.cons.injEq] at h
    exact absurd h.1.symm hx
  | c :: a, [], s, t, h => by
    obtain ⟨x, r, e, hx⟩ := esc_form c
    simp only [body, List.flatMap_nil, List.flatMap_cons, e, List.nil_append, List.cons_append, List.cons.injEq] at h
    exact absurd h.1 hx
  | c :: a, d :: b, s, t, h => by
    have e : ∀ (c : UInt8) (a s : List UInt8), body (c :: a) ++ s = escU c ++ (body a ++ s) := fun c a s => by simp [body]
    rw [e, e] at h
    obtain ⟨h1, h2⟩ := esc_inj h
    obtain ⟨h3, h4⟩ := body_inj h2
    exact ⟨by rw [h1, h3], h4⟩
theorem txt_inj {a b s t : List UInt8} (h : txt a ++ s = txt b ++ t) : a = b ∧ s = t := by
  unfold txt at h
  simp only [List.cons_append, List.append_assoc, List.cons.injEq, true_and, List.nil_append] at h
  exact body_inj h
theorem str_eq {a b : ByteArray} (h : a.data.toList = b.data.toList) : a = b := by
  cases a; cases b
  congr 1
  exact Array.toList_inj.1 h
/-- the items' texts, a comma ahead of each (but of the first, if f) -/
noncomputable def lJ : Bool → Vls → List UInt8
  | _, .nil => []
  | f, .cons v r => (if f then [] else [44]) ++ (js NZ v ++ lJ false r)
noncomputable def lF : Bool → Fls → List UInt8
  | _, .nil => []
  | f, .cons nm v r => (if f then [] else [44]) ++ (txt nm.data.toList ++ (58 :: (js NZ v ++ lF false r)))
def tlL (tv : Nat → List UInt8) : Nat → List UInt8
  | 0 => []
  | k + 1 => tlL tv k ++ (44 :: tv k)
theorem parts_tl (tv : Nat → List UInt8) : ∀ n, partsL tv (n + 1) = tv 0 ++ tlL (fun i => tv (i + 1)) n
  | 0 => by simp [partsL, com, tlL]
  | n + 1 => by
    rw [partsL, parts_tl tv n, tlL]
    simp [com]
theorem tl_tl (tv : Nat → List UInt8) : ∀ n, tlL tv (n + 1) = 44 :: (tv 0 ++ tlL (fun i => tv (i + 1)) n)
  | 0 => by simp [tlL]
  | n + 1 => by
    rw [tlL, tl_tl tv n, tlL]
    simp
theorem lJ_false : ∀ its : Vls, lJ false its = tlL (jsL NZ its) its.list.length
  | .nil => rfl
  | .cons v r => by
    rw [lJ, lJ_false r, Vls.list, List.length_cons, tl_tl]
    simp [jsL]
theorem lJ_true : ∀ its : Vls, lJ true its = partsL (jsL NZ its) its.list.length
  | .nil => rfl
  | .cons v r => by
    rw [lJ, lJ_false r, Vls.list, List.length_cons, parts_tl]
    simp [jsL]
theorem partsO_as (nm tv : Nat → List UInt8) : ∀ n, partsO nm tv n = partsL (fun i => txt (nm i) ++ ([58] ++ tv i)) n
  | 0 => rfl
  | n + 1 => by rw [partsO, partsL, partsO_as nm tv n]
theorem lF_false : ∀ fls : Fls, lF false fls = tlL (fun i => txt (nmAt fls i) ++ ([58] ++ jsF NZ fls i)) fls.list.length
  | .nil => rfl
  | .cons nm v r => by
    rw [lF, lF_false r, Fls.list, List.length_cons, tl_tl]
    simp [jsF, nmAt, Fls.list]
theorem lF_true : ∀ fls : Fls, lF true fls = partsO (nmAt fls) (jsF NZ fls) fls.list.length
  | .nil => rfl
  | .cons nm v r => by
    rw [partsO_as, lF, lF_false r, Fls.list, List.length_cons, parts_tl]
    simp [jsF, nmAt, Fls.list]
section kinds
variable (b : Bool) (n : Int) (f : Nat) (tx ty : ByteArray) (its : Vls) (fls : Fls)
theorem js_0 : js NZ (.mk 0 b n f tx ty its fls) = [110, 117, 108, 108] := by unfold js; rfl
theorem js_1 : js NZ (.mk 1 b n f tx ty its fls) = if b then [116, 114, 117, 101] else [102, 97, 108, 115, 101] := by unfold js; rfl
theorem js_2 : js NZ (.mk 2 b n f tx ty its fls) = Lib.itoa n := by unfold js; rfl
theorem js_3 : js NZ (.mk 3 b n f tx ty its fls) = (ftZ f).data.toList := by unfold js; rfl
theorem js_4 : js NZ (.mk 4 b n f tx ty its fls) = txt tx.data.toList := by unfold js; rfl
theorem js_5 : js NZ (.mk 5 b n f tx ty its fls) = 91 :: (lJ true its ++ [93]) := by
  unfold js
  rw [lJ_true]
  rfl
theorem js_6 : js NZ (.mk 6 b n f tx ty its fls) = 123 :: (lF true fls ++ [125]) := by
  unfold js
  rw [lF_true]
  rfl
theorem jf_kinds {kd : Int} (h : jfE (.mk kd b n f tx ty its fls) = 0) : kd = 0 ∨ kd = 1 ∨ kd = 2 ∨ (kd = 3 ∧ fto.badF f = false) ∨ (kd = 4) ∨ (kd = 5 ∧ jfL its = 0) ∨ (kd = 6 ∧ jfF fls = 0) := by
  unfold jfE at h
  split at h
  · omega
  · split at h
    · rename_i h1 h3
      split at h
      · cases h
      · rename_i hb
        exact .inr (.inr (.inr (.inl ⟨h3, by simpa using hb⟩)))
    · split at h
      · omega
      · split at h
        · rename_i h5
          exact .inr (.inr (.inr (.inr (.inr (.inl ⟨h5, h⟩)))))
        · split at h
          · rename_i h6
            split at h
            · exact .inr (.inr (.inr (.inr (.inr (.inr ⟨h6, h⟩)))))
            · rename_i g
              exact absurd h g
          · cases h
end kinds
end Go.Proofs.YtechaplindbfoaaGreatDoor.jsn
