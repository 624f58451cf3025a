import Derived.Test.YtlgmonphhimbdaaDoorTba
import Derived.Test.YtlgmonphhimbdaaDoorShelf2
import Derived.Lib.ItoaNum
import Derived.Lib.ItoaLen
import Derived.Lib.AppendIntMem
namespace Go.Proofs.YtlgmonphhimbdaaDoor.tab
open Go.ChangeShapes Go.WideShapes Go.ChangeAt Go.RowKit Go.Maps Go.Shelf
set_option linter.unusedVariables false
set_option linter.unusedSimpArgs false
/-- a key's name -/
def nm (k : Int) : ByteArray := ⟨#[107]⟩ ++ ⟨(Lib.itoa k).toArray⟩
abbrev InR (k : Int) : Prop := -9223372036854775808 ≤ k ∧ k ≤ 9223372036854775807
/-- the table of powers lies there whatever is laid from B on -/
abbrev Tw (B : Nat) (w : World) : Prop := Lib.TabBelow Tryd.prog B w "internal/strconv.uint64pow10" .u64 Lib.pow10Tab
theorem dec_step {u : Nat} (h : ¬ u < 10) : Lib.decDigits u = Lib.decDigits (u / 10) ++ [UInt8.ofNat (48 + u % 10)] := by
  rw [Lib.decDigits, dif_neg h]
theorem dec_dig (u : Nat) : ∀ c ∈ Lib.decDigits u, 48 ≤ c.toNat ∧ c.toNat ≤ 57 := by
  induction u using Nat.strongRecOn with
  | _ u ih =>
    by_cases h : u < 10
    · intro c hc
      rw [Lib.decDigits_one h] at hc
      rw [List.mem_singleton.1 hc, UInt8.toNat_ofNat']
      omega
    · intro c hc
      rw [dec_step h, List.mem_append] at hc
      rcases hc with hc | hc
      · exact ih (u / 10) (by omega) c hc
      · rw [List.mem_singleton.1 hc, UInt8.toNat_ofNat']
        omega
theorem dec_ne (u : Nat) : Lib.decDigits u ≠ [] := by
  intro e
  have := Lib.decDigits_length u
  have := Lib.nDigits_pos u
  rw [e] at *
  simp at *
  omega
def valD (l : List UInt8) : Nat := l.foldl (fun a c => a * 10 + (c.toNat - 48)) 0
theorem valD_dec (u : Nat) : valD (Lib.decDigits u) = u := by
  induction u using Nat.strongRecOn with
  | _ u ih =>
    by_cases h : u < 10
    · rw [Lib.decDigits_one h]
      simp only [valD, List.foldl_cons, List.foldl_nil]
      rw [UInt8.toNat_ofNat']
      omega
    · have := ih (u / 10) (by omega)
      unfold valD at this ⊢
      rw [dec_step h, List.foldl_append, this]
      simp only [List.foldl_cons, List.foldl_nil]
      rw [UInt8.toNat_ofNat']
      omega
theorem dec_inj {u v : Nat} (h : Lib.decDigits u = Lib.decDigits v) : u = v := by
  rw [← valD_dec u, ← valD_dec v, h]
theorem dec_head (u : Nat) : ∃ c r, Lib.decDigits u = c :: r ∧ 48 ≤ c.toNat ∧ c.toNat ≤ 57 := by
  cases e : Lib.decDigits u with
  | nil => exact absurd e (dec_ne u)
  | cons c r => exact ⟨c, r, rfl, dec_dig u c (by rw [e]; simp)⟩
theorem itoa_inj {m n : Int} (h : Lib.itoa m = Lib.itoa n) : m = n := by
  unfold Lib.itoa at h
  by_cases hm : m < 0
  · by_cases hn : n < 0
    · rw [if_pos hm, if_pos hn] at h
      simp only [List.cons.injEq, true_and] at h
      have := dec_inj h
      omega
    · rw [if_pos hm, if_neg hn] at h
      obtain ⟨c, r, e, h1, h2⟩ := dec_head n.toNat
      rw [e] at h
      simp only [List.cons.injEq] at h
      rw [← h.1] at h1
      exact absurd h1 (by decide)
  · by_cases hn : n < 0
    · rw [if_neg hm, if_pos hn] at h
      obtain ⟨c, r, e, h1, h2⟩ := dec_head m.toNat
      rw [e] at h
      simp only [List.cons.injEq] at h
      rw [h.1] at h1
      exact absurd h1 (by decide)
    · rw [if_neg hm, if_neg hn] at h
      have := dec_inj h
      omega
theorem nm_inj {j k : Int} (h : nm j = nm k) : j = k := by
  have : (nm j).data.toList = (nm k).data.toList := by rw [h]
  simp [nm] at this
  exact itoa_inj this
theorem nm_size (k : Int) (h : InR k) : (nm k).size ≤ 22 := by
  have := Lib.itoa_length_le k h.1 h.2
  simp [nm, ByteArray.size]
  omega
theorem name_ok (k : Int) (hk : InR k) (w : World) (hT : Lib.TabIs Tryd.prog w "internal/strconv.uint64pow10" .u64 Lib.pow10Tab) : Calls Tryd.prog 12 #[.int .i64 k] w fun e w' => e = .returned (.string (nm k)) ∧ Below w.heap.size w w' := by
  obtain ⟨S, hS⟩ : ∃ S : ByteArray, S = ⟨(Lib.itoa k).toArray⟩ := ⟨_, rfl⟩
  have IT := hide (Tryd.strconv_Itoa k hk.1 hk.2 w hT)
  have hl : S.size ≤ 21 := by rw [hS]; exact Lib.itoa_length_le k hk.1 hk.2
  have eN := hide (show nm k = ⟨#[107]⟩ ++ S by rw [hS]; rfl)
  rw [← hS] at IT
  clear hS
  go_enter Tryd.func12, Tryd.ntmps12
  go_wp2_with fail
  refine (unhide IT).mono ?_
  rintro e w1 ⟨rfl, kk, os, rfl⟩
  have b1 : Below w.heap.size w (Go.Sort.grow (w.drewN kk) os) := Lib.below_grow _ _ (Nat.le_refl _) _ _
  generalize Go.Sort.grow (w.drewN kk) os = W at *
  go_wp2
  go_ret
  rw [unhide eN]
  exact ⟨rfl, b1⟩
end Go.Proofs.YtlgmonphhimbdaaDoor.tab
