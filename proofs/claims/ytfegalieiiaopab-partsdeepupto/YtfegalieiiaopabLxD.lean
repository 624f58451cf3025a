import Derived.Test.YtfegalieiiaopabLxC
import Derived.Test.YtfegalieiiaopabShelf
namespace Go.Proofs.Ytfegalieiiaopab.lx
open Go.ChangeShapes Go.WideShapes Go.ChangeAt Go.RowKit
open ints (hide unhide)
open mem (Row)
set_option linter.unusedVariables false
/-- plain sources: ASCII, no quote -/
def Plain (l : List Int) : Prop := ∀ c ∈ l, 0 ≤ c ∧ c ≤ 127 ∧ c ≠ 34
theorem Plain.at_ {l : List Int} (h : Plain l) {i : Nat} (hi : i < l.length) : 0 ≤ cAt l i ∧ cAt l i ≤ 127 ∧ cAt l i ≠ 34 := by
  rw [cAt_in hi]
  exact h _ (by rw [List.getD_eq_getElem?_getD, List.getElem?_eq_getElem hi]; exact List.getElem_mem hi)
theorem pu_dec : ∀ k : Nat, k < 128 → decide (0 ≤ Lib.indexByte [33, 36, 38, 40, 41, 58, 61, 64, 91, 93, 123, 124, 125] ((k : Int).toNat.toUInt8)) = puB (k : Int) := by decide +kernel
theorem contains_ok (c : Int) (w : World) (h0 : 0 ≤ c) (h1 : c ≤ 127) :
    Calls Try.prog 57 #[.string ⟨#[33, 36, 38, 40, 41, 58, 61, 64, 91, 93, 123, 124, 125]⟩, .int .i32 c] w fun e w' => e = .returned (.bool (puB c)) ∧ w' = w := by
  have h := Try.strings_ContainsRune_ascii ⟨#[33, 36, 38, 40, 41, 58, 61, 64, 91, 93, 123, 124, 125]⟩ c w h0 (by omega)
  have e := pu_dec c.toNat (by omega)
  rw [Int.toNat_of_nonneg h0] at e
  rw [show decide (0 ≤ Lib.indexByte (⟨#[33, 36, 38, 40, 41, 58, 61, 64, 91, 93, 123, 124, 125]⟩ : ByteArray).data.toList c.toNat.toUInt8) = puB c from e] at h
  exact h
set_option maxHeartbeats 2000000 in
theorem tq_no (a : Option Addr) (n c : Nat) (cl : Bool) (l : List Int) (i : Nat) (w : World) (h : Row .i32 w a n c l) (hn : n ≤ 1099511627776) (hi : i ≤ n) (h34 : cAt l i ≠ 34) :
    Calls Try.prog 62 #[src a n c cl, .int .i64 (i : Int)] w fun e w' => e = .returned (.bool false) ∧ Below w.heap.size w w' := by
  have hsb := hide (Sb.new w a n c cl)
  unfold src
  go_enter Try.func62, Try.ntmps62
  go_wp2_with fail
  obtain ⟨w1, hw1⟩ : ∃ w1, w1 = w.alloc (.cells #[.slice a n c, .bool cl] 76) := ⟨_, rfl⟩
  rw [← hw1] at hsb ⊢
  clear hw1
  have d0 := (unhide hsb).c0
  have d1 := (unhide hsb).c1
  refine wp_loop_rounds 1 ?_
  rw [rounds_succ]
  go_wp2_with fail
  refine (at_ok a n c cl l i w1 (h.below (unhide hsb).bel) (by omega)).mono ?_
  rintro e w2 ⟨rfl, b2⟩
  have hs2 := (unhide hsb).below b2
  have e34 : (cAt l i != 34) = true := by simpa using h34
  go_wp2_with fail
  go_ret
  exact ⟨rfl, hs2.bel⟩
end Go.Proofs.Ytfegalieiiaopab.lx
