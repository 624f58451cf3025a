import Derived.Test.YtcehhkjlbhodeaaDoorSvQ2
namespace Go.Proofs.YtcehhkjlbhodeaaDoor.sv
open Go.ChangeShapes Go.WideShapes Go.ChangeAt Go.RowKit
open mem
open ints (hide unhide)
set_option linter.unusedVariables false
theorem escM_dec (p : Nat) (h : p < 8) : ∃ z : Nat, Utf8.decode ⟨#[34, 92, 8, 12, 10, 13, 9, 47]⟩ p = (z, 1) ∧ z < 128 := by
  have e : ∀ j : Fin 8, (Utf8.decode ⟨#[34, 92, 8, 12, 10, 13, 9, 47]⟩ j.val).2 = 1 ∧ (Utf8.decode ⟨#[34, 92, 8, 12, 10, 13, 9, 47]⟩ j.val).1 < 128 := by decide +kernel
  have := e ⟨p, h⟩
  exact ⟨_, Prod.ext rfl this.1, this.2⟩
set_option maxHeartbeats 4000000 in
set_option maxRecDepth 100000 in
theorem idx_err (w : World) :
    Calls Tryd.prog 29 #[.string ⟨#[34, 92, 8, 12, 10, 13, 9, 47]⟩, .int .i32 65533] w fun e w' => e = .returned (.int .i64 (-1)) ∧ Qt w w' := by
  have hsz : (⟨#[34, 92, 8, 12, 10, 13, 9, 47]⟩ : ByteArray).size = 8 := rfl
  have hde := escM_dec
  obtain ⟨s, hS⟩ : ∃ s, s = (⟨#[34, 92, 8, 12, 10, 13, 9, 47]⟩ : ByteArray) := ⟨_, rfl⟩
  rw [← hS] at hsz hde ⊢
  have HD := hide hde
  clear hS hde
  go_enter Tryd.func29, Tryd.ntmps29
  go_wp2
  go_loopw [5] (fun _ wr => ∃ pos : Nat, wr = w.iter s pos ∧ pos ≤ 8) (fun _ wr => 8 - wr.iterPos w.heap.size)
  case atStart => exact ⟨0, rfl, by omega⟩
  case round =>
    obtain ⟨pos, rfl, hpl⟩ := hrel
    by_cases hp : pos < 8
    · obtain ⟨ch, hdec, hch⟩ := unhide HD pos hp
      have hnx : ∀ ty, (Instr.next (.pointer (some ⟨w.heap.size, 0, none⟩)) true ty).run Tryd.prog (w.iter s pos) = .ok (.tuple #[.bool true, .int .i64 pos, .int .i32 (ch : Int)]) (w.iter s (pos + 1)) := fun ty => by
        have := run_next_any (P := Tryd.prog) w s pos ty (by omega)
        rw [hdec] at this
        exact this
      have hne : ¬ (ch : Int) = 65533 := by omega
      have hb : ((ch : Int) == 65533) = false := by simp [hne]
      clear hdec
      go_wp2
      refine ⟨⟨pos + 1, rfl, by omega⟩, ?_⟩
      simp
      omega
    · have hnx : ∀ ty, (Instr.next (.pointer (some ⟨w.heap.size, 0, none⟩)) true ty).run Tryd.prog (w.iter s pos) = .ok (.tuple #[.bool false]) (w.iter s pos) := fun ty => run_next_end (P := Tryd.prog) w s pos ty (by omega)
      go_wp2
      go_ret
      exact ⟨rfl, Qt.alloc _ _⟩
/-- what IndexRune finds among the characters that have a short escape -/
def idxC (c : Int) : Int := if c = 34 then 0 else if c = 92 then 1 else if c = 8 then 2 else if c = 12 then 3 else if c = 10 then 4 else if c = 13 then 5 else if c = 9 then 6 else if c = 47 then 7 else -1
theorem idx_ok (c : Int) (w : World) (hs : scP c) :
    Calls Tryd.prog 29 #[.string ⟨#[34, 92, 8, 12, 10, 13, 9, 47]⟩, .int .i32 c] w fun e w' => e = .returned (.int .i64 (idxC c)) ∧ Qt w w' := by
  by_cases h0 : c < 128
  · have hc0 : 0 ≤ c := by unfold scP at hs; omega
    have e : ∀ j : Fin 128, Lib.indexByte (⟨#[34, 92, 8, 12, 10, 13, 9, 47]⟩ : ByteArray).data.toList ((j.val : Int)).toNat.toUInt8 = idxC (j.val : Int) := by decide +kernel
    obtain ⟨n, rfl⟩ : ∃ n : Nat, c = n := ⟨c.toNat, by omega⟩
    refine (Tryd.strings_IndexRune_ascii _ _ w hc0 h0).mono ?_
    rintro e1 w1 ⟨rfl, rfl⟩
    have := e ⟨n, by omega⟩
    simp only at this
    rw [this]
    exact ⟨rfl, Qt.refl _⟩
  · have e : idxC c = -1 := by
      unfold idxC
      rw [if_neg (by omega), if_neg (by omega), if_neg (by omega), if_neg (by omega), if_neg (by omega), if_neg (by omega), if_neg (by omega), if_neg (by omega)]
    rw [e]
    by_cases hf : c = 65533
    · subst hf
      exact idx_err w
    · exact idx_hi c w hs (by omega) hf
end Go.Proofs.YtcehhkjlbhodeaaDoor.sv
