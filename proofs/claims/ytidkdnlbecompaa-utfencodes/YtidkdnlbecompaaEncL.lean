import Derived.Test.YtidkdnlbecompaaEncR
import Derived.Test.YtidkdnlbecompaaOpen
namespace Go.Proofs.Ytidkdnlbecompaa.mem
open Go.ChangeShapes Go.WideShapes Go.ChangeAt Go.RowKit
open ints (hide unhide)
set_option linter.unusedVariables false

theorem lit_row (k : IntKind) (e : TypeId) (W : World) (zs : List Int) (hm : zs.length ≤ maxLen) : Row k (W.alloc (.cells (zs.map (Value.int k)).toArray e)) (some ⟨W.heap.size, 0, none⟩) zs.length zs.length zs := by
  have := World.ownsRow_lit (base := W.heap.size) (e := e) (size := 1) W (zs.map (Value.int k)).toArray zs.length (Nat.le_refl _) hm (by simp)
  obtain ⟨a, cap, e', hr⟩ := own_row (k := k) (zs := zs) (by simpa using this)
  simp only [Value.slice.injEq] at e'
  obtain ⟨rfl, _, rfl⟩ := e'
  exact hr

theorem encodes_true (a : Option Addr) (n c : Nat) (zs : List Int) (w : World) (h : Row .i32 w a n c zs) (hn : 4 * n ≤ 140737488355328) :
    Calls Try.prog 10 #[.slice a n c] w fun e w' => e = .returned (.bool true) ∧ Below w.heap.size w w' := by
  go_enter Try.func10, Try.ntmps10
  go_wp2_with fail
  refine (copiedRunes_any _ _ _ _ _ h (by omega)).mono ?_
  rintro e w1 ⟨rfl, ho1, hb1⟩
  obtain ⟨a1, c1, e1, hr1⟩ := own_row ho1
  simp only [Value.slice.injEq] at e1
  obtain ⟨rfl, _, rfl⟩ := e1
  clear ho1
  go_wp2_with fail
  refine (rencode_any _ _ _ _ _ hr1 hn).mono ?_
  rintro e w2 ⟨rfl, hb2⟩
  have hb12 : Below w.heap.size w w2 := hb1.trans (hb2.mono hb1.size)
  have h2 := h.below hb12
  clear hr1 hb1 hb2 h
  go_wp2_with fail
  refine (copiedRunes_any _ _ _ _ _ h2 (by omega)).mono ?_
  rintro e w3 ⟨rfl, ho1, hb3⟩
  obtain ⟨a1, c1, e1, hr1⟩ := own_row ho1
  simp only [Value.slice.injEq] at e1
  obtain ⟨rfl, _, rfl⟩ := e1
  clear ho1
  go_wp2_with fail
  refine (encode_any _ _ _ _ _ hr1 hn).mono ?_
  rintro e w4 ⟨rfl, hb4⟩
  have hb : Below w.heap.size w w4 := hb12.trans ((hb3.mono hb12.size).trans (hb4.mono (Nat.le_trans hb12.size hb3.size)))
  clear hr1 hb3 hb4 h2 hb12
  go_wp2
  go_ret
  exact ⟨rfl, hb⟩

set_option maxHeartbeats 1000000 in
theorem law_encodes (a : Option Addr) (n c N : Nat) (zss : List (List Int)) (w : World) (h : Rows2 .i32 w a n N zss) (hN : 4 * N ≤ 140737488355328) (hn : n ≤ 9223372036854775807) :
    Calls Try.prog 4 #[.slice a n c] w fun e w' => e = .returned (.bool true) ∧ Below w.heap.size w w' := by
  have r1 := hide (fun W : World => lit_row .i32 21 W [97, 128512] (by unfold maxLen; simp))
  have r2 := hide (fun W : World => lit_row .i32 21 W [55296] (by unfold maxLen; simp))
  go_enter Try.func4, Try.ntmps4
  go_wp2_with fail
  refine (encodes_true _ _ _ _ _ (unhide r1 w) (by simp)).mono ?_
  rintro e w1 ⟨rfl, hb1⟩
  have hb01 : Below w.heap.size w w1 := ((Below.refl _ _).alloc (Nat.le_refl _) _).trans (hb1.mono (by simp))
  clear hb1
  go_wp2_with fail
  refine (encodes_true _ _ _ _ _ (unhide r2 w1) (by simp)).mono ?_
  rintro e w2 ⟨rfl, hb2⟩
  have hb02 : Below w.heap.size w w2 := hb01.trans (((Below.refl _ _).alloc hb01.size _).trans (hb2.mono (by have := hb01.size; simp; omega)))
  clear hb2 hb01
  go_wp2
  go_loopw [3] (fun i wr => ∃ k : Nat, k ≤ n ∧ i = .int .i64 k ∧ Below w.heap.size w wr) (fun i _ => n - (intOf i).toNat)
  case atStart => exact ⟨0, Nat.zero_le _, rfl, hb02⟩
  case round =>
    obtain ⟨k, hk, rfl, hbel⟩ := hrel
    clear hb02
    by_cases hlt : k < n
    · rcases h.at_ with h0 | ⟨b, off, rfl, hbw, hcell⟩
      · omega
      obtain ⟨ai, ni, ci, hc, hr, hni⟩ := hcell k hlt
      have c1 := (hbel.cell (p := ⟨b, off + k, none⟩) hbw).trans hc
      have hr' := hr.below hbel
      clear hcell hr hc
      go_wp2_with fail
      refine (encodes_true _ _ _ _ _ hr' (by omega)).mono ?_
      rintro e w3 ⟨rfl, hb3⟩
      have hb := hbel.trans (hb3.mono hbel.size)
      clear hb3 hr' hbel c1
      go_wp2
      go_roundw
      case rel => exact ⟨k + 1, by omega, by go_num, hb⟩
      case measure => simp [intOf]; omega
    · go_wp2
      go_ret
      exact ⟨rfl, hbel⟩
end Go.Proofs.Ytidkdnlbecompaa.mem
