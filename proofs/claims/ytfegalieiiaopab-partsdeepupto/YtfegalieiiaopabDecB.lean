import Derived.Test.YtfegalieiiaopabDecU
namespace Go.Proofs.Ytfegalieiiaopab.mem
open Go.ChangeShapes Go.WideShapes Go.ChangeAt Go.RowKit
open ints (hide unhide)
set_option linter.unusedVariables false

theorem own_low {w : World} {base base' : Nat} {e : TypeId} {size : Nat} {v : Value} {n : Nat} {xs : List Value} (h : w.ownsRow base e size v n xs) (hb : base' ≤ base) : w.ownsRow base' e size v n xs :=
  ⟨h.1, h.2.imp id (fun ⟨g', r1, r2, r3, r4, r5⟩ => ⟨g', r1, r2, r3, Nat.le_trans hb r4, r5⟩)⟩
set_option maxHeartbeats 1000000 in
theorem decode_bytes (a : Option Addr) (n c : Nat) (zs : List Int) (w : World) (h : Row .u8 w a n c zs) (hz : Byt zs) (hs : n ≤ 70368744177664) :
    Calls Try.prog 14 #[.slice a n c] w fun e w' => ∃ v, e = .returned (.tuple #[v, .int .i64 ((decZ zs).2 : Int)]) ∧
      w'.ownsRow w.heap.size 21 1 v (decZ zs).1.length ((decZ zs).1.map (Value.int .i32)) ∧ Below w.heap.size w w' := by
  have hsz : (strOfNums zs).size = n := by rw [strOfNums_size, h.len]
  have hbz := bytesZ_str zs hz
  have hconv0 := row_string (P := Try.prog) h 22 9 5 Try.underlying22 Try.underlying5 Try.underlying9
  have hg1 := decZ_le zs hz
  rw [h.len] at hg1
  obtain ⟨g, hg⟩ : ∃ g, g = (decZ zs).2 := ⟨_, rfl⟩
  have G := hide (good_any (strOfNums zs) w (by omega))
  have C := hide (fun W => conv_runes (strOfNums zs) W (by omega) g (by rw [hbz]; exact hg))
  rw [hbz] at G C
  rw [← hg] at hg1 G ⊢
  obtain ⟨S, hS⟩ : ∃ S, S = strOfNums zs := ⟨_, rfl⟩
  rw [← hS] at hsz G C hconv0
  have hle : g ≤ S.size := by omega
  clear hg hbz hS h hsz
  go_enter Try.func14, Try.ntmps14
  go_wp2_with fail
  refine (unhide G).mono ?_
  rintro e w1 ⟨rfl, hb1⟩
  obtain ⟨V, W2, hconv, hown, hb2⟩ := unhide C w1
  have hg1i : (g : Int) ≤ (S.size : Int) := by omega
  clear C G hconv0
  go_wp2
  go_ret2
  exact ⟨V, rfl, own_low hown hb1.size, hb1.trans (hb2.mono hb1.size)⟩
end Go.Proofs.Ytfegalieiiaopab.mem
