import Derived.Test.YtcehhkjlbhodeaaDoorSq1
import Derived.Test.YtcehhkjlbhodeaaDoorDecB
import Derived.Test.YtcehhkjlbhodeaaDoorHalvesW
import Derived.Test.YtcehhkjlbhodeaaDoorShelf
import Derived.Test.YtcehhkjlbhodeaaDoorSvS
import Derived.Lib.QuoteBits
namespace Go.Proofs.YtcehhkjlbhodeaaDoor.sv
open Go.ChangeShapes Go.WideShapes Go.ChangeAt Go.RowKit
open mem
open ints (hide unhide)
set_option linter.unusedVariables false
def Bld (B b : Nat) (zs : List Int) (w : World) : Prop := Lib.IsBuilderF 31 5 B b (zs.map (Value.int .u8)) w
def Kp (b : Nat) (w w' : World) : Prop := Lib.OthersKept 5 (some b) w w'
theorem Kp.trans {b : Nat} {w w1 w2 : World} (h1 : Kp b w w1) (h2 : Kp b w1 w2) : Kp b w w2 := Lib.OthersKept.trans h1 h2
theorem wByte (B b : Nat) (zs : List Int) (c : Int) (w : World) (h : Bld B b zs w) (hlen : zs.length + 1 ≤ 140737488355328) (hB : B ≤ w.heap.size) :
    Calls Tryd.prog 9 #[.pointer (some ⟨b, 0, none⟩), .int .u8 c] w fun e w' => e = .returned .nilIface ∧ Bld B b (zs ++ [c]) w' ∧ Below B w w' ∧ Kp b w w' := by
  refine (writeByte B b _ c w h (by rw [List.length_map]; exact hlen) hB).mono ?_
  rintro e w1 ⟨rfl, h1, b1, k1⟩
  refine ⟨rfl, ?_, b1, k1⟩
  unfold Bld
  rw [List.map_append]
  exact Or.inr h1
theorem wStr (B b : Nat) (zs ys : List Int) (s : ByteArray) (w : World) (h : Bld B b zs w) (hs : Lib.strCells s = ys.map (Value.int .u8)) (hlen : zs.length + s.size ≤ 140737488355328) (hB : B ≤ w.heap.size) :
    Calls Tryd.prog 56 #[.pointer (some ⟨b, 0, none⟩), .string s] w fun e w' => e = .returned (.tuple #[.int .i64 s.size, .nilIface]) ∧ Bld B b (zs ++ ys) w' ∧ Below B w w' ∧ Kp b w w' := by
  refine (writeString B b _ s w h (by rw [List.length_map]; exact hlen) hB).mono ?_
  rintro e w1 ⟨rfl, h1, b1, k1⟩
  refine ⟨rfl, ?_, b1, k1⟩
  unfold Bld
  rw [List.map_append, ← hs]
  exact Or.inr h1
def digC : ByteArray := ⟨#[48, 49, 50, 51, 52, 53, 54, 55, 56, 57, 65, 66, 67, 68, 69, 70]⟩
theorem dig_at (k : Nat) (h : k < digC.size) : ((digC[k]'h).toNat : Int) = hd (k : Int) := by
  have e : ∀ j : Fin 16, ((digC[j.val]'(show j.val < digC.size from j.isLt)).toNat : Int) = hd (j.val : Int) := by decide +kernel
  exact e ⟨k, h⟩
theorem and15 (n m : Int) (h0 : 0 ≤ n) (h1 : n ≤ 65535) (hm : n / m = n / m) (hm1 : 1 ≤ m) : ∃ k : Nat, k < 16 ∧ bits .and .i32 (n / m) 15 = (k : Int) ∧ (k : Int) = n / m % 16 := by
  have h2 : 0 ≤ n / m := Int.ediv_nonneg h0 (by omega)
  have h3 : n / m ≤ n := Int.ediv_le_self m h0
  obtain ⟨x, hx⟩ : ∃ x : Nat, n / m = x := ⟨(n / m).toNat, by omega⟩
  refine ⟨x % 16, by omega, ?_, by omega⟩
  rw [hx]
  exact Lib.and15_i32 x (by omega)
set_option maxHeartbeats 4000000 in
set_option maxRecDepth 100000 in
theorem layCode_ok (B b : Nat) (zs : List Int) (n : Int) (w : World) (h : Bld B b zs w) (h0 : 0 ≤ n) (h1 : n ≤ 65535) (hlen : zs.length + 6 ≤ 140737488355328) (hB : B ≤ w.heap.size) :
    Calls Tryd.prog 31 #[.pointer (some ⟨b, 0, none⟩), .int .i32 n] w fun e w' => e = .returned (.tuple #[]) ∧ Bld B b (zs ++ hex4 n) w' ∧ Below B w w' ∧ Kp b w w' := by
  obtain ⟨k3, l3, a3, e3⟩ := and15 n 4096 h0 h1 rfl (by omega)
  obtain ⟨k2, l2, a2, e2⟩ := and15 n 256 h0 h1 rfl (by omega)
  obtain ⟨k1, l1, a1, e1⟩ := and15 n 16 h0 h1 rfl (by omega)
  obtain ⟨k0, l0, a0, e0⟩ := and15 n 1 h0 h1 rfl (by omega)
  rw [Int.ediv_one] at a0 e0
  have HX := hide (show hex4 n = [92, 117, hd k3, hd k2, hd k1, hd k0] by unfold hex4; rw [e3, e2, e1, e0])
  obtain ⟨X, hX⟩ : ∃ X, X = hex4 n := ⟨_, rfl⟩
  rw [← hX] at HX ⊢
  clear hX e3 e2 e1 e0
  go_enter Tryd.func31, Tryd.ntmps31
  go_wp2_with fail
  refine (wStr B b zs [92, 117] _ w h (by rfl) (by have : (⟨#[92, 117]⟩ : ByteArray).size = 2 := rfl; omega) hB).mono ?_
  rintro e w1 ⟨rfl, i1, c1, p1⟩
  have hB1 := Nat.le_trans hB c1.size
  go_wp2_with fail
  refine wp_loop_rounds 5 ?_
  rw [rounds_succ]
  go_wp2_with fail
  refine (wByte B b _ _ w1 i1 (by simp only [List.length_append, List.length_cons, List.length_nil]; omega) hB1).mono ?_
  rintro e w2 ⟨rfl, i2, b2, q2⟩
  have hB2 := Nat.le_trans hB1 b2.size
  have c2 := ((c1.trans b2))
  have p2 := (p1.trans q2)
  clear b2 q2
  go_wp2_with fail
  rw [rounds_succ]
  go_wp2_with fail
  refine (wByte B b _ _ w2 i2 (by simp only [List.length_append, List.length_cons, List.length_nil]; omega) hB2).mono ?_
  rintro e w3 ⟨rfl, i3, b3, q3⟩
  have hB3 := Nat.le_trans hB2 b3.size
  have c3 := ((c2.trans b3))
  have p3 := (p2.trans q3)
  clear b3 q3
  go_wp2_with fail
  rw [rounds_succ]
  go_wp2_with fail
  refine (wByte B b _ _ w3 i3 (by simp only [List.length_append, List.length_cons, List.length_nil]; omega) hB3).mono ?_
  rintro e w4 ⟨rfl, i4, b4, q4⟩
  have hB4 := Nat.le_trans hB3 b4.size
  have c4 := ((c3.trans b4))
  have p4 := (p3.trans q4)
  clear b4 q4
  go_wp2_with fail
  rw [rounds_succ]
  go_wp2_with fail
  refine (wByte B b _ _ w4 i4 (by simp only [List.length_append, List.length_cons, List.length_nil]; omega) hB4).mono ?_
  rintro e w5 ⟨rfl, i5, b5, q5⟩
  have hB5 := Nat.le_trans hB4 b5.size
  have c5 := ((c4.trans b5))
  have p5 := (p4.trans q5)
  clear b5 q5
  go_wp2_with fail
  rw [rounds_succ]
  go_wp2
  go_end0
  refine ⟨rfl, ?_, c5, p5⟩
  have i6 := i5
  have g3 := dig_at k3 l3
  have g2 := dig_at k2 l2
  have g1 := dig_at k1 l1
  have g0 := dig_at k0 l0
  unfold digC at g3 g2 g1 g0
  rw [g3, g2, g1, g0] at i6
  rw [unhide HX]
  simpa only [List.append_assoc, List.cons_append, List.nil_append] using i6
end Go.Proofs.YtcehhkjlbhodeaaDoor.sv
