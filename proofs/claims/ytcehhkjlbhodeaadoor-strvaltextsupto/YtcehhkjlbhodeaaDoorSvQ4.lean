import Derived.Test.YtcehhkjlbhodeaaDoorSvQ3
namespace Go.Proofs.YtcehhkjlbhodeaaDoor.sv
open Go.ChangeShapes Go.WideShapes Go.ChangeAt Go.RowKit
open mem
open ints (hide unhide)
set_option linter.unusedVariables false
set_option linter.unusedSimpArgs false
/-- the bytes of a character in a canonical quoted string -/
def wrB (c : Int) : List Int := (wrR c).flatMap putB
theorem put_rune (c : Int) (h : scP c) : Lib.encodeRuneZ c = putB c := by
  unfold scP at h
  by_cases h1 : c < 128
  · rw [putB_1 h1, Lib.encodeRuneZ_one (by omega) (by omega)]
  by_cases h2 : c < 2048
  · rw [putB_2 (by omega) h2, Lib.encodeRuneZ_two (by omega) (by omega)]
  by_cases h3 : c < 65536
  · rw [putB_3 (by omega) h3, Lib.encodeRuneZ_three (by omega)]
  · rw [putB_4 (by omega), Lib.encodeRuneZ_four (by omega) (by omega)]
theorem wRune (B b : Nat) (zs : List Int) (c : Int) (w : World) (hs : scP c) (h : Bld B b zs w) (hlen : zs.length + 4 ≤ 140737488355328) (hB : B ≤ w.heap.size) :
    Calls Tryd.prog 30 #[.pointer (some ⟨b, 0, none⟩), .int .i32 c] w fun e w' => (∃ v, e = .returned v) ∧ Bld B b (zs ++ putB c) w' ∧ Below B w w' ∧ Kp b w w' := by
  refine (writeRune B b _ c (by unfold scP at hs; omega) (by unfold scP at hs; omega) w h (by rw [List.length_map]; exact hlen) hB).mono ?_
  rintro e w1 ⟨rfl, h1, b1, k1⟩
  refine ⟨⟨_, rfl⟩, ?_, b1, k1⟩
  unfold Bld
  unfold Lib.runeCells at h1
  rw [put_rune c hs] at h1
  rw [List.map_append]
  exact Or.inr h1
theorem hex_flat (n : Int) : (hex4 n).flatMap putB = hex4 n := by
  have h : ∀ d : Int, 0 ≤ d % 16 ∧ d % 16 ≤ 15 := fun d => by omega
  have hh : ∀ k : Int, 0 ≤ k ∧ k ≤ 15 → putB (hd k) = [hd k] := fun k hk => putB_1 (by unfold hd; split <;> omega)
  unfold hex4
  simp only [List.flatMap_cons, List.flatMap_nil]
  rw [hh _ (by omega), hh _ (by omega), hh _ (by omega), hh _ (by omega), putB_1 (by omega), putB_1 (by omega)]
  rfl
theorem wrB_len (c : Int) (hs : scP c) : 1 ≤ (wrB c).length ∧ (wrB c).length ≤ 12 := by
  have hp := putB_len c
  unfold wrB wrR
  repeat' split
  all_goals first
    | (simp [putB]; done)
    | (rw [hex_flat, hex4_len]; omega)
    | (rw [List.flatMap_append, hex_flat, hex_flat, List.length_append, hex4_len, hex4_len]; omega)
    | (simp only [List.flatMap_cons, List.flatMap_nil, List.append_nil]; omega)
set_option maxHeartbeats 4000000 in
theorem lq_34 (B b : Nat) (zs : List Int) (w : World) (h : Bld B b zs w) (hlen : zs.length + 12 ≤ 140737488355328) (hB : B ≤ w.heap.size) :
    Calls Tryd.prog 10 #[.pointer (some ⟨b, 0, none⟩), .int .i32 34] w fun e w' => e = .returned (.tuple #[]) ∧ Bld B b (zs ++ [92, 34]) w' ∧ Below B w w' ∧ Kp b w w' := by
  have S := hide (fun W => ints.split_no 34 W (by omega))
  have I := hide (fun W => idx_ok 34 W (by unfold scP; omega))
  rw [show idxC 34 = 0 from by decide] at I
  go_enter Tryd.func10, Tryd.ntmps10
  go_wp2_with fail
  refine (unhide S _).mono ?_
  rintro e w' ⟨rfl, rfl⟩
  clear S
  go_wp2_with fail
  refine (unhide I _).mono ?_
  rintro e w1 ⟨rfl, q1⟩
  clear I
  have i1 := q1.2.2 _ _ _ h
  have c1 := hide (q1.1.mono hB)
  have p1 := hide (q1.2.1 b)
  have hB1 := Nat.le_trans hB q1.1.size
  clear q1 h
  go_wp2_with fail
  refine (wByte B b _ _ _ i1 (by first | omega | (simp only [List.length_append, List.length_cons, List.length_nil, hex4_len]; omega)) hB1).mono ?_
  rintro e w2 ⟨rfl, i2, b2, k2⟩
  have c2 := hide ((unhide c1).trans b2)
  have p2 := hide ((unhide p1).trans k2)
  have hB2 := Nat.le_trans hB1 b2.size
  clear b2 k2 i1 c1 p1
  go_wp2_with fail
  refine (wByte B b _ _ _ i2 (by first | omega | (simp only [List.length_append, List.length_cons, List.length_nil, hex4_len]; omega)) hB2).mono ?_
  rintro e w3 ⟨rfl, i3, b3, k3⟩
  have c3 := hide ((unhide c2).trans b3)
  have p3 := hide ((unhide p2).trans k3)
  have hB3 := Nat.le_trans hB2 b3.size
  clear b3 k3 i2 c2 p2
  go_wp2
  go_end0
  refine ⟨rfl, ?_, unhide c3, unhide p3⟩
  have i4 : Bld B b (zs ++ [92] ++ [34]) w3 := i3
  simpa only [List.append_assoc, List.cons_append, List.nil_append] using i4
set_option maxHeartbeats 4000000 in
theorem lq_92 (B b : Nat) (zs : List Int) (w : World) (h : Bld B b zs w) (hlen : zs.length + 12 ≤ 140737488355328) (hB : B ≤ w.heap.size) :
    Calls Tryd.prog 10 #[.pointer (some ⟨b, 0, none⟩), .int .i32 92] w fun e w' => e = .returned (.tuple #[]) ∧ Bld B b (zs ++ [92, 92]) w' ∧ Below B w w' ∧ Kp b w w' := by
  have S := hide (fun W => ints.split_no 92 W (by omega))
  have I := hide (fun W => idx_ok 92 W (by unfold scP; omega))
  rw [show idxC 92 = 1 from by decide] at I
  go_enter Tryd.func10, Tryd.ntmps10
  go_wp2_with fail
  refine (unhide S _).mono ?_
  rintro e w' ⟨rfl, rfl⟩
  clear S
  go_wp2_with fail
  refine (unhide I _).mono ?_
  rintro e w1 ⟨rfl, q1⟩
  clear I
  have i1 := q1.2.2 _ _ _ h
  have c1 := hide (q1.1.mono hB)
  have p1 := hide (q1.2.1 b)
  have hB1 := Nat.le_trans hB q1.1.size
  clear q1 h
  go_wp2_with fail
  refine (wByte B b _ _ _ i1 (by first | omega | (simp only [List.length_append, List.length_cons, List.length_nil, hex4_len]; omega)) hB1).mono ?_
  rintro e w2 ⟨rfl, i2, b2, k2⟩
  have c2 := hide ((unhide c1).trans b2)
  have p2 := hide ((unhide p1).trans k2)
  have hB2 := Nat.le_trans hB1 b2.size
  clear b2 k2 i1 c1 p1
  go_wp2_with fail
  refine (wByte B b _ _ _ i2 (by first | omega | (simp only [List.length_append, List.length_cons, List.length_nil, hex4_len]; omega)) hB2).mono ?_
  rintro e w3 ⟨rfl, i3, b3, k3⟩
  have c3 := hide ((unhide c2).trans b3)
  have p3 := hide ((unhide p2).trans k3)
  have hB3 := Nat.le_trans hB2 b3.size
  clear b3 k3 i2 c2 p2
  go_wp2
  go_end0
  refine ⟨rfl, ?_, unhide c3, unhide p3⟩
  have i4 : Bld B b (zs ++ [92] ++ [92]) w3 := i3
  simpa only [List.append_assoc, List.cons_append, List.nil_append] using i4
set_option maxHeartbeats 4000000 in
theorem lq_8 (B b : Nat) (zs : List Int) (w : World) (h : Bld B b zs w) (hlen : zs.length + 12 ≤ 140737488355328) (hB : B ≤ w.heap.size) :
    Calls Tryd.prog 10 #[.pointer (some ⟨b, 0, none⟩), .int .i32 8] w fun e w' => e = .returned (.tuple #[]) ∧ Bld B b (zs ++ [92, 98]) w' ∧ Below B w w' ∧ Kp b w w' := by
  have S := hide (fun W => ints.split_no 8 W (by omega))
  have I := hide (fun W => idx_ok 8 W (by unfold scP; omega))
  rw [show idxC 8 = 2 from by decide] at I
  go_enter Tryd.func10, Tryd.ntmps10
  go_wp2_with fail
  refine (unhide S _).mono ?_
  rintro e w' ⟨rfl, rfl⟩
  clear S
  go_wp2_with fail
  refine (unhide I _).mono ?_
  rintro e w1 ⟨rfl, q1⟩
  clear I
  have i1 := q1.2.2 _ _ _ h
  have c1 := hide (q1.1.mono hB)
  have p1 := hide (q1.2.1 b)
  have hB1 := Nat.le_trans hB q1.1.size
  clear q1 h
  go_wp2_with fail
  refine (wByte B b _ _ _ i1 (by first | omega | (simp only [List.length_append, List.length_cons, List.length_nil, hex4_len]; omega)) hB1).mono ?_
  rintro e w2 ⟨rfl, i2, b2, k2⟩
  have c2 := hide ((unhide c1).trans b2)
  have p2 := hide ((unhide p1).trans k2)
  have hB2 := Nat.le_trans hB1 b2.size
  clear b2 k2 i1 c1 p1
  go_wp2_with fail
  refine (wByte B b _ _ _ i2 (by first | omega | (simp only [List.length_append, List.length_cons, List.length_nil, hex4_len]; omega)) hB2).mono ?_
  rintro e w3 ⟨rfl, i3, b3, k3⟩
  have c3 := hide ((unhide c2).trans b3)
  have p3 := hide ((unhide p2).trans k3)
  have hB3 := Nat.le_trans hB2 b3.size
  clear b3 k3 i2 c2 p2
  go_wp2
  go_end0
  refine ⟨rfl, ?_, unhide c3, unhide p3⟩
  have i4 : Bld B b (zs ++ [92] ++ [98]) w3 := i3
  simpa only [List.append_assoc, List.cons_append, List.nil_append] using i4
set_option maxHeartbeats 4000000 in
theorem lq_12 (B b : Nat) (zs : List Int) (w : World) (h : Bld B b zs w) (hlen : zs.length + 12 ≤ 140737488355328) (hB : B ≤ w.heap.size) :
    Calls Tryd.prog 10 #[.pointer (some ⟨b, 0, none⟩), .int .i32 12] w fun e w' => e = .returned (.tuple #[]) ∧ Bld B b (zs ++ [92, 102]) w' ∧ Below B w w' ∧ Kp b w w' := by
  have S := hide (fun W => ints.split_no 12 W (by omega))
  have I := hide (fun W => idx_ok 12 W (by unfold scP; omega))
  rw [show idxC 12 = 3 from by decide] at I
  go_enter Tryd.func10, Tryd.ntmps10
  go_wp2_with fail
  refine (unhide S _).mono ?_
  rintro e w' ⟨rfl, rfl⟩
  clear S
  go_wp2_with fail
  refine (unhide I _).mono ?_
  rintro e w1 ⟨rfl, q1⟩
  clear I
  have i1 := q1.2.2 _ _ _ h
  have c1 := hide (q1.1.mono hB)
  have p1 := hide (q1.2.1 b)
  have hB1 := Nat.le_trans hB q1.1.size
  clear q1 h
  go_wp2_with fail
  refine (wByte B b _ _ _ i1 (by first | omega | (simp only [List.length_append, List.length_cons, List.length_nil, hex4_len]; omega)) hB1).mono ?_
  rintro e w2 ⟨rfl, i2, b2, k2⟩
  have c2 := hide ((unhide c1).trans b2)
  have p2 := hide ((unhide p1).trans k2)
  have hB2 := Nat.le_trans hB1 b2.size
  clear b2 k2 i1 c1 p1
  go_wp2_with fail
  refine (wByte B b _ _ _ i2 (by first | omega | (simp only [List.length_append, List.length_cons, List.length_nil, hex4_len]; omega)) hB2).mono ?_
  rintro e w3 ⟨rfl, i3, b3, k3⟩
  have c3 := hide ((unhide c2).trans b3)
  have p3 := hide ((unhide p2).trans k3)
  have hB3 := Nat.le_trans hB2 b3.size
  clear b3 k3 i2 c2 p2
  go_wp2
  go_end0
  refine ⟨rfl, ?_, unhide c3, unhide p3⟩
  have i4 : Bld B b (zs ++ [92] ++ [102]) w3 := i3
  simpa only [List.append_assoc, List.cons_append, List.nil_append] using i4
set_option maxHeartbeats 4000000 in
theorem lq_10 (B b : Nat) (zs : List Int) (w : World) (h : Bld B b zs w) (hlen : zs.length + 12 ≤ 140737488355328) (hB : B ≤ w.heap.size) :
    Calls Tryd.prog 10 #[.pointer (some ⟨b, 0, none⟩), .int .i32 10] w fun e w' => e = .returned (.tuple #[]) ∧ Bld B b (zs ++ [92, 110]) w' ∧ Below B w w' ∧ Kp b w w' := by
  have S := hide (fun W => ints.split_no 10 W (by omega))
  have I := hide (fun W => idx_ok 10 W (by unfold scP; omega))
  rw [show idxC 10 = 4 from by decide] at I
  go_enter Tryd.func10, Tryd.ntmps10
  go_wp2_with fail
  refine (unhide S _).mono ?_
  rintro e w' ⟨rfl, rfl⟩
  clear S
  go_wp2_with fail
  refine (unhide I _).mono ?_
  rintro e w1 ⟨rfl, q1⟩
  clear I
  have i1 := q1.2.2 _ _ _ h
  have c1 := hide (q1.1.mono hB)
  have p1 := hide (q1.2.1 b)
  have hB1 := Nat.le_trans hB q1.1.size
  clear q1 h
  go_wp2_with fail
  refine (wByte B b _ _ _ i1 (by first | omega | (simp only [List.length_append, List.length_cons, List.length_nil, hex4_len]; omega)) hB1).mono ?_
  rintro e w2 ⟨rfl, i2, b2, k2⟩
  have c2 := hide ((unhide c1).trans b2)
  have p2 := hide ((unhide p1).trans k2)
  have hB2 := Nat.le_trans hB1 b2.size
  clear b2 k2 i1 c1 p1
  go_wp2_with fail
  refine (wByte B b _ _ _ i2 (by first | omega | (simp only [List.length_append, List.length_cons, List.length_nil, hex4_len]; omega)) hB2).mono ?_
  rintro e w3 ⟨rfl, i3, b3, k3⟩
  have c3 := hide ((unhide c2).trans b3)
  have p3 := hide ((unhide p2).trans k3)
  have hB3 := Nat.le_trans hB2 b3.size
  clear b3 k3 i2 c2 p2
  go_wp2
  go_end0
  refine ⟨rfl, ?_, unhide c3, unhide p3⟩
  have i4 : Bld B b (zs ++ [92] ++ [110]) w3 := i3
  simpa only [List.append_assoc, List.cons_append, List.nil_append] using i4
set_option maxHeartbeats 4000000 in
theorem lq_13 (B b : Nat) (zs : List Int) (w : World) (h : Bld B b zs w) (hlen : zs.length + 12 ≤ 140737488355328) (hB : B ≤ w.heap.size) :
    Calls Tryd.prog 10 #[.pointer (some ⟨b, 0, none⟩), .int .i32 13] w fun e w' => e = .returned (.tuple #[]) ∧ Bld B b (zs ++ [92, 114]) w' ∧ Below B w w' ∧ Kp b w w' := by
  have S := hide (fun W => ints.split_no 13 W (by omega))
  have I := hide (fun W => idx_ok 13 W (by unfold scP; omega))
  rw [show idxC 13 = 5 from by decide] at I
  go_enter Tryd.func10, Tryd.ntmps10
  go_wp2_with fail
  refine (unhide S _).mono ?_
  rintro e w' ⟨rfl, rfl⟩
  clear S
  go_wp2_with fail
  refine (unhide I _).mono ?_
  rintro e w1 ⟨rfl, q1⟩
  clear I
  have i1 := q1.2.2 _ _ _ h
  have c1 := hide (q1.1.mono hB)
  have p1 := hide (q1.2.1 b)
  have hB1 := Nat.le_trans hB q1.1.size
  clear q1 h
  go_wp2_with fail
  refine (wByte B b _ _ _ i1 (by first | omega | (simp only [List.length_append, List.length_cons, List.length_nil, hex4_len]; omega)) hB1).mono ?_
  rintro e w2 ⟨rfl, i2, b2, k2⟩
  have c2 := hide ((unhide c1).trans b2)
  have p2 := hide ((unhide p1).trans k2)
  have hB2 := Nat.le_trans hB1 b2.size
  clear b2 k2 i1 c1 p1
  go_wp2_with fail
  refine (wByte B b _ _ _ i2 (by first | omega | (simp only [List.length_append, List.length_cons, List.length_nil, hex4_len]; omega)) hB2).mono ?_
  rintro e w3 ⟨rfl, i3, b3, k3⟩
  have c3 := hide ((unhide c2).trans b3)
  have p3 := hide ((unhide p2).trans k3)
  have hB3 := Nat.le_trans hB2 b3.size
  clear b3 k3 i2 c2 p2
  go_wp2
  go_end0
  refine ⟨rfl, ?_, unhide c3, unhide p3⟩
  have i4 : Bld B b (zs ++ [92] ++ [114]) w3 := i3
  simpa only [List.append_assoc, List.cons_append, List.nil_append] using i4
set_option maxHeartbeats 4000000 in
theorem lq_9 (B b : Nat) (zs : List Int) (w : World) (h : Bld B b zs w) (hlen : zs.length + 12 ≤ 140737488355328) (hB : B ≤ w.heap.size) :
    Calls Tryd.prog 10 #[.pointer (some ⟨b, 0, none⟩), .int .i32 9] w fun e w' => e = .returned (.tuple #[]) ∧ Bld B b (zs ++ [92, 116]) w' ∧ Below B w w' ∧ Kp b w w' := by
  have S := hide (fun W => ints.split_no 9 W (by omega))
  have I := hide (fun W => idx_ok 9 W (by unfold scP; omega))
  rw [show idxC 9 = 6 from by decide] at I
  go_enter Tryd.func10, Tryd.ntmps10
  go_wp2_with fail
  refine (unhide S _).mono ?_
  rintro e w' ⟨rfl, rfl⟩
  clear S
  go_wp2_with fail
  refine (unhide I _).mono ?_
  rintro e w1 ⟨rfl, q1⟩
  clear I
  have i1 := q1.2.2 _ _ _ h
  have c1 := hide (q1.1.mono hB)
  have p1 := hide (q1.2.1 b)
  have hB1 := Nat.le_trans hB q1.1.size
  clear q1 h
  go_wp2_with fail
  refine (wByte B b _ _ _ i1 (by first | omega | (simp only [List.length_append, List.length_cons, List.length_nil, hex4_len]; omega)) hB1).mono ?_
  rintro e w2 ⟨rfl, i2, b2, k2⟩
  have c2 := hide ((unhide c1).trans b2)
  have p2 := hide ((unhide p1).trans k2)
  have hB2 := Nat.le_trans hB1 b2.size
  clear b2 k2 i1 c1 p1
  go_wp2_with fail
  refine (wByte B b _ _ _ i2 (by first | omega | (simp only [List.length_append, List.length_cons, List.length_nil, hex4_len]; omega)) hB2).mono ?_
  rintro e w3 ⟨rfl, i3, b3, k3⟩
  have c3 := hide ((unhide c2).trans b3)
  have p3 := hide ((unhide p2).trans k3)
  have hB3 := Nat.le_trans hB2 b3.size
  clear b3 k3 i2 c2 p2
  go_wp2
  go_end0
  refine ⟨rfl, ?_, unhide c3, unhide p3⟩
  have i4 : Bld B b (zs ++ [92] ++ [116]) w3 := i3
  simpa only [List.append_assoc, List.cons_append, List.nil_append] using i4
set_option maxHeartbeats 4000000 in
theorem lq_47 (B b : Nat) (zs : List Int) (w : World) (h : Bld B b zs w) (hlen : zs.length + 12 ≤ 140737488355328) (hB : B ≤ w.heap.size) :
    Calls Tryd.prog 10 #[.pointer (some ⟨b, 0, none⟩), .int .i32 47] w fun e w' => e = .returned (.tuple #[]) ∧ Bld B b (zs ++ [47]) w' ∧ Below B w w' ∧ Kp b w w' := by
  have S := hide (fun W => ints.split_no 47 W (by omega))
  have I := hide (fun W => idx_ok 47 W (by unfold scP; omega))
  rw [show idxC 47 = 7 from by decide] at I
  go_enter Tryd.func10, Tryd.ntmps10
  go_wp2_with fail
  refine (unhide S _).mono ?_
  rintro e w' ⟨rfl, rfl⟩
  clear S
  go_wp2_with fail
  refine (unhide I _).mono ?_
  rintro e w1 ⟨rfl, q1⟩
  clear I
  have i1 := q1.2.2 _ _ _ h
  have c1 := hide (q1.1.mono hB)
  have p1 := hide (q1.2.1 b)
  have hB1 := Nat.le_trans hB q1.1.size
  clear q1 h
  go_wp2_with fail
  refine (wRune B b _ 47 _ (by unfold scP; omega) i1 (by first | omega | (simp only [List.length_append, List.length_cons, List.length_nil, hex4_len]; omega)) hB1).mono ?_
  rintro e w2 ⟨⟨v, rfl⟩, i2, b2, k2⟩
  have c2 := hide ((unhide c1).trans b2)
  have p2 := hide ((unhide p1).trans k2)
  have hB2 := Nat.le_trans hB1 b2.size
  clear b2 k2 i1 c1 p1
  go_wp2
  go_end0
  refine ⟨rfl, ?_, unhide c2, unhide p2⟩
  simpa only [putB_1 (show (47 : Int) < 128 by omega)] using i2
set_option maxHeartbeats 4000000 in
theorem lq_low (B b : Nat) (zs : List Int) (c : Int) (w : World) (h : Bld B b zs w) (n34 : ¬ c = 34) (n92 : ¬ c = 92) (n8 : ¬ c = 8) (n12 : ¬ c = 12) (n10 : ¬ c = 10) (n13 : ¬ c = 13) (n9 : ¬ c = 9) (n47 : ¬ c = 47) (h0 : 0 ≤ c) (h1 : c < 32) (hlen : zs.length + 12 ≤ 140737488355328) (hB : B ≤ w.heap.size) :
    Calls Tryd.prog 10 #[.pointer (some ⟨b, 0, none⟩), .int .i32 c] w fun e w' => e = .returned (.tuple #[]) ∧ Bld B b (zs ++ hex4 c) w' ∧ Below B w w' ∧ Kp b w w' := by
  have S := hide (fun W => ints.split_no c W (by omega))
  have I := hide (fun W => idx_ok c W (by unfold scP; omega))
  rw [show idxC c = -1 by unfold idxC; rw [if_neg n34, if_neg n92, if_neg n8, if_neg n12, if_neg n10, if_neg n13, if_neg n9, if_neg n47]] at I
  have e47 : (c == 47) = false := by simp [n47]
  clear n34 n92 n8 n12 n10 n13 n9
  go_enter Tryd.func10, Tryd.ntmps10
  go_wp2_with fail
  refine (unhide S _).mono ?_
  rintro e w' ⟨rfl, rfl⟩
  clear S
  go_wp2_with fail
  refine (unhide I _).mono ?_
  rintro e w1 ⟨rfl, q1⟩
  clear I
  have i1 := q1.2.2 _ _ _ h
  have c1 := hide (q1.1.mono hB)
  have p1 := hide (q1.2.1 b)
  have hB1 := Nat.le_trans hB q1.1.size
  clear q1 h
  go_wp2_with fail
  refine (layCode_ok B b _ c _ i1 h0 (by omega) (by first | omega | (simp only [List.length_append, List.length_cons, List.length_nil, hex4_len]; omega)) hB1).mono ?_
  rintro e w2 ⟨rfl, i2, b2, k2⟩
  have c2 := hide ((unhide c1).trans b2)
  have p2 := hide ((unhide p1).trans k2)
  have hB2 := Nat.le_trans hB1 b2.size
  clear b2 k2 i1 c1 p1
  go_wp2
  go_end0
  refine ⟨rfl, ?_, unhide c2, unhide p2⟩
  exact i2
set_option maxHeartbeats 4000000 in
theorem lq_127 (B b : Nat) (zs : List Int) (w : World) (h : Bld B b zs w) (hlen : zs.length + 12 ≤ 140737488355328) (hB : B ≤ w.heap.size) :
    Calls Tryd.prog 10 #[.pointer (some ⟨b, 0, none⟩), .int .i32 127] w fun e w' => e = .returned (.tuple #[]) ∧ Bld B b (zs ++ hex4 127) w' ∧ Below B w w' ∧ Kp b w w' := by
  have S := hide (fun W => ints.split_no 127 W (by omega))
  have I := hide (fun W => idx_ok 127 W (by unfold scP; omega))
  rw [show idxC 127 = -1 from by decide] at I
  go_enter Tryd.func10, Tryd.ntmps10
  go_wp2_with fail
  refine (unhide S _).mono ?_
  rintro e w' ⟨rfl, rfl⟩
  clear S
  go_wp2_with fail
  refine (unhide I _).mono ?_
  rintro e w1 ⟨rfl, q1⟩
  clear I
  have i1 := q1.2.2 _ _ _ h
  have c1 := hide (q1.1.mono hB)
  have p1 := hide (q1.2.1 b)
  have hB1 := Nat.le_trans hB q1.1.size
  clear q1 h
  go_wp2_with fail
  refine (layCode_ok B b _ 127 _ i1 (by omega) (by omega) (by first | omega | (simp only [List.length_append, List.length_cons, List.length_nil, hex4_len]; omega)) hB1).mono ?_
  rintro e w2 ⟨rfl, i2, b2, k2⟩
  have c2 := hide ((unhide c1).trans b2)
  have p2 := hide ((unhide p1).trans k2)
  have hB2 := Nat.le_trans hB1 b2.size
  clear b2 k2 i1 c1 p1
  go_wp2
  go_end0
  refine ⟨rfl, ?_, unhide c2, unhide p2⟩
  exact i2
set_option maxHeartbeats 4000000 in
theorem lq_two (B b : Nat) (zs : List Int) (c : Int) (w : World) (h : Bld B b zs w) (h0 : 65536 ≤ c) (h1 : c ≤ 1114111) (hlen : zs.length + 12 ≤ 140737488355328) (hB : B ≤ w.heap.size) :
    Calls Tryd.prog 10 #[.pointer (some ⟨b, 0, none⟩), .int .i32 c] w fun e w' => e = .returned (.tuple #[]) ∧ Bld B b (zs ++ (hex4 (55296 + (c - 65536) / 1024) ++ hex4 (56320 + (c - 65536) % 1024))) w' ∧ Below B w w' ∧ Kp b w w' := by
  have S := hide (fun W => ints.split_yes c W h0 h1)
  have I := hide (fun W => idx_ok c W (by unfold scP; omega))
  have n47 : ¬ c = 47 := by omega
  have n127 : ¬ c = 127 := by omega
  have e47 : (c == 47) = false := by simp [n47]
  have e127 : (c == 127) = false := by simp [n127]
  rw [show idxC c = -1 by unfold idxC; rw [if_neg (by omega), if_neg (by omega), if_neg (by omega), if_neg (by omega), if_neg (by omega), if_neg (by omega), if_neg (by omega), if_neg (by omega)]] at I
  have g1 : 0 ≤ 55296 + (c - 65536) / 1024 ∧ 55296 + (c - 65536) / 1024 ≤ 65535 := by omega
  have g2 : 0 ≤ 56320 + (c - 65536) % 1024 ∧ 56320 + (c - 65536) % 1024 ≤ 65535 := by omega
  obtain ⟨hi, hhi⟩ : ∃ x, x = 55296 + (c - 65536) / 1024 := ⟨_, rfl⟩
  obtain ⟨lo, hlo⟩ : ∃ x, x = 56320 + (c - 65536) % 1024 := ⟨_, rfl⟩
  rw [← hhi, ← hlo] at S
  rw [← hhi] at g1 ⊢
  rw [← hlo] at g2 ⊢
  clear hhi hlo
  go_enter Tryd.func10, Tryd.ntmps10
  go_wp2_with fail
  refine (unhide S _).mono ?_
  rintro e w' ⟨rfl, rfl⟩
  clear S
  go_wp2_with fail
  refine (unhide I _).mono ?_
  rintro e w1 ⟨rfl, q1⟩
  clear I
  have i1 := q1.2.2 _ _ _ h
  have c1 := hide (q1.1.mono hB)
  have p1 := hide (q1.2.1 b)
  have hB1 := Nat.le_trans hB q1.1.size
  clear q1 h
  go_wp2_with fail
  refine (layCode_ok B b _ hi _ i1 g1.1 g1.2 (by first | omega | (simp only [List.length_append, List.length_cons, List.length_nil, hex4_len]; omega)) hB1).mono ?_
  rintro e w2 ⟨rfl, i2, b2, k2⟩
  have c2 := hide ((unhide c1).trans b2)
  have p2 := hide ((unhide p1).trans k2)
  have hB2 := Nat.le_trans hB1 b2.size
  clear b2 k2 i1 c1 p1
  go_wp2_with fail
  refine (layCode_ok B b _ lo _ i2 g2.1 g2.2 (by first | omega | (simp only [List.length_append, List.length_cons, List.length_nil, hex4_len]; omega)) hB2).mono ?_
  rintro e w3 ⟨rfl, i3, b3, k3⟩
  have c3 := hide ((unhide c2).trans b3)
  have p3 := hide ((unhide p2).trans k3)
  have hB3 := Nat.le_trans hB2 b3.size
  clear b3 k3 i2 c2 p2
  go_wp2
  go_end0
  refine ⟨rfl, ?_, unhide c3, unhide p3⟩
  simpa only [List.append_assoc] using i3
set_option maxHeartbeats 4000000 in
theorem lq_std (B b : Nat) (zs : List Int) (c : Int) (w : World) (h : Bld B b zs w) (n34 : ¬ c = 34) (n92 : ¬ c = 92) (n8 : ¬ c = 8) (n12 : ¬ c = 12) (n10 : ¬ c = 10) (n13 : ¬ c = 13) (n9 : ¬ c = 9) (n47 : ¬ c = 47) (n127 : ¬ c = 127) (h0 : 32 ≤ c) (h1 : c < 65536) (hs : scP c) (hlen : zs.length + 12 ≤ 140737488355328) (hB : B ≤ w.heap.size) :
    Calls Tryd.prog 10 #[.pointer (some ⟨b, 0, none⟩), .int .i32 c] w fun e w' => e = .returned (.tuple #[]) ∧ Bld B b (zs ++ putB c) w' ∧ Below B w w' ∧ Kp b w w' := by
  have S := hide (fun W => ints.split_no c W (by omega))
  have I := hide (fun W => idx_ok c W hs)
  rw [show idxC c = -1 by unfold idxC; rw [if_neg n34, if_neg n92, if_neg n8, if_neg n12, if_neg n10, if_neg n13, if_neg n9, if_neg n47]] at I
  have e47 : (c == 47) = false := by simp [n47]
  have e127 : (c == 127) = false := by simp [n127]
  clear n34 n92 n8 n12 n10 n13 n9
  go_enter Tryd.func10, Tryd.ntmps10
  go_wp2_with fail
  refine (unhide S _).mono ?_
  rintro e w' ⟨rfl, rfl⟩
  clear S
  go_wp2_with fail
  refine (unhide I _).mono ?_
  rintro e w1 ⟨rfl, q1⟩
  clear I
  have i1 := q1.2.2 _ _ _ h
  have c1 := hide (q1.1.mono hB)
  have p1 := hide (q1.2.1 b)
  have hB1 := Nat.le_trans hB q1.1.size
  clear q1 h
  go_wp2_with fail
  refine (wRune B b _ c _ hs i1 (by first | omega | (simp only [List.length_append, List.length_cons, List.length_nil, hex4_len]; omega)) hB1).mono ?_
  rintro e w2 ⟨⟨v, rfl⟩, i2, b2, k2⟩
  have c2 := hide ((unhide c1).trans b2)
  have p2 := hide ((unhide p1).trans k2)
  have hB2 := Nat.le_trans hB1 b2.size
  clear b2 k2 i1 c1 p1
  go_wp2
  go_end0
  refine ⟨rfl, ?_, unhide c2, unhide p2⟩
  exact i2
theorem lq_ok (B b : Nat) (zs : List Int) (c : Int) (w : World) (h : Bld B b zs w) (hs : scP c) (hlen : zs.length + 12 ≤ 140737488355328) (hB : B ≤ w.heap.size) :
    Calls Tryd.prog 10 #[.pointer (some ⟨b, 0, none⟩), .int .i32 c] w fun e w' => e = .returned (.tuple #[]) ∧ Bld B b (zs ++ wrB c) w' ∧ Below B w w' ∧ Kp b w w' := by
  unfold wrB wrR
  by_cases n34 : c = 34
  · subst n34
    exact lq_34 B b zs w h hlen hB
  rw [if_neg n34]
  by_cases n92 : c = 92
  · subst n92
    exact lq_92 B b zs w h hlen hB
  rw [if_neg n92]
  by_cases n8 : c = 8
  · subst n8
    exact lq_8 B b zs w h hlen hB
  rw [if_neg n8]
  by_cases n12 : c = 12
  · subst n12
    exact lq_12 B b zs w h hlen hB
  rw [if_neg n12]
  by_cases n10 : c = 10
  · subst n10
    exact lq_10 B b zs w h hlen hB
  rw [if_neg n10]
  by_cases n13 : c = 13
  · subst n13
    exact lq_13 B b zs w h hlen hB
  rw [if_neg n13]
  by_cases n9 : c = 9
  · subst n9
    exact lq_9 B b zs w h hlen hB
  rw [if_neg n9]
  have hs2 := hs
  unfold scP at hs2
  by_cases n127 : c = 127
  · subst n127
    rw [if_pos (by omega), hex_flat]
    exact lq_127 B b zs w h hlen hB
  by_cases h32 : c < 32
  · rw [if_pos (by omega), hex_flat]
    exact lq_low B b zs c w h n34 n92 n8 n12 n10 n13 n9 (by omega) (by omega) h32 hlen hB
  rw [if_neg (by omega)]
  by_cases h2 : 65536 ≤ c
  · rw [if_pos h2, List.flatMap_append, hex_flat, hex_flat]
    exact lq_two B b zs c w h h2 (by omega) hlen hB
  rw [if_neg h2]
  have e : [c].flatMap putB = putB c := by simp
  rw [e]
  by_cases n47 : c = 47
  · subst n47
    exact lq_47 B b zs w h hlen hB
  exact lq_std B b zs c w h n34 n92 n8 n12 n10 n13 n9 n47 n127 (by omega) (by omega) hs hlen hB
end Go.Proofs.YtcehhkjlbhodeaaDoor.sv
