import Derived.Test.YtmccppkbabjblaaGreatSfi14
set_option linter.unusedVariables false
set_option linter.unusedSimpArgs false
namespace Go.Proofs.YtmccppkbabjblaaGreat.cu
open Go.ChangeShapes Go.WideShapes Go.ChangeAt Go.RowKit
open ints (hide unhide)
open dt (Dt Kp RowAt Ow Grow OwIn)
section
variable {N B p D : Nat} {c : Cu} {w : World}
set_option maxRecDepth 4000 in
set_option maxHeartbeats 4000000 in
theorem uni_ct {k0 l0 o0 : Int} {ex n1 n2 : Bool} {n3 : ByteArray} (hD : w.heap[D]? = some (.cells #[.int .i64 k0, .bool ex, .bool n1, .bool n2, .string n3, .string ⟨#[]⟩, .slice none 0 0, .slice none 0 0, .slice none 0 0, .slice none 0 0, .slice none 0 0, .slice none 0 0, .slice none 0 0, .bool false, .slice none 0 0, .int .i64 l0, .int .i64 o0] 62 (0, 0))) (hDB : D ≠ B) (hDp : D ≠ p) (h : CurN N w B p c) : Calls Tryz.prog 88 #[.agg #[.pointer (some ⟨B, 0, none⟩)], .pointer (some ⟨D, 0, none⟩)] w fun e w' => ∃ (s : Sy) (c' : Cu) (cs : List Value) (F : List Nat), uniT (litF true N) N ⟨k0, ex, (n1, n2, n3), em, [], [], [], [], [], [], [], false, [], l0, o0⟩ c = (s, c') ∧ e = .returned (.tuple #[]) ∧ SyC s cs ∧ w'.heap[D]? = some (.cells cs.toArray 62 (0, 0)) ∧ Ho w' s.d cs F w.heap.size w'.heap.size ∧ CurN N w' B p c' ∧ Kq B D w w' := by
 have hlt := h.lt
 have hplt := h.plt
 have hDlt : D < w.heap.size := (Array.getElem?_eq_some_iff.1 hD).1
 go_enter Tryz.func88, Tryz.ntmps88
 go_wp2_with fail
 have hD0 := hD
 obtain ⟨W1, hW1⟩ : ∃ W1, W1 = allocs w [(#[.pointer (some ⟨B, 0, none⟩)], 74)] := ⟨_, rfl⟩
 have gW1 : W1 = (w.alloc (.cells #[.pointer (some ⟨B, 0, none⟩)] 74)) := hW1
 have aa := allocs_at [(#[.pointer (some ⟨B, 0, none⟩)], 74)] w
 have fP1 : W1.heap[w.heap.size]? = some (.cells #[.pointer (some ⟨B, 0, none⟩)] 74 (0, 0)) := by rw [hW1]; exact aa 0 _ rfl
 have bw : Below w.heap.size w W1 := by rw [hW1]; exact allocs_below _ _
 have sz1 : w.heap.size + 1 ≤ W1.heap.size := by rw [hW1, allocs_size]; exact Nat.le_refl _
 have K1 : Kp B w W1 := Kp.of bw
 have fD1 : W1.heap[D]? = some (.cells #[.int .i64 k0, .bool ex, .bool n1, .bool n2, .string n3, .string ⟨#[]⟩, .slice none 0 0, .slice none 0 0, .slice none 0 0, .slice none 0 0, .slice none 0 0, .slice none 0 0, .slice none 0 0, .bool false, .slice none 0 0, .int .i64 l0, .int .i64 o0] 62 (0, 0)) := (bw.block _ hDlt).trans hD0
 have C1 := h.below bw
 rw [← gW1]
 clear gW1 hW1 bw aa h
 have K1q := Kq.of (D := D) K1
 clear hD0 hD K1
 have cP2_0 : W1.cell? ⟨w.heap.size, 0, none⟩ = some (.pointer (some ⟨B, 0, none⟩)) := (dt.cell_cells fP1 0).trans rfl
 have HH3 := hide (And.intro fP1 (And.intro fD1 (And.intro C1 (K1q))))
 clear fP1 fD1 C1 K1q
 go_wp2_with fail
 obtain ⟨fP1, fD1, C1, K1q⟩ := unhide HH3
 clear HH3
 refine (named_ct fD1 hDB hDp C1).mono ?_
 rintro e W4 ⟨nm, ln, co, u1, qE1, rfl, fD4, C4, J4⟩
 have E1 := hide qE1; clear qE1
 have sz4 := J4.size
 have fP4 : W4.heap[w.heap.size]? = some (.cells #[.pointer (some ⟨B, 0, none⟩)] 74 (0, 0)) := (J4.block _ (by omega) (by omega) (by omega)).trans fP1
 have K4 := K1q.transQ J4
 clear fP1 fD1 K1q C1 J4 cP2_0
 have cP5_0 : W4.cell? ⟨w.heap.size, 0, none⟩ = some (.pointer (some ⟨B, 0, none⟩)) := (dt.cell_cells fP4 0).trans rfl
 have HH6 := hide (And.intro fP4 (And.intro fD4 (And.intro C4 (K4))))
 clear fP4 fD4 C4 K4
 go_wp2_with fail
 obtain ⟨fP4, fD4, C4, K4⟩ := unhide HH6
 clear HH6
 refine (dirs_ct C4).mono ?_
 rintro e W7 ⟨ds, u2, a2, m2, c2, F2, kE2, qE2, rfl, sD27, C7, J7⟩
 have E2 := hide qE2; clear qE2
 have sz7 := J7.size
 have fP7 : W7.heap[w.heap.size]? = some (.cells #[.pointer (some ⟨B, 0, none⟩)] 74 (0, 0)) := (J7.block _ (by omega) (by omega)).trans fP4
 have fD7 : W7.heap[D]? = some (.cells #[.int .i64 k0, .bool ex, .bool n1, .bool n2, .string n3, .string nm, .slice none 0 0, .slice none 0 0, .slice none 0 0, .slice none 0 0, .slice none 0 0, .slice none 0 0, .slice none 0 0, .bool false, .slice none 0 0, .int .i64 ln, .int .i64 co] 62 (0, 0)) := (J7.block _ (by omega) (by omega)).trans fD4
 have K7 := K4.trans J7
 clear fP4 fD4 K4 C4 J7 cP5_0
 have cD9_7 : W7.cell? ⟨D, 7, none⟩ = some (.slice none 0 0) := (dt.cell_cells fD7 7).trans rfl
 have zD9_7 : W7.frozen? ⟨D, 7, none⟩ = false := dt.frozen_cells fD7 7
 have fP8 : (W7.setCell ⟨D, 7, none⟩ (.slice a2 m2 c2)).heap[w.heap.size]? = some (.cells #[.pointer (some ⟨B, 0, none⟩)] 74 (0, 0)) := (Below.heap_setCell W7 _ _ _ (show w.heap.size ≠ D by omega)).trans fP7
 have fD8 : (W7.setCell ⟨D, 7, none⟩ (.slice a2 m2 c2)).heap[D]? = some (.cells #[.int .i64 k0, .bool ex, .bool n1, .bool n2, .string n3, .string nm, .slice none 0 0, .slice a2 m2 c2, .slice none 0 0, .slice none 0 0, .slice none 0 0, .slice none 0 0, .slice none 0 0, .bool false, .slice none 0 0, .int .i64 ln, .int .i64 co] 62 (0, 0)) := (dt.heap_setCell_at fD7 7 _).trans (by kernel_rfl)
 have C8 := C7.outC (b := D) (by omega) (by omega) 7 (.slice a2 m2 c2)
 have K8 := K7.setB (b := D) (by omega) 7 (.slice a2 m2 c2)
 have sD28 := sD27.outC (b := D) (by omega) 7 (.slice a2 m2 c2)
 have cP10_0 : (W7.setCell ⟨D, 7, none⟩ (.slice a2 m2 c2)).cell? ⟨w.heap.size, 0, none⟩ = some (.pointer (some ⟨B, 0, none⟩)) := (dt.cell_cells fP8 0).trans rfl
 have HH11 := hide (And.intro fP8 (And.intro fD8 (And.intro sD28 (And.intro C8 (And.intro K8 (And.intro fP7 (And.intro fD7 (And.intro sD27 (And.intro K7 (C7))))))))))
 clear fP8 fD8 sD28 C8 K8 fP7 fD7 sD27 K7 C7
 go_wp2_with fail
 obtain ⟨fP8, fD8, sD28, C8, K8, fP7, fD7, sD27, K7, C7⟩ := unhide HH11
 clear HH11
 obtain ⟨W12, hW12⟩ : ∃ W12, W12 = (W7.setCell ⟨D, 7, none⟩ (.slice a2 m2 c2)) := ⟨_, rfl⟩
 rw [← hW12] at fP8 fD8 sD28 C8 K8 ⊢
 have sz12 : W7.heap.size + 0 ≤ W12.heap.size := by rw [hW12]; simp only [size_setC, dt.size_setCells, World.size_alloc]; exact Nat.le_refl _
 clear hW12 cD9_7 zD9_7 cP10_0 fP7 fD7 sD27 K7 C7
 refine (punct_ct bEq C8).mono ?_
 rintro e W13 ⟨u3, q, qE3, rfl, C13, J13⟩
 have E3 := hide qE3; clear qE3
 have sz13 := J13.size
 have fP13 : W13.heap[w.heap.size]? = some (.cells #[.pointer (some ⟨B, 0, none⟩)] 74 (0, 0)) := (J13.block _ (by omega) (by omega)).trans fP8
 have fD13 : W13.heap[D]? = some (.cells #[.int .i64 k0, .bool ex, .bool n1, .bool n2, .string n3, .string nm, .slice none 0 0, .slice a2 m2 c2, .slice none 0 0, .slice none 0 0, .slice none 0 0, .slice none 0 0, .slice none 0 0, .bool false, .slice none 0 0, .int .i64 ln, .int .i64 co] 62 (0, 0)) := (J13.block _ (by omega) (by omega)).trans fD8
 have sD213 := sD28.kp J13 (by omega)
 have K13 := K8.trans J13
 clear fP8 fD8 sD28 K8 C8 J13
 cases q
 ·have HH14 := hide (And.intro fP13 (And.intro fD13 (And.intro sD213 (And.intro C13 (K13)))))
  clear fP13 fD13 sD213 C13 K13
  go_wp2_with fail
  obtain ⟨fP13, fD13, sD213, C13, K13⟩ := unhide HH14
  clear HH14
  go_end0
  have hfin : uniT (litF true N) N ⟨k0, ex, (n1, n2, n3), em, [], [], [], [], [], [], [], false, [], l0, o0⟩ c = (⟨k0, ex, (n1, n2, n3), nm, [], ds.getD [], [], [], [], [], [], false, [], ln, co⟩, u3) := by
   unfold uniT
   exact (bnd_eq (nmd_eq (unhide E1))).trans ((bnd_eq (unhide E2)).trans ((bnd_eq (unhide E3)).trans ((bnd_eq (cond_ff (E := parT N namR bPipe) (ret_eq [] u3))).trans rfl)))
  obtain ⟨hS9, F9, hF9⟩ := sys_own (X := W13) (s := ⟨k0, ex, (n1, n2, n3), nm, [], ds.getD [], [], [], [], [], [], false, [], ln, co⟩) (lo := w.heap.size) (Sh.nil (w := W13) (k := 3) (lo := w.heap.size) (hi := w.heap.size) (by omega)) sD213 (Sh.nil (w := W13) (k := 10) (lo := W7.heap.size) (hi := W7.heap.size) (by omega)) (Sh.nil (w := W13) (k := 17) (lo := W7.heap.size) (hi := W7.heap.size) (by omega)) (Sh.nil (w := W13) (k := 3) (lo := W7.heap.size) (hi := W7.heap.size) (by omega)) (Sh.nil (w := W13) (k := 7) (lo := W7.heap.size) (hi := W7.heap.size) (by omega)) (Sh.nil (w := W13) (k := 4) (lo := W7.heap.size) (hi := W7.heap.size) (by omega)) (Sh.nil (w := W13) (k := 3) (lo := W7.heap.size) (hi := W7.heap.size) (by omega)) (by omega) (by omega) (by omega) (by omega) (by omega) (by omega) (by omega) (by omega) (by omega) (by omega) (by omega) (by omega) (by omega) (by omega) (by omega) (by omega)
  exact ⟨_, u3, _, F9, hfin, rfl, hS9, fD13, hF9, C13, K13⟩
 ·have cP14_0 : W13.cell? ⟨w.heap.size, 0, none⟩ = some (.pointer (some ⟨B, 0, none⟩)) := (dt.cell_cells fP13 0).trans rfl
  have HH15 := hide (And.intro fP13 (And.intro fD13 (And.intro sD213 (And.intro C13 (K13)))))
  clear fP13 fD13 sD213 C13 K13
  go_wp2_with fail
  obtain ⟨fP13, fD13, sD213, C13, K13⟩ := unhide HH15
  clear HH15
  refine (parN_ct bPipe C13).mono ?_
  rintro e W16 ⟨il, u4, a5, m5, c5, F5, qE4, rfl, sD516, C16, J16⟩
  have E4 := hide qE4; clear qE4
  have sz16 := J16.size
  have fP16 : W16.heap[w.heap.size]? = some (.cells #[.pointer (some ⟨B, 0, none⟩)] 74 (0, 0)) := (J16.block _ (by omega) (by omega)).trans fP13
  have fD16 : W16.heap[D]? = some (.cells #[.int .i64 k0, .bool ex, .bool n1, .bool n2, .string n3, .string nm, .slice none 0 0, .slice a2 m2 c2, .slice none 0 0, .slice none 0 0, .slice none 0 0, .slice none 0 0, .slice none 0 0, .bool false, .slice none 0 0, .int .i64 ln, .int .i64 co] 62 (0, 0)) := (J16.block _ (by omega) (by omega)).trans fD13
  have sD216 := sD213.kp J16 (by omega)
  have K16 := K13.trans J16
  clear fP13 fD13 sD213 K13 C13 J16 cP14_0
  have cD18_10 : W16.cell? ⟨D, 10, none⟩ = some (.slice none 0 0) := (dt.cell_cells fD16 10).trans rfl
  have zD18_10 : W16.frozen? ⟨D, 10, none⟩ = false := dt.frozen_cells fD16 10
  have fP17 : (W16.setCell ⟨D, 10, none⟩ (.slice a5 m5 c5)).heap[w.heap.size]? = some (.cells #[.pointer (some ⟨B, 0, none⟩)] 74 (0, 0)) := (Below.heap_setCell W16 _ _ _ (show w.heap.size ≠ D by omega)).trans fP16
  have fD17 : (W16.setCell ⟨D, 10, none⟩ (.slice a5 m5 c5)).heap[D]? = some (.cells #[.int .i64 k0, .bool ex, .bool n1, .bool n2, .string n3, .string nm, .slice none 0 0, .slice a2 m2 c2, .slice none 0 0, .slice none 0 0, .slice a5 m5 c5, .slice none 0 0, .slice none 0 0, .bool false, .slice none 0 0, .int .i64 ln, .int .i64 co] 62 (0, 0)) := (dt.heap_setCell_at fD16 10 _).trans (by kernel_rfl)
  have C17 := C16.outC (b := D) (by omega) (by omega) 10 (.slice a5 m5 c5)
  have K17 := K16.setB (b := D) (by omega) 10 (.slice a5 m5 c5)
  have sD217 := sD216.outC (b := D) (by omega) 10 (.slice a5 m5 c5)
  have sD517 := sD516.outC (b := D) (by omega) 10 (.slice a5 m5 c5)
  have HH19 := hide (And.intro fP17 (And.intro fD17 (And.intro sD217 (And.intro sD517 (And.intro C17 (And.intro K17 (And.intro fP16 (And.intro fD16 (And.intro sD216 (And.intro sD516 (And.intro K16 (C16))))))))))))
  clear fP17 fD17 sD217 sD517 C17 K17 fP16 fD16 sD216 sD516 K16 C16
  go_wp2_with fail
  obtain ⟨fP17, fD17, sD217, sD517, C17, K17, fP16, fD16, sD216, sD516, K16, C16⟩ := unhide HH19
  clear HH19
  obtain ⟨W20, hW20⟩ : ∃ W20, W20 = (W16.setCell ⟨D, 10, none⟩ (.slice a5 m5 c5)) := ⟨_, rfl⟩
  rw [← hW20] at fP17 fD17 sD217 sD517 C17 K17 ⊢
  have sz20 : W16.heap.size + 0 ≤ W20.heap.size := by rw [hW20]; simp only [size_setC, dt.size_setCells, World.size_alloc]; exact Nat.le_refl _
  clear hW20 cD18_10 zD18_10 fP16 fD16 sD216 sD516 K16 C16
  go_end0
  have hfin : uniT (litF true N) N ⟨k0, ex, (n1, n2, n3), em, [], [], [], [], [], [], [], false, [], l0, o0⟩ c = (⟨k0, ex, (n1, n2, n3), nm, [], ds.getD [], [], [], il, [], [], false, [], ln, co⟩, u4) := by
   unfold uniT
   exact (bnd_eq (nmd_eq (unhide E1))).trans ((bnd_eq (unhide E2)).trans ((bnd_eq (unhide E3)).trans ((bnd_eq (cond_tt (unhide E4))).trans rfl)))
  obtain ⟨hS9, F9, hF9⟩ := sys_own (X := W20) (s := ⟨k0, ex, (n1, n2, n3), nm, [], ds.getD [], [], [], il, [], [], false, [], ln, co⟩) (lo := w.heap.size) (Sh.nil (w := W20) (k := 3) (lo := w.heap.size) (hi := w.heap.size) (by omega)) sD217 (Sh.nil (w := W20) (k := 10) (lo := W7.heap.size) (hi := W7.heap.size) (by omega)) (Sh.nil (w := W20) (k := 17) (lo := W7.heap.size) (hi := W7.heap.size) (by omega)) sD517 (Sh.nil (w := W20) (k := 7) (lo := W16.heap.size) (hi := W16.heap.size) (by omega)) (Sh.nil (w := W20) (k := 4) (lo := W16.heap.size) (hi := W16.heap.size) (by omega)) (Sh.nil (w := W20) (k := 3) (lo := W16.heap.size) (hi := W16.heap.size) (by omega)) (by omega) (by omega) (by omega) (by omega) (by omega) (by omega) (by omega) (by omega) (by omega) (by omega) (by omega) (by omega) (by omega) (by omega) (by omega) (by omega)
  exact ⟨_, u4, _, F9, hfin, rfl, hS9, fD17, hF9, C17, K17⟩
end
section
variable {N B p D : Nat} {c : Cu} {w : World}
set_option maxRecDepth 4000 in
set_option maxHeartbeats 4000000 in
theorem enu_ct {k0 l0 o0 : Int} {ex n1 n2 : Bool} {n3 : ByteArray} (hD : w.heap[D]? = some (.cells #[.int .i64 k0, .bool ex, .bool n1, .bool n2, .string n3, .string ⟨#[]⟩, .slice none 0 0, .slice none 0 0, .slice none 0 0, .slice none 0 0, .slice none 0 0, .slice none 0 0, .slice none 0 0, .bool false, .slice none 0 0, .int .i64 l0, .int .i64 o0] 62 (0, 0))) (hDB : D ≠ B) (hDp : D ≠ p) (h : CurN N w B p c) : Calls Tryz.prog 89 #[.agg #[.pointer (some ⟨B, 0, none⟩)], .pointer (some ⟨D, 0, none⟩)] w fun e w' => ∃ (s : Sy) (c' : Cu) (cs : List Value) (F : List Nat), enuT (litF true N) ⟨k0, ex, (n1, n2, n3), em, [], [], [], [], [], [], [], false, [], l0, o0⟩ c = (s, c') ∧ e = .returned (.tuple #[]) ∧ SyC s cs ∧ w'.heap[D]? = some (.cells cs.toArray 62 (0, 0)) ∧ Ho w' s.d cs F w.heap.size w'.heap.size ∧ CurN N w' B p c' ∧ Kq B D w w' := by
 have hlt := h.lt
 have hplt := h.plt
 have hDlt : D < w.heap.size := (Array.getElem?_eq_some_iff.1 hD).1
 go_enter Tryz.func89, Tryz.ntmps89
 go_wp2_with fail
 have hD0 := hD
 obtain ⟨W1, hW1⟩ : ∃ W1, W1 = allocs w [(#[.pointer (some ⟨B, 0, none⟩)], 74)] := ⟨_, rfl⟩
 have gW1 : W1 = (w.alloc (.cells #[.pointer (some ⟨B, 0, none⟩)] 74)) := hW1
 have aa := allocs_at [(#[.pointer (some ⟨B, 0, none⟩)], 74)] w
 have fP1 : W1.heap[w.heap.size]? = some (.cells #[.pointer (some ⟨B, 0, none⟩)] 74 (0, 0)) := by rw [hW1]; exact aa 0 _ rfl
 have bw : Below w.heap.size w W1 := by rw [hW1]; exact allocs_below _ _
 have sz1 : w.heap.size + 1 ≤ W1.heap.size := by rw [hW1, allocs_size]; exact Nat.le_refl _
 have K1 : Kp B w W1 := Kp.of bw
 have fD1 : W1.heap[D]? = some (.cells #[.int .i64 k0, .bool ex, .bool n1, .bool n2, .string n3, .string ⟨#[]⟩, .slice none 0 0, .slice none 0 0, .slice none 0 0, .slice none 0 0, .slice none 0 0, .slice none 0 0, .slice none 0 0, .bool false, .slice none 0 0, .int .i64 l0, .int .i64 o0] 62 (0, 0)) := (bw.block _ hDlt).trans hD0
 have C1 := h.below bw
 rw [← gW1]
 clear gW1 hW1 bw aa h
 have K1q := Kq.of (D := D) K1
 clear hD0 hD K1
 have cP2_0 : W1.cell? ⟨w.heap.size, 0, none⟩ = some (.pointer (some ⟨B, 0, none⟩)) := (dt.cell_cells fP1 0).trans rfl
 have HH3 := hide (And.intro fP1 (And.intro fD1 (And.intro C1 (K1q))))
 clear fP1 fD1 C1 K1q
 go_wp2_with fail
 obtain ⟨fP1, fD1, C1, K1q⟩ := unhide HH3
 clear HH3
 refine (named_ct fD1 hDB hDp C1).mono ?_
 rintro e W4 ⟨nm, ln, co, u1, qE1, rfl, fD4, C4, J4⟩
 have E1 := hide qE1; clear qE1
 have sz4 := J4.size
 have fP4 : W4.heap[w.heap.size]? = some (.cells #[.pointer (some ⟨B, 0, none⟩)] 74 (0, 0)) := (J4.block _ (by omega) (by omega) (by omega)).trans fP1
 have K4 := K1q.transQ J4
 clear fP1 fD1 K1q C1 J4 cP2_0
 have cP5_0 : W4.cell? ⟨w.heap.size, 0, none⟩ = some (.pointer (some ⟨B, 0, none⟩)) := (dt.cell_cells fP4 0).trans rfl
 have HH6 := hide (And.intro fP4 (And.intro fD4 (And.intro C4 (K4))))
 clear fP4 fD4 C4 K4
 go_wp2_with fail
 obtain ⟨fP4, fD4, C4, K4⟩ := unhide HH6
 clear HH6
 refine (dirs_ct C4).mono ?_
 rintro e W7 ⟨ds, u2, a2, m2, c2, F2, kE2, qE2, rfl, sD27, C7, J7⟩
 have E2 := hide qE2; clear qE2
 have sz7 := J7.size
 have fP7 : W7.heap[w.heap.size]? = some (.cells #[.pointer (some ⟨B, 0, none⟩)] 74 (0, 0)) := (J7.block _ (by omega) (by omega)).trans fP4
 have fD7 : W7.heap[D]? = some (.cells #[.int .i64 k0, .bool ex, .bool n1, .bool n2, .string n3, .string nm, .slice none 0 0, .slice none 0 0, .slice none 0 0, .slice none 0 0, .slice none 0 0, .slice none 0 0, .slice none 0 0, .bool false, .slice none 0 0, .int .i64 ln, .int .i64 co] 62 (0, 0)) := (J7.block _ (by omega) (by omega)).trans fD4
 have K7 := K4.trans J7
 clear fP4 fD4 K4 C4 J7 cP5_0
 have cD9_7 : W7.cell? ⟨D, 7, none⟩ = some (.slice none 0 0) := (dt.cell_cells fD7 7).trans rfl
 have zD9_7 : W7.frozen? ⟨D, 7, none⟩ = false := dt.frozen_cells fD7 7
 have fP8 : (W7.setCell ⟨D, 7, none⟩ (.slice a2 m2 c2)).heap[w.heap.size]? = some (.cells #[.pointer (some ⟨B, 0, none⟩)] 74 (0, 0)) := (Below.heap_setCell W7 _ _ _ (show w.heap.size ≠ D by omega)).trans fP7
 have fD8 : (W7.setCell ⟨D, 7, none⟩ (.slice a2 m2 c2)).heap[D]? = some (.cells #[.int .i64 k0, .bool ex, .bool n1, .bool n2, .string n3, .string nm, .slice none 0 0, .slice a2 m2 c2, .slice none 0 0, .slice none 0 0, .slice none 0 0, .slice none 0 0, .slice none 0 0, .bool false, .slice none 0 0, .int .i64 ln, .int .i64 co] 62 (0, 0)) := (dt.heap_setCell_at fD7 7 _).trans (by kernel_rfl)
 have C8 := C7.outC (b := D) (by omega) (by omega) 7 (.slice a2 m2 c2)
 have K8 := K7.setB (b := D) (by omega) 7 (.slice a2 m2 c2)
 have sD28 := sD27.outC (b := D) (by omega) 7 (.slice a2 m2 c2)
 have cP10_0 : (W7.setCell ⟨D, 7, none⟩ (.slice a2 m2 c2)).cell? ⟨w.heap.size, 0, none⟩ = some (.pointer (some ⟨B, 0, none⟩)) := (dt.cell_cells fP8 0).trans rfl
 have HH11 := hide (And.intro fP8 (And.intro fD8 (And.intro sD28 (And.intro C8 (And.intro K8 (And.intro fP7 (And.intro fD7 (And.intro sD27 (And.intro K7 (C7))))))))))
 clear fP8 fD8 sD28 C8 K8 fP7 fD7 sD27 K7 C7
 go_wp2_with fail
 obtain ⟨fP8, fD8, sD28, C8, K8, fP7, fD7, sD27, K7, C7⟩ := unhide HH11
 clear HH11
 obtain ⟨W12, hW12⟩ : ∃ W12, W12 = (W7.setCell ⟨D, 7, none⟩ (.slice a2 m2 c2)) := ⟨_, rfl⟩
 rw [← hW12] at fP8 fD8 sD28 C8 K8 ⊢
 have sz12 : W7.heap.size + 0 ≤ W12.heap.size := by rw [hW12]; simp only [size_setC, dt.size_setCells, World.size_alloc]; exact Nat.le_refl _
 clear hW12 cD9_7 zD9_7 cP10_0 fP7 fD7 sD27 K7 C7
 refine (optC_ct ⟨#[123]⟩ ⟨#[125]⟩ C8).mono ?_
 rintro e W13 ⟨il, u3, a6, m6, c6, F6, qE3, rfl, sD613, C13, J13⟩
 have E3 := hide qE3; clear qE3
 have sz13 := J13.size
 have fP13 : W13.heap[w.heap.size]? = some (.cells #[.pointer (some ⟨B, 0, none⟩)] 74 (0, 0)) := (J13.block _ (by omega) (by omega)).trans fP8
 have fD13 : W13.heap[D]? = some (.cells #[.int .i64 k0, .bool ex, .bool n1, .bool n2, .string n3, .string nm, .slice none 0 0, .slice a2 m2 c2, .slice none 0 0, .slice none 0 0, .slice none 0 0, .slice none 0 0, .slice none 0 0, .bool false, .slice none 0 0, .int .i64 ln, .int .i64 co] 62 (0, 0)) := (J13.block _ (by omega) (by omega)).trans fD8
 have sD213 := sD28.kp J13 (by omega)
 have K13 := K8.trans J13
 clear fP8 fD8 sD28 K8 C8 J13
 have cD15_11 : W13.cell? ⟨D, 11, none⟩ = some (.slice none 0 0) := (dt.cell_cells fD13 11).trans rfl
 have zD15_11 : W13.frozen? ⟨D, 11, none⟩ = false := dt.frozen_cells fD13 11
 have fP14 : (W13.setCell ⟨D, 11, none⟩ (.slice a6 m6 c6)).heap[w.heap.size]? = some (.cells #[.pointer (some ⟨B, 0, none⟩)] 74 (0, 0)) := (Below.heap_setCell W13 _ _ _ (show w.heap.size ≠ D by omega)).trans fP13
 have fD14 : (W13.setCell ⟨D, 11, none⟩ (.slice a6 m6 c6)).heap[D]? = some (.cells #[.int .i64 k0, .bool ex, .bool n1, .bool n2, .string n3, .string nm, .slice none 0 0, .slice a2 m2 c2, .slice none 0 0, .slice none 0 0, .slice none 0 0, .slice a6 m6 c6, .slice none 0 0, .bool false, .slice none 0 0, .int .i64 ln, .int .i64 co] 62 (0, 0)) := (dt.heap_setCell_at fD13 11 _).trans (by kernel_rfl)
 have C14 := C13.outC (b := D) (by omega) (by omega) 11 (.slice a6 m6 c6)
 have K14 := K13.setB (b := D) (by omega) 11 (.slice a6 m6 c6)
 have sD214 := sD213.outC (b := D) (by omega) 11 (.slice a6 m6 c6)
 have sD614 := sD613.outC (b := D) (by omega) 11 (.slice a6 m6 c6)
 have HH16 := hide (And.intro fP14 (And.intro fD14 (And.intro sD214 (And.intro sD614 (And.intro C14 (And.intro K14 (And.intro fP13 (And.intro fD13 (And.intro sD213 (And.intro sD613 (And.intro K13 (C13))))))))))))
 clear fP14 fD14 sD214 sD614 C14 K14 fP13 fD13 sD213 sD613 K13 C13
 go_wp2_with fail
 obtain ⟨fP14, fD14, sD214, sD614, C14, K14, fP13, fD13, sD213, sD613, K13, C13⟩ := unhide HH16
 clear HH16
 obtain ⟨W17, hW17⟩ : ∃ W17, W17 = (W13.setCell ⟨D, 11, none⟩ (.slice a6 m6 c6)) := ⟨_, rfl⟩
 rw [← hW17] at fP14 fD14 sD214 sD614 C14 K14 ⊢
 have sz17 : W13.heap.size + 0 ≤ W17.heap.size := by rw [hW17]; simp only [size_setC, dt.size_setCells, World.size_alloc]; exact Nat.le_refl _
 clear hW17 cD15_11 zD15_11 fP13 fD13 sD213 sD613 K13 C13
 go_end0
 have hfin : enuT (litF true N) ⟨k0, ex, (n1, n2, n3), em, [], [], [], [], [], [], [], false, [], l0, o0⟩ c = (⟨k0, ex, (n1, n2, n3), nm, [], ds.getD [], [], [], [], il, [], false, [], ln, co⟩, u3) := by
  unfold enuT
  exact (bnd_eq (nmd_eq (unhide E1))).trans ((bnd_eq (unhide E2)).trans ((bnd_eq (show optT (choT (litF true N)) bLc bRc u2 = (il, u3) from unhide E3)).trans rfl))
 obtain ⟨hS9, F9, hF9⟩ := sys_own (X := W17) (s := ⟨k0, ex, (n1, n2, n3), nm, [], ds.getD [], [], [], [], il, [], false, [], ln, co⟩) (lo := w.heap.size) (Sh.nil (w := W17) (k := 3) (lo := w.heap.size) (hi := w.heap.size) (by omega)) sD214 (Sh.nil (w := W17) (k := 10) (lo := W7.heap.size) (hi := W7.heap.size) (by omega)) (Sh.nil (w := W17) (k := 17) (lo := W7.heap.size) (hi := W7.heap.size) (by omega)) (Sh.nil (w := W17) (k := 3) (lo := W7.heap.size) (hi := W7.heap.size) (by omega)) sD614 (Sh.nil (w := W17) (k := 4) (lo := W13.heap.size) (hi := W13.heap.size) (by omega)) (Sh.nil (w := W17) (k := 3) (lo := W13.heap.size) (hi := W13.heap.size) (by omega)) (by omega) (by omega) (by omega) (by omega) (by omega) (by omega) (by omega) (by omega) (by omega) (by omega) (by omega) (by omega) (by omega) (by omega) (by omega) (by omega)
 exact ⟨_, u3, _, F9, hfin, rfl, hS9, fD14, hF9, C14, K14⟩
end
section
variable {N B p D : Nat} {c : Cu} {w : World}
set_option maxRecDepth 4000 in
set_option maxHeartbeats 4000000 in
theorem inu_ct {k0 l0 o0 : Int} {ex n1 n2 : Bool} {n3 : ByteArray} (hD : w.heap[D]? = some (.cells #[.int .i64 k0, .bool ex, .bool n1, .bool n2, .string n3, .string ⟨#[]⟩, .slice none 0 0, .slice none 0 0, .slice none 0 0, .slice none 0 0, .slice none 0 0, .slice none 0 0, .slice none 0 0, .bool false, .slice none 0 0, .int .i64 l0, .int .i64 o0] 62 (0, 0))) (hDB : D ≠ B) (hDp : D ≠ p) (h : CurN N w B p c) : Calls Tryz.prog 90 #[.agg #[.pointer (some ⟨B, 0, none⟩)], .pointer (some ⟨D, 0, none⟩)] w fun e w' => ∃ (s : Sy) (c' : Cu) (cs : List Value) (F : List Nat), inuT (typF N) (litF true N) ⟨k0, ex, (n1, n2, n3), em, [], [], [], [], [], [], [], false, [], l0, o0⟩ c = (s, c') ∧ e = .returned (.tuple #[]) ∧ SyC s cs ∧ w'.heap[D]? = some (.cells cs.toArray 62 (0, 0)) ∧ Ho w' s.d cs F w.heap.size w'.heap.size ∧ CurN N w' B p c' ∧ Kq B D w w' := by
 have hlt := h.lt
 have hplt := h.plt
 have hDlt : D < w.heap.size := (Array.getElem?_eq_some_iff.1 hD).1
 go_enter Tryz.func90, Tryz.ntmps90
 go_wp2_with fail
 have hD0 := hD
 obtain ⟨W1, hW1⟩ : ∃ W1, W1 = allocs w [(#[.pointer (some ⟨B, 0, none⟩)], 74)] := ⟨_, rfl⟩
 have gW1 : W1 = (w.alloc (.cells #[.pointer (some ⟨B, 0, none⟩)] 74)) := hW1
 have aa := allocs_at [(#[.pointer (some ⟨B, 0, none⟩)], 74)] w
 have fP1 : W1.heap[w.heap.size]? = some (.cells #[.pointer (some ⟨B, 0, none⟩)] 74 (0, 0)) := by rw [hW1]; exact aa 0 _ rfl
 have bw : Below w.heap.size w W1 := by rw [hW1]; exact allocs_below _ _
 have sz1 : w.heap.size + 1 ≤ W1.heap.size := by rw [hW1, allocs_size]; exact Nat.le_refl _
 have K1 : Kp B w W1 := Kp.of bw
 have fD1 : W1.heap[D]? = some (.cells #[.int .i64 k0, .bool ex, .bool n1, .bool n2, .string n3, .string ⟨#[]⟩, .slice none 0 0, .slice none 0 0, .slice none 0 0, .slice none 0 0, .slice none 0 0, .slice none 0 0, .slice none 0 0, .bool false, .slice none 0 0, .int .i64 l0, .int .i64 o0] 62 (0, 0)) := (bw.block _ hDlt).trans hD0
 have C1 := h.below bw
 rw [← gW1]
 clear gW1 hW1 bw aa h
 have K1q := Kq.of (D := D) K1
 clear hD0 hD K1
 have cP2_0 : W1.cell? ⟨w.heap.size, 0, none⟩ = some (.pointer (some ⟨B, 0, none⟩)) := (dt.cell_cells fP1 0).trans rfl
 have HH3 := hide (And.intro fP1 (And.intro fD1 (And.intro C1 (K1q))))
 clear fP1 fD1 C1 K1q
 go_wp2_with fail
 obtain ⟨fP1, fD1, C1, K1q⟩ := unhide HH3
 clear HH3
 refine (named_ct fD1 hDB hDp C1).mono ?_
 rintro e W4 ⟨nm, ln, co, u1, qE1, rfl, fD4, C4, J4⟩
 have E1 := hide qE1; clear qE1
 have sz4 := J4.size
 have fP4 : W4.heap[w.heap.size]? = some (.cells #[.pointer (some ⟨B, 0, none⟩)] 74 (0, 0)) := (J4.block _ (by omega) (by omega) (by omega)).trans fP1
 have K4 := K1q.transQ J4
 clear fP1 fD1 K1q C1 J4 cP2_0
 have cP5_0 : W4.cell? ⟨w.heap.size, 0, none⟩ = some (.pointer (some ⟨B, 0, none⟩)) := (dt.cell_cells fP4 0).trans rfl
 have HH6 := hide (And.intro fP4 (And.intro fD4 (And.intro C4 (K4))))
 clear fP4 fD4 C4 K4
 go_wp2_with fail
 obtain ⟨fP4, fD4, C4, K4⟩ := unhide HH6
 clear HH6
 refine (dirs_ct C4).mono ?_
 rintro e W7 ⟨ds, u2, a2, m2, c2, F2, kE2, qE2, rfl, sD27, C7, J7⟩
 have E2 := hide qE2; clear qE2
 have sz7 := J7.size
 have fP7 : W7.heap[w.heap.size]? = some (.cells #[.pointer (some ⟨B, 0, none⟩)] 74 (0, 0)) := (J7.block _ (by omega) (by omega)).trans fP4
 have fD7 : W7.heap[D]? = some (.cells #[.int .i64 k0, .bool ex, .bool n1, .bool n2, .string n3, .string nm, .slice none 0 0, .slice none 0 0, .slice none 0 0, .slice none 0 0, .slice none 0 0, .slice none 0 0, .slice none 0 0, .bool false, .slice none 0 0, .int .i64 ln, .int .i64 co] 62 (0, 0)) := (J7.block _ (by omega) (by omega)).trans fD4
 have K7 := K4.trans J7
 clear fP4 fD4 K4 C4 J7 cP5_0
 have cD9_7 : W7.cell? ⟨D, 7, none⟩ = some (.slice none 0 0) := (dt.cell_cells fD7 7).trans rfl
 have zD9_7 : W7.frozen? ⟨D, 7, none⟩ = false := dt.frozen_cells fD7 7
 have fP8 : (W7.setCell ⟨D, 7, none⟩ (.slice a2 m2 c2)).heap[w.heap.size]? = some (.cells #[.pointer (some ⟨B, 0, none⟩)] 74 (0, 0)) := (Below.heap_setCell W7 _ _ _ (show w.heap.size ≠ D by omega)).trans fP7
 have fD8 : (W7.setCell ⟨D, 7, none⟩ (.slice a2 m2 c2)).heap[D]? = some (.cells #[.int .i64 k0, .bool ex, .bool n1, .bool n2, .string n3, .string nm, .slice none 0 0, .slice a2 m2 c2, .slice none 0 0, .slice none 0 0, .slice none 0 0, .slice none 0 0, .slice none 0 0, .bool false, .slice none 0 0, .int .i64 ln, .int .i64 co] 62 (0, 0)) := (dt.heap_setCell_at fD7 7 _).trans (by kernel_rfl)
 have C8 := C7.outC (b := D) (by omega) (by omega) 7 (.slice a2 m2 c2)
 have K8 := K7.setB (b := D) (by omega) 7 (.slice a2 m2 c2)
 have sD28 := sD27.outC (b := D) (by omega) 7 (.slice a2 m2 c2)
 have cP10_0 : (W7.setCell ⟨D, 7, none⟩ (.slice a2 m2 c2)).cell? ⟨w.heap.size, 0, none⟩ = some (.pointer (some ⟨B, 0, none⟩)) := (dt.cell_cells fP8 0).trans rfl
 have HH11 := hide (And.intro fP8 (And.intro fD8 (And.intro sD28 (And.intro C8 (And.intro K8 (And.intro fP7 (And.intro fD7 (And.intro sD27 (And.intro K7 (C7))))))))))
 clear fP8 fD8 sD28 C8 K8 fP7 fD7 sD27 K7 C7
 go_wp2_with fail
 obtain ⟨fP8, fD8, sD28, C8, K8, fP7, fD7, sD27, K7, C7⟩ := unhide HH11
 clear HH11
 obtain ⟨W12, hW12⟩ : ∃ W12, W12 = (W7.setCell ⟨D, 7, none⟩ (.slice a2 m2 c2)) := ⟨_, rfl⟩
 rw [← hW12] at fP8 fD8 sD28 C8 K8 ⊢
 have sz12 : W7.heap.size + 0 ≤ W12.heap.size := by rw [hW12]; simp only [size_setC, dt.size_setCells, World.size_alloc]; exact Nat.le_refl _
 clear hW12 cD9_7 zD9_7 cP10_0 fP7 fD7 sD27 K7 C7
 refine (optI_ct ⟨#[123]⟩ ⟨#[125]⟩ C8).mono ?_
 rintro e W13 ⟨il, u3, a4, m4, c4, F4, qE3, rfl, sD413, C13, J13⟩
 have E3 := hide qE3; clear qE3
 have sz13 := J13.size
 have fP13 : W13.heap[w.heap.size]? = some (.cells #[.pointer (some ⟨B, 0, none⟩)] 74 (0, 0)) := (J13.block _ (by omega) (by omega)).trans fP8
 have fD13 : W13.heap[D]? = some (.cells #[.int .i64 k0, .bool ex, .bool n1, .bool n2, .string n3, .string nm, .slice none 0 0, .slice a2 m2 c2, .slice none 0 0, .slice none 0 0, .slice none 0 0, .slice none 0 0, .slice none 0 0, .bool false, .slice none 0 0, .int .i64 ln, .int .i64 co] 62 (0, 0)) := (J13.block _ (by omega) (by omega)).trans fD8
 have sD213 := sD28.kp J13 (by omega)
 have K13 := K8.trans J13
 clear fP8 fD8 sD28 K8 C8 J13
 have cD15_9 : W13.cell? ⟨D, 9, none⟩ = some (.slice none 0 0) := (dt.cell_cells fD13 9).trans rfl
 have zD15_9 : W13.frozen? ⟨D, 9, none⟩ = false := dt.frozen_cells fD13 9
 have fP14 : (W13.setCell ⟨D, 9, none⟩ (.slice a4 m4 c4)).heap[w.heap.size]? = some (.cells #[.pointer (some ⟨B, 0, none⟩)] 74 (0, 0)) := (Below.heap_setCell W13 _ _ _ (show w.heap.size ≠ D by omega)).trans fP13
 have fD14 : (W13.setCell ⟨D, 9, none⟩ (.slice a4 m4 c4)).heap[D]? = some (.cells #[.int .i64 k0, .bool ex, .bool n1, .bool n2, .string n3, .string nm, .slice none 0 0, .slice a2 m2 c2, .slice none 0 0, .slice a4 m4 c4, .slice none 0 0, .slice none 0 0, .slice none 0 0, .bool false, .slice none 0 0, .int .i64 ln, .int .i64 co] 62 (0, 0)) := (dt.heap_setCell_at fD13 9 _).trans (by kernel_rfl)
 have C14 := C13.outC (b := D) (by omega) (by omega) 9 (.slice a4 m4 c4)
 have K14 := K13.setB (b := D) (by omega) 9 (.slice a4 m4 c4)
 have sD214 := sD213.outC (b := D) (by omega) 9 (.slice a4 m4 c4)
 have sD414 := sD413.outC (b := D) (by omega) 9 (.slice a4 m4 c4)
 have HH16 := hide (And.intro fP14 (And.intro fD14 (And.intro sD214 (And.intro sD414 (And.intro C14 (And.intro K14 (And.intro fP13 (And.intro fD13 (And.intro sD213 (And.intro sD413 (And.intro K13 (C13))))))))))))
 clear fP14 fD14 sD214 sD414 C14 K14 fP13 fD13 sD213 sD413 K13 C13
 go_wp2_with fail
 obtain ⟨fP14, fD14, sD214, sD414, C14, K14, fP13, fD13, sD213, sD413, K13, C13⟩ := unhide HH16
 clear HH16
 obtain ⟨W17, hW17⟩ : ∃ W17, W17 = (W13.setCell ⟨D, 9, none⟩ (.slice a4 m4 c4)) := ⟨_, rfl⟩
 rw [← hW17] at fP14 fD14 sD214 sD414 C14 K14 ⊢
 have sz17 : W13.heap.size + 0 ≤ W17.heap.size := by rw [hW17]; simp only [size_setC, dt.size_setCells, World.size_alloc]; exact Nat.le_refl _
 clear hW17 cD15_9 zD15_9 fP13 fD13 sD213 sD413 K13 C13
 go_end0
 have hfin : inuT (typF N) (litF true N) ⟨k0, ex, (n1, n2, n3), em, [], [], [], [], [], [], [], false, [], l0, o0⟩ c = (⟨k0, ex, (n1, n2, n3), nm, [], ds.getD [], [], il, [], [], [], false, [], ln, co⟩, u3) := by
  unfold inuT
  exact (bnd_eq (nmd_eq (unhide E1))).trans ((bnd_eq (unhide E2)).trans ((bnd_eq (show optT (inpT (typF N) (litF true N)) bLc bRc u2 = (il, u3) from unhide E3)).trans rfl))
 obtain ⟨hS9, F9, hF9⟩ := sys_own (X := W17) (s := ⟨k0, ex, (n1, n2, n3), nm, [], ds.getD [], [], il, [], [], [], false, [], ln, co⟩) (lo := w.heap.size) (Sh.nil (w := W17) (k := 3) (lo := w.heap.size) (hi := w.heap.size) (by omega)) sD214 (Sh.nil (w := W17) (k := 10) (lo := W7.heap.size) (hi := W7.heap.size) (by omega)) sD414 (Sh.nil (w := W17) (k := 3) (lo := W13.heap.size) (hi := W13.heap.size) (by omega)) (Sh.nil (w := W17) (k := 7) (lo := W13.heap.size) (hi := W13.heap.size) (by omega)) (Sh.nil (w := W17) (k := 4) (lo := W13.heap.size) (hi := W13.heap.size) (by omega)) (Sh.nil (w := W17) (k := 3) (lo := W13.heap.size) (hi := W13.heap.size) (by omega)) (by omega) (by omega) (by omega) (by omega) (by omega) (by omega) (by omega) (by omega) (by omega) (by omega) (by omega) (by omega) (by omega) (by omega) (by omega) (by omega)
 exact ⟨_, u3, _, F9, hfin, rfl, hS9, fD14, hF9, C14, K14⟩
end
theorem wwR_of {ws : List ByteArray} {c c' : Cu} {x : Nm} (h : wwN ws c = (x, c')) : wwR ws c = (c.isW ws, c') := by
 have : c.nmC (c.isW ws) = c' := congrArg Prod.snd h
 rw [← this]
 rfl
section
variable {N B p D : Nat} {c : Cu} {w : World}
set_option maxRecDepth 4000 in
set_option maxHeartbeats 4000000 in
theorem dird_ct {k0 l0 o0 : Int} {ex n1 n2 : Bool} {n3 : ByteArray} (hD : w.heap[D]? = some (.cells #[.int .i64 k0, .bool ex, .bool n1, .bool n2, .string n3, .string ⟨#[]⟩, .slice none 0 0, .slice none 0 0, .slice none 0 0, .slice none 0 0, .slice none 0 0, .slice none 0 0, .slice none 0 0, .bool false, .slice none 0 0, .int .i64 l0, .int .i64 o0] 62 (0, 0))) (hDB : D ≠ B) (hDp : D ≠ p) (h : CurN N w B p c) : Calls Tryz.prog 91 #[.agg #[.pointer (some ⟨B, 0, none⟩)], .pointer (some ⟨D, 0, none⟩)] w fun e w' => ∃ (s : Sy) (c' : Cu) (cs : List Value) (F : List Nat), dirT (typF N) (litF true N) N ⟨k0, ex, (n1, n2, n3), em, [], [], [], [], [], [], [], false, [], l0, o0⟩ c = (s, c') ∧ e = .returned (.tuple #[]) ∧ SyC s cs ∧ w'.heap[D]? = some (.cells cs.toArray 62 (0, 0)) ∧ Ho w' s.d cs F w.heap.size w'.heap.size ∧ CurN N w' B p c' ∧ Kq B D w w' := by
 have hlt := h.lt
 have hplt := h.plt
 have hDlt : D < w.heap.size := (Array.getElem?_eq_some_iff.1 hD).1
 go_enter Tryz.func91, Tryz.ntmps91
 go_wp2_with fail
 have hD0 := hD
 obtain ⟨W1, hW1⟩ : ∃ W1, W1 = allocs w [(#[.pointer (some ⟨B, 0, none⟩)], 74)] := ⟨_, rfl⟩
 have gW1 : W1 = (w.alloc (.cells #[.pointer (some ⟨B, 0, none⟩)] 74)) := hW1
 have aa := allocs_at [(#[.pointer (some ⟨B, 0, none⟩)], 74)] w
 have fP1 : W1.heap[w.heap.size]? = some (.cells #[.pointer (some ⟨B, 0, none⟩)] 74 (0, 0)) := by rw [hW1]; exact aa 0 _ rfl
 have bw : Below w.heap.size w W1 := by rw [hW1]; exact allocs_below _ _
 have sz1 : w.heap.size + 1 ≤ W1.heap.size := by rw [hW1, allocs_size]; exact Nat.le_refl _
 have K1 : Kp B w W1 := Kp.of bw
 have fD1 : W1.heap[D]? = some (.cells #[.int .i64 k0, .bool ex, .bool n1, .bool n2, .string n3, .string ⟨#[]⟩, .slice none 0 0, .slice none 0 0, .slice none 0 0, .slice none 0 0, .slice none 0 0, .slice none 0 0, .slice none 0 0, .bool false, .slice none 0 0, .int .i64 l0, .int .i64 o0] 62 (0, 0)) := (bw.block _ hDlt).trans hD0
 have C1 := h.below bw
 rw [← gW1]
 clear gW1 hW1 bw aa h
 have K1q := Kq.of (D := D) K1
 clear hD0 hD K1
 have cP2_0 : W1.cell? ⟨w.heap.size, 0, none⟩ = some (.pointer (some ⟨B, 0, none⟩)) := (dt.cell_cells fP1 0).trans rfl
 have HH3 := hide (And.intro fP1 (And.intro fD1 (And.intro C1 (K1q))))
 clear fP1 fD1 C1 K1q
 go_wp2_with fail
 obtain ⟨fP1, fD1, C1, K1q⟩ := unhide HH3
 clear HH3
 refine (want_ct bAt C1).mono ?_
 rintro e W4 ⟨u0, k0b, qE0, rfl, C4, J4⟩
 have E0 := hide qE0; clear qE0
 have sz4 := J4.size
 have fP4 : W4.heap[w.heap.size]? = some (.cells #[.pointer (some ⟨B, 0, none⟩)] 74 (0, 0)) := (J4.block _ (by omega) (by omega)).trans fP1
 have fD4 : W4.heap[D]? = some (.cells #[.int .i64 k0, .bool ex, .bool n1, .bool n2, .string n3, .string ⟨#[]⟩, .slice none 0 0, .slice none 0 0, .slice none 0 0, .slice none 0 0, .slice none 0 0, .slice none 0 0, .slice none 0 0, .bool false, .slice none 0 0, .int .i64 l0, .int .i64 o0] 62 (0, 0)) := (J4.block _ (by omega) (by omega)).trans fD1
 have K4 := K1q.trans J4
 clear fP1 fD1 K1q C1 J4 cP2_0
 have cP5_0 : W4.cell? ⟨w.heap.size, 0, none⟩ = some (.pointer (some ⟨B, 0, none⟩)) := (dt.cell_cells fP4 0).trans rfl
 have HH6 := hide (And.intro fP4 (And.intro fD4 (And.intro C4 (K4))))
 clear fP4 fD4 C4 K4
 go_wp2_with fail
 obtain ⟨fP4, fD4, C4, K4⟩ := unhide HH6
 clear HH6
 refine (named_ct fD4 hDB hDp C4).mono ?_
 rintro e W7 ⟨nm, ln, co, u1, qE1, rfl, fD7, C7, J7⟩
 have E1 := hide qE1; clear qE1
 have sz7 := J7.size
 have fP7 : W7.heap[w.heap.size]? = some (.cells #[.pointer (some ⟨B, 0, none⟩)] 74 (0, 0)) := (J7.block _ (by omega) (by omega) (by omega)).trans fP4
 have K7 := K4.transQ J7
 clear fP4 fD4 K4 C4 J7 cP5_0
 have cP8_0 : W7.cell? ⟨w.heap.size, 0, none⟩ = some (.pointer (some ⟨B, 0, none⟩)) := (dt.cell_cells fP7 0).trans rfl
 have HH9 := hide (And.intro fP7 (And.intro fD7 (And.intro C7 (K7))))
 clear fP7 fD7 C7 K7
 go_wp2_with fail
 obtain ⟨fP7, fD7, C7, K7⟩ := unhide HH9
 clear HH9
 refine (optI_ct ⟨#[40]⟩ ⟨#[41]⟩ C7).mono ?_
 rintro e W10 ⟨il, u2, a4, m4, c4, F4, qE2, rfl, sD410, C10, J10⟩
 have E2 := hide qE2; clear qE2
 have sz10 := J10.size
 have fP10 : W10.heap[w.heap.size]? = some (.cells #[.pointer (some ⟨B, 0, none⟩)] 74 (0, 0)) := (J10.block _ (by omega) (by omega)).trans fP7
 have fD10 : W10.heap[D]? = some (.cells #[.int .i64 k0, .bool ex, .bool n1, .bool n2, .string n3, .string nm, .slice none 0 0, .slice none 0 0, .slice none 0 0, .slice none 0 0, .slice none 0 0, .slice none 0 0, .slice none 0 0, .bool false, .slice none 0 0, .int .i64 ln, .int .i64 co] 62 (0, 0)) := (J10.block _ (by omega) (by omega)).trans fD7
 have K10 := K7.trans J10
 clear fP7 fD7 K7 C7 J10 cP8_0
 have cD12_9 : W10.cell? ⟨D, 9, none⟩ = some (.slice none 0 0) := (dt.cell_cells fD10 9).trans rfl
 have zD12_9 : W10.frozen? ⟨D, 9, none⟩ = false := dt.frozen_cells fD10 9
 have fP11 : (W10.setCell ⟨D, 9, none⟩ (.slice a4 m4 c4)).heap[w.heap.size]? = some (.cells #[.pointer (some ⟨B, 0, none⟩)] 74 (0, 0)) := (Below.heap_setCell W10 _ _ _ (show w.heap.size ≠ D by omega)).trans fP10
 have fD11 : (W10.setCell ⟨D, 9, none⟩ (.slice a4 m4 c4)).heap[D]? = some (.cells #[.int .i64 k0, .bool ex, .bool n1, .bool n2, .string n3, .string nm, .slice none 0 0, .slice none 0 0, .slice none 0 0, .slice a4 m4 c4, .slice none 0 0, .slice none 0 0, .slice none 0 0, .bool false, .slice none 0 0, .int .i64 ln, .int .i64 co] 62 (0, 0)) := (dt.heap_setCell_at fD10 9 _).trans (by kernel_rfl)
 have C11 := C10.outC (b := D) (by omega) (by omega) 9 (.slice a4 m4 c4)
 have K11 := K10.setB (b := D) (by omega) 9 (.slice a4 m4 c4)
 have sD411 := sD410.outC (b := D) (by omega) 9 (.slice a4 m4 c4)
 have cP13_0 : (W10.setCell ⟨D, 9, none⟩ (.slice a4 m4 c4)).cell? ⟨w.heap.size, 0, none⟩ = some (.pointer (some ⟨B, 0, none⟩)) := (dt.cell_cells fP11 0).trans rfl
 have HH14 := hide (And.intro fP11 (And.intro fD11 (And.intro sD411 (And.intro C11 (And.intro K11 (And.intro fP10 (And.intro fD10 (And.intro sD410 (And.intro K10 (C10))))))))))
 clear fP11 fD11 sD411 C11 K11 fP10 fD10 sD410 K10 C10
 go_wp2_with fail
 obtain ⟨fP11, fD11, sD411, C11, K11, fP10, fD10, sD410, K10, C10⟩ := unhide HH14
 clear HH14
 obtain ⟨W15, hW15⟩ : ∃ W15, W15 = (W10.setCell ⟨D, 9, none⟩ (.slice a4 m4 c4)) := ⟨_, rfl⟩
 rw [← hW15] at fP11 fD11 sD411 C11 K11 ⊢
 have sz15 : W10.heap.size + 0 ≤ W15.heap.size := by rw [hW15]; simp only [size_setC, dt.size_setCells, World.size_alloc]; exact Nat.le_refl _
 clear hW15 cD12_9 zD12_9 cP13_0 fP10 fD10 sD410 K10 C10
 refine (word_ct bRep C11).mono ?_
 rintro e W16 ⟨u3, rq, qE3, rfl, C16, J16⟩
 have E3 := hide qE3; clear qE3
 have sz16 := J16.size
 have fP16 : W16.heap[w.heap.size]? = some (.cells #[.pointer (some ⟨B, 0, none⟩)] 74 (0, 0)) := (J16.block _ (by omega) (by omega)).trans fP11
 have fD16 : W16.heap[D]? = some (.cells #[.int .i64 k0, .bool ex, .bool n1, .bool n2, .string n3, .string nm, .slice none 0 0, .slice none 0 0, .slice none 0 0, .slice a4 m4 c4, .slice none 0 0, .slice none 0 0, .slice none 0 0, .bool false, .slice none 0 0, .int .i64 ln, .int .i64 co] 62 (0, 0)) := (J16.block _ (by omega) (by omega)).trans fD11
 have sD416 := sD411.kp J16 (by omega)
 have K16 := K11.trans J16
 clear fP11 fD11 sD411 K11 C11 J16
 have cD18_13 : W16.cell? ⟨D, 13, none⟩ = some (.bool false) := (dt.cell_cells fD16 13).trans rfl
 have zD18_13 : W16.frozen? ⟨D, 13, none⟩ = false := dt.frozen_cells fD16 13
 have fP17 : (W16.setCell ⟨D, 13, none⟩ (.bool rq)).heap[w.heap.size]? = some (.cells #[.pointer (some ⟨B, 0, none⟩)] 74 (0, 0)) := (Below.heap_setCell W16 _ _ _ (show w.heap.size ≠ D by omega)).trans fP16
 have fD17 : (W16.setCell ⟨D, 13, none⟩ (.bool rq)).heap[D]? = some (.cells #[.int .i64 k0, .bool ex, .bool n1, .bool n2, .string n3, .string nm, .slice none 0 0, .slice none 0 0, .slice none 0 0, .slice a4 m4 c4, .slice none 0 0, .slice none 0 0, .slice none 0 0, .bool rq, .slice none 0 0, .int .i64 ln, .int .i64 co] 62 (0, 0)) := (dt.heap_setCell_at fD16 13 _).trans (by kernel_rfl)
 have C17 := C16.outC (b := D) (by omega) (by omega) 13 (.bool rq)
 have K17 := K16.setB (b := D) (by omega) 13 (.bool rq)
 have sD417 := sD416.outC (b := D) (by omega) 13 (.bool rq)
 have cP19_0 : (W16.setCell ⟨D, 13, none⟩ (.bool rq)).cell? ⟨w.heap.size, 0, none⟩ = some (.pointer (some ⟨B, 0, none⟩)) := (dt.cell_cells fP17 0).trans rfl
 have fP20 : ((W16.setCell ⟨D, 13, none⟩ (.bool rq)).alloc (.cells #[.string ⟨#[111, 110]⟩] 9)).heap[w.heap.size]? = some (.cells #[.pointer (some ⟨B, 0, none⟩)] 74 (0, 0)) := (Below.heap_alloc (W16.setCell ⟨D, 13, none⟩ (.bool rq)) _ _ (by simp only [World.size_alloc, size_setC, dt.size_setCells]; omega)).trans fP17
 have fD20 : ((W16.setCell ⟨D, 13, none⟩ (.bool rq)).alloc (.cells #[.string ⟨#[111, 110]⟩] 9)).heap[D]? = some (.cells #[.int .i64 k0, .bool ex, .bool n1, .bool n2, .string n3, .string nm, .slice none 0 0, .slice none 0 0, .slice none 0 0, .slice a4 m4 c4, .slice none 0 0, .slice none 0 0, .slice none 0 0, .bool rq, .slice none 0 0, .int .i64 ln, .int .i64 co] 62 (0, 0)) := (Below.heap_alloc (W16.setCell ⟨D, 13, none⟩ (.bool rq)) _ _ (by simp only [World.size_alloc, size_setC, dt.size_setCells]; omega)).trans fD17
 have fX20 : ((W16.setCell ⟨D, 13, none⟩ (.bool rq)).alloc (.cells #[.string ⟨#[111, 110]⟩] 9)).heap[(W16.heap.size)]? = some (.cells #[.string ⟨#[111, 110]⟩] 9 (0, 0)) := by have hh := heap_alloc_new (W16.setCell ⟨D, 13, none⟩ (.bool rq)) (.cells #[.string ⟨#[111, 110]⟩] 9); simp only [World.size_alloc, size_setC, dt.size_setCells] at hh; exact hh
 have bb20 : Below (W16.setCell ⟨D, 13, none⟩ (.bool rq)).heap.size (W16.setCell ⟨D, 13, none⟩ (.bool rq)) ((W16.setCell ⟨D, 13, none⟩ (.bool rq)).alloc (.cells #[.string ⟨#[111, 110]⟩] 9)) := (Below.refl _ _).alloc (Nat.le_refl _) _
 have C20 := C17.below bb20
 have K20 := K17.trans (Kp.of bb20)
 have sD420 := sD417.below bb20
 have HH21 := hide (And.intro fP20 (And.intro fD20 (And.intro fX20 (And.intro sD420 (And.intro C20 (And.intro K20 (And.intro fP16 (And.intro fD16 (And.intro sD416 (And.intro K16 (And.intro C16 (And.intro fP17 (And.intro fD17 (And.intro sD417 (And.intro K17 (C17))))))))))))))))
 clear fP20 fD20 fX20 sD420 C20 K20 fP16 fD16 sD416 K16 C16 fP17 fD17 sD417 K17 C17
 go_wp2_with fail
 obtain ⟨fP20, fD20, fX20, sD420, C20, K20, fP16, fD16, sD416, K16, C16, fP17, fD17, sD417, K17, C17⟩ := unhide HH21
 clear HH21
 obtain ⟨W22, hW22⟩ : ∃ W22, W22 = ((W16.setCell ⟨D, 13, none⟩ (.bool rq)).alloc (.cells #[.string ⟨#[111, 110]⟩] 9)) := ⟨_, rfl⟩
 rw [← hW22] at fP20 fD20 fX20 sD420 C20 K20 ⊢
 have sz22 : W16.heap.size + 1 ≤ W22.heap.size := by rw [hW22]; simp only [size_setC, dt.size_setCells, World.size_alloc]; exact Nat.le_refl _
 clear hW22 cD18_13 zD18_13 cP19_0 fP16 fD16 sD416 K16 C16 fP17 fD17 sD417 K17 C17
 refine (ww_ct (ws := [bOn]) (n := 1) (cp := 1) (wds_of [bOn] _ fX20) (by decide) C20).mono ?_
 rintro e W23 ⟨wn, wl, wo, u4, k4b, qE4, rfl, C23, J23⟩
 have E4 := hide qE4; clear qE4
 have sz23 := J23.size
 have fP23 : W23.heap[w.heap.size]? = some (.cells #[.pointer (some ⟨B, 0, none⟩)] 74 (0, 0)) := (J23.block _ (by omega) (by omega)).trans fP20
 have fD23 : W23.heap[D]? = some (.cells #[.int .i64 k0, .bool ex, .bool n1, .bool n2, .string n3, .string nm, .slice none 0 0, .slice none 0 0, .slice none 0 0, .slice a4 m4 c4, .slice none 0 0, .slice none 0 0, .slice none 0 0, .bool rq, .slice none 0 0, .int .i64 ln, .int .i64 co] 62 (0, 0)) := (J23.block _ (by omega) (by omega)).trans fD20
 have fX23 : W23.heap[(W16.heap.size)]? = some (.cells #[.string ⟨#[111, 110]⟩] 9 (0, 0)) := (J23.block _ (by omega) (by omega)).trans fX20
 have sD423 := sD420.kp J23 (by omega)
 have K23 := K20.trans J23
 clear fP20 fD20 fX20 sD420 K20 C20 J23
 clear fX23
 have cP24_0 : W23.cell? ⟨w.heap.size, 0, none⟩ = some (.pointer (some ⟨B, 0, none⟩)) := (dt.cell_cells fP23 0).trans rfl
 have HH25 := hide (And.intro fP23 (And.intro fD23 (And.intro sD423 (And.intro C23 (K23)))))
 clear fP23 fD23 sD423 C23 K23
 go_wp2_with fail
 obtain ⟨fP23, fD23, sD423, C23, K23⟩ := unhide HH25
 clear HH25
 refine (parP_ct bPipe C23).mono ?_
 rintro e W26 ⟨pl, u5, a8, m8, c8, F8, qE5, rfl, sD826, C26, J26⟩
 have E5 := hide qE5; clear qE5
 have sz26 := J26.size
 have fP26 : W26.heap[w.heap.size]? = some (.cells #[.pointer (some ⟨B, 0, none⟩)] 74 (0, 0)) := (J26.block _ (by omega) (by omega)).trans fP23
 have fD26 : W26.heap[D]? = some (.cells #[.int .i64 k0, .bool ex, .bool n1, .bool n2, .string n3, .string nm, .slice none 0 0, .slice none 0 0, .slice none 0 0, .slice a4 m4 c4, .slice none 0 0, .slice none 0 0, .slice none 0 0, .bool rq, .slice none 0 0, .int .i64 ln, .int .i64 co] 62 (0, 0)) := (J26.block _ (by omega) (by omega)).trans fD23
 have sD426 := sD423.kp J26 (by omega)
 have K26 := K23.trans J26
 clear fP23 fD23 sD423 K23 C23 J26 cP24_0
 have cD28_14 : W26.cell? ⟨D, 14, none⟩ = some (.slice none 0 0) := (dt.cell_cells fD26 14).trans rfl
 have zD28_14 : W26.frozen? ⟨D, 14, none⟩ = false := dt.frozen_cells fD26 14
 have fP27 : (W26.setCell ⟨D, 14, none⟩ (.slice a8 m8 c8)).heap[w.heap.size]? = some (.cells #[.pointer (some ⟨B, 0, none⟩)] 74 (0, 0)) := (Below.heap_setCell W26 _ _ _ (show w.heap.size ≠ D by omega)).trans fP26
 have fD27 : (W26.setCell ⟨D, 14, none⟩ (.slice a8 m8 c8)).heap[D]? = some (.cells #[.int .i64 k0, .bool ex, .bool n1, .bool n2, .string n3, .string nm, .slice none 0 0, .slice none 0 0, .slice none 0 0, .slice a4 m4 c4, .slice none 0 0, .slice none 0 0, .slice none 0 0, .bool rq, .slice a8 m8 c8, .int .i64 ln, .int .i64 co] 62 (0, 0)) := (dt.heap_setCell_at fD26 14 _).trans (by kernel_rfl)
 have C27 := C26.outC (b := D) (by omega) (by omega) 14 (.slice a8 m8 c8)
 have K27 := K26.setB (b := D) (by omega) 14 (.slice a8 m8 c8)
 have sD427 := sD426.outC (b := D) (by omega) 14 (.slice a8 m8 c8)
 have sD827 := sD826.outC (b := D) (by omega) 14 (.slice a8 m8 c8)
 have HH29 := hide (And.intro fP27 (And.intro fD27 (And.intro sD427 (And.intro sD827 (And.intro C27 (And.intro K27 (And.intro fP26 (And.intro fD26 (And.intro sD426 (And.intro sD826 (And.intro K26 (C26))))))))))))
 clear fP27 fD27 sD427 sD827 C27 K27 fP26 fD26 sD426 sD826 K26 C26
 go_wp2_with fail
 obtain ⟨fP27, fD27, sD427, sD827, C27, K27, fP26, fD26, sD426, sD826, K26, C26⟩ := unhide HH29
 clear HH29
 obtain ⟨W30, hW30⟩ : ∃ W30, W30 = (W26.setCell ⟨D, 14, none⟩ (.slice a8 m8 c8)) := ⟨_, rfl⟩
 rw [← hW30] at fP27 fD27 sD427 sD827 C27 K27 ⊢
 have sz30 : W26.heap.size + 0 ≤ W30.heap.size := by rw [hW30]; simp only [size_setC, dt.size_setCells, World.size_alloc]; exact Nat.le_refl _
 clear hW30 cD28_14 zD28_14 fP26 fD26 sD426 sD826 K26 C26
 go_end0
 have hfin : dirT (typF N) (litF true N) N ⟨k0, ex, (n1, n2, n3), em, [], [], [], [], [], [], [], false, [], l0, o0⟩ c = (⟨k0, ex, (n1, n2, n3), nm, [], [], [], il, [], [], [], rq, pl, ln, co⟩, u5) := by
  unfold dirT
  exact (bnd_eq (unhide E0)).trans ((bnd_eq (nmd_eq (unhide E1))).trans ((bnd_eq (show optT (inpT (typF N) (litF true N)) bLp bRp u1 = (il, u2) from unhide E2)).trans ((bnd_eq (unhide E3)).trans ((bnd_eq (wwR_of (unhide E4))).trans ((bnd_eq (unhide E5)).trans rfl)))))
 obtain ⟨hS9, F9, hF9⟩ := sys_own (X := W30) (s := ⟨k0, ex, (n1, n2, n3), nm, [], [], [], il, [], [], [], rq, pl, ln, co⟩) (lo := w.heap.size) (Sh.nil (w := W30) (k := 3) (lo := w.heap.size) (hi := w.heap.size) (by omega)) (Sh.nil (w := W30) (k := 4) (lo := w.heap.size) (hi := w.heap.size) (by omega)) (Sh.nil (w := W30) (k := 10) (lo := w.heap.size) (hi := w.heap.size) (by omega)) sD427 (Sh.nil (w := W30) (k := 3) (lo := W10.heap.size) (hi := W10.heap.size) (by omega)) (Sh.nil (w := W30) (k := 7) (lo := W10.heap.size) (hi := W10.heap.size) (by omega)) (Sh.nil (w := W30) (k := 4) (lo := W10.heap.size) (hi := W10.heap.size) (by omega)) sD827 (by omega) (by omega) (by omega) (by omega) (by omega) (by omega) (by omega) (by omega) (by omega) (by omega) (by omega) (by omega) (by omega) (by omega) (by omega) (by omega)
 exact ⟨_, u5, _, F9, hfin, rfl, hS9, fD27, hF9, C27, K27⟩
end
set_option maxRecDepth 4000 in
theorem kws_ct (w : World) : Calls Tryz.prog 73 #[] w fun e w' => e = .returned (.slice (some ⟨w.heap.size, 0, none⟩) 8 8) ∧ w' = w.alloc (.cells #[.string ⟨#[115, 99, 104, 101, 109, 97]⟩, .int .i64 1, .func (.func 85) #[] #[], .string ⟨#[115, 99, 97, 108, 97, 114]⟩, .int .i64 2, .func (.func 86) #[] #[], .string ⟨#[116, 121, 112, 101]⟩, .int .i64 3, .func (.func 87) #[] #[], .string ⟨#[105, 110, 116, 101, 114, 102, 97, 99, 101]⟩, .int .i64 4, .func (.func 87) #[] #[], .string ⟨#[117, 110, 105, 111, 110]⟩, .int .i64 5, .func (.func 88) #[] #[], .string ⟨#[101, 110, 117, 109]⟩, .int .i64 6, .func (.func 89) #[] #[], .string ⟨#[105, 110, 112, 117, 116]⟩, .int .i64 7, .func (.func 90) #[] #[], .string ⟨#[100, 105, 114, 101, 99, 116, 105, 118, 101]⟩, .int .i64 8, .func (.func 91) #[] #[]] 148) := by
 go_enter Tryz.func73, Tryz.ntmps73
 go_wp2_with fail
 go_ret
 exact ⟨rfl, rfl⟩
set_option maxRecDepth 4000 in
set_option maxHeartbeats 2000000 in
theorem bare_ct (w : World) {k : Int} {ex n1 n2 rp : Bool} {n3 nm : ByteArray} {a1 : Option Addr} {m1 c1 : Nat} {a2 : Option Addr} {m2 c2 : Nat} {a3 : Option Addr} {m3 c3 : Nat} {a4 : Option Addr} {m4 c4 : Nat} {a5 : Option Addr} {m5 c5 : Nat} {a6 : Option Addr} {m6 c6 : Nat} {a7 : Option Addr} {m7 c7 : Nat} {a8 : Option Addr} {m8 c8 : Nat} {ln co : Int} (hm : m1 ≤ 8589934592 ∧ m2 ≤ 8589934592 ∧ m3 ≤ 8589934592 ∧ m4 ≤ 8589934592 ∧ m5 ≤ 8589934592 ∧ m6 ≤ 8589934592 ∧ m7 ≤ 8589934592) : Calls Tryz.prog 50 #[.agg (sysC k ex n1 n2 n3 nm a1 m1 c1 a2 m2 c2 a3 m3 c3 a4 m4 c4 a5 m5 c5 a6 m6 c6 a7 m7 c7 rp a8 m8 c8 ln co).toArray] w fun e w' => e = .returned (.bool (decide (m1 + m2 + m3 + m4 + m5 + m6 + m7 = 0))) ∧ Below w.heap.size w w' := by
 have bA := hide (fun o => show Below w.heap.size w (w.alloc o) from (Below.refl _ _).alloc (Nat.le_refl _) _)
 obtain ⟨h1, h2, h3, h4, h5, h6, h7⟩ := hm
 have HD := hide (show decide (m1 + m2 + m3 + m4 + m5 + m6 + m7 = 0) = (((((((((m1 : Int) + m2) + m3) + m4) + m5) + m6) + m7) : Int) == 0) from by rw [Bool.eq_iff_iff]; simp; omega)
 unfold sysC
 go_enter Tryz.func50, Tryz.ntmps50
 go_wp2_with fail
 go_ret
 refine ⟨?_, (unhide bA) _⟩
 rw [unhide HD]
 rfl
def kwd : Nat → ByteArray
 | 0 => bSchema
 | 1 => bScalar
 | 2 => bType
 | 3 => bIface
 | 4 => bUnion
 | 5 => bEnum
 | 6 => bInput
 | _ => bDirec
def kfn : Nat → Nat
 | 0 => 85
 | 1 => 86
 | 2 => 87
 | 3 => 87
 | 4 => 88
 | 5 => 89
 | 6 => 90
 | _ => 91
def krd (N : Nat) : Nat → Sy → Cu → Sy × Cu
 | 0 => schT (litF true N)
 | 1 => scaT (litF true N)
 | 2 => objT (typF N) (litF true N) N
 | 3 => objT (typF N) (litF true N) N
 | 4 => uniT (litF true N) N
 | 5 => enuT (litF true N)
 | 6 => inuT (typF N) (litF true N)
 | _ => dirT (typF N) (litF true N) N
def ksF (N : Nat) (s : Sy) (t : Tk) : Nat → Nat → Cu → Sy × Cu
 | 0, i => stopR s
 | g + 1, i => cond (s.ex && i == 7) (ksF N s t g (i + 1)) (kwT (kwd i) (krd N i (s.at (i + 1) t)) (ksF N s t g (i + 1)))
theorem infoKw : (Tryz.prog.info? 148).map (·.size) = some 3 := by kernel_rfl
theorem key_ks (N : Nat) (n : Nt) (x : Bool) (c : Cu) : keyT (typF N) (litF true N) N (Sy.of n x) c = ksF N (Sy.of n x) c.tok 8 0 c := by cases x <;> rfl
theorem kb_cells {w : World} {b : Nat} (h : w.heap[b]? = some (.cells #[.string ⟨#[115, 99, 104, 101, 109, 97]⟩, .int .i64 1, .func (.func 85) #[] #[], .string ⟨#[115, 99, 97, 108, 97, 114]⟩, .int .i64 2, .func (.func 86) #[] #[], .string ⟨#[116, 121, 112, 101]⟩, .int .i64 3, .func (.func 87) #[] #[], .string ⟨#[105, 110, 116, 101, 114, 102, 97, 99, 101]⟩, .int .i64 4, .func (.func 87) #[] #[], .string ⟨#[117, 110, 105, 111, 110]⟩, .int .i64 5, .func (.func 88) #[] #[], .string ⟨#[101, 110, 117, 109]⟩, .int .i64 6, .func (.func 89) #[] #[], .string ⟨#[105, 110, 112, 117, 116]⟩, .int .i64 7, .func (.func 90) #[] #[], .string ⟨#[100, 105, 114, 101, 99, 116, 105, 118, 101]⟩, .int .i64 8, .func (.func 91) #[] #[]] 148 (0, 0))) (i : Nat) (hi : i < 8) : w.cell? ⟨b, i * 3, none⟩ = some (.string (kwd i)) ∧ w.cell? ⟨b, i * 3 + 1, none⟩ = some (.int .i64 ((i : Int) + 1)) ∧ w.cell? ⟨b, i * 3 + 2, none⟩ = some (.func (.func (kfn i)) #[] #[]) := by
 match i, hi with
 | 0, _ => exact ⟨(dt.cell_cells h 0).trans rfl, (dt.cell_cells h 1).trans rfl, (dt.cell_cells h 2).trans rfl⟩
 | 1, _ => exact ⟨(dt.cell_cells h 3).trans rfl, (dt.cell_cells h 4).trans rfl, (dt.cell_cells h 5).trans rfl⟩
 | 2, _ => exact ⟨(dt.cell_cells h 6).trans rfl, (dt.cell_cells h 7).trans rfl, (dt.cell_cells h 8).trans rfl⟩
 | 3, _ => exact ⟨(dt.cell_cells h 9).trans rfl, (dt.cell_cells h 10).trans rfl, (dt.cell_cells h 11).trans rfl⟩
 | 4, _ => exact ⟨(dt.cell_cells h 12).trans rfl, (dt.cell_cells h 13).trans rfl, (dt.cell_cells h 14).trans rfl⟩
 | 5, _ => exact ⟨(dt.cell_cells h 15).trans rfl, (dt.cell_cells h 16).trans rfl, (dt.cell_cells h 17).trans rfl⟩
 | 6, _ => exact ⟨(dt.cell_cells h 18).trans rfl, (dt.cell_cells h 19).trans rfl, (dt.cell_cells h 20).trans rfl⟩
 | 7, _ => exact ⟨(dt.cell_cells h 21).trans rfl, (dt.cell_cells h 22).trans rfl, (dt.cell_cells h 23).trans rfl⟩
section
variable {N B p D : Nat} {c : Cu} {w : World}
theorem rd_ct (i : Nat) (hi : i < 8) {k0 l0 o0 : Int} {ex n1 n2 : Bool} {n3 : ByteArray} (hD : w.heap[D]? = some (.cells #[.int .i64 k0, .bool ex, .bool n1, .bool n2, .string n3, .string ⟨#[]⟩, .slice none 0 0, .slice none 0 0, .slice none 0 0, .slice none 0 0, .slice none 0 0, .slice none 0 0, .slice none 0 0, .bool false, .slice none 0 0, .int .i64 l0, .int .i64 o0] 62 (0, 0))) (hDB : D ≠ B) (hDp : D ≠ p) (h : CurN N w B p c) : Calls Tryz.prog (kfn i) #[.agg #[.pointer (some ⟨B, 0, none⟩)], .pointer (some ⟨D, 0, none⟩)] w fun e w' => ∃ (s : Sy) (c' : Cu) (cs : List Value) (F : List Nat), krd N i ⟨k0, ex, (n1, n2, n3), em, [], [], [], [], [], [], [], false, [], l0, o0⟩ c = (s, c') ∧ e = .returned (.tuple #[]) ∧ SyC s cs ∧ w'.heap[D]? = some (.cells cs.toArray 62 (0, 0)) ∧ Ho w' s.d cs F w.heap.size w'.heap.size ∧ CurN N w' B p c' ∧ Kq B D w w' := by
 match i, hi with
 | 0, _ => exact sch_ct hD hDB hDp h
 | 1, _ => exact sca_ct hD hDB hDp h
 | 2, _ => exact obj_ct hD hDB hDp h
 | 3, _ => exact obj_ct hD hDB hDp h
 | 4, _ => exact uni_ct hD hDB hDp h
 | 5, _ => exact enu_ct hD hDB hDp h
 | 6, _ => exact inu_ct hD hDB hDp h
 | 7, _ => exact dird_ct hD hDB hDp h
set_option maxRecDepth 4000 in
theorem kfn_en (i : Nat) (hi : i < 8) : ∀ args w, (callFunc (kfn i) args).run Tryz.prog w = .ok (.enter (kfn i) args) w := by
 match i, hi with
 | 0, _ => exact (fun _ _ => rfl : ∀ args w, (callFunc 85 args).run Tryz.prog w = .ok (.enter 85 args) w)
 | 1, _ => exact (fun _ _ => rfl : ∀ args w, (callFunc 86 args).run Tryz.prog w = .ok (.enter 86 args) w)
 | 2, _ => exact (fun _ _ => rfl : ∀ args w, (callFunc 87 args).run Tryz.prog w = .ok (.enter 87 args) w)
 | 3, _ => exact (fun _ _ => rfl : ∀ args w, (callFunc 87 args).run Tryz.prog w = .ok (.enter 87 args) w)
 | 4, _ => exact (fun _ _ => rfl : ∀ args w, (callFunc 88 args).run Tryz.prog w = .ok (.enter 88 args) w)
 | 5, _ => exact (fun _ _ => rfl : ∀ args w, (callFunc 89 args).run Tryz.prog w = .ok (.enter 89 args) w)
 | 6, _ => exact (fun _ _ => rfl : ∀ args w, (callFunc 90 args).run Tryz.prog w = .ok (.enter 90 args) w)
 | 7, _ => exact (fun _ _ => rfl : ∀ args w, (callFunc 91 args).run Tryz.prog w = .ok (.enter 91 args) w)
set_option maxRecDepth 4000 in
set_option maxHeartbeats 8000000 in
theorem key_ct {ex n1 n2 : Bool} {n3 : ByteArray} (hD : w.heap[D]? = some (.cells #[.int .i64 0, .bool ex, .bool n1, .bool n2, .string n3, .string ⟨#[]⟩, .slice none 0 0, .slice none 0 0, .slice none 0 0, .slice none 0 0, .slice none 0 0, .slice none 0 0, .slice none 0 0, .bool false, .slice none 0 0, .int .i64 0, .int .i64 0] 62 (0, 0))) (hDB : D ≠ B) (hDp : D ≠ p) (h : CurN N w B p c) : Calls Tryz.prog 49 #[.agg #[.pointer (some ⟨B, 0, none⟩)], .pointer (some ⟨D, 0, none⟩)] w fun e w' => ∃ (s : Sy) (c' : Cu) (cs : List Value) (F : List Nat), keyT (typF N) (litF true N) N (Sy.of (n1, n2, n3) ex) c = (s, c') ∧ e = .returned (.tuple #[]) ∧ SyC s cs ∧ w'.heap[D]? = some (.cells cs.toArray 62 (0, 0)) ∧ Ho w' s.d cs F w.heap.size w'.heap.size ∧ CurN N w' B p c' ∧ Kq B D w w' := by
 have hlt := h.lt
 have hplt := h.plt
 have hDlt : D < w.heap.size := (Array.getElem?_eq_some_iff.1 hD).1
 obtain ⟨R, hR⟩ : ∃ R, R = ksF N (Sy.of (n1, n2, n3) ex) c.tok 8 0 c := ⟨_, rfl⟩
 have hkey := hide ((key_ks N (n1, n2, n3) ex c).trans hR.symm)
 have HR := hide hR.symm
 clear hR
 obtain ⟨KB, hKB⟩ : ∃ KB : Array Value, KB = #[.string ⟨#[115, 99, 104, 101, 109, 97]⟩, .int .i64 1, .func (.func 85) #[] #[], .string ⟨#[115, 99, 97, 108, 97, 114]⟩, .int .i64 2, .func (.func 86) #[] #[], .string ⟨#[116, 121, 112, 101]⟩, .int .i64 3, .func (.func 87) #[] #[], .string ⟨#[105, 110, 116, 101, 114, 102, 97, 99, 101]⟩, .int .i64 4, .func (.func 87) #[] #[], .string ⟨#[117, 110, 105, 111, 110]⟩, .int .i64 5, .func (.func 88) #[] #[], .string ⟨#[101, 110, 117, 109]⟩, .int .i64 6, .func (.func 89) #[] #[], .string ⟨#[105, 110, 112, 117, 116]⟩, .int .i64 7, .func (.func 90) #[] #[], .string ⟨#[100, 105, 114, 101, 99, 116, 105, 118, 101]⟩, .int .i64 8, .func (.func 91) #[] #[]] := ⟨_, rfl⟩
 have hkb := hide (fun (W : World) (b : Nat) (hk : W.heap[b]? = some (.cells KB 148 (0, 0))) (i : Nat) (hi : i < 8) => kb_cells (by rw [← hKB]; exact hk) i hi)
 have hkw := hide (fun (W : World) => show Calls Tryz.prog 73 #[] W fun e w' => e = .returned (.slice (some ⟨W.heap.size, 0, none⟩) 8 8) ∧ w' = W.alloc (.cells KB 148) from by rw [hKB]; exact kws_ct W)
 have htk := hide (fun W (hc : CurN N W B p c) => token_ok B p c W hc.at_)
 have hre := hide (fun W (hc : CurN N W B p c) => refuse_ct hc)
 have hf1 := fld_pos c.tok
 unfold Tk.cells at htk
 unfold ptr at htk
 obtain ⟨t, et⟩ : ∃ t, t = c.tok := ⟨_, rfl⟩
 rw [← et] at htk hf1 HR
 clear hKB et
 go_enter Tryz.func49, Tryz.ntmps49
 go_wp2_with fail
 have hD0 := hD
 obtain ⟨W1, hW1⟩ : ∃ W1, W1 = allocs w [(#[.pointer (some ⟨B, 0, none⟩)], 74)] := ⟨_, rfl⟩
 have gW1 : W1 = (w.alloc (.cells #[.pointer (some ⟨B, 0, none⟩)] 74)) := hW1
 have aa := allocs_at [(#[.pointer (some ⟨B, 0, none⟩)], 74)] w
 have fP1 : W1.heap[w.heap.size]? = some (.cells #[.pointer (some ⟨B, 0, none⟩)] 74 (0, 0)) := by rw [hW1]; exact aa 0 _ rfl
 have bw : Below w.heap.size w W1 := by rw [hW1]; exact allocs_below _ _
 have sz1 : w.heap.size + 1 ≤ W1.heap.size := by rw [hW1, allocs_size]; exact Nat.le_refl _
 have K1 : Kp B w W1 := Kp.of bw
 have fD1 : W1.heap[D]? = some (.cells #[.int .i64 0, .bool ex, .bool n1, .bool n2, .string n3, .string ⟨#[]⟩, .slice none 0 0, .slice none 0 0, .slice none 0 0, .slice none 0 0, .slice none 0 0, .slice none 0 0, .slice none 0 0, .bool false, .slice none 0 0, .int .i64 0, .int .i64 0] 62 (0, 0)) := (bw.block _ hDlt).trans hD0
 have C1 := h.below bw
 rw [← gW1]
 clear gW1 hW1 bw aa h
 clear hD0 hD
 refine ((unhide hkw) W1).mono ?_
 rintro e W2 ⟨rfl, hw2⟩
 have bb2 : Below W1.heap.size W1 W2 := by rw [hw2]; exact (Below.refl _ _).alloc (Nat.le_refl _) _
 have fK2 : W2.heap[W1.heap.size]? = some (.cells KB 148 (0, 0)) := by rw [hw2]; exact heap_alloc_new _ _
 have lt2 : W1.heap.size < W2.heap.size := by rw [hw2]; simp
 have J2 : Kp B W1 W2 := Kp.of bb2
 have C2 := C1.below bb2
 clear hw2 bb2 hkw
 have sz2 := J2.size
 have fP2 : W2.heap[w.heap.size]? = some (.cells #[.pointer (some ⟨B, 0, none⟩)] 74 (0, 0)) := (J2.block _ (by omega) (by omega)).trans fP1
 have fD2 : W2.heap[D]? = some (.cells #[.int .i64 0, .bool ex, .bool n1, .bool n2, .string n3, .string ⟨#[]⟩, .slice none 0 0, .slice none 0 0, .slice none 0 0, .slice none 0 0, .slice none 0 0, .slice none 0 0, .slice none 0 0, .bool false, .slice none 0 0, .int .i64 0, .int .i64 0] 62 (0, 0)) := (J2.block _ (by omega) (by omega)).trans fD1
 have K2 := K1.trans J2
 clear fP1 fD1 K1 C1 J2
 go_wp2_with fail
 obtain ⟨kb, hkbe⟩ : ∃ kb, kb = W1.heap.size := ⟨_, rfl⟩
 rw [← hkbe] at fK2 lt2 ⊢
 have hkl : w.heap.size < kb := by omega
 clear hkbe
 go_loopg [9] 8 (fun g v wr => ∃ i : Nat, v = .int .i64 (i : Int) ∧ i + g = 8 ∧ Hid (ksF N (Sy.of (n1, n2, n3) ex) t g i c = R) ∧ CurN N wr B p c ∧ Hid (wr.heap[w.heap.size]? = some (.cells #[.pointer (some ⟨B, 0, none⟩)] 74 (0, 0))) ∧ Hid (wr.heap[D]? = some (.cells #[.int .i64 0, .bool ex, .bool n1, .bool n2, .string n3, .string ⟨#[]⟩, .slice none 0 0, .slice none 0 0, .slice none 0 0, .slice none 0 0, .slice none 0 0, .slice none 0 0, .slice none 0 0, .bool false, .slice none 0 0, .int .i64 0, .int .i64 0] 62 (0, 0))) ∧ Hid (wr.heap[kb]? = some (.cells KB 148 (0, 0))) ∧ Kp B w wr ∧ kb < wr.heap.size)
 case atStart => exact ⟨0, rfl, rfl, HR, C2, hide fP2, hide fD2, hide fK2, K2, lt2⟩
 case round =>
  clear C2 fP2 fD2 fK2 K2 HR
  obtain ⟨i, hv, hig, hrun, hcc, hpr, hdr, hkr, hkp, hzr⟩ := hrel
  subst hv
  obtain rfl | ⟨g, rfl⟩ : gk = 0 ∨ ∃ g, gk = g + 1 := by cases gk with | zero => exact .inl rfl | succ g => exact .inr ⟨g, rfl⟩
  ·obtain rfl : i = 8 := by omega
   have cP : wr.cell? ⟨w.heap.size, 0, none⟩ = some (.pointer (some ⟨B, 0, none⟩)) := (dt.cell_cells (unhide hpr) 0).trans rfl
   have hrun2 := hide (show (Sy.of (n1, n2, n3) ex, c.stop 70) = R from unhide hrun)
   have hre2 := hide ((unhide hre) wr hcc)
   clear hrun hre
   go_wp2_with fail
   refine (unhide hre2).mono ?_
   rintro e w9 ⟨rfl, C9, J9⟩
   have sz9 := J9.size
   have hz := hkp.size
   have fD9 : w9.heap[D]? = some (.cells #[.int .i64 0, .bool ex, .bool n1, .bool n2, .string n3, .string ⟨#[]⟩, .slice none 0 0, .slice none 0 0, .slice none 0 0, .slice none 0 0, .slice none 0 0, .slice none 0 0, .slice none 0 0, .bool false, .slice none 0 0, .int .i64 0, .int .i64 0] 62 (0, 0)) := (J9.block D (by omega) hDB).trans (unhide hdr)
   have K9 := Kq.of (D := D) (hkp.trans J9)
   go_wp2_with fail
   go_end0
   obtain ⟨hS9, F9, hF9⟩ := sys_own (X := w9) (s := Sy.of (n1, n2, n3) ex) (lo := w.heap.size) (Sh.nil (w := w9) (k := 3) (lo := w.heap.size) (hi := w.heap.size) (by omega)) (Sh.nil (w := w9) (k := 4) (lo := w.heap.size) (hi := w.heap.size) (by omega)) (Sh.nil (w := w9) (k := 10) (lo := w.heap.size) (hi := w.heap.size) (by omega)) (Sh.nil (w := w9) (k := 17) (lo := w.heap.size) (hi := w.heap.size) (by omega)) (Sh.nil (w := w9) (k := 3) (lo := w.heap.size) (hi := w.heap.size) (by omega)) (Sh.nil (w := w9) (k := 7) (lo := w.heap.size) (hi := w.heap.size) (by omega)) (Sh.nil (w := w9) (k := 4) (lo := w.heap.size) (hi := w.heap.size) (by omega)) (Sh.nil (w := w9) (k := 3) (lo := w.heap.size) (hi := w.heap.size) (by omega)) (by omega) (by omega) (by omega) (by omega) (by omega) (by omega) (by omega) (by omega) (by omega) (by omega) (by omega) (by omega) (by omega) (by omega) (by omega) (by omega)
   exact ⟨_, c.stop 70, _, F9, (unhide hkey).trans (unhide hrun2).symm, rfl, hS9, fD9, hF9, C9, K9⟩
  ·obtain ⟨W50, e50⟩ : ∃ W50, W50 = wr := ⟨_, rfl⟩
   subst e50
   have hi8 : i < 8 := by omega
   have hz := hkp.size
   have kcs := (unhide hkb) W50 kb (unhide hkr) i hi8
   have hcall := hide (fun (k0 l0 o0 : Int) (W : World) (u : Cu) (hD : W.heap[D]? = some (.cells #[.int .i64 k0, .bool ex, .bool n1, .bool n2, .string n3, .string ⟨#[]⟩, .slice none 0 0, .slice none 0 0, .slice none 0 0, .slice none 0 0, .slice none 0 0, .slice none 0 0, .slice none 0 0, .bool false, .slice none 0 0, .int .i64 l0, .int .i64 o0] 62 (0, 0))) (hc : CurN N W B p u) => rd_ct (ex := ex) (n1 := n1) (n2 := n2) (n3 := n3) (k0 := k0) (l0 := l0) (o0 := o0) i hi8 hD hDB hDp hc)
   have en := kfn_en i hi8
   have hrun2 := hide (show cond (ex && i == 7) (ksF N (Sy.of (n1, n2, n3) ex) t g (i + 1)) (kwT (kwd i) (krd N i ((Sy.of (n1, n2, n3) ex).at (i + 1) t)) (ksF N (Sy.of (n1, n2, n3) ex) t g (i + 1))) c = R from unhide hrun)
   obtain ⟨kw, hkw⟩ : ∃ kw, kw = kwd i := ⟨_, rfl⟩
   obtain ⟨f, hf⟩ : ∃ f, f = kfn i := ⟨_, rfl⟩
   rw [← hkw] at kcs hrun2
   rw [← hf] at kcs hcall en
   clear hkw hf hrun
   obtain ⟨kc0, kc1, kc2⟩ := kcs
   have ii : (i : Int) < 8 := by omega
   have fP := unhide hpr
   have fD := unhide hdr
   have fK := unhide hkr
   clear hpr hdr hkr
   cases ex
   ·have hrun3 := hide (show kwT kw (krd N i ((Sy.of (n1, n2, n3) false).at (i + 1) t)) (ksF N (Sy.of (n1, n2, n3) false) t g (i + 1)) c = R from unhide hrun2)
    clear hrun2
    have fP51 : (W50.alloc (.cells #[.string ⟨#[]⟩, .int .i64 0, .nilFunc] 148)).heap[w.heap.size]? = some (.cells #[.pointer (some ⟨B, 0, none⟩)] 74 (0, 0)) := (Below.heap_alloc W50 _ _ (by omega)).trans fP
    have fD51 : (W50.alloc (.cells #[.string ⟨#[]⟩, .int .i64 0, .nilFunc] 148)).heap[D]? = some (.cells #[.int .i64 0, .bool false, .bool n1, .bool n2, .string n3, .string ⟨#[]⟩, .slice none 0 0, .slice none 0 0, .slice none 0 0, .slice none 0 0, .slice none 0 0, .slice none 0 0, .slice none 0 0, .bool false, .slice none 0 0, .int .i64 0, .int .i64 0] 62 (0, 0)) := (Below.heap_alloc W50 _ _ (by omega)).trans fD
    have fK51 : (W50.alloc (.cells #[.string ⟨#[]⟩, .int .i64 0, .nilFunc] 148)).heap[kb]? = some (.cells KB 148 (0, 0)) := (Below.heap_alloc W50 _ _ (by omega)).trans fK
    have fQ51 : (W50.alloc (.cells #[.string ⟨#[]⟩, .int .i64 0, .nilFunc] 148)).heap[W50.heap.size]? = some (.cells #[.string ⟨#[]⟩, .int .i64 0, .nilFunc] 148 (0, 0)) := heap_alloc_new _ _
    have bb51 : Below W50.heap.size W50 (W50.alloc (.cells #[.string ⟨#[]⟩, .int .i64 0, .nilFunc] 148)) := (Below.refl _ _).alloc (Nat.le_refl _) _
    have C51 := hcc.below bb51
    have K51 := hkp.trans (Kp.of bb51)
    have HT52 := hide (dt.there_cells fQ51 (o := 0) (n := 3) (by first | decide | simp))
    have fP52 : ((W50.alloc (.cells #[.string ⟨#[]⟩, .int .i64 0, .nilFunc] 148)).setCells W50.heap.size 0 [.string kw, .int .i64 ((i : Int) + 1), .func (.func f) #[] #[]]).heap[w.heap.size]? = some (.cells #[.pointer (some ⟨B, 0, none⟩)] 74 (0, 0)) := (dt.heap_setCells W50.heap.size _ (show w.heap.size ≠ W50.heap.size by omega) _ 0 (W50.alloc (.cells #[.string ⟨#[]⟩, .int .i64 0, .nilFunc] 148))).trans fP51
    have fD52 : ((W50.alloc (.cells #[.string ⟨#[]⟩, .int .i64 0, .nilFunc] 148)).setCells W50.heap.size 0 [.string kw, .int .i64 ((i : Int) + 1), .func (.func f) #[] #[]]).heap[D]? = some (.cells #[.int .i64 0, .bool false, .bool n1, .bool n2, .string n3, .string ⟨#[]⟩, .slice none 0 0, .slice none 0 0, .slice none 0 0, .slice none 0 0, .slice none 0 0, .slice none 0 0, .slice none 0 0, .bool false, .slice none 0 0, .int .i64 0, .int .i64 0] 62 (0, 0)) := (dt.heap_setCells W50.heap.size _ (show D ≠ W50.heap.size by omega) _ 0 (W50.alloc (.cells #[.string ⟨#[]⟩, .int .i64 0, .nilFunc] 148))).trans fD51
    have fK52 : ((W50.alloc (.cells #[.string ⟨#[]⟩, .int .i64 0, .nilFunc] 148)).setCells W50.heap.size 0 [.string kw, .int .i64 ((i : Int) + 1), .func (.func f) #[] #[]]).heap[kb]? = some (.cells KB 148 (0, 0)) := (dt.heap_setCells W50.heap.size _ (show kb ≠ W50.heap.size by omega) _ 0 (W50.alloc (.cells #[.string ⟨#[]⟩, .int .i64 0, .nilFunc] 148))).trans fK51
    have fQ52 : ((W50.alloc (.cells #[.string ⟨#[]⟩, .int .i64 0, .nilFunc] 148)).setCells W50.heap.size 0 [.string kw, .int .i64 ((i : Int) + 1), .func (.func f) #[] #[]]).heap[W50.heap.size]? = some (.cells #[.string kw, .int .i64 ((i : Int) + 1), .func (.func f) #[] #[]] 148 (0, 0)) := (dt.setCells_at [.string kw, .int .i64 ((i : Int) + 1), .func (.func f) #[] #[]] 0 (W50.alloc (.cells #[.string ⟨#[]⟩, .int .i64 0, .nilFunc] 148)) _ fQ51).trans (by kernel_rfl)
    have C52 := C51.out (b := W50.heap.size) (by omega) (by omega) 0 [.string kw, .int .i64 ((i : Int) + 1), .func (.func f) #[] #[]]
    have K52 := K51.out (b := W50.heap.size) (by omega) 0 [.string kw, .int .i64 ((i : Int) + 1), .func (.func f) #[] #[]]
    obtain ⟨W53, hW53⟩ : ∃ W53, W53 = ((W50.alloc (.cells #[.string ⟨#[]⟩, .int .i64 0, .nilFunc] 148)).setCells W50.heap.size 0 [.string kw, .int .i64 ((i : Int) + 1), .func (.func f) #[] #[]]) := ⟨_, rfl⟩
    rw [← hW53] at fP52 fD52 fK52 fQ52 C52 K52
    have sz53 : W50.heap.size + 1 ≤ W53.heap.size := by rw [hW53]; simp only [size_setC, dt.size_setCells, World.size_alloc]; exact Nat.le_refl _
    have GW53 := hide hW53
    clear hW53 fP fD fK hkp hcc fP51 fD51 fK51 fQ51 K51 C51
    have cD54_1 : W53.cell? ⟨D, 1, none⟩ = some (.bool false) := (dt.cell_cells fD52 1).trans rfl
    have cQ55_0 : W53.cell? ⟨W50.heap.size, 0, none⟩ = some (.string kw) := (dt.cell_cells fQ52 0).trans rfl
    have cQ55_1 : W53.cell? ⟨W50.heap.size, 1, none⟩ = some (.int .i64 ((i : Int) + 1)) := (dt.cell_cells fQ52 1).trans rfl
    have cQ55_2 : W53.cell? ⟨W50.heap.size, 2, none⟩ = some (.func (.func f) #[] #[]) := (dt.cell_cells fQ52 2).trans rfl
    have cP56_0 : W53.cell? ⟨w.heap.size, 0, none⟩ = some (.pointer (some ⟨B, 0, none⟩)) := (dt.cell_cells fP52 0).trans rfl
    have HH57 := hide (And.intro fP52 (And.intro fD52 (And.intro fK52 (And.intro fQ52 (And.intro C52 (K52))))))
    clear fP52 fD52 fK52 fQ52 C52 K52
    go_wp2_with (first
     | (refine wpList_store_mid (by rfl) 148 _ _ (by rfl) W50.heap.size 0 #[.string kw, .int .i64 ((i : Int) + 1), .func (.func f) #[] #[]] (by rfl) (by rfl) (unhide HT52) infoKw (dt.one_cells (cs := [.string kw, .int .i64 ((i : Int) + 1), .func (.func f) #[] #[]]) (by rfl)) ?_; rw [show (W50.alloc (.cells #[.string ⟨#[]⟩, .int .i64 0, .nilFunc] 148)).setCells W50.heap.size 0 (#[.string kw, .int .i64 ((i : Int) + 1), .func (.func f) #[] #[]] : Array Value).toList = W53 from (unhide GW53).symm]))
    obtain ⟨fP52, fD52, fK52, fQ52, C52, K52⟩ := unhide HH57
    clear HH57
    clear GW53
    refine ((unhide htk) _ C52).mono ?_
    rintro e W58 ⟨rfl, bb58⟩
    have J58 : Kp B W53 W58 := Kp.of bb58
    have C58 := C52.below bb58
    have sz58 := J58.size
    have fP58 : W58.heap[w.heap.size]? = some (.cells #[.pointer (some ⟨B, 0, none⟩)] 74 (0, 0)) := (J58.block _ (by omega) (by omega)).trans fP52
    have fD58 : W58.heap[D]? = some (.cells #[.int .i64 0, .bool false, .bool n1, .bool n2, .string n3, .string ⟨#[]⟩, .slice none 0 0, .slice none 0 0, .slice none 0 0, .slice none 0 0, .slice none 0 0, .slice none 0 0, .slice none 0 0, .bool false, .slice none 0 0, .int .i64 0, .int .i64 0] 62 (0, 0)) := (J58.block _ (by omega) (by omega)).trans fD52
    have fK58 : W58.heap[kb]? = some (.cells KB 148 (0, 0)) := (J58.block _ (by omega) (by omega)).trans fK52
    have fQ58 : W58.heap[W50.heap.size]? = some (.cells #[.string kw, .int .i64 ((i : Int) + 1), .func (.func f) #[] #[]] 148 (0, 0)) := (J58.block _ (by omega) (by omega)).trans fQ52
    have K58 := K52.trans J58
    clear fP52 fD52 fK52 fQ52 K52 C52 J58 cD54_1 cQ55_0 cQ55_1 cQ55_2 cP56_0
    clear htk
    have fP59 : (W58.alloc (.cells #[.int .i64 t.ln, .int .i64 t.co] 37)).heap[w.heap.size]? = some (.cells #[.pointer (some ⟨B, 0, none⟩)] 74 (0, 0)) := (Below.heap_alloc W58 _ _ (by omega)).trans fP58
    have fD59 : (W58.alloc (.cells #[.int .i64 t.ln, .int .i64 t.co] 37)).heap[D]? = some (.cells #[.int .i64 0, .bool false, .bool n1, .bool n2, .string n3, .string ⟨#[]⟩, .slice none 0 0, .slice none 0 0, .slice none 0 0, .slice none 0 0, .slice none 0 0, .slice none 0 0, .slice none 0 0, .bool false, .slice none 0 0, .int .i64 0, .int .i64 0] 62 (0, 0)) := (Below.heap_alloc W58 _ _ (by omega)).trans fD58
    have fK59 : (W58.alloc (.cells #[.int .i64 t.ln, .int .i64 t.co] 37)).heap[kb]? = some (.cells KB 148 (0, 0)) := (Below.heap_alloc W58 _ _ (by omega)).trans fK58
    have fQ59 : (W58.alloc (.cells #[.int .i64 t.ln, .int .i64 t.co] 37)).heap[W50.heap.size]? = some (.cells #[.string kw, .int .i64 ((i : Int) + 1), .func (.func f) #[] #[]] 148 (0, 0)) := (Below.heap_alloc W58 _ _ (by omega)).trans fQ58
    have fO59 : (W58.alloc (.cells #[.int .i64 t.ln, .int .i64 t.co] 37)).heap[W58.heap.size]? = some (.cells #[.int .i64 t.ln, .int .i64 t.co] 37 (0, 0)) := heap_alloc_new _ _
    have bb59 : Below W58.heap.size W58 (W58.alloc (.cells #[.int .i64 t.ln, .int .i64 t.co] 37)) := (Below.refl _ _).alloc (Nat.le_refl _) _
    have C59 := C58.below bb59
    have K59 := K58.trans (Kp.of bb59)
    have cP60_0 : (W58.alloc (.cells #[.int .i64 t.ln, .int .i64 t.co] 37)).cell? ⟨w.heap.size, 0, none⟩ = some (.pointer (some ⟨B, 0, none⟩)) := (dt.cell_cells fP59 0).trans rfl
    have cQ61_0 : (W58.alloc (.cells #[.int .i64 t.ln, .int .i64 t.co] 37)).cell? ⟨W50.heap.size, 0, none⟩ = some (.string kw) := (dt.cell_cells fQ59 0).trans rfl
    have HH62 := hide (And.intro fP59 (And.intro fD59 (And.intro fK59 (And.intro fQ59 (And.intro fO59 (And.intro C59 (And.intro K59 (And.intro fP58 (And.intro fD58 (And.intro fK58 (And.intro fQ58 (And.intro K58 (C58)))))))))))))
    clear fP59 fD59 fK59 fQ59 fO59 C59 K59 fP58 fD58 fK58 fQ58 K58 C58
    go_wp2_with fail
    obtain ⟨fP59, fD59, fK59, fQ59, fO59, C59, K59, fP58, fD58, fK58, fQ58, K58, C58⟩ := unhide HH62
    clear HH62
    obtain ⟨W63, hW63⟩ : ∃ W63, W63 = (W58.alloc (.cells #[.int .i64 t.ln, .int .i64 t.co] 37)) := ⟨_, rfl⟩
    rw [← hW63] at fP59 fD59 fK59 fQ59 fO59 C59 K59 ⊢
    have sz63 : W58.heap.size + 1 ≤ W63.heap.size := by rw [hW63]; simp only [size_setC, dt.size_setCells, World.size_alloc]; exact Nat.le_refl _
    clear hW63 cP60_0 cQ61_0 fP58 fD58 fK58 fQ58 K58 C58
    refine (word_ct kw C59).mono ?_
    rintro e W64 ⟨u, q, qEW, rfl, C64, J64⟩
    have EW := hide qEW; clear qEW
    have sz64 := J64.size
    have fP64 : W64.heap[w.heap.size]? = some (.cells #[.pointer (some ⟨B, 0, none⟩)] 74 (0, 0)) := (J64.block _ (by omega) (by omega)).trans fP59
    have fD64 : W64.heap[D]? = some (.cells #[.int .i64 0, .bool false, .bool n1, .bool n2, .string n3, .string ⟨#[]⟩, .slice none 0 0, .slice none 0 0, .slice none 0 0, .slice none 0 0, .slice none 0 0, .slice none 0 0, .slice none 0 0, .bool false, .slice none 0 0, .int .i64 0, .int .i64 0] 62 (0, 0)) := (J64.block _ (by omega) (by omega)).trans fD59
    have fK64 : W64.heap[kb]? = some (.cells KB 148 (0, 0)) := (J64.block _ (by omega) (by omega)).trans fK59
    have fQ64 : W64.heap[W50.heap.size]? = some (.cells #[.string kw, .int .i64 ((i : Int) + 1), .func (.func f) #[] #[]] 148 (0, 0)) := (J64.block _ (by omega) (by omega)).trans fQ59
    have fO64 : W64.heap[W58.heap.size]? = some (.cells #[.int .i64 t.ln, .int .i64 t.co] 37 (0, 0)) := (J64.block _ (by omega) (by omega)).trans fO59
    have K64 := K59.trans J64
    clear fP59 fD59 fK59 fQ59 fO59 K59 C59 J64
    cases q
    ·have hu := word_no (unhide EW)
     subst hu
     have hrun4 := hide ((kw_no (unhide EW) rfl).symm.trans (unhide hrun3))
     clear hcall hrun3 EW
     have HH65 := hide (And.intro fP64 (And.intro fD64 (And.intro fK64 (And.intro fQ64 (And.intro fO64 (And.intro C64 (K64)))))))
     clear fP64 fD64 fK64 fQ64 fO64 C64 K64
     go_wp2_with fail
     obtain ⟨fP64, fD64, fK64, fQ64, fO64, C64, K64⟩ := unhide HH65
     clear HH65
     go_roundg g
     case rel => exact ⟨i + 1, by simp, by omega, hrun4, C64, hide fP64, hide fD64, hide fK64, K64, by omega⟩
     case measure => exact Nat.lt_succ_self _
    ·have cQ65_0 : W64.cell? ⟨W50.heap.size, 0, none⟩ = some (.string kw) := (dt.cell_cells fQ64 0).trans rfl
     have cQ65_1 : W64.cell? ⟨W50.heap.size, 1, none⟩ = some (.int .i64 ((i : Int) + 1)) := (dt.cell_cells fQ64 1).trans rfl
     have cQ65_2 : W64.cell? ⟨W50.heap.size, 2, none⟩ = some (.func (.func f) #[] #[]) := (dt.cell_cells fQ64 2).trans rfl
     have cO66_0 : W64.cell? ⟨W58.heap.size, 0, none⟩ = some (.int .i64 t.ln) := (dt.cell_cells fO64 0).trans rfl
     have cO66_1 : W64.cell? ⟨W58.heap.size, 1, none⟩ = some (.int .i64 t.co) := (dt.cell_cells fO64 1).trans rfl
     have cP67_0 : W64.cell? ⟨w.heap.size, 0, none⟩ = some (.pointer (some ⟨B, 0, none⟩)) := (dt.cell_cells fP64 0).trans rfl
     have cD68_0 : W64.cell? ⟨D, 0, none⟩ = some (.int .i64 0) := (dt.cell_cells fD64 0).trans rfl
     have cD68_15 : W64.cell? ⟨D, 15, none⟩ = some (.int .i64 0) := (dt.cell_cells fD64 15).trans rfl
     have cD68_16 : W64.cell? ⟨D, 16, none⟩ = some (.int .i64 0) := (dt.cell_cells fD64 16).trans rfl
     have zD68_0 : W64.frozen? ⟨D, 0, none⟩ = false := dt.frozen_cells fD64 0
     have zD68_15 : W64.frozen? ⟨D, 15, none⟩ = false := dt.frozen_cells fD64 15
     have zD68_16 : W64.frozen? ⟨D, 16, none⟩ = false := dt.frozen_cells fD64 16
     have HH := hide (And.intro fP64 (And.intro fD64 (And.intro fK64 (And.intro fQ64 (And.intro fO64 (And.intro C64 (K64)))))))
     clear fP64 fD64 fK64 fQ64 fO64 C64 K64
     go_wp2_with fail
     go_region
     obtain ⟨fP64, fD64, fK64, fQ64, fO64, C64, K64⟩ := unhide HH
     have g1 : (W64.setCell ⟨D, 0, none⟩ (.int .i64 ((i : Int) + 1))).heap[D]? = some (.cells #[.int .i64 ((i : Int) + 1), .bool false, .bool n1, .bool n2, .string n3, .string ⟨#[]⟩, .slice none 0 0, .slice none 0 0, .slice none 0 0, .slice none 0 0, .slice none 0 0, .slice none 0 0, .slice none 0 0, .bool false, .slice none 0 0, .int .i64 0, .int .i64 0] 62 (0, 0)) := (dt.heap_setCell_at fD64 0 _).trans (by kernel_rfl)
     have g2 : ((W64.setCell ⟨D, 0, none⟩ (.int .i64 ((i : Int) + 1))).setCell ⟨D, 15, none⟩ (.int .i64 t.ln)).heap[D]? = some (.cells #[.int .i64 ((i : Int) + 1), .bool false, .bool n1, .bool n2, .string n3, .string ⟨#[]⟩, .slice none 0 0, .slice none 0 0, .slice none 0 0, .slice none 0 0, .slice none 0 0, .slice none 0 0, .slice none 0 0, .bool false, .slice none 0 0, .int .i64 t.ln, .int .i64 0] 62 (0, 0)) := (dt.heap_setCell_at g1 15 _).trans (by kernel_rfl)
     have g3 : (((W64.setCell ⟨D, 0, none⟩ (.int .i64 ((i : Int) + 1))).setCell ⟨D, 15, none⟩ (.int .i64 t.ln)).setCell ⟨D, 16, none⟩ (.int .i64 t.co)).heap[D]? = some (.cells #[.int .i64 ((i : Int) + 1), .bool false, .bool n1, .bool n2, .string n3, .string ⟨#[]⟩, .slice none 0 0, .slice none 0 0, .slice none 0 0, .slice none 0 0, .slice none 0 0, .slice none 0 0, .slice none 0 0, .bool false, .slice none 0 0, .int .i64 t.ln, .int .i64 t.co] 62 (0, 0)) := (dt.heap_setCell_at g2 16 _).trans (by kernel_rfl)
     have hC := ((C64.outC (b := D) (by omega) (by omega) 0 (.int .i64 ((i : Int) + 1))).outC (b := D) (by omega) (by omega) 15 (.int .i64 t.ln)).outC (b := D) (by omega) (by omega) 16 (.int .i64 t.co)
     have hK := (((Kq.of (D := D) K64).setB (.inl rfl) 0 (.int .i64 ((i : Int) + 1))).setB (.inl rfl) 15 (.int .i64 t.ln)).setB (.inl rfl) 16 (.int .i64 t.co)
     have gP : (((W64.setCell ⟨D, 0, none⟩ (.int .i64 ((i : Int) + 1))).setCell ⟨D, 15, none⟩ (.int .i64 t.ln)).setCell ⟨D, 16, none⟩ (.int .i64 t.co)).heap[w.heap.size]? = some (.cells #[.pointer (some ⟨B, 0, none⟩)] 74 (0, 0)) := (Below.heap_setCell _ _ _ _ (show w.heap.size ≠ D by omega)).trans ((Below.heap_setCell _ _ _ _ (show w.heap.size ≠ D by omega)).trans ((Below.heap_setCell _ _ _ _ (show w.heap.size ≠ D by omega)).trans fP64))
     have gQ : (((W64.setCell ⟨D, 0, none⟩ (.int .i64 ((i : Int) + 1))).setCell ⟨D, 15, none⟩ (.int .i64 t.ln)).setCell ⟨D, 16, none⟩ (.int .i64 t.co)).heap[W50.heap.size]? = some (.cells #[.string kw, .int .i64 ((i : Int) + 1), .func (.func f) #[] #[]] 148 (0, 0)) := (Below.heap_setCell _ _ _ _ (show W50.heap.size ≠ D by omega)).trans ((Below.heap_setCell _ _ _ _ (show W50.heap.size ≠ D by omega)).trans ((Below.heap_setCell _ _ _ _ (show W50.heap.size ≠ D by omega)).trans fQ64))
     have bD : Below (((W64.setCell ⟨D, 0, none⟩ (.int .i64 ((i : Int) + 1))).setCell ⟨D, 15, none⟩ (.int .i64 t.ln)).setCell ⟨D, 16, none⟩ (.int .i64 t.co)).heap.size (((W64.setCell ⟨D, 0, none⟩ (.int .i64 ((i : Int) + 1))).setCell ⟨D, 15, none⟩ (.int .i64 t.ln)).setCell ⟨D, 16, none⟩ (.int .i64 t.co)) (((W64.setCell ⟨D, 0, none⟩ (.int .i64 ((i : Int) + 1))).setCell ⟨D, 15, none⟩ (.int .i64 t.ln)).setCell ⟨D, 16, none⟩ (.int .i64 t.co)).drew := (Below.refl _ _).drew
     have szz : (((W64.setCell ⟨D, 0, none⟩ (.int .i64 ((i : Int) + 1))).setCell ⟨D, 15, none⟩ (.int .i64 t.ln)).setCell ⟨D, 16, none⟩ (.int .i64 t.co)).heap.size = W64.heap.size := by simp only [size_setC]
     obtain ⟨Z, hZ⟩ : ∃ Z, Z = (((W64.setCell ⟨D, 0, none⟩ (.int .i64 ((i : Int) + 1))).setCell ⟨D, 15, none⟩ (.int .i64 t.ln)).setCell ⟨D, 16, none⟩ (.int .i64 t.co)).drew := ⟨_, rfl⟩
     have C9 := hC.below bD
     have K9 := hK.trans (Kp.of bD)
     have fD9 := (bD.block D (by omega)).trans g3
     have fP9 := (bD.block w.heap.size (by omega)).trans gP
     have fQ9 := (bD.block W50.heap.size (by omega)).trans gQ
     have sz9 := bD.size
     rw [szz] at sz9
     rw [← hZ] at C9 K9 fD9 fP9 fQ9 sz9 ⊢
     clear fP64 fD64 fK64 fQ64 fO64 C64 K64 g1 g2 g3 hC hK gP gQ bD szz hZ cQ65_0 cQ65_1 cQ65_2 cO66_0 cO66_1 cP67_0 cD68_0 cD68_15 cD68_16 zD68_0 zD68_15 zD68_16
     have cP9 : Z.cell? ⟨w.heap.size, 0, none⟩ = some (.pointer (some ⟨B, 0, none⟩)) := (dt.cell_cells fP9 0).trans rfl
     have cQ9 : Z.cell? ⟨W50.heap.size, 2, none⟩ = some (.func (.func f) #[] #[]) := (dt.cell_cells fQ9 2).trans rfl
     have hcl := hide ((unhide hcall) _ _ _ _ _ fD9 C9)
     have HKQ := hide K9
     clear hcall fP9 fQ9 fD9 C9 K9
     go_wp2_with fail
     refine (unhide hcl).mono ?_
     rintro e Wf ⟨s, c9, cs, F9, qE9, rfl, hS9, fDf, hF9, Cf, Jf⟩
     have hfin := (unhide hkey).trans ((unhide hrun3).symm.trans (kw_yes (unhide EW) (show krd N i ((Sy.of (n1, n2, n3) false).at (i + 1) t) u = (s, c9) from qE9)))
     have HF := hide (And.intro hfin (And.intro hS9 (And.intro fDf (And.intro (hF9.mono (lo' := w.heap.size) (by omega) (Nat.le_refl _) (Nat.le_refl _)) (And.intro Cf ((unhide HKQ).transQ Jf))))))
     clear hfin hS9 fDf hF9 Cf Jf qE9 hcl
     go_wp2_with fail
     try simp only [Exit.inBlock, Exit.then]
     refine bodyPost_ret (results_none rfl _ _ _) rfl ?_
     obtain ⟨hfin, hS9, fDf, hF9, Cf, Kf⟩ := unhide HF
     exact ⟨s, c9, cs, F9, hfin, rfl, hS9, fDf, hF9, Cf, Kf⟩
   ·by_cases h7 : i = 7
    ·have i7 : ((i : Int) + 1 == 8) = true := by rw [beq_iff_eq]; omega
     have hrun3 := hide (show ksF N (Sy.of (n1, n2, n3) true) t g (i + 1) c = R from by have e := unhide hrun2; rw [show (i == 7) = true from by rw [beq_iff_eq]; exact h7] at e; exact e)
     clear h7
     clear hrun2
     have fP51 : (W50.alloc (.cells #[.string ⟨#[]⟩, .int .i64 0, .nilFunc] 148)).heap[w.heap.size]? = some (.cells #[.pointer (some ⟨B, 0, none⟩)] 74 (0, 0)) := (Below.heap_alloc W50 _ _ (by omega)).trans fP
     have fD51 : (W50.alloc (.cells #[.string ⟨#[]⟩, .int .i64 0, .nilFunc] 148)).heap[D]? = some (.cells #[.int .i64 0, .bool true, .bool n1, .bool n2, .string n3, .string ⟨#[]⟩, .slice none 0 0, .slice none 0 0, .slice none 0 0, .slice none 0 0, .slice none 0 0, .slice none 0 0, .slice none 0 0, .bool false, .slice none 0 0, .int .i64 0, .int .i64 0] 62 (0, 0)) := (Below.heap_alloc W50 _ _ (by omega)).trans fD
     have fK51 : (W50.alloc (.cells #[.string ⟨#[]⟩, .int .i64 0, .nilFunc] 148)).heap[kb]? = some (.cells KB 148 (0, 0)) := (Below.heap_alloc W50 _ _ (by omega)).trans fK
     have fQ51 : (W50.alloc (.cells #[.string ⟨#[]⟩, .int .i64 0, .nilFunc] 148)).heap[W50.heap.size]? = some (.cells #[.string ⟨#[]⟩, .int .i64 0, .nilFunc] 148 (0, 0)) := heap_alloc_new _ _
     have bb51 : Below W50.heap.size W50 (W50.alloc (.cells #[.string ⟨#[]⟩, .int .i64 0, .nilFunc] 148)) := (Below.refl _ _).alloc (Nat.le_refl _) _
     have C51 := hcc.below bb51
     have K51 := hkp.trans (Kp.of bb51)
     have HT52 := hide (dt.there_cells fQ51 (o := 0) (n := 3) (by first | decide | simp))
     have fP52 : ((W50.alloc (.cells #[.string ⟨#[]⟩, .int .i64 0, .nilFunc] 148)).setCells W50.heap.size 0 [.string kw, .int .i64 ((i : Int) + 1), .func (.func f) #[] #[]]).heap[w.heap.size]? = some (.cells #[.pointer (some ⟨B, 0, none⟩)] 74 (0, 0)) := (dt.heap_setCells W50.heap.size _ (show w.heap.size ≠ W50.heap.size by omega) _ 0 (W50.alloc (.cells #[.string ⟨#[]⟩, .int .i64 0, .nilFunc] 148))).trans fP51
     have fD52 : ((W50.alloc (.cells #[.string ⟨#[]⟩, .int .i64 0, .nilFunc] 148)).setCells W50.heap.size 0 [.string kw, .int .i64 ((i : Int) + 1), .func (.func f) #[] #[]]).heap[D]? = some (.cells #[.int .i64 0, .bool true, .bool n1, .bool n2, .string n3, .string ⟨#[]⟩, .slice none 0 0, .slice none 0 0, .slice none 0 0, .slice none 0 0, .slice none 0 0, .slice none 0 0, .slice none 0 0, .bool false, .slice none 0 0, .int .i64 0, .int .i64 0] 62 (0, 0)) := (dt.heap_setCells W50.heap.size _ (show D ≠ W50.heap.size by omega) _ 0 (W50.alloc (.cells #[.string ⟨#[]⟩, .int .i64 0, .nilFunc] 148))).trans fD51
     have fK52 : ((W50.alloc (.cells #[.string ⟨#[]⟩, .int .i64 0, .nilFunc] 148)).setCells W50.heap.size 0 [.string kw, .int .i64 ((i : Int) + 1), .func (.func f) #[] #[]]).heap[kb]? = some (.cells KB 148 (0, 0)) := (dt.heap_setCells W50.heap.size _ (show kb ≠ W50.heap.size by omega) _ 0 (W50.alloc (.cells #[.string ⟨#[]⟩, .int .i64 0, .nilFunc] 148))).trans fK51
     have fQ52 : ((W50.alloc (.cells #[.string ⟨#[]⟩, .int .i64 0, .nilFunc] 148)).setCells W50.heap.size 0 [.string kw, .int .i64 ((i : Int) + 1), .func (.func f) #[] #[]]).heap[W50.heap.size]? = some (.cells #[.string kw, .int .i64 ((i : Int) + 1), .func (.func f) #[] #[]] 148 (0, 0)) := (dt.setCells_at [.string kw, .int .i64 ((i : Int) + 1), .func (.func f) #[] #[]] 0 (W50.alloc (.cells #[.string ⟨#[]⟩, .int .i64 0, .nilFunc] 148)) _ fQ51).trans (by kernel_rfl)
     have C52 := C51.out (b := W50.heap.size) (by omega) (by omega) 0 [.string kw, .int .i64 ((i : Int) + 1), .func (.func f) #[] #[]]
     have K52 := K51.out (b := W50.heap.size) (by omega) 0 [.string kw, .int .i64 ((i : Int) + 1), .func (.func f) #[] #[]]
     obtain ⟨W53, hW53⟩ : ∃ W53, W53 = ((W50.alloc (.cells #[.string ⟨#[]⟩, .int .i64 0, .nilFunc] 148)).setCells W50.heap.size 0 [.string kw, .int .i64 ((i : Int) + 1), .func (.func f) #[] #[]]) := ⟨_, rfl⟩
     rw [← hW53] at fP52 fD52 fK52 fQ52 C52 K52
     have sz53 : W50.heap.size + 1 ≤ W53.heap.size := by rw [hW53]; simp only [size_setC, dt.size_setCells, World.size_alloc]; exact Nat.le_refl _
     have GW53 := hide hW53
     clear hW53 fP fD fK hkp hcc fP51 fD51 fK51 fQ51 K51 C51
     have cD54_1 : W53.cell? ⟨D, 1, none⟩ = some (.bool true) := (dt.cell_cells fD52 1).trans rfl
     have cQ55_0 : W53.cell? ⟨W50.heap.size, 0, none⟩ = some (.string kw) := (dt.cell_cells fQ52 0).trans rfl
     have cQ55_1 : W53.cell? ⟨W50.heap.size, 1, none⟩ = some (.int .i64 ((i : Int) + 1)) := (dt.cell_cells fQ52 1).trans rfl
     have cQ55_2 : W53.cell? ⟨W50.heap.size, 2, none⟩ = some (.func (.func f) #[] #[]) := (dt.cell_cells fQ52 2).trans rfl
     have cP56_0 : W53.cell? ⟨w.heap.size, 0, none⟩ = some (.pointer (some ⟨B, 0, none⟩)) := (dt.cell_cells fP52 0).trans rfl
     have HH57 := hide (And.intro fP52 (And.intro fD52 (And.intro fK52 (And.intro fQ52 (And.intro C52 (K52))))))
     clear fP52 fD52 fK52 fQ52 C52 K52
     go_wp2_with (first
      | (refine wpList_store_mid (by rfl) 148 _ _ (by rfl) W50.heap.size 0 #[.string kw, .int .i64 ((i : Int) + 1), .func (.func f) #[] #[]] (by rfl) (by rfl) (unhide HT52) infoKw (dt.one_cells (cs := [.string kw, .int .i64 ((i : Int) + 1), .func (.func f) #[] #[]]) (by rfl)) ?_; rw [show (W50.alloc (.cells #[.string ⟨#[]⟩, .int .i64 0, .nilFunc] 148)).setCells W50.heap.size 0 (#[.string kw, .int .i64 ((i : Int) + 1), .func (.func f) #[] #[]] : Array Value).toList = W53 from (unhide GW53).symm]))
     obtain ⟨fP52, fD52, fK52, fQ52, C52, K52⟩ := unhide HH57
     clear HH57
     clear GW53
     go_roundg g
     case rel => exact ⟨i + 1, by simp, by omega, hrun3, C52, hide fP52, hide fD52, hide fK52, K52, by omega⟩
     case measure => exact Nat.lt_succ_self _
    ·have i7 : ((i : Int) + 1 == 8) = false := by rw [beq_eq_false_iff_ne]; omega
     have hrun3 := hide (show kwT kw (krd N i ((Sy.of (n1, n2, n3) true).at (i + 1) t)) (ksF N (Sy.of (n1, n2, n3) true) t g (i + 1)) c = R from by have e := unhide hrun2; rw [show (i == 7) = false from by rw [beq_eq_false_iff_ne]; exact h7] at e; exact e)
     clear h7
     clear hrun2
     have fP51 : (W50.alloc (.cells #[.string ⟨#[]⟩, .int .i64 0, .nilFunc] 148)).heap[w.heap.size]? = some (.cells #[.pointer (some ⟨B, 0, none⟩)] 74 (0, 0)) := (Below.heap_alloc W50 _ _ (by omega)).trans fP
     have fD51 : (W50.alloc (.cells #[.string ⟨#[]⟩, .int .i64 0, .nilFunc] 148)).heap[D]? = some (.cells #[.int .i64 0, .bool true, .bool n1, .bool n2, .string n3, .string ⟨#[]⟩, .slice none 0 0, .slice none 0 0, .slice none 0 0, .slice none 0 0, .slice none 0 0, .slice none 0 0, .slice none 0 0, .bool false, .slice none 0 0, .int .i64 0, .int .i64 0] 62 (0, 0)) := (Below.heap_alloc W50 _ _ (by omega)).trans fD
     have fK51 : (W50.alloc (.cells #[.string ⟨#[]⟩, .int .i64 0, .nilFunc] 148)).heap[kb]? = some (.cells KB 148 (0, 0)) := (Below.heap_alloc W50 _ _ (by omega)).trans fK
     have fQ51 : (W50.alloc (.cells #[.string ⟨#[]⟩, .int .i64 0, .nilFunc] 148)).heap[W50.heap.size]? = some (.cells #[.string ⟨#[]⟩, .int .i64 0, .nilFunc] 148 (0, 0)) := heap_alloc_new _ _
     have bb51 : Below W50.heap.size W50 (W50.alloc (.cells #[.string ⟨#[]⟩, .int .i64 0, .nilFunc] 148)) := (Below.refl _ _).alloc (Nat.le_refl _) _
     have C51 := hcc.below bb51
     have K51 := hkp.trans (Kp.of bb51)
     have HT52 := hide (dt.there_cells fQ51 (o := 0) (n := 3) (by first | decide | simp))
     have fP52 : ((W50.alloc (.cells #[.string ⟨#[]⟩, .int .i64 0, .nilFunc] 148)).setCells W50.heap.size 0 [.string kw, .int .i64 ((i : Int) + 1), .func (.func f) #[] #[]]).heap[w.heap.size]? = some (.cells #[.pointer (some ⟨B, 0, none⟩)] 74 (0, 0)) := (dt.heap_setCells W50.heap.size _ (show w.heap.size ≠ W50.heap.size by omega) _ 0 (W50.alloc (.cells #[.string ⟨#[]⟩, .int .i64 0, .nilFunc] 148))).trans fP51
     have fD52 : ((W50.alloc (.cells #[.string ⟨#[]⟩, .int .i64 0, .nilFunc] 148)).setCells W50.heap.size 0 [.string kw, .int .i64 ((i : Int) + 1), .func (.func f) #[] #[]]).heap[D]? = some (.cells #[.int .i64 0, .bool true, .bool n1, .bool n2, .string n3, .string ⟨#[]⟩, .slice none 0 0, .slice none 0 0, .slice none 0 0, .slice none 0 0, .slice none 0 0, .slice none 0 0, .slice none 0 0, .bool false, .slice none 0 0, .int .i64 0, .int .i64 0] 62 (0, 0)) := (dt.heap_setCells W50.heap.size _ (show D ≠ W50.heap.size by omega) _ 0 (W50.alloc (.cells #[.string ⟨#[]⟩, .int .i64 0, .nilFunc] 148))).trans fD51
     have fK52 : ((W50.alloc (.cells #[.string ⟨#[]⟩, .int .i64 0, .nilFunc] 148)).setCells W50.heap.size 0 [.string kw, .int .i64 ((i : Int) + 1), .func (.func f) #[] #[]]).heap[kb]? = some (.cells KB 148 (0, 0)) := (dt.heap_setCells W50.heap.size _ (show kb ≠ W50.heap.size by omega) _ 0 (W50.alloc (.cells #[.string ⟨#[]⟩, .int .i64 0, .nilFunc] 148))).trans fK51
     have fQ52 : ((W50.alloc (.cells #[.string ⟨#[]⟩, .int .i64 0, .nilFunc] 148)).setCells W50.heap.size 0 [.string kw, .int .i64 ((i : Int) + 1), .func (.func f) #[] #[]]).heap[W50.heap.size]? = some (.cells #[.string kw, .int .i64 ((i : Int) + 1), .func (.func f) #[] #[]] 148 (0, 0)) := (dt.setCells_at [.string kw, .int .i64 ((i : Int) + 1), .func (.func f) #[] #[]] 0 (W50.alloc (.cells #[.string ⟨#[]⟩, .int .i64 0, .nilFunc] 148)) _ fQ51).trans (by kernel_rfl)
     have C52 := C51.out (b := W50.heap.size) (by omega) (by omega) 0 [.string kw, .int .i64 ((i : Int) + 1), .func (.func f) #[] #[]]
     have K52 := K51.out (b := W50.heap.size) (by omega) 0 [.string kw, .int .i64 ((i : Int) + 1), .func (.func f) #[] #[]]
     obtain ⟨W53, hW53⟩ : ∃ W53, W53 = ((W50.alloc (.cells #[.string ⟨#[]⟩, .int .i64 0, .nilFunc] 148)).setCells W50.heap.size 0 [.string kw, .int .i64 ((i : Int) + 1), .func (.func f) #[] #[]]) := ⟨_, rfl⟩
     rw [← hW53] at fP52 fD52 fK52 fQ52 C52 K52
     have sz53 : W50.heap.size + 1 ≤ W53.heap.size := by rw [hW53]; simp only [size_setC, dt.size_setCells, World.size_alloc]; exact Nat.le_refl _
     have GW53 := hide hW53
     clear hW53 fP fD fK hkp hcc fP51 fD51 fK51 fQ51 K51 C51
     have cD54_1 : W53.cell? ⟨D, 1, none⟩ = some (.bool true) := (dt.cell_cells fD52 1).trans rfl
     have cQ55_0 : W53.cell? ⟨W50.heap.size, 0, none⟩ = some (.string kw) := (dt.cell_cells fQ52 0).trans rfl
     have cQ55_1 : W53.cell? ⟨W50.heap.size, 1, none⟩ = some (.int .i64 ((i : Int) + 1)) := (dt.cell_cells fQ52 1).trans rfl
     have cQ55_2 : W53.cell? ⟨W50.heap.size, 2, none⟩ = some (.func (.func f) #[] #[]) := (dt.cell_cells fQ52 2).trans rfl
     have cP56_0 : W53.cell? ⟨w.heap.size, 0, none⟩ = some (.pointer (some ⟨B, 0, none⟩)) := (dt.cell_cells fP52 0).trans rfl
     have HH57 := hide (And.intro fP52 (And.intro fD52 (And.intro fK52 (And.intro fQ52 (And.intro C52 (K52))))))
     clear fP52 fD52 fK52 fQ52 C52 K52
     go_wp2_with (first
      | (refine wpList_store_mid (by rfl) 148 _ _ (by rfl) W50.heap.size 0 #[.string kw, .int .i64 ((i : Int) + 1), .func (.func f) #[] #[]] (by rfl) (by rfl) (unhide HT52) infoKw (dt.one_cells (cs := [.string kw, .int .i64 ((i : Int) + 1), .func (.func f) #[] #[]]) (by rfl)) ?_; rw [show (W50.alloc (.cells #[.string ⟨#[]⟩, .int .i64 0, .nilFunc] 148)).setCells W50.heap.size 0 (#[.string kw, .int .i64 ((i : Int) + 1), .func (.func f) #[] #[]] : Array Value).toList = W53 from (unhide GW53).symm]))
     obtain ⟨fP52, fD52, fK52, fQ52, C52, K52⟩ := unhide HH57
     clear HH57
     clear GW53
     refine ((unhide htk) _ C52).mono ?_
     rintro e W58 ⟨rfl, bb58⟩
     have J58 : Kp B W53 W58 := Kp.of bb58
     have C58 := C52.below bb58
     have sz58 := J58.size
     have fP58 : W58.heap[w.heap.size]? = some (.cells #[.pointer (some ⟨B, 0, none⟩)] 74 (0, 0)) := (J58.block _ (by omega) (by omega)).trans fP52
     have fD58 : W58.heap[D]? = some (.cells #[.int .i64 0, .bool true, .bool n1, .bool n2, .string n3, .string ⟨#[]⟩, .slice none 0 0, .slice none 0 0, .slice none 0 0, .slice none 0 0, .slice none 0 0, .slice none 0 0, .slice none 0 0, .bool false, .slice none 0 0, .int .i64 0, .int .i64 0] 62 (0, 0)) := (J58.block _ (by omega) (by omega)).trans fD52
     have fK58 : W58.heap[kb]? = some (.cells KB 148 (0, 0)) := (J58.block _ (by omega) (by omega)).trans fK52
     have fQ58 : W58.heap[W50.heap.size]? = some (.cells #[.string kw, .int .i64 ((i : Int) + 1), .func (.func f) #[] #[]] 148 (0, 0)) := (J58.block _ (by omega) (by omega)).trans fQ52
     have K58 := K52.trans J58
     clear fP52 fD52 fK52 fQ52 K52 C52 J58 cD54_1 cQ55_0 cQ55_1 cQ55_2 cP56_0
     clear htk
     have fP59 : (W58.alloc (.cells #[.int .i64 t.ln, .int .i64 t.co] 37)).heap[w.heap.size]? = some (.cells #[.pointer (some ⟨B, 0, none⟩)] 74 (0, 0)) := (Below.heap_alloc W58 _ _ (by omega)).trans fP58
     have fD59 : (W58.alloc (.cells #[.int .i64 t.ln, .int .i64 t.co] 37)).heap[D]? = some (.cells #[.int .i64 0, .bool true, .bool n1, .bool n2, .string n3, .string ⟨#[]⟩, .slice none 0 0, .slice none 0 0, .slice none 0 0, .slice none 0 0, .slice none 0 0, .slice none 0 0, .slice none 0 0, .bool false, .slice none 0 0, .int .i64 0, .int .i64 0] 62 (0, 0)) := (Below.heap_alloc W58 _ _ (by omega)).trans fD58
     have fK59 : (W58.alloc (.cells #[.int .i64 t.ln, .int .i64 t.co] 37)).heap[kb]? = some (.cells KB 148 (0, 0)) := (Below.heap_alloc W58 _ _ (by omega)).trans fK58
     have fQ59 : (W58.alloc (.cells #[.int .i64 t.ln, .int .i64 t.co] 37)).heap[W50.heap.size]? = some (.cells #[.string kw, .int .i64 ((i : Int) + 1), .func (.func f) #[] #[]] 148 (0, 0)) := (Below.heap_alloc W58 _ _ (by omega)).trans fQ58
     have fO59 : (W58.alloc (.cells #[.int .i64 t.ln, .int .i64 t.co] 37)).heap[W58.heap.size]? = some (.cells #[.int .i64 t.ln, .int .i64 t.co] 37 (0, 0)) := heap_alloc_new _ _
     have bb59 : Below W58.heap.size W58 (W58.alloc (.cells #[.int .i64 t.ln, .int .i64 t.co] 37)) := (Below.refl _ _).alloc (Nat.le_refl _) _
     have C59 := C58.below bb59
     have K59 := K58.trans (Kp.of bb59)
     have cP60_0 : (W58.alloc (.cells #[.int .i64 t.ln, .int .i64 t.co] 37)).cell? ⟨w.heap.size, 0, none⟩ = some (.pointer (some ⟨B, 0, none⟩)) := (dt.cell_cells fP59 0).trans rfl
     have cQ61_0 : (W58.alloc (.cells #[.int .i64 t.ln, .int .i64 t.co] 37)).cell? ⟨W50.heap.size, 0, none⟩ = some (.string kw) := (dt.cell_cells fQ59 0).trans rfl
     have HH62 := hide (And.intro fP59 (And.intro fD59 (And.intro fK59 (And.intro fQ59 (And.intro fO59 (And.intro C59 (And.intro K59 (And.intro fP58 (And.intro fD58 (And.intro fK58 (And.intro fQ58 (And.intro K58 (C58)))))))))))))
     clear fP59 fD59 fK59 fQ59 fO59 C59 K59 fP58 fD58 fK58 fQ58 K58 C58
     go_wp2_with fail
     obtain ⟨fP59, fD59, fK59, fQ59, fO59, C59, K59, fP58, fD58, fK58, fQ58, K58, C58⟩ := unhide HH62
     clear HH62
     obtain ⟨W63, hW63⟩ : ∃ W63, W63 = (W58.alloc (.cells #[.int .i64 t.ln, .int .i64 t.co] 37)) := ⟨_, rfl⟩
     rw [← hW63] at fP59 fD59 fK59 fQ59 fO59 C59 K59 ⊢
     have sz63 : W58.heap.size + 1 ≤ W63.heap.size := by rw [hW63]; simp only [size_setC, dt.size_setCells, World.size_alloc]; exact Nat.le_refl _
     clear hW63 cP60_0 cQ61_0 fP58 fD58 fK58 fQ58 K58 C58
     refine (word_ct kw C59).mono ?_
     rintro e W64 ⟨u, q, qEW, rfl, C64, J64⟩
     have EW := hide qEW; clear qEW
     have sz64 := J64.size
     have fP64 : W64.heap[w.heap.size]? = some (.cells #[.pointer (some ⟨B, 0, none⟩)] 74 (0, 0)) := (J64.block _ (by omega) (by omega)).trans fP59
     have fD64 : W64.heap[D]? = some (.cells #[.int .i64 0, .bool true, .bool n1, .bool n2, .string n3, .string ⟨#[]⟩, .slice none 0 0, .slice none 0 0, .slice none 0 0, .slice none 0 0, .slice none 0 0, .slice none 0 0, .slice none 0 0, .bool false, .slice none 0 0, .int .i64 0, .int .i64 0] 62 (0, 0)) := (J64.block _ (by omega) (by omega)).trans fD59
     have fK64 : W64.heap[kb]? = some (.cells KB 148 (0, 0)) := (J64.block _ (by omega) (by omega)).trans fK59
     have fQ64 : W64.heap[W50.heap.size]? = some (.cells #[.string kw, .int .i64 ((i : Int) + 1), .func (.func f) #[] #[]] 148 (0, 0)) := (J64.block _ (by omega) (by omega)).trans fQ59
     have fO64 : W64.heap[W58.heap.size]? = some (.cells #[.int .i64 t.ln, .int .i64 t.co] 37 (0, 0)) := (J64.block _ (by omega) (by omega)).trans fO59
     have K64 := K59.trans J64
     clear fP59 fD59 fK59 fQ59 fO59 K59 C59 J64
     cases q
     ·have hu := word_no (unhide EW)
      subst hu
      have hrun4 := hide ((kw_no (unhide EW) rfl).symm.trans (unhide hrun3))
      clear hcall hrun3 EW
      have HH65 := hide (And.intro fP64 (And.intro fD64 (And.intro fK64 (And.intro fQ64 (And.intro fO64 (And.intro C64 (K64)))))))
      clear fP64 fD64 fK64 fQ64 fO64 C64 K64
      go_wp2_with fail
      obtain ⟨fP64, fD64, fK64, fQ64, fO64, C64, K64⟩ := unhide HH65
      clear HH65
      go_roundg g
      case rel => exact ⟨i + 1, by simp, by omega, hrun4, C64, hide fP64, hide fD64, hide fK64, K64, by omega⟩
      case measure => exact Nat.lt_succ_self _
     ·have cQ65_0 : W64.cell? ⟨W50.heap.size, 0, none⟩ = some (.string kw) := (dt.cell_cells fQ64 0).trans rfl
      have cQ65_1 : W64.cell? ⟨W50.heap.size, 1, none⟩ = some (.int .i64 ((i : Int) + 1)) := (dt.cell_cells fQ64 1).trans rfl
      have cQ65_2 : W64.cell? ⟨W50.heap.size, 2, none⟩ = some (.func (.func f) #[] #[]) := (dt.cell_cells fQ64 2).trans rfl
      have cO66_0 : W64.cell? ⟨W58.heap.size, 0, none⟩ = some (.int .i64 t.ln) := (dt.cell_cells fO64 0).trans rfl
      have cO66_1 : W64.cell? ⟨W58.heap.size, 1, none⟩ = some (.int .i64 t.co) := (dt.cell_cells fO64 1).trans rfl
      have cP67_0 : W64.cell? ⟨w.heap.size, 0, none⟩ = some (.pointer (some ⟨B, 0, none⟩)) := (dt.cell_cells fP64 0).trans rfl
      have cD68_0 : W64.cell? ⟨D, 0, none⟩ = some (.int .i64 0) := (dt.cell_cells fD64 0).trans rfl
      have cD68_15 : W64.cell? ⟨D, 15, none⟩ = some (.int .i64 0) := (dt.cell_cells fD64 15).trans rfl
      have cD68_16 : W64.cell? ⟨D, 16, none⟩ = some (.int .i64 0) := (dt.cell_cells fD64 16).trans rfl
      have zD68_0 : W64.frozen? ⟨D, 0, none⟩ = false := dt.frozen_cells fD64 0
      have zD68_15 : W64.frozen? ⟨D, 15, none⟩ = false := dt.frozen_cells fD64 15
      have zD68_16 : W64.frozen? ⟨D, 16, none⟩ = false := dt.frozen_cells fD64 16
      have HH := hide (And.intro fP64 (And.intro fD64 (And.intro fK64 (And.intro fQ64 (And.intro fO64 (And.intro C64 (K64)))))))
      clear fP64 fD64 fK64 fQ64 fO64 C64 K64
      go_wp2_with fail
      go_region
      obtain ⟨fP64, fD64, fK64, fQ64, fO64, C64, K64⟩ := unhide HH
      have g1 : (W64.setCell ⟨D, 0, none⟩ (.int .i64 ((i : Int) + 1))).heap[D]? = some (.cells #[.int .i64 ((i : Int) + 1), .bool true, .bool n1, .bool n2, .string n3, .string ⟨#[]⟩, .slice none 0 0, .slice none 0 0, .slice none 0 0, .slice none 0 0, .slice none 0 0, .slice none 0 0, .slice none 0 0, .bool false, .slice none 0 0, .int .i64 0, .int .i64 0] 62 (0, 0)) := (dt.heap_setCell_at fD64 0 _).trans (by kernel_rfl)
      have g2 : ((W64.setCell ⟨D, 0, none⟩ (.int .i64 ((i : Int) + 1))).setCell ⟨D, 15, none⟩ (.int .i64 t.ln)).heap[D]? = some (.cells #[.int .i64 ((i : Int) + 1), .bool true, .bool n1, .bool n2, .string n3, .string ⟨#[]⟩, .slice none 0 0, .slice none 0 0, .slice none 0 0, .slice none 0 0, .slice none 0 0, .slice none 0 0, .slice none 0 0, .bool false, .slice none 0 0, .int .i64 t.ln, .int .i64 0] 62 (0, 0)) := (dt.heap_setCell_at g1 15 _).trans (by kernel_rfl)
      have g3 : (((W64.setCell ⟨D, 0, none⟩ (.int .i64 ((i : Int) + 1))).setCell ⟨D, 15, none⟩ (.int .i64 t.ln)).setCell ⟨D, 16, none⟩ (.int .i64 t.co)).heap[D]? = some (.cells #[.int .i64 ((i : Int) + 1), .bool true, .bool n1, .bool n2, .string n3, .string ⟨#[]⟩, .slice none 0 0, .slice none 0 0, .slice none 0 0, .slice none 0 0, .slice none 0 0, .slice none 0 0, .slice none 0 0, .bool false, .slice none 0 0, .int .i64 t.ln, .int .i64 t.co] 62 (0, 0)) := (dt.heap_setCell_at g2 16 _).trans (by kernel_rfl)
      have hC := ((C64.outC (b := D) (by omega) (by omega) 0 (.int .i64 ((i : Int) + 1))).outC (b := D) (by omega) (by omega) 15 (.int .i64 t.ln)).outC (b := D) (by omega) (by omega) 16 (.int .i64 t.co)
      have hK := (((Kq.of (D := D) K64).setB (.inl rfl) 0 (.int .i64 ((i : Int) + 1))).setB (.inl rfl) 15 (.int .i64 t.ln)).setB (.inl rfl) 16 (.int .i64 t.co)
      have gP : (((W64.setCell ⟨D, 0, none⟩ (.int .i64 ((i : Int) + 1))).setCell ⟨D, 15, none⟩ (.int .i64 t.ln)).setCell ⟨D, 16, none⟩ (.int .i64 t.co)).heap[w.heap.size]? = some (.cells #[.pointer (some ⟨B, 0, none⟩)] 74 (0, 0)) := (Below.heap_setCell _ _ _ _ (show w.heap.size ≠ D by omega)).trans ((Below.heap_setCell _ _ _ _ (show w.heap.size ≠ D by omega)).trans ((Below.heap_setCell _ _ _ _ (show w.heap.size ≠ D by omega)).trans fP64))
      have gQ : (((W64.setCell ⟨D, 0, none⟩ (.int .i64 ((i : Int) + 1))).setCell ⟨D, 15, none⟩ (.int .i64 t.ln)).setCell ⟨D, 16, none⟩ (.int .i64 t.co)).heap[W50.heap.size]? = some (.cells #[.string kw, .int .i64 ((i : Int) + 1), .func (.func f) #[] #[]] 148 (0, 0)) := (Below.heap_setCell _ _ _ _ (show W50.heap.size ≠ D by omega)).trans ((Below.heap_setCell _ _ _ _ (show W50.heap.size ≠ D by omega)).trans ((Below.heap_setCell _ _ _ _ (show W50.heap.size ≠ D by omega)).trans fQ64))
      have bD : Below (((W64.setCell ⟨D, 0, none⟩ (.int .i64 ((i : Int) + 1))).setCell ⟨D, 15, none⟩ (.int .i64 t.ln)).setCell ⟨D, 16, none⟩ (.int .i64 t.co)).heap.size (((W64.setCell ⟨D, 0, none⟩ (.int .i64 ((i : Int) + 1))).setCell ⟨D, 15, none⟩ (.int .i64 t.ln)).setCell ⟨D, 16, none⟩ (.int .i64 t.co)) (((W64.setCell ⟨D, 0, none⟩ (.int .i64 ((i : Int) + 1))).setCell ⟨D, 15, none⟩ (.int .i64 t.ln)).setCell ⟨D, 16, none⟩ (.int .i64 t.co)).drew := (Below.refl _ _).drew
      have szz : (((W64.setCell ⟨D, 0, none⟩ (.int .i64 ((i : Int) + 1))).setCell ⟨D, 15, none⟩ (.int .i64 t.ln)).setCell ⟨D, 16, none⟩ (.int .i64 t.co)).heap.size = W64.heap.size := by simp only [size_setC]
      obtain ⟨Z, hZ⟩ : ∃ Z, Z = (((W64.setCell ⟨D, 0, none⟩ (.int .i64 ((i : Int) + 1))).setCell ⟨D, 15, none⟩ (.int .i64 t.ln)).setCell ⟨D, 16, none⟩ (.int .i64 t.co)).drew := ⟨_, rfl⟩
      have C9 := hC.below bD
      have K9 := hK.trans (Kp.of bD)
      have fD9 := (bD.block D (by omega)).trans g3
      have fP9 := (bD.block w.heap.size (by omega)).trans gP
      have fQ9 := (bD.block W50.heap.size (by omega)).trans gQ
      have sz9 := bD.size
      rw [szz] at sz9
      rw [← hZ] at C9 K9 fD9 fP9 fQ9 sz9 ⊢
      clear fP64 fD64 fK64 fQ64 fO64 C64 K64 g1 g2 g3 hC hK gP gQ bD szz hZ cQ65_0 cQ65_1 cQ65_2 cO66_0 cO66_1 cP67_0 cD68_0 cD68_15 cD68_16 zD68_0 zD68_15 zD68_16
      have cP9 : Z.cell? ⟨w.heap.size, 0, none⟩ = some (.pointer (some ⟨B, 0, none⟩)) := (dt.cell_cells fP9 0).trans rfl
      have cQ9 : Z.cell? ⟨W50.heap.size, 2, none⟩ = some (.func (.func f) #[] #[]) := (dt.cell_cells fQ9 2).trans rfl
      have hcl := hide ((unhide hcall) _ _ _ _ _ fD9 C9)
      have HKQ := hide K9
      clear hcall fP9 fQ9 fD9 C9 K9
      go_wp2_with fail
      refine (unhide hcl).mono ?_
      rintro e Wf ⟨s, c9, cs, F9, qE9, rfl, hS9, fDf, hF9, Cf, Jf⟩
      have hfin := (unhide hkey).trans ((unhide hrun3).symm.trans (kw_yes (unhide EW) (show krd N i ((Sy.of (n1, n2, n3) true).at (i + 1) t) u = (s, c9) from qE9)))
      have HF := hide (And.intro hfin (And.intro hS9 (And.intro fDf (And.intro (hF9.mono (lo' := w.heap.size) (by omega) (Nat.le_refl _) (Nat.le_refl _)) (And.intro Cf ((unhide HKQ).transQ Jf))))))
      clear hfin hS9 fDf hF9 Cf Jf qE9 hcl
      go_wp2_with fail
      try simp only [Exit.inBlock, Exit.then]
      refine bodyPost_ret (results_none rfl _ _ _) rfl ?_
      obtain ⟨hfin, hS9, fDf, hF9, Cf, Kf⟩ := unhide HF
      exact ⟨s, c9, cs, F9, hfin, rfl, hS9, fDf, hF9, Cf, Kf⟩
end
end Go.Proofs.YtmccppkbabjblaaGreat.cu
