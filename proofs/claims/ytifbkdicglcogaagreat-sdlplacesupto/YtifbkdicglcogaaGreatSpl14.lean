import Derived.Test.YtifbkdicglcogaaGreatSpl13
set_option linter.unusedVariables false
set_option linter.unusedSimpArgs false
namespace Go.Proofs.YtifbkdicglcogaaGreat.cu
open Go.ChangeShapes Go.WideShapes Go.ChangeAt Go.RowKit
open ints (Hi uh)
open dt (Dt Kp RowAt Ow Grow OwIn)
section
variable {N B p : Nat} {c : Cu} {w : World}
set_option maxRecDepth 4000 in
set_option maxHeartbeats 4000000 in
theorem inp_ct (h : CurN N w B p c) : Calls Tryz.prog 119 #[.agg #[.pointer (some ⟨B, 0, none⟩)]] w fun e w' => ∃ (d : Dt) (c' : Cu) (n1 n2 : Bool) (n3 nm tn tw : ByteArray) (hd : Bool) (k : Int) (tx : ByteArray) (bl : Bool) (a1 : Option Addr) (m1 c1 : Nat) (a2 : Option Addr) (m2 c2 : Nat) (l1 o1 : Int) (a3 : Option Addr) (m3 c3 : Nat) (ln co : Int) (F : List Nat), inpT (typF N) (litF true N) c = (d, c') ∧ e = .returned (.agg (inpC n1 n2 n3 nm tn tw hd k tx bl a1 m1 c1 a2 m2 c2 l1 o1 a3 m3 c3 ln co).toArray) ∧ Ho w' d (inpC n1 n2 n3 nm tn tw hd k tx bl a1 m1 c1 a2 m2 c2 l1 o1 a3 m3 c3 ln co) F w.heap.size w'.heap.size ∧ CurN N w' B p c' ∧ Kp B w w' := by
 have hlt := h.lt
 have hplt := h.plt
 go_enter Tryz.func119, Tryz.ntmps119
 go_wp2_with fail
 obtain ⟨W1, hW1⟩ : ∃ W1, W1 = allocs w [(#[.pointer (some ⟨B, 0, none⟩)], 74), (#[.bool false, .bool false, .string ⟨#[]⟩, .string ⟨#[]⟩, .string ⟨#[]⟩, .string ⟨#[]⟩, .bool false, .int .i64 0, .string ⟨#[]⟩, .bool false, .slice none 0 0, .slice none 0 0, .int .i64 0, .int .i64 0, .slice none 0 0, .int .i64 0, .int .i64 0], 101)] := ⟨_, rfl⟩
 have gW1 : W1 = ((w.alloc (.cells #[.pointer (some ⟨B, 0, none⟩)] 74)).alloc (.cells #[.bool false, .bool false, .string ⟨#[]⟩, .string ⟨#[]⟩, .string ⟨#[]⟩, .string ⟨#[]⟩, .bool false, .int .i64 0, .string ⟨#[]⟩, .bool false, .slice none 0 0, .slice none 0 0, .int .i64 0, .int .i64 0, .slice none 0 0, .int .i64 0, .int .i64 0] 101)) := hW1
 have aa := allocs_at [(#[.pointer (some ⟨B, 0, none⟩)], 74), (#[.bool false, .bool false, .string ⟨#[]⟩, .string ⟨#[]⟩, .string ⟨#[]⟩, .string ⟨#[]⟩, .bool false, .int .i64 0, .string ⟨#[]⟩, .bool false, .slice none 0 0, .slice none 0 0, .int .i64 0, .int .i64 0, .slice none 0 0, .int .i64 0, .int .i64 0], 101)] w
 have fP1 : W1.heap[w.heap.size]? = some (.cells #[.pointer (some ⟨B, 0, none⟩)] 74 (0, 0)) := by rw [hW1]; exact aa 0 _ rfl
 have fR1 : W1.heap[(w.heap.size + 1)]? = some (.cells #[.bool false, .bool false, .string ⟨#[]⟩, .string ⟨#[]⟩, .string ⟨#[]⟩, .string ⟨#[]⟩, .bool false, .int .i64 0, .string ⟨#[]⟩, .bool false, .slice none 0 0, .slice none 0 0, .int .i64 0, .int .i64 0, .slice none 0 0, .int .i64 0, .int .i64 0] 101 (0, 0)) := by rw [hW1]; exact aa 1 _ rfl
 have bw : Below w.heap.size w W1 := by rw [hW1]; exact allocs_below _ _
 have sz1 : w.heap.size + 2 ≤ W1.heap.size := by rw [hW1, allocs_size]; exact Nat.le_refl _
 have K1 : Kp B w W1 := Kp.of bw
 have C1 := h.below bw
 rw [← gW1]
 clear gW1 hW1 bw aa h
 have cP2_0 : W1.cell? ⟨w.heap.size, 0, none⟩ = some (.pointer (some ⟨B, 0, none⟩)) := (dt.cell_cells fP1 0).trans rfl
 have HH3 := Hi (And.intro fP1 (And.intro fR1 (And.intro C1 (K1))))
 clear fP1 fR1 C1 K1
 go_wp2_with fail
 obtain ⟨fP1, fR1, C1, K1⟩ := uh HH3
 clear HH3
 refine (note_ct C1).mono ?_
 rintro e W4 ⟨n1, n2, n3, k1, u1, qE1, rfl, C4, J4⟩
 have E1 := Hi qE1; clear qE1
 have sz4 := J4.size
 have fP4 : W4.heap[w.heap.size]? = some (.cells #[.pointer (some ⟨B, 0, none⟩)] 74 (0, 0)) := (J4.block _ (by omega) (by omega)).trans fP1
 have fR4 : W4.heap[(w.heap.size + 1)]? = some (.cells #[.bool false, .bool false, .string ⟨#[]⟩, .string ⟨#[]⟩, .string ⟨#[]⟩, .string ⟨#[]⟩, .bool false, .int .i64 0, .string ⟨#[]⟩, .bool false, .slice none 0 0, .slice none 0 0, .int .i64 0, .int .i64 0, .slice none 0 0, .int .i64 0, .int .i64 0] 101 (0, 0)) := (J4.block _ (by omega) (by omega)).trans fR1
 have K4 := K1.trans J4
 clear fP1 fR1 K1 C1 J4 cP2_0
 have fP5 : (W4.alloc (.cells #[.bool n1, .bool n2, .string n3] 54)).heap[w.heap.size]? = some (.cells #[.pointer (some ⟨B, 0, none⟩)] 74 (0, 0)) := (Below.heap_alloc W4 _ _ (by omega)).trans fP4
 have fR5 : (W4.alloc (.cells #[.bool n1, .bool n2, .string n3] 54)).heap[(w.heap.size + 1)]? = some (.cells #[.bool false, .bool false, .string ⟨#[]⟩, .string ⟨#[]⟩, .string ⟨#[]⟩, .string ⟨#[]⟩, .bool false, .int .i64 0, .string ⟨#[]⟩, .bool false, .slice none 0 0, .slice none 0 0, .int .i64 0, .int .i64 0, .slice none 0 0, .int .i64 0, .int .i64 0] 101 (0, 0)) := (Below.heap_alloc W4 _ _ (by omega)).trans fR4
 have fN5 : (W4.alloc (.cells #[.bool n1, .bool n2, .string n3] 54)).heap[W4.heap.size]? = some (.cells #[.bool n1, .bool n2, .string n3] 54 (0, 0)) := heap_alloc_new _ _
 have bb5 : Below W4.heap.size W4 (W4.alloc (.cells #[.bool n1, .bool n2, .string n3] 54)) := ba
 have C5 := C4.below bb5
 have K5 := K4.trans (Kp.of bb5)
 have cP6_0 : (W4.alloc (.cells #[.bool n1, .bool n2, .string n3] 54)).cell? ⟨w.heap.size, 0, none⟩ = some (.pointer (some ⟨B, 0, none⟩)) := (dt.cell_cells fP5 0).trans rfl
 have HH7 := Hi (And.intro fP5 (And.intro fR5 (And.intro fN5 (And.intro C5 (And.intro K5 (And.intro fP4 (And.intro fR4 (And.intro K4 (C4)))))))))
 clear fP5 fR5 fN5 C5 K5 fP4 fR4 K4 C4
 go_wp2_with fail
 obtain ⟨fP5, fR5, fN5, C5, K5, fP4, fR4, K4, C4⟩ := uh HH7
 clear HH7
 obtain ⟨W8, hW8⟩ : ∃ W8, W8 = (W4.alloc (.cells #[.bool n1, .bool n2, .string n3] 54)) := ⟨_, rfl⟩
 rw [← hW8] at fP5 fR5 fN5 C5 K5 ⊢
 have sz8 : W4.heap.size + 1 ≤ W8.heap.size := by rw [hW8]; simp only [size_setC, dt.size_setCells, World.size_alloc]; exact Nat.le_refl _
 clear hW8 cP6_0 fP4 fR4 K4 C4
 refine (name_ct C5).mono ?_
 rintro e W9 ⟨nm, ln, co, u2, qE2, rfl, C9, J9⟩
 have E2 := Hi qE2; clear qE2
 have sz9 := J9.size
 have fP9 : W9.heap[w.heap.size]? = some (.cells #[.pointer (some ⟨B, 0, none⟩)] 74 (0, 0)) := (J9.block _ (by omega) (by omega)).trans fP5
 have fR9 : W9.heap[(w.heap.size + 1)]? = some (.cells #[.bool false, .bool false, .string ⟨#[]⟩, .string ⟨#[]⟩, .string ⟨#[]⟩, .string ⟨#[]⟩, .bool false, .int .i64 0, .string ⟨#[]⟩, .bool false, .slice none 0 0, .slice none 0 0, .int .i64 0, .int .i64 0, .slice none 0 0, .int .i64 0, .int .i64 0] 101 (0, 0)) := (J9.block _ (by omega) (by omega)).trans fR5
 have fN9 : W9.heap[W4.heap.size]? = some (.cells #[.bool n1, .bool n2, .string n3] 54 (0, 0)) := (J9.block _ (by omega) (by omega)).trans fN5
 have K9 := K5.trans J9
 clear fP5 fR5 fN5 K5 C5 J9
 have cN10_0 : W9.cell? ⟨W4.heap.size, 0, none⟩ = some (.bool n1) := (dt.cell_cells fN9 0).trans rfl
 have cN10_1 : W9.cell? ⟨W4.heap.size, 1, none⟩ = some (.bool n2) := (dt.cell_cells fN9 1).trans rfl
 have cN10_2 : W9.cell? ⟨W4.heap.size, 2, none⟩ = some (.string n3) := (dt.cell_cells fN9 2).trans rfl
 have fP11 : (W9.alloc (.cells #[.string nm, .int .i64 ln, .int .i64 co] 92)).heap[w.heap.size]? = some (.cells #[.pointer (some ⟨B, 0, none⟩)] 74 (0, 0)) := (Below.heap_alloc W9 _ _ (by omega)).trans fP9
 have fR11 : (W9.alloc (.cells #[.string nm, .int .i64 ln, .int .i64 co] 92)).heap[(w.heap.size + 1)]? = some (.cells #[.bool false, .bool false, .string ⟨#[]⟩, .string ⟨#[]⟩, .string ⟨#[]⟩, .string ⟨#[]⟩, .bool false, .int .i64 0, .string ⟨#[]⟩, .bool false, .slice none 0 0, .slice none 0 0, .int .i64 0, .int .i64 0, .slice none 0 0, .int .i64 0, .int .i64 0] 101 (0, 0)) := (Below.heap_alloc W9 _ _ (by omega)).trans fR9
 have fN11 : (W9.alloc (.cells #[.string nm, .int .i64 ln, .int .i64 co] 92)).heap[W4.heap.size]? = some (.cells #[.bool n1, .bool n2, .string n3] 54 (0, 0)) := (Below.heap_alloc W9 _ _ (by omega)).trans fN9
 have fM11 : (W9.alloc (.cells #[.string nm, .int .i64 ln, .int .i64 co] 92)).heap[W9.heap.size]? = some (.cells #[.string nm, .int .i64 ln, .int .i64 co] 92 (0, 0)) := heap_alloc_new _ _
 have bb11 : Below W9.heap.size W9 (W9.alloc (.cells #[.string nm, .int .i64 ln, .int .i64 co] 92)) := ba
 have C11 := C9.below bb11
 have K11 := K9.trans (Kp.of bb11)
 have cM12_0 : (W9.alloc (.cells #[.string nm, .int .i64 ln, .int .i64 co] 92)).cell? ⟨W9.heap.size, 0, none⟩ = some (.string nm) := (dt.cell_cells fM11 0).trans rfl
 have cM12_1 : (W9.alloc (.cells #[.string nm, .int .i64 ln, .int .i64 co] 92)).cell? ⟨W9.heap.size, 1, none⟩ = some (.int .i64 ln) := (dt.cell_cells fM11 1).trans rfl
 have cM12_2 : (W9.alloc (.cells #[.string nm, .int .i64 ln, .int .i64 co] 92)).cell? ⟨W9.heap.size, 2, none⟩ = some (.int .i64 co) := (dt.cell_cells fM11 2).trans rfl
 have cN13_0 : (W9.alloc (.cells #[.string nm, .int .i64 ln, .int .i64 co] 92)).cell? ⟨W4.heap.size, 0, none⟩ = some (.bool n1) := (dt.cell_cells fN11 0).trans rfl
 have cN13_1 : (W9.alloc (.cells #[.string nm, .int .i64 ln, .int .i64 co] 92)).cell? ⟨W4.heap.size, 1, none⟩ = some (.bool n2) := (dt.cell_cells fN11 1).trans rfl
 have cN13_2 : (W9.alloc (.cells #[.string nm, .int .i64 ln, .int .i64 co] 92)).cell? ⟨W4.heap.size, 2, none⟩ = some (.string n3) := (dt.cell_cells fN11 2).trans rfl
 have fP14 : ((W9.alloc (.cells #[.string nm, .int .i64 ln, .int .i64 co] 92)).alloc (.cells #[.bool n1, .bool n2, .string n3, .string nm, .string ⟨#[]⟩, .string ⟨#[]⟩, .bool false, .int .i64 0, .string ⟨#[]⟩, .bool false, .slice none 0 0, .slice none 0 0, .int .i64 0, .int .i64 0, .slice none 0 0, .int .i64 ln, .int .i64 co] 101)).heap[w.heap.size]? = some (.cells #[.pointer (some ⟨B, 0, none⟩)] 74 (0, 0)) := (Below.heap_alloc (W9.alloc (.cells #[.string nm, .int .i64 ln, .int .i64 co] 92)) _ _ (by simp only [World.size_alloc, size_setC, dt.size_setCells]; omega)).trans fP11
 have fR14 : ((W9.alloc (.cells #[.string nm, .int .i64 ln, .int .i64 co] 92)).alloc (.cells #[.bool n1, .bool n2, .string n3, .string nm, .string ⟨#[]⟩, .string ⟨#[]⟩, .bool false, .int .i64 0, .string ⟨#[]⟩, .bool false, .slice none 0 0, .slice none 0 0, .int .i64 0, .int .i64 0, .slice none 0 0, .int .i64 ln, .int .i64 co] 101)).heap[(w.heap.size + 1)]? = some (.cells #[.bool false, .bool false, .string ⟨#[]⟩, .string ⟨#[]⟩, .string ⟨#[]⟩, .string ⟨#[]⟩, .bool false, .int .i64 0, .string ⟨#[]⟩, .bool false, .slice none 0 0, .slice none 0 0, .int .i64 0, .int .i64 0, .slice none 0 0, .int .i64 0, .int .i64 0] 101 (0, 0)) := (Below.heap_alloc (W9.alloc (.cells #[.string nm, .int .i64 ln, .int .i64 co] 92)) _ _ (by simp only [World.size_alloc, size_setC, dt.size_setCells]; omega)).trans fR11
 have fN14 : ((W9.alloc (.cells #[.string nm, .int .i64 ln, .int .i64 co] 92)).alloc (.cells #[.bool n1, .bool n2, .string n3, .string nm, .string ⟨#[]⟩, .string ⟨#[]⟩, .bool false, .int .i64 0, .string ⟨#[]⟩, .bool false, .slice none 0 0, .slice none 0 0, .int .i64 0, .int .i64 0, .slice none 0 0, .int .i64 ln, .int .i64 co] 101)).heap[W4.heap.size]? = some (.cells #[.bool n1, .bool n2, .string n3] 54 (0, 0)) := (Below.heap_alloc (W9.alloc (.cells #[.string nm, .int .i64 ln, .int .i64 co] 92)) _ _ (by simp only [World.size_alloc, size_setC, dt.size_setCells]; omega)).trans fN11
 have fM14 : ((W9.alloc (.cells #[.string nm, .int .i64 ln, .int .i64 co] 92)).alloc (.cells #[.bool n1, .bool n2, .string n3, .string nm, .string ⟨#[]⟩, .string ⟨#[]⟩, .bool false, .int .i64 0, .string ⟨#[]⟩, .bool false, .slice none 0 0, .slice none 0 0, .int .i64 0, .int .i64 0, .slice none 0 0, .int .i64 ln, .int .i64 co] 101)).heap[W9.heap.size]? = some (.cells #[.string nm, .int .i64 ln, .int .i64 co] 92 (0, 0)) := (Below.heap_alloc (W9.alloc (.cells #[.string nm, .int .i64 ln, .int .i64 co] 92)) _ _ (by simp only [World.size_alloc, size_setC, dt.size_setCells]; omega)).trans fM11
 have fS14 : ((W9.alloc (.cells #[.string nm, .int .i64 ln, .int .i64 co] 92)).alloc (.cells #[.bool n1, .bool n2, .string n3, .string nm, .string ⟨#[]⟩, .string ⟨#[]⟩, .bool false, .int .i64 0, .string ⟨#[]⟩, .bool false, .slice none 0 0, .slice none 0 0, .int .i64 0, .int .i64 0, .slice none 0 0, .int .i64 ln, .int .i64 co] 101)).heap[(W9.heap.size + 1)]? = some (.cells #[.bool n1, .bool n2, .string n3, .string nm, .string ⟨#[]⟩, .string ⟨#[]⟩, .bool false, .int .i64 0, .string ⟨#[]⟩, .bool false, .slice none 0 0, .slice none 0 0, .int .i64 0, .int .i64 0, .slice none 0 0, .int .i64 ln, .int .i64 co] 101 (0, 0)) := by have hh := heap_alloc_new (W9.alloc (.cells #[.string nm, .int .i64 ln, .int .i64 co] 92)) (.cells #[.bool n1, .bool n2, .string n3, .string nm, .string ⟨#[]⟩, .string ⟨#[]⟩, .bool false, .int .i64 0, .string ⟨#[]⟩, .bool false, .slice none 0 0, .slice none 0 0, .int .i64 0, .int .i64 0, .slice none 0 0, .int .i64 ln, .int .i64 co] 101); simp only [World.size_alloc, size_setC, dt.size_setCells] at hh; exact hh
 have bb14 : Below (W9.alloc (.cells #[.string nm, .int .i64 ln, .int .i64 co] 92)).heap.size (W9.alloc (.cells #[.string nm, .int .i64 ln, .int .i64 co] 92)) ((W9.alloc (.cells #[.string nm, .int .i64 ln, .int .i64 co] 92)).alloc (.cells #[.bool n1, .bool n2, .string n3, .string nm, .string ⟨#[]⟩, .string ⟨#[]⟩, .bool false, .int .i64 0, .string ⟨#[]⟩, .bool false, .slice none 0 0, .slice none 0 0, .int .i64 0, .int .i64 0, .slice none 0 0, .int .i64 ln, .int .i64 co] 101)) := ba
 have C14 := C11.below bb14
 have K14 := K11.trans (Kp.of bb14)
 have cP15_0 : ((W9.alloc (.cells #[.string nm, .int .i64 ln, .int .i64 co] 92)).alloc (.cells #[.bool n1, .bool n2, .string n3, .string nm, .string ⟨#[]⟩, .string ⟨#[]⟩, .bool false, .int .i64 0, .string ⟨#[]⟩, .bool false, .slice none 0 0, .slice none 0 0, .int .i64 0, .int .i64 0, .slice none 0 0, .int .i64 ln, .int .i64 co] 101)).cell? ⟨w.heap.size, 0, none⟩ = some (.pointer (some ⟨B, 0, none⟩)) := (dt.cell_cells fP14 0).trans rfl
 have HH16 := Hi (And.intro fP14 (And.intro fR14 (And.intro fN14 (And.intro fM14 (And.intro fS14 (And.intro C14 (And.intro K14 (And.intro fP9 (And.intro fR9 (And.intro fN9 (And.intro K9 (And.intro C9 (And.intro fP11 (And.intro fR11 (And.intro fN11 (And.intro fM11 (And.intro K11 (C11))))))))))))))))))
 clear fP14 fR14 fN14 fM14 fS14 C14 K14 fP9 fR9 fN9 K9 C9 fP11 fR11 fN11 fM11 K11 C11
 go_wp2_with fail
 obtain ⟨fP14, fR14, fN14, fM14, fS14, C14, K14, fP9, fR9, fN9, K9, C9, fP11, fR11, fN11, fM11, K11, C11⟩ := uh HH16
 clear HH16
 obtain ⟨W17, hW17⟩ : ∃ W17, W17 = ((W9.alloc (.cells #[.string nm, .int .i64 ln, .int .i64 co] 92)).alloc (.cells #[.bool n1, .bool n2, .string n3, .string nm, .string ⟨#[]⟩, .string ⟨#[]⟩, .bool false, .int .i64 0, .string ⟨#[]⟩, .bool false, .slice none 0 0, .slice none 0 0, .int .i64 0, .int .i64 0, .slice none 0 0, .int .i64 ln, .int .i64 co] 101)) := ⟨_, rfl⟩
 rw [← hW17] at fP14 fR14 fN14 fM14 fS14 C14 K14 ⊢
 have sz17 : W9.heap.size + 2 ≤ W17.heap.size := by rw [hW17]; simp only [size_setC, dt.size_setCells, World.size_alloc]; exact Nat.le_refl _
 clear hW17 cN10_0 cN10_1 cN10_2 cM12_0 cM12_1 cM12_2 cN13_0 cN13_1 cN13_2 cP15_0 fP9 fR9 fN9 K9 C9 fP11 fR11 fN11 fM11 K11 C11
 clear fN14
 clear fM14
 refine (want_ct bCol C14).mono ?_
 rintro e W18 ⟨u3, k3, qE3, rfl, C18, J18⟩
 have E3 := Hi qE3; clear qE3
 have sz18 := J18.size
 have fP18 : W18.heap[w.heap.size]? = some (.cells #[.pointer (some ⟨B, 0, none⟩)] 74 (0, 0)) := (J18.block _ (by omega) (by omega)).trans fP14
 have fR18 : W18.heap[(w.heap.size + 1)]? = some (.cells #[.bool false, .bool false, .string ⟨#[]⟩, .string ⟨#[]⟩, .string ⟨#[]⟩, .string ⟨#[]⟩, .bool false, .int .i64 0, .string ⟨#[]⟩, .bool false, .slice none 0 0, .slice none 0 0, .int .i64 0, .int .i64 0, .slice none 0 0, .int .i64 0, .int .i64 0] 101 (0, 0)) := (J18.block _ (by omega) (by omega)).trans fR14
 have fS18 : W18.heap[(W9.heap.size + 1)]? = some (.cells #[.bool n1, .bool n2, .string n3, .string nm, .string ⟨#[]⟩, .string ⟨#[]⟩, .bool false, .int .i64 0, .string ⟨#[]⟩, .bool false, .slice none 0 0, .slice none 0 0, .int .i64 0, .int .i64 0, .slice none 0 0, .int .i64 ln, .int .i64 co] 101 (0, 0)) := (J18.block _ (by omega) (by omega)).trans fS14
 have K18 := K14.trans J18
 clear fP14 fR14 fS14 K14 C14 J18
 have cP19_0 : W18.cell? ⟨w.heap.size, 0, none⟩ = some (.pointer (some ⟨B, 0, none⟩)) := (dt.cell_cells fP18 0).trans rfl
 have HH20 := Hi (And.intro fP18 (And.intro fR18 (And.intro fS18 (And.intro C18 (K18)))))
 clear fP18 fR18 fS18 C18 K18
 go_wp2_with fail
 obtain ⟨fP18, fR18, fS18, C18, K18⟩ := uh HH20
 clear HH20
 refine (typ_ct C18).mono ?_
 rintro e W21 ⟨ty, tn, tw, u4, k4, qE4, qE4n, qE4w, rfl, C21, J21⟩
 have E4 := Hi qE4; clear qE4
 have E4n := Hi qE4n; clear qE4n
 have E4w := Hi qE4w; clear qE4w
 have sz21 := J21.size
 have fP21 : W21.heap[w.heap.size]? = some (.cells #[.pointer (some ⟨B, 0, none⟩)] 74 (0, 0)) := (J21.block _ (by omega) (by omega)).trans fP18
 have fR21 : W21.heap[(w.heap.size + 1)]? = some (.cells #[.bool false, .bool false, .string ⟨#[]⟩, .string ⟨#[]⟩, .string ⟨#[]⟩, .string ⟨#[]⟩, .bool false, .int .i64 0, .string ⟨#[]⟩, .bool false, .slice none 0 0, .slice none 0 0, .int .i64 0, .int .i64 0, .slice none 0 0, .int .i64 0, .int .i64 0] 101 (0, 0)) := (J21.block _ (by omega) (by omega)).trans fR18
 have fS21 : W21.heap[(W9.heap.size + 1)]? = some (.cells #[.bool n1, .bool n2, .string n3, .string nm, .string ⟨#[]⟩, .string ⟨#[]⟩, .bool false, .int .i64 0, .string ⟨#[]⟩, .bool false, .slice none 0 0, .slice none 0 0, .int .i64 0, .int .i64 0, .slice none 0 0, .int .i64 ln, .int .i64 co] 101 (0, 0)) := (J21.block _ (by omega) (by omega)).trans fS18
 have K21 := K18.trans J21
 clear fP18 fR18 fS18 K18 C18 J21 cP19_0
 have HT22 := Hi (dt.there_cells fS21 (o := 4) (n := 2) (by first | decide | simp))
 have fP22 : (W21.setCells (W9.heap.size + 1) 4 [.string tn, .string tw]).heap[w.heap.size]? = some (.cells #[.pointer (some ⟨B, 0, none⟩)] 74 (0, 0)) := (dt.heap_setCells (W9.heap.size + 1) _ (show w.heap.size ≠ (W9.heap.size + 1) by omega) _ 4 W21).trans fP21
 have fR22 : (W21.setCells (W9.heap.size + 1) 4 [.string tn, .string tw]).heap[(w.heap.size + 1)]? = some (.cells #[.bool false, .bool false, .string ⟨#[]⟩, .string ⟨#[]⟩, .string ⟨#[]⟩, .string ⟨#[]⟩, .bool false, .int .i64 0, .string ⟨#[]⟩, .bool false, .slice none 0 0, .slice none 0 0, .int .i64 0, .int .i64 0, .slice none 0 0, .int .i64 0, .int .i64 0] 101 (0, 0)) := (dt.heap_setCells (W9.heap.size + 1) _ (show (w.heap.size + 1) ≠ (W9.heap.size + 1) by omega) _ 4 W21).trans fR21
 have fS22 : (W21.setCells (W9.heap.size + 1) 4 [.string tn, .string tw]).heap[(W9.heap.size + 1)]? = some (.cells #[.bool n1, .bool n2, .string n3, .string nm, .string tn, .string tw, .bool false, .int .i64 0, .string ⟨#[]⟩, .bool false, .slice none 0 0, .slice none 0 0, .int .i64 0, .int .i64 0, .slice none 0 0, .int .i64 ln, .int .i64 co] 101 (0, 0)) := (dt.setCells_at [.string tn, .string tw] 4 W21 _ fS21).trans (by kernel_rfl)
 have C22 := C21.out (b := (W9.heap.size + 1)) (by omega) (by omega) 4 [.string tn, .string tw]
 have K22 := K21.out (b := (W9.heap.size + 1)) (by omega) 4 [.string tn, .string tw]
 have cP23_0 : (W21.setCells (W9.heap.size + 1) 4 [.string tn, .string tw]).cell? ⟨w.heap.size, 0, none⟩ = some (.pointer (some ⟨B, 0, none⟩)) := (dt.cell_cells fP22 0).trans rfl
 have HH24 := Hi (And.intro fP22 (And.intro fR22 (And.intro fS22 (And.intro C22 (And.intro K22 (And.intro fP21 (And.intro fR21 (And.intro fS21 (And.intro K21 (C21))))))))))
 clear fP22 fR22 fS22 C22 K22 fP21 fR21 fS21 K21 C21
 go_wp2_with (first
  | refine wpList_store_mid (by rfl) 68 _ _ (by rfl) (W9.heap.size + 1) 4 #[.string tn, .string tw] (by rfl) (by rfl) (uh HT22) infoTr (dt.one_cells (cs := [.string tn, .string tw]) (by rfl)) ?_)
 obtain ⟨fP22, fR22, fS22, C22, K22, fP21, fR21, fS21, K21, C21⟩ := uh HH24
 clear HH24
 obtain ⟨W25, hW25⟩ : ∃ W25, W25 = (W21.setCells (W9.heap.size + 1) 4 [.string tn, .string tw]) := ⟨_, rfl⟩
 rw [← hW25] at fP22 fR22 fS22 C22 K22 ⊢
 have sz25 : W21.heap.size + 0 ≤ W25.heap.size := by rw [hW25]; simp only [size_setC, dt.size_setCells, World.size_alloc]; exact Nat.le_refl _
 clear hW25 cP23_0 fP21 fR21 fS21 K21 C21
 refine (punct_ct bEq C22).mono ?_
 rintro e W26 ⟨u5, q, qE5, rfl, C26, J26⟩
 have E5 := Hi qE5; clear qE5
 have sz26 := J26.size
 have fP26 : W26.heap[w.heap.size]? = some (.cells #[.pointer (some ⟨B, 0, none⟩)] 74 (0, 0)) := (J26.block _ (by omega) (by omega)).trans fP22
 have fR26 : W26.heap[(w.heap.size + 1)]? = some (.cells #[.bool false, .bool false, .string ⟨#[]⟩, .string ⟨#[]⟩, .string ⟨#[]⟩, .string ⟨#[]⟩, .bool false, .int .i64 0, .string ⟨#[]⟩, .bool false, .slice none 0 0, .slice none 0 0, .int .i64 0, .int .i64 0, .slice none 0 0, .int .i64 0, .int .i64 0] 101 (0, 0)) := (J26.block _ (by omega) (by omega)).trans fR22
 have fS26 : W26.heap[(W9.heap.size + 1)]? = some (.cells #[.bool n1, .bool n2, .string n3, .string nm, .string tn, .string tw, .bool false, .int .i64 0, .string ⟨#[]⟩, .bool false, .slice none 0 0, .slice none 0 0, .int .i64 0, .int .i64 0, .slice none 0 0, .int .i64 ln, .int .i64 co] 101 (0, 0)) := (J26.block _ (by omega) (by omega)).trans fS22
 have K26 := K22.trans J26
 clear fP22 fR22 fS22 K22 C22 J26
 cases q
 ·have cS28_6 : W26.cell? ⟨(W9.heap.size + 1), 6, none⟩ = some (.bool false) := (dt.cell_cells fS26 6).trans rfl
  have zS28_6 : W26.frozen? ⟨(W9.heap.size + 1), 6, none⟩ = false := dt.frozen_cells fS26 6
  have fP27 : (W26.setCell ⟨(W9.heap.size + 1), 6, none⟩ (.bool false)).heap[w.heap.size]? = some (.cells #[.pointer (some ⟨B, 0, none⟩)] 74 (0, 0)) := (Below.heap_setCell W26 _ _ _ (show w.heap.size ≠ (W9.heap.size + 1) by omega)).trans fP26
  have fR27 : (W26.setCell ⟨(W9.heap.size + 1), 6, none⟩ (.bool false)).heap[(w.heap.size + 1)]? = some (.cells #[.bool false, .bool false, .string ⟨#[]⟩, .string ⟨#[]⟩, .string ⟨#[]⟩, .string ⟨#[]⟩, .bool false, .int .i64 0, .string ⟨#[]⟩, .bool false, .slice none 0 0, .slice none 0 0, .int .i64 0, .int .i64 0, .slice none 0 0, .int .i64 0, .int .i64 0] 101 (0, 0)) := (Below.heap_setCell W26 _ _ _ (show (w.heap.size + 1) ≠ (W9.heap.size + 1) by omega)).trans fR26
  have fS27 : (W26.setCell ⟨(W9.heap.size + 1), 6, none⟩ (.bool false)).heap[(W9.heap.size + 1)]? = some (.cells #[.bool n1, .bool n2, .string n3, .string nm, .string tn, .string tw, .bool false, .int .i64 0, .string ⟨#[]⟩, .bool false, .slice none 0 0, .slice none 0 0, .int .i64 0, .int .i64 0, .slice none 0 0, .int .i64 ln, .int .i64 co] 101 (0, 0)) := (dt.heap_setCell_at fS26 6 _).trans (by kernel_rfl)
  have C27 := C26.outC (b := (W9.heap.size + 1)) (by omega) (by omega) 6 (.bool false)
  have K27 := K26.setB (b := (W9.heap.size + 1)) (by omega) 6 (.bool false)
  have cS29_6 : (W26.setCell ⟨(W9.heap.size + 1), 6, none⟩ (.bool false)).cell? ⟨(W9.heap.size + 1), 6, none⟩ = some (.bool false) := (dt.cell_cells fS27 6).trans rfl
  have cP30_0 : (W26.setCell ⟨(W9.heap.size + 1), 6, none⟩ (.bool false)).cell? ⟨w.heap.size, 0, none⟩ = some (.pointer (some ⟨B, 0, none⟩)) := (dt.cell_cells fP27 0).trans rfl
  have HH31 := Hi (And.intro fP27 (And.intro fR27 (And.intro fS27 (And.intro C27 (And.intro K27 (And.intro fP26 (And.intro fR26 (And.intro fS26 (And.intro K26 (C26))))))))))
  clear fP27 fR27 fS27 C27 K27 fP26 fR26 fS26 K26 C26
  go_wp2_with fail
  obtain ⟨fP27, fR27, fS27, C27, K27, fP26, fR26, fS26, K26, C26⟩ := uh HH31
  clear HH31
  obtain ⟨W32, hW32⟩ : ∃ W32, W32 = (W26.setCell ⟨(W9.heap.size + 1), 6, none⟩ (.bool false)) := ⟨_, rfl⟩
  rw [← hW32] at fP27 fR27 fS27 C27 K27 ⊢
  have sz32 : W26.heap.size + 0 ≤ W32.heap.size := by rw [hW32]; simp only [size_setC, dt.size_setCells, World.size_alloc]; exact Nat.le_refl _
  clear hW32 cS28_6 zS28_6 cS29_6 cP30_0 fP26 fR26 fS26 K26 C26
  refine (dirs_ct C27).mono ?_
  rintro e W33 ⟨ds, u7, a3, m3, c3, F3, k7, qE7, rfl, sD33, C33, J33⟩
  have E7 := Hi qE7; clear qE7
  have sz33 := J33.size
  have fP33 : W33.heap[w.heap.size]? = some (.cells #[.pointer (some ⟨B, 0, none⟩)] 74 (0, 0)) := (J33.block _ (by omega) (by omega)).trans fP27
  have fR33 : W33.heap[(w.heap.size + 1)]? = some (.cells #[.bool false, .bool false, .string ⟨#[]⟩, .string ⟨#[]⟩, .string ⟨#[]⟩, .string ⟨#[]⟩, .bool false, .int .i64 0, .string ⟨#[]⟩, .bool false, .slice none 0 0, .slice none 0 0, .int .i64 0, .int .i64 0, .slice none 0 0, .int .i64 0, .int .i64 0] 101 (0, 0)) := (J33.block _ (by omega) (by omega)).trans fR27
  have fS33 : W33.heap[(W9.heap.size + 1)]? = some (.cells #[.bool n1, .bool n2, .string n3, .string nm, .string tn, .string tw, .bool false, .int .i64 0, .string ⟨#[]⟩, .bool false, .slice none 0 0, .slice none 0 0, .int .i64 0, .int .i64 0, .slice none 0 0, .int .i64 ln, .int .i64 co] 101 (0, 0)) := (J33.block _ (by omega) (by omega)).trans fS27
  have K33 := K27.trans J33
  clear fP27 fR27 fS27 K27 C27 J33
  have cS35_14 : W33.cell? ⟨(W9.heap.size + 1), 14, none⟩ = some (.slice none 0 0) := (dt.cell_cells fS33 14).trans rfl
  have zS35_14 : W33.frozen? ⟨(W9.heap.size + 1), 14, none⟩ = false := dt.frozen_cells fS33 14
  have fP34 : (W33.setCell ⟨(W9.heap.size + 1), 14, none⟩ (.slice a3 m3 c3)).heap[w.heap.size]? = some (.cells #[.pointer (some ⟨B, 0, none⟩)] 74 (0, 0)) := (Below.heap_setCell W33 _ _ _ (show w.heap.size ≠ (W9.heap.size + 1) by omega)).trans fP33
  have fR34 : (W33.setCell ⟨(W9.heap.size + 1), 14, none⟩ (.slice a3 m3 c3)).heap[(w.heap.size + 1)]? = some (.cells #[.bool false, .bool false, .string ⟨#[]⟩, .string ⟨#[]⟩, .string ⟨#[]⟩, .string ⟨#[]⟩, .bool false, .int .i64 0, .string ⟨#[]⟩, .bool false, .slice none 0 0, .slice none 0 0, .int .i64 0, .int .i64 0, .slice none 0 0, .int .i64 0, .int .i64 0] 101 (0, 0)) := (Below.heap_setCell W33 _ _ _ (show (w.heap.size + 1) ≠ (W9.heap.size + 1) by omega)).trans fR33
  have fS34 : (W33.setCell ⟨(W9.heap.size + 1), 14, none⟩ (.slice a3 m3 c3)).heap[(W9.heap.size + 1)]? = some (.cells #[.bool n1, .bool n2, .string n3, .string nm, .string tn, .string tw, .bool false, .int .i64 0, .string ⟨#[]⟩, .bool false, .slice none 0 0, .slice none 0 0, .int .i64 0, .int .i64 0, .slice a3 m3 c3, .int .i64 ln, .int .i64 co] 101 (0, 0)) := (dt.heap_setCell_at fS33 14 _).trans (by kernel_rfl)
  have C34 := C33.outC (b := (W9.heap.size + 1)) (by omega) (by omega) 14 (.slice a3 m3 c3)
  have K34 := K33.setB (b := (W9.heap.size + 1)) (by omega) 14 (.slice a3 m3 c3)
  have sD34 := sD33.outC (b := (W9.heap.size + 1)) (by omega) 14 (.slice a3 m3 c3)
  have HT := Hi (dt.there_cells fR34 (o := 0) (n := 17) (by decide))
  have RS := Hi (dt.range_cells fS34 0 [.bool n1, .bool n2, .string n3, .string nm, .string tn, .string tw, .bool false, .int .i64 0, .string ⟨#[]⟩, .bool false, .slice none 0 0, .slice none 0 0, .int .i64 0, .int .i64 0, .slice a3 m3 c3, .int .i64 ln, .int .i64 co] (fun j u hu => by rw [Nat.zero_add]; simpa using hu))
  have HF := Hi (And.intro C34 (And.intro K34 (sD34)))
  clear C34 K34 sD34 fP33 fR33 fS33 sD33 K33 C33
  go_wp2_with (first
   | refine wpList_load_mid (by rfl) 101 _ (by rfl) (W9.heap.size + 1) 0 (by rfl) [.bool n1, .bool n2, .string n3, .string nm, .string tn, .string tw, .bool false, .int .i64 0, .string ⟨#[]⟩, .bool false, .slice none 0 0, .slice none 0 0, .int .i64 0, .int .i64 0, .slice a3 m3 c3, .int .i64 ln, .int .i64 co] _ (uh RS) Tryz.underlying101 (by rfl) infoIn ?_
   | refine wpList_store_mid (by rfl) 101 _ _ (by rfl) (w.heap.size + 1) 0 ([.bool n1, .bool n2, .string n3, .string nm, .string tn, .string tw, .bool false, .int .i64 0, .string ⟨#[]⟩, .bool false, .slice none 0 0, .slice none 0 0, .int .i64 0, .int .i64 0, .slice a3 m3 c3, .int .i64 ln, .int .i64 co] : List Value).toArray (by rfl) (by rfl) (uh HT) infoIn (dt.one_cells (cs := [.bool n1, .bool n2, .string n3, .string nm, .string tn, .string tw, .bool false, .int .i64 0, .string ⟨#[]⟩, .bool false, .slice none 0 0, .slice none 0 0, .int .i64 0, .int .i64 0, .slice a3 m3 c3, .int .i64 ln, .int .i64 co]) (by rfl)) ?_)
  refine bodyPost_ret (rgn.result_row rfl _ _ (w.heap.size + 1) 0 [.bool n1, .bool n2, .string n3, .string nm, .string tn, .string tw, .bool false, .int .i64 0, .string ⟨#[]⟩, .bool false, .slice none 0 0, .slice none 0 0, .int .i64 0, .int .i64 0, .slice a3 m3 c3, .int .i64 ln, .int .i64 co] _ rfl (World.rangeAt_setCells_same _ _ _ _ (uh HT)) Tryz.underlying101 rfl infoIn) rfl ?_
  obtain ⟨C34, K34, sD34⟩ := uh HF
  have hC := C34.out (b := (w.heap.size + 1)) (by omega) (by omega) 0 [.bool n1, .bool n2, .string n3, .string nm, .string tn, .string tw, .bool false, .int .i64 0, .string ⟨#[]⟩, .bool false, .slice none 0 0, .slice none 0 0, .int .i64 0, .int .i64 0, .slice a3 m3 c3, .int .i64 ln, .int .i64 co]
  have hK := K34.out (b := (w.heap.size + 1)) (by omega) 0 [.bool n1, .bool n2, .string n3, .string nm, .string tn, .string tw, .bool false, .int .i64 0, .string ⟨#[]⟩, .bool false, .slice none 0 0, .slice none 0 0, .int .i64 0, .int .i64 0, .slice a3 m3 c3, .int .i64 ln, .int .i64 co]
  have hD := sD34.out (b := (w.heap.size + 1)) (by omega) 0 [.bool n1, .bool n2, .string n3, .string nm, .string tn, .string tw, .bool false, .int .i64 0, .string ⟨#[]⟩, .bool false, .slice none 0 0, .slice none 0 0, .int .i64 0, .int .i64 0, .slice a3 m3 c3, .int .i64 ln, .int .i64 co]
  have hfin : inpT (typF N) (litF true N) c = (inpD (n1, n2, n3) (nm, ln, co) tn tw false zeroD (ds.getD []), u7) := by
   unfold inpT
   rw [bnd_eq (uh E1), bnd_eq (uh E2), bnd_eq (uh E3), bnd_eq (uh E4), bnd_eq (uh E5)]
   rw [bnd_eq (cond_ff (E := litF true N) (ret_eq none u5)), bnd_eq (uh E7), uh E4n, uh E4w]
   rfl
  obtain ⟨F9, hF9⟩ := inp_own (n1 := n1) (n2 := n2) (n3 := n3) (nm := nm) (tn := tn) (tw := tw) (hd := false) (ln := ln) (co := co) (lo := w.heap.size) (zero_ho _ w.heap.size) hD (by omega) (by omega) (by omega) (by omega)
  exact ⟨_, u7, _, _, _, _, _, _, _, _, _, _, _, _, _, _, _, _, _, _, _, _, _, _, _, F9, hfin, rfl, hF9, hC, hK⟩
 ·have cS28_6 : W26.cell? ⟨(W9.heap.size + 1), 6, none⟩ = some (.bool false) := (dt.cell_cells fS26 6).trans rfl
  have zS28_6 : W26.frozen? ⟨(W9.heap.size + 1), 6, none⟩ = false := dt.frozen_cells fS26 6
  have fP27 : (W26.setCell ⟨(W9.heap.size + 1), 6, none⟩ (.bool true)).heap[w.heap.size]? = some (.cells #[.pointer (some ⟨B, 0, none⟩)] 74 (0, 0)) := (Below.heap_setCell W26 _ _ _ (show w.heap.size ≠ (W9.heap.size + 1) by omega)).trans fP26
  have fR27 : (W26.setCell ⟨(W9.heap.size + 1), 6, none⟩ (.bool true)).heap[(w.heap.size + 1)]? = some (.cells #[.bool false, .bool false, .string ⟨#[]⟩, .string ⟨#[]⟩, .string ⟨#[]⟩, .string ⟨#[]⟩, .bool false, .int .i64 0, .string ⟨#[]⟩, .bool false, .slice none 0 0, .slice none 0 0, .int .i64 0, .int .i64 0, .slice none 0 0, .int .i64 0, .int .i64 0] 101 (0, 0)) := (Below.heap_setCell W26 _ _ _ (show (w.heap.size + 1) ≠ (W9.heap.size + 1) by omega)).trans fR26
  have fS27 : (W26.setCell ⟨(W9.heap.size + 1), 6, none⟩ (.bool true)).heap[(W9.heap.size + 1)]? = some (.cells #[.bool n1, .bool n2, .string n3, .string nm, .string tn, .string tw, .bool true, .int .i64 0, .string ⟨#[]⟩, .bool false, .slice none 0 0, .slice none 0 0, .int .i64 0, .int .i64 0, .slice none 0 0, .int .i64 ln, .int .i64 co] 101 (0, 0)) := (dt.heap_setCell_at fS26 6 _).trans (by kernel_rfl)
  have C27 := C26.outC (b := (W9.heap.size + 1)) (by omega) (by omega) 6 (.bool true)
  have K27 := K26.setB (b := (W9.heap.size + 1)) (by omega) 6 (.bool true)
  have cS29_6 : (W26.setCell ⟨(W9.heap.size + 1), 6, none⟩ (.bool true)).cell? ⟨(W9.heap.size + 1), 6, none⟩ = some (.bool true) := (dt.cell_cells fS27 6).trans rfl
  have cP30_0 : (W26.setCell ⟨(W9.heap.size + 1), 6, none⟩ (.bool true)).cell? ⟨w.heap.size, 0, none⟩ = some (.pointer (some ⟨B, 0, none⟩)) := (dt.cell_cells fP27 0).trans rfl
  have HH31 := Hi (And.intro fP27 (And.intro fR27 (And.intro fS27 (And.intro C27 (And.intro K27 (And.intro fP26 (And.intro fR26 (And.intro fS26 (And.intro K26 (C26))))))))))
  clear fP27 fR27 fS27 C27 K27 fP26 fR26 fS26 K26 C26
  go_wp2_with fail
  obtain ⟨fP27, fR27, fS27, C27, K27, fP26, fR26, fS26, K26, C26⟩ := uh HH31
  clear HH31
  obtain ⟨W32, hW32⟩ : ∃ W32, W32 = (W26.setCell ⟨(W9.heap.size + 1), 6, none⟩ (.bool true)) := ⟨_, rfl⟩
  rw [← hW32] at fP27 fR27 fS27 C27 K27 ⊢
  have sz32 : W26.heap.size + 0 ≤ W32.heap.size := by rw [hW32]; simp only [size_setC, dt.size_setCells, World.size_alloc]; exact Nat.le_refl _
  clear hW32 cS28_6 zS28_6 cS29_6 cP30_0 fP26 fR26 fS26 K26 C26
  refine (lit_ct C27).mono ?_
  rintro e W33 ⟨lv, u6, k, tx, bl, a1, m1, c1, a2, m2, c2, l1, o1, F2, k6, qE6, rfl, sL33, C33, J33⟩
  have E6 := Hi qE6; clear qE6
  have sz33 := J33.size
  have fP33 : W33.heap[w.heap.size]? = some (.cells #[.pointer (some ⟨B, 0, none⟩)] 74 (0, 0)) := (J33.block _ (by omega) (by omega)).trans fP27
  have fR33 : W33.heap[(w.heap.size + 1)]? = some (.cells #[.bool false, .bool false, .string ⟨#[]⟩, .string ⟨#[]⟩, .string ⟨#[]⟩, .string ⟨#[]⟩, .bool false, .int .i64 0, .string ⟨#[]⟩, .bool false, .slice none 0 0, .slice none 0 0, .int .i64 0, .int .i64 0, .slice none 0 0, .int .i64 0, .int .i64 0] 101 (0, 0)) := (J33.block _ (by omega) (by omega)).trans fR27
  have fS33 : W33.heap[(W9.heap.size + 1)]? = some (.cells #[.bool n1, .bool n2, .string n3, .string nm, .string tn, .string tw, .bool true, .int .i64 0, .string ⟨#[]⟩, .bool false, .slice none 0 0, .slice none 0 0, .int .i64 0, .int .i64 0, .slice none 0 0, .int .i64 ln, .int .i64 co] 101 (0, 0)) := (J33.block _ (by omega) (by omega)).trans fS27
  have K33 := K27.trans J33
  clear fP27 fR27 fS27 K27 C27 J33
  have HT34 := Hi (dt.there_cells fS33 (o := 7) (n := 7) (by first | decide | simp))
  have fP34 : (W33.setCells (W9.heap.size + 1) 7 [.int .i64 k, .string tx, .bool bl, .slice a1 m1 c1, .slice a2 m2 c2, .int .i64 l1, .int .i64 o1]).heap[w.heap.size]? = some (.cells #[.pointer (some ⟨B, 0, none⟩)] 74 (0, 0)) := (dt.heap_setCells (W9.heap.size + 1) _ (show w.heap.size ≠ (W9.heap.size + 1) by omega) _ 7 W33).trans fP33
  have fR34 : (W33.setCells (W9.heap.size + 1) 7 [.int .i64 k, .string tx, .bool bl, .slice a1 m1 c1, .slice a2 m2 c2, .int .i64 l1, .int .i64 o1]).heap[(w.heap.size + 1)]? = some (.cells #[.bool false, .bool false, .string ⟨#[]⟩, .string ⟨#[]⟩, .string ⟨#[]⟩, .string ⟨#[]⟩, .bool false, .int .i64 0, .string ⟨#[]⟩, .bool false, .slice none 0 0, .slice none 0 0, .int .i64 0, .int .i64 0, .slice none 0 0, .int .i64 0, .int .i64 0] 101 (0, 0)) := (dt.heap_setCells (W9.heap.size + 1) _ (show (w.heap.size + 1) ≠ (W9.heap.size + 1) by omega) _ 7 W33).trans fR33
  have fS34 : (W33.setCells (W9.heap.size + 1) 7 [.int .i64 k, .string tx, .bool bl, .slice a1 m1 c1, .slice a2 m2 c2, .int .i64 l1, .int .i64 o1]).heap[(W9.heap.size + 1)]? = some (.cells #[.bool n1, .bool n2, .string n3, .string nm, .string tn, .string tw, .bool true, .int .i64 k, .string tx, .bool bl, .slice a1 m1 c1, .slice a2 m2 c2, .int .i64 l1, .int .i64 o1, .slice none 0 0, .int .i64 ln, .int .i64 co] 101 (0, 0)) := (dt.setCells_at [.int .i64 k, .string tx, .bool bl, .slice a1 m1 c1, .slice a2 m2 c2, .int .i64 l1, .int .i64 o1] 7 W33 _ fS33).trans (by kernel_rfl)
  have C34 := C33.out (b := (W9.heap.size + 1)) (by omega) (by omega) 7 [.int .i64 k, .string tx, .bool bl, .slice a1 m1 c1, .slice a2 m2 c2, .int .i64 l1, .int .i64 o1]
  have K34 := K33.out (b := (W9.heap.size + 1)) (by omega) 7 [.int .i64 k, .string tx, .bool bl, .slice a1 m1 c1, .slice a2 m2 c2, .int .i64 l1, .int .i64 o1]
  have sL34 := sL33.out (b := (W9.heap.size + 1)) (by omega) 7 [.int .i64 k, .string tx, .bool bl, .slice a1 m1 c1, .slice a2 m2 c2, .int .i64 l1, .int .i64 o1]
  obtain ⟨W35, hW35⟩ : ∃ W35, W35 = (W33.setCells (W9.heap.size + 1) 7 [.int .i64 k, .string tx, .bool bl, .slice a1 m1 c1, .slice a2 m2 c2, .int .i64 l1, .int .i64 o1]) := ⟨_, rfl⟩
  rw [← hW35] at fP34 fR34 fS34 sL34 C34 K34
  have sz35 : W33.heap.size + 0 ≤ W35.heap.size := by rw [hW35]; simp only [size_setC, dt.size_setCells, World.size_alloc]; exact Nat.le_refl _
  have GW35 := Hi hW35
  clear hW35 fP33 fR33 fS33 sL33 K33 C33
  have cP36_0 : W35.cell? ⟨w.heap.size, 0, none⟩ = some (.pointer (some ⟨B, 0, none⟩)) := (dt.cell_cells fP34 0).trans rfl
  have HH37 := Hi (And.intro fP34 (And.intro fR34 (And.intro fS34 (And.intro sL34 (And.intro C34 (K34))))))
  clear fP34 fR34 fS34 sL34 C34 K34
  go_wp2_with (first
   | (refine wpList_store_mid (by rfl) 99 _ _ (by rfl) (W9.heap.size + 1) 7 #[.int .i64 k, .string tx, .bool bl, .slice a1 m1 c1, .slice a2 m2 c2, .int .i64 l1, .int .i64 o1] (by rfl) (by rfl) (uh HT34) infoLi (dt.one_cells (cs := [.int .i64 k, .string tx, .bool bl, .slice a1 m1 c1, .slice a2 m2 c2, .int .i64 l1, .int .i64 o1]) (by rfl)) ?_; rw [show W33.setCells (W9.heap.size + 1) 7 (#[.int .i64 k, .string tx, .bool bl, .slice a1 m1 c1, .slice a2 m2 c2, .int .i64 l1, .int .i64 o1] : Array Value).toList = W35 from (uh GW35).symm]))
  obtain ⟨fP34, fR34, fS34, sL34, C34, K34⟩ := uh HH37
  clear HH37
  clear GW35
  refine (dirs_ct C34).mono ?_
  rintro e W38 ⟨ds, u7, a3, m3, c3, F3, k7, qE7, rfl, sD38, C38, J38⟩
  have E7 := Hi qE7; clear qE7
  have sz38 := J38.size
  have fP38 : W38.heap[w.heap.size]? = some (.cells #[.pointer (some ⟨B, 0, none⟩)] 74 (0, 0)) := (J38.block _ (by omega) (by omega)).trans fP34
  have fR38 : W38.heap[(w.heap.size + 1)]? = some (.cells #[.bool false, .bool false, .string ⟨#[]⟩, .string ⟨#[]⟩, .string ⟨#[]⟩, .string ⟨#[]⟩, .bool false, .int .i64 0, .string ⟨#[]⟩, .bool false, .slice none 0 0, .slice none 0 0, .int .i64 0, .int .i64 0, .slice none 0 0, .int .i64 0, .int .i64 0] 101 (0, 0)) := (J38.block _ (by omega) (by omega)).trans fR34
  have fS38 : W38.heap[(W9.heap.size + 1)]? = some (.cells #[.bool n1, .bool n2, .string n3, .string nm, .string tn, .string tw, .bool true, .int .i64 k, .string tx, .bool bl, .slice a1 m1 c1, .slice a2 m2 c2, .int .i64 l1, .int .i64 o1, .slice none 0 0, .int .i64 ln, .int .i64 co] 101 (0, 0)) := (J38.block _ (by omega) (by omega)).trans fS34
  have sL38 := sL34.kp J38 (by omega)
  have K38 := K34.trans J38
  clear fP34 fR34 fS34 sL34 K34 C34 J38 cP36_0
  have cS40_14 : W38.cell? ⟨(W9.heap.size + 1), 14, none⟩ = some (.slice none 0 0) := (dt.cell_cells fS38 14).trans rfl
  have zS40_14 : W38.frozen? ⟨(W9.heap.size + 1), 14, none⟩ = false := dt.frozen_cells fS38 14
  have fP39 : (W38.setCell ⟨(W9.heap.size + 1), 14, none⟩ (.slice a3 m3 c3)).heap[w.heap.size]? = some (.cells #[.pointer (some ⟨B, 0, none⟩)] 74 (0, 0)) := (Below.heap_setCell W38 _ _ _ (show w.heap.size ≠ (W9.heap.size + 1) by omega)).trans fP38
  have fR39 : (W38.setCell ⟨(W9.heap.size + 1), 14, none⟩ (.slice a3 m3 c3)).heap[(w.heap.size + 1)]? = some (.cells #[.bool false, .bool false, .string ⟨#[]⟩, .string ⟨#[]⟩, .string ⟨#[]⟩, .string ⟨#[]⟩, .bool false, .int .i64 0, .string ⟨#[]⟩, .bool false, .slice none 0 0, .slice none 0 0, .int .i64 0, .int .i64 0, .slice none 0 0, .int .i64 0, .int .i64 0] 101 (0, 0)) := (Below.heap_setCell W38 _ _ _ (show (w.heap.size + 1) ≠ (W9.heap.size + 1) by omega)).trans fR38
  have fS39 : (W38.setCell ⟨(W9.heap.size + 1), 14, none⟩ (.slice a3 m3 c3)).heap[(W9.heap.size + 1)]? = some (.cells #[.bool n1, .bool n2, .string n3, .string nm, .string tn, .string tw, .bool true, .int .i64 k, .string tx, .bool bl, .slice a1 m1 c1, .slice a2 m2 c2, .int .i64 l1, .int .i64 o1, .slice a3 m3 c3, .int .i64 ln, .int .i64 co] 101 (0, 0)) := (dt.heap_setCell_at fS38 14 _).trans (by kernel_rfl)
  have C39 := C38.outC (b := (W9.heap.size + 1)) (by omega) (by omega) 14 (.slice a3 m3 c3)
  have K39 := K38.setB (b := (W9.heap.size + 1)) (by omega) 14 (.slice a3 m3 c3)
  have sL39 := sL38.outC (b := (W9.heap.size + 1)) (by omega) 14 (.slice a3 m3 c3)
  have sD39 := sD38.outC (b := (W9.heap.size + 1)) (by omega) 14 (.slice a3 m3 c3)
  have HT := Hi (dt.there_cells fR39 (o := 0) (n := 17) (by decide))
  have RS := Hi (dt.range_cells fS39 0 [.bool n1, .bool n2, .string n3, .string nm, .string tn, .string tw, .bool true, .int .i64 k, .string tx, .bool bl, .slice a1 m1 c1, .slice a2 m2 c2, .int .i64 l1, .int .i64 o1, .slice a3 m3 c3, .int .i64 ln, .int .i64 co] (fun j u hu => by rw [Nat.zero_add]; simpa using hu))
  have HF := Hi (And.intro C39 (And.intro K39 (And.intro sL39 (sD39))))
  clear C39 K39 sL39 sD39 fP38 fR38 fS38 sL38 sD38 K38 C38
  go_wp2_with (first
   | refine wpList_load_mid (by rfl) 101 _ (by rfl) (W9.heap.size + 1) 0 (by rfl) [.bool n1, .bool n2, .string n3, .string nm, .string tn, .string tw, .bool true, .int .i64 k, .string tx, .bool bl, .slice a1 m1 c1, .slice a2 m2 c2, .int .i64 l1, .int .i64 o1, .slice a3 m3 c3, .int .i64 ln, .int .i64 co] _ (uh RS) Tryz.underlying101 (by rfl) infoIn ?_
   | refine wpList_store_mid (by rfl) 101 _ _ (by rfl) (w.heap.size + 1) 0 ([.bool n1, .bool n2, .string n3, .string nm, .string tn, .string tw, .bool true, .int .i64 k, .string tx, .bool bl, .slice a1 m1 c1, .slice a2 m2 c2, .int .i64 l1, .int .i64 o1, .slice a3 m3 c3, .int .i64 ln, .int .i64 co] : List Value).toArray (by rfl) (by rfl) (uh HT) infoIn (dt.one_cells (cs := [.bool n1, .bool n2, .string n3, .string nm, .string tn, .string tw, .bool true, .int .i64 k, .string tx, .bool bl, .slice a1 m1 c1, .slice a2 m2 c2, .int .i64 l1, .int .i64 o1, .slice a3 m3 c3, .int .i64 ln, .int .i64 co]) (by rfl)) ?_)
  refine bodyPost_ret (rgn.result_row rfl _ _ (w.heap.size + 1) 0 [.bool n1, .bool n2, .string n3, .string nm, .string tn, .string tw, .bool true, .int .i64 k, .string tx, .bool bl, .slice a1 m1 c1, .slice a2 m2 c2, .int .i64 l1, .int .i64 o1, .slice a3 m3 c3, .int .i64 ln, .int .i64 co] _ rfl (World.rangeAt_setCells_same _ _ _ _ (uh HT)) Tryz.underlying101 rfl infoIn) rfl ?_
  obtain ⟨C39, K39, sL39, sD39⟩ := uh HF
  have hC := C39.out (b := (w.heap.size + 1)) (by omega) (by omega) 0 [.bool n1, .bool n2, .string n3, .string nm, .string tn, .string tw, .bool true, .int .i64 k, .string tx, .bool bl, .slice a1 m1 c1, .slice a2 m2 c2, .int .i64 l1, .int .i64 o1, .slice a3 m3 c3, .int .i64 ln, .int .i64 co]
  have hK := K39.out (b := (w.heap.size + 1)) (by omega) 0 [.bool n1, .bool n2, .string n3, .string nm, .string tn, .string tw, .bool true, .int .i64 k, .string tx, .bool bl, .slice a1 m1 c1, .slice a2 m2 c2, .int .i64 l1, .int .i64 o1, .slice a3 m3 c3, .int .i64 ln, .int .i64 co]
  have hL := sL39.out (b := (w.heap.size + 1)) (by omega) 0 [.bool n1, .bool n2, .string n3, .string nm, .string tn, .string tw, .bool true, .int .i64 k, .string tx, .bool bl, .slice a1 m1 c1, .slice a2 m2 c2, .int .i64 l1, .int .i64 o1, .slice a3 m3 c3, .int .i64 ln, .int .i64 co]
  have hD := sD39.out (b := (w.heap.size + 1)) (by omega) 0 [.bool n1, .bool n2, .string n3, .string nm, .string tn, .string tw, .bool true, .int .i64 k, .string tx, .bool bl, .slice a1 m1 c1, .slice a2 m2 c2, .int .i64 l1, .int .i64 o1, .slice a3 m3 c3, .int .i64 ln, .int .i64 co]
  have hfin : inpT (typF N) (litF true N) c = (inpD (n1, n2, n3) (nm, ln, co) tn tw true (lv.getD zeroD) (ds.getD []), u7) := by
   unfold inpT
   rw [bnd_eq (uh E1), bnd_eq (uh E2), bnd_eq (uh E3), bnd_eq (uh E4), bnd_eq (uh E5)]
   rw [bnd_eq (cond_tt (uh E6)), bnd_eq (uh E7), uh E4n, uh E4w]
   rfl
  obtain ⟨F9, hF9⟩ := inp_own (n1 := n1) (n2 := n2) (n3 := n3) (nm := nm) (tn := tn) (tw := tw) (hd := true) (ln := ln) (co := co) (lo := w.heap.size) hL hD (by omega) (by omega) (by omega) (by omega)
  exact ⟨_, u7, _, _, _, _, _, _, _, _, _, _, _, _, _, _, _, _, _, _, _, _, _, _, _, F9, hfin, rfl, hF9, hC, hK⟩
end
theorem infoIz : ∃ i z, Tryz.prog.info? 101 = some i ∧ i.zero = some z ∧ i.size = 17 ∧ i.bytes = 216 ∧ z.cells.size = 17 := by
 have hin : (Tryz.prog.info? 101).map (fun i => (i.bytes, i.size, i.zero.map (·.cells.size))) = some (216, 17, some 17) := by kernel_rfl
 cases hq : Tryz.prog.info? 101 with
 | none => simp [hq] at hin
 | some i =>
  simp [hq] at hin
  obtain ⟨h1, h2, z, hz, h3⟩ := hin
  exact ⟨i, z, rfl, hz, h2, h1, h3⟩
set_option maxRecDepth 4000 in
set_option maxHeartbeats 8000000 in
theorem brkI_ct {N B p : Nat} {c : Cu} {w : World} (left right : ByteArray) (h : CurN N w B p c) :
  Calls Tryz.prog 139 #[.agg #[.pointer (some ⟨B, 0, none⟩)], .string left, .string right, .func (.func 119) #[.agg #[.pointer (some ⟨B, 0, none⟩)]] #[]] w fun e w' => ∃ (l : List Dt) (c' : Cu) (a : Option Addr) (n cp : Nat) (F : List Nat), brkT (inpT (typF N) (litF true N)) left right c = (l, c') ∧ e = .returned (.slice a n cp) ∧ Sh w' 17 l w.heap.size w'.heap.size a n cp F ∧ CurN N w' B p c' ∧ Kp B w w' := by
 have en : ∀ args w, (callFunc 119 args).run Tryz.prog w = .ok (.enter 119 args) w := fun _ _ => rfl
 have hB := h.lt
 have hp := h.plt
 have hm := h.m
 have hc0 := h.at_.ok
 have hG : ∀ cc : Cu, cc.Ok → Stp cc (inpT (typF N) (litF true N) cc).2 ∧ ((inpT (typF N) (litF true N) cc).2.kd = 0 → cc.ix < (inpT (typF N) (litF true N) cc).2.ix) := fun cc hcc => ⟨inp_st N cc hcc, inp_pg N cc hcc⟩
 obtain ⟨E, hE⟩ : ∃ E, E = inpT (typF N) (litF true N) := ⟨_, rfl⟩
 have hRd := Hi (fun cc W (hc : CurN N W B p cc) => inp_ct hc)
 have hDm : Dm E := by rw [hE]; exact (inp_m N)
 rw [← hE] at hRd hG ⊢
 clear hE
 obtain ⟨w0, hw0⟩ : ∃ w0, w0 = w.alloc (.cells #[.pointer (some ⟨B, 0, none⟩)] 74) := ⟨_, rfl⟩
 have b0 : Below w.heap.size w w0 := by rw [hw0]; exact ba
 have z0 : w.heap.size + 1 ≤ w0.heap.size := by rw [hw0]; simp
 have p0 : w0.heap[w.heap.size]? = some (.cells #[.pointer (some ⟨B, 0, none⟩)] 74 (0, 0)) := by rw [hw0]; exact heap_alloc_new _ _
 have ho := Hi (open_ok B p c left w0 (h.below b0).at_)
 have hPc := Hi (fun (W : World) (hk : W.heap[w.heap.size]? = some (.cells #[.pointer (some ⟨B, 0, none⟩)] 74 (0, 0))) => show W.cell? ⟨w.heap.size, 0, none⟩ = some (.pointer (some ⟨B, 0, none⟩)) from (dt.cell_cells hk 0).trans rfl)
 have hst := opn_stp hc0 left
 have hnx := Hi (fun W (k : CurAt W B p (c.opn left)) => h.next k hst)
 obtain ⟨R, hR⟩ : ∃ R, R = brkF (optR E) right 1 c.ts.length [] (c.opn left) := ⟨_, rfl⟩
 have hs := Hi (show brk (optR E) left right 1 c = R from by rw [hR]; exact brk_run hDm hc0 left right)
 have HR := Hi hR.symm
 clear h hR
 have hcl := Hi (fun W (cc : Cu) (hc : CurN N W B p cc) => And.intro (close_ok B p cc right W hc.at_) (cls_stp hc.at_.ok right))
 have hip := Hi (fun W (cc : Cu) (hc : CurN N W B p cc) => isPunct_ok B p cc right W hc.at_)
 have hsp := Hi (fun W (cc : Cu) (hc : CurN N W B p cc) => stopped_ct hc)
 unfold ptr at ho hcl hip
 go_enter Tryz.func139, Tryz.ntmps139
 go_wp2_with fail
 rw [← hw0]
 refine (uh ho).mono ?_
 rintro e w1 ⟨rfl, hc1, hk1⟩
 have hc1 := (uh hnx) _ hc1
 have hz1 := hk1.size
 have p1 := (hk1.block w.heap.size (by omega) (by omega)).trans p0
 have K1 := (Kp.of b0).trans hk1
 clear ho hw0 p0 b0 hk1 hnx
 go_wp2_with fail
 go_loopg [9] c.ts.length (fun g sl wr => ∃ (l : List Dt) (cc : Cu) (Gs : List Nat), Hid (brkF (optR E) right 1 g l cc = R) ∧ CurN N wr B p cc ∧ Hid (Grow 101 17 wr (w.heap.size + 1) l sl Gs) ∧ Kp B w wr ∧ Hid (cc.ts = c.ts) ∧ c.ts.length ≤ g + cc.ix ∧ l.length + c.ix ≤ cc.ix ∧ Hid (wr.heap[w.heap.size]? = some (.cells #[.pointer (some ⟨B, 0, none⟩)] 74 (0, 0))) ∧ w.heap.size + 1 ≤ wr.heap.size)
 case atStart => exact ⟨[], c.opn left, [], HR, hc1, Hi Grow.nil, K1, Hi hst.ts, Nat.le_add_right _ _, by simpa using hst.ix, Hi p1, by omega⟩
 case round =>
  obtain ⟨l, cc, Gs, hrun, hcc, hgr, hkr, hts, hfu, hll, hpr, hzr⟩ := hrel
  have hixl := hcc.at_.ok.lt
  rw [uh hts] at hixl
  obtain ⟨al, cl, hsl⟩ := (uh hgr).form
  subst hsl
  have cP := (uh hPc) wr (uh hpr)
  obtain ⟨g', rfl⟩ : ∃ g', gk = g' + 1 := ⟨gk - 1, by omega⟩
  by_cases hl0 : l.length = 0
  ·obtain rfl : l = [] := List.eq_nil_of_length_eq_zero hl0
   obtain ⟨w2, hw2⟩ : ∃ w2, w2 = wr := ⟨_, rfl⟩
   subst hw2
   have b2 := Below.refl w2.heap.size w2
   have hc2 := hcc
   have hgr2 := hgr
   have hk2 := hkr
   have hp2 := hpr
   clear hl0
   have hrun2 := Hi (show (match (optR E cc).1 with | none => (none, (optR E cc).2) | some d => brkF (optR E) right 1 g' ([] ++ [d]) (optR E cc).2) = R from by
    have e := uh hrun
    rw [brkF, if_pos (.inl (by decide))] at e
    exact e)
   have hgo := hG cc hcc.at_.ok
   have hcall := Hi ((uh hRd) cc w2 hc2)
   go_wp2_with fail
   refine (uh hcall).mono ?_
   rintro e w3 ⟨d, C, n1, n2, n3, nm, tn, tw, hd, k, tx, bl, a1, m1, c1, a2, m2, c2, l1, o1, a3, m3, c3, ln, co, F, hEq, rfl, hho, hc3, hk3⟩
   rw [hEq] at hgo
   have hon : ∀ (hk : C.kd ≠ 0), optR E cc = (none, C) := fun hk => (optR_none (by rw [hEq]; exact hk)).trans (by rw [hEq])
   have hos : ∀ (hk : C.kd = 0), optR E cc = (some d, C) := fun hk => (optR_some (by rw [hEq]; exact hk)).trans (by rw [hEq])
   have HO := Hi (And.intro hon hos)
   have HP := Hi hho
   have HC3 := Hi hc3
   have HK3 := Hi hk3
   have hz3 := hk3.size
   have hp3 := Hi ((hk3.block w.heap.size (by omega) (by omega)).trans (uh hp2))
   have hgr3 := (uh hgr2).kp (uh HK3) (by omega)
   obtain ⟨it, zt, q1, q2, q3, q4, q5⟩ := infoIz
   have HQ := Hi (And.intro q1 (And.intro q2 (And.intro q3 (And.intro q4 q5))))
   clear q1 q2 q3 q4 q5
   obtain ⟨xss, hr3, hol3, hx3⟩ := hgr3.row
   have hr4 := Hi hr3
   have hbyt := Hi (show (([] : List Dt).length + 1) * 216 ≤ 140737488355328 ∧ ([] : List Dt).length + 1 ≤ maxLen from ⟨by omega, by unfold maxLen; omega⟩)
   have hsz4 := Hi (show w.heap.size + 1 ≤ w3.heap.size from by have := hz3; have := b2.size; omega)
   have hone := Hi (hho.ow.one)
   have HG := Hi (And.intro hgr3 (And.intro hol3 hx3))
   have hGO := Hi hgo
   clear hgo hgr3 hr3 hol3 hx3 hcall hEq hon hos hho hc3 hk3 hrun
   unfold inpC at HP hone
   unfold inpC
   go_wp2_with (first
    | (at_builtin; refine dt.wp_snoc (by rfl) _ _ (by rfl) Tryz.underlying58 (uh HQ).1 (uh HQ).2.1 (uh HQ).2.2.1 (uh HQ).2.2.2.1 (uh HQ).2.2.2.2 (by omega) (w.heap.size + 1) ([] : List Dt).length xss.flatten _ (by rfl) (uh hr4) [.bool n1, .bool n2, .string n3, .string nm, .string tn, .string tw, .bool hd, .int .i64 k, .string tx, .bool bl, .slice a1 m1 c1, .slice a2 m2 c2, .int .i64 l1, .int .i64 o1, .slice a3 m3 c3, .int .i64 ln, .int .i64 co] (by rfl) (uh hone) w3.heap.size (by rfl) (by rfl) (uh hbyt).1 (uh hbyt).2 (uh hsz4) ?_; intro sl' w7 hr7 b7 hold7 hat7; have cP7 := (uh hPc) w7 ((b7.block w.heap.size (Nat.lt_succ_self _)).trans (uh hp3)); have H7 := Hi (And.intro hr7 (And.intro b7 (And.intro hold7 hat7))); clear hr7 b7 hold7 hat7))
   obtain ⟨hr7, b7, hold7, hat7⟩ := uh H7
   obtain ⟨hgr3, hol3, hx3⟩ := uh HG
   have HPo := uh HP
   have hown := fun b (hb : (Value.slice al ([] : List Dt).length cl).ownBlock = some b) => (let ⟨_, hr, _⟩ := (uh hgr2).row; (hr.lt b hb).2)
   have hsz : w.heap.size ≤ w2.heap.size := hk2.size
   have hmore := hgr3.more hol3 hx3 HPo.ow HPo.nd (fun b hb => ⟨by have := (HPo.rng b hb).1; omega, by have := (HPo.rng b hb).2; omega, fun hm => by have := ((uh hgr2).rng b hm).2; have := (HPo.rng b hb).1; omega, fun e => by have := hown b e; have := (HPo.rng b hb).1; omega⟩) (by rfl) hr7 (by have := (hr7.lt); have := b7.size; exact this) hold7 hat7
   have hBs : B < w3.heap.size := by omega
   have b7' := b7.mono (Nat.le_succ w.heap.size)
   have C7 := (uh HC3).low b7' hB hp
   have K7 := (hk2.trans (uh HK3)).low b7'
   have p7 := (b7.block w.heap.size (Nat.lt_succ_self _)).trans (uh hp3)
   have z7 : w.heap.size + 1 ≤ w7.heap.size := by have := b7.size; omega
   have hst7 := (uh hsp) w7 C C7
   by_cases hk : C.kd = 0
   ·rw [show (C.kd != 0) = false by simpa using hk] at hst7
    have hrun3 := Hi (show brkF (optR E) right 1 g' ([] ++ [d]) C = R from by have e := uh hrun2; rw [(uh HO).2 hk] at e; exact e)
    have hix3 : cc.ix < C.ix := (uh hGO).2 hk
    have hts3 := (uh hGO).1.ts
    have hlt3 := (uh hGO).1.ok.lt
    have hTS := Hi hts3
    have HM := Hi hmore
    rw [hts3, uh hts] at hlt3
    clear hr7 b7 hold7 hat7 hgr3 hol3 hx3 hown hmore hts3 HO hGO hrun2 hk H7 hr4 HQ hbyt hsz4 hone b7'
    refine hst7.mono ?_
    rintro e w8 ⟨rfl, C8, K8⟩
    have z8 := K8.size
    clear hst7 C7
    go_wp2_with fail
    go_roundg g'
    case rel =>
     refine ⟨[] ++ [d], C, Gs ++ F, hrun3, C8, Hi ((uh HM).kp K8 (by omega)), K7.trans K8, Hi ((uh hTS).trans (uh hts)), by omega, by rw [List.length_append]; simp; omega, Hi ((K8.block w.heap.size (by omega) (by omega)).trans p7), by omega⟩
    case measure => exact Nat.lt_succ_self _
   ·rw [show (C.kd != 0) = true by simpa using hk] at hst7
    have hrun3 := Hi (show (none, C) = R from by have e := uh hrun2; rw [(uh HO).1 hk] at e; exact e)
    clear hr7 b7 hold7 hat7 hgr3 hol3 hx3 hown hmore HO hGO hrun2 hk H7 hr4 HQ hbyt hsz4 hone b7'
    refine hst7.mono ?_
    rintro e w8 ⟨rfl, C8, K8⟩
    clear hst7 C7
    go_wp2_with fail
    go_ret
    exact ⟨[], C, none, 0, 0, [], bnd_eq (show brk (optR E) left right 1 c = (none, C) from (uh hs).trans (uh hrun3).symm), rfl, Sh.nil (Nat.le_refl _), C8, K7.trans K8⟩
  ·have hlz : ¬ ((l.length : Int) = 0) := by omega
   have hlz1 : ¬ (l = []) := fun e => hl0 (by rw [e]; rfl)
   have hip2 := Hi ((uh hip) wr cc hcc)
   go_wp2_with fail
   refine (uh hip2).mono ?_
   rintro e w2 ⟨rfl, b2⟩
   have hc2 := hcc.below b2
   have hgr2 := Hi ((uh hgr).keep b2.size (fun b hb _ => b2.block b hb))
   have hk2 := hkr.trans (Kp.of b2)
   have hs2 := b2.size
   have hp2 := Hi ((b2.block w.heap.size (by omega)).trans (uh hpr))
   have cP2 := (uh hPc) w2 (uh hp2)
   cases hQ : cc.isP right
   ·clear hip2
    have hrun2 := Hi (show (match (optR E cc).1 with | none => (none, (optR E cc).2) | some d => brkF (optR E) right 1 g' (l ++ [d]) (optR E cc).2) = R from by
     have e := uh hrun
     rw [brkF, if_pos (.inr hQ)] at e
     exact e)
    have hgo := hG cc hcc.at_.ok
    have hcall := Hi ((uh hRd) cc w2 hc2)
    go_wp2_with fail
    refine (uh hcall).mono ?_
    rintro e w3 ⟨d, C, n1, n2, n3, nm, tn, tw, hd, k, tx, bl, a1, m1, c1, a2, m2, c2, l1, o1, a3, m3, c3, ln, co, F, hEq, rfl, hho, hc3, hk3⟩
    rw [hEq] at hgo
    have hon : ∀ (hk : C.kd ≠ 0), optR E cc = (none, C) := fun hk => (optR_none (by rw [hEq]; exact hk)).trans (by rw [hEq])
    have hos : ∀ (hk : C.kd = 0), optR E cc = (some d, C) := fun hk => (optR_some (by rw [hEq]; exact hk)).trans (by rw [hEq])
    have HO := Hi (And.intro hon hos)
    have HP := Hi hho
    have HC3 := Hi hc3
    have HK3 := Hi hk3
    have hz3 := hk3.size
    have hp3 := Hi ((hk3.block w.heap.size (by omega) (by omega)).trans (uh hp2))
    have hgr3 := (uh hgr2).kp (uh HK3) (by omega)
    obtain ⟨it, zt, q1, q2, q3, q4, q5⟩ := infoIz
    have HQ := Hi (And.intro q1 (And.intro q2 (And.intro q3 (And.intro q4 q5))))
    clear q1 q2 q3 q4 q5
    obtain ⟨xss, hr3, hol3, hx3⟩ := hgr3.row
    have hr4 := Hi hr3
    have hbyt := Hi (show (l.length + 1) * 216 ≤ 140737488355328 ∧ l.length + 1 ≤ maxLen from ⟨by omega, by unfold maxLen; omega⟩)
    have hsz4 := Hi (show w.heap.size + 1 ≤ w3.heap.size from by have := hz3; have := b2.size; omega)
    have hone := Hi (hho.ow.one)
    have HG := Hi (And.intro hgr3 (And.intro hol3 hx3))
    have hGO := Hi hgo
    clear hgo hgr3 hr3 hol3 hx3 hcall hEq hon hos hho hc3 hk3 hrun
    unfold inpC at HP hone
    unfold inpC
    go_wp2_with (first
     | (at_builtin; refine dt.wp_snoc (by rfl) _ _ (by rfl) Tryz.underlying58 (uh HQ).1 (uh HQ).2.1 (uh HQ).2.2.1 (uh HQ).2.2.2.1 (uh HQ).2.2.2.2 (by omega) (w.heap.size + 1) l.length xss.flatten _ (by rfl) (uh hr4) [.bool n1, .bool n2, .string n3, .string nm, .string tn, .string tw, .bool hd, .int .i64 k, .string tx, .bool bl, .slice a1 m1 c1, .slice a2 m2 c2, .int .i64 l1, .int .i64 o1, .slice a3 m3 c3, .int .i64 ln, .int .i64 co] (by rfl) (uh hone) w3.heap.size (by rfl) (by rfl) (uh hbyt).1 (uh hbyt).2 (uh hsz4) ?_; intro sl' w7 hr7 b7 hold7 hat7; have cP7 := (uh hPc) w7 ((b7.block w.heap.size (Nat.lt_succ_self _)).trans (uh hp3)); have H7 := Hi (And.intro hr7 (And.intro b7 (And.intro hold7 hat7))); clear hr7 b7 hold7 hat7))
    obtain ⟨hr7, b7, hold7, hat7⟩ := uh H7
    obtain ⟨hgr3, hol3, hx3⟩ := uh HG
    have HPo := uh HP
    have hown := fun b (hb : (Value.slice al l.length cl).ownBlock = some b) => (let ⟨_, hr, _⟩ := (uh hgr2).row; (hr.lt b hb).2)
    have hsz : w.heap.size ≤ w2.heap.size := hk2.size
    have hmore := hgr3.more hol3 hx3 HPo.ow HPo.nd (fun b hb => ⟨by have := (HPo.rng b hb).1; omega, by have := (HPo.rng b hb).2; omega, fun hm => by have := ((uh hgr2).rng b hm).2; have := (HPo.rng b hb).1; omega, fun e => by have := hown b e; have := (HPo.rng b hb).1; omega⟩) (by rfl) hr7 (by have := (hr7.lt); have := b7.size; exact this) hold7 hat7
    have hBs : B < w3.heap.size := by omega
    have b7' := b7.mono (Nat.le_succ w.heap.size)
    have C7 := (uh HC3).low b7' hB hp
    have K7 := (hk2.trans (uh HK3)).low b7'
    have p7 := (b7.block w.heap.size (Nat.lt_succ_self _)).trans (uh hp3)
    have z7 : w.heap.size + 1 ≤ w7.heap.size := by have := b7.size; omega
    have hst7 := (uh hsp) w7 C C7
    by_cases hk : C.kd = 0
    ·rw [show (C.kd != 0) = false by simpa using hk] at hst7
     have hrun3 := Hi (show brkF (optR E) right 1 g' (l ++ [d]) C = R from by have e := uh hrun2; rw [(uh HO).2 hk] at e; exact e)
     have hix3 : cc.ix < C.ix := (uh hGO).2 hk
     have hts3 := (uh hGO).1.ts
     have hlt3 := (uh hGO).1.ok.lt
     have hTS := Hi hts3
     have HM := Hi hmore
     rw [hts3, uh hts] at hlt3
     clear hr7 b7 hold7 hat7 hgr3 hol3 hx3 hown hmore hts3 HO hGO hrun2 hk H7 hr4 HQ hbyt hsz4 hone b7'
     refine hst7.mono ?_
     rintro e w8 ⟨rfl, C8, K8⟩
     have z8 := K8.size
     clear hst7 C7
     go_wp2_with fail
     go_roundg g'
     case rel =>
      refine ⟨l ++ [d], C, Gs ++ F, hrun3, C8, Hi ((uh HM).kp K8 (by omega)), K7.trans K8, Hi ((uh hTS).trans (uh hts)), by omega, by rw [List.length_append]; simp; omega, Hi ((K8.block w.heap.size (by omega) (by omega)).trans p7), by omega⟩
     case measure => exact Nat.lt_succ_self _
    ·rw [show (C.kd != 0) = true by simpa using hk] at hst7
     have hrun3 := Hi (show (none, C) = R from by have e := uh hrun2; rw [(uh HO).1 hk] at e; exact e)
     clear hr7 b7 hold7 hat7 hgr3 hol3 hx3 hown hmore HO hGO hrun2 hk H7 hr4 HQ hbyt hsz4 hone b7'
     refine hst7.mono ?_
     rintro e w8 ⟨rfl, C8, K8⟩
     clear hst7 C7
     go_wp2_with fail
     go_ret
     exact ⟨[], C, none, 0, 0, [], bnd_eq (show brk (optR E) left right 1 c = (none, C) from (uh hs).trans (uh hrun3).symm), rfl, Sh.nil (Nat.le_refl _), C8, K7.trans K8⟩
   ·have hrun2 := Hi (show (some l, cc.cls right) = R from by
     have e := uh hrun
     rw [brkF, if_neg (fun e => by rcases e with e | e; omega; rw [hQ] at e; cases e)] at e
     exact e)
    obtain ⟨hcl2, hcs⟩ := (uh hcl) w2 cc hc2
    rw [hQ] at hcl2
    have hcl2 := Hi hcl2
    have hNX := Hi (fun W (k : CurAt W B p (cc.cls right)) => hc2.next k hcs)
    clear hrun hip2 hcs
    go_wp2_with fail
    refine (uh hcl2).mono ?_
    rintro e w3 ⟨rfl, hc3, hk3⟩
    have hc3 := (uh hNX) _ hc3
    clear hcl2
    go_wp2_with fail
    go_ret
    obtain ⟨a', n', c', F', he', hSh⟩ := Sh.of (((uh hgr2).kp hk3 (by omega)).lo (Nat.le_succ _))
    injection he' with e1 e2 e3
    subst e1 e2 e3
    exact ⟨l, _, _, _, _, F', bnd_eq (show brk (optR E) left right 1 c = (some l, cc.cls right) from (uh hs).trans (uh hrun2).symm), rfl, hSh, hc3, hk2.trans hk3⟩
set_option maxRecDepth 4000 in
set_option maxHeartbeats 2000000 in
theorem optI_ct {N B p : Nat} {c : Cu} {w : World} (left right : ByteArray) (h : CurN N w B p c) :
  Calls Tryz.prog 118 #[.agg #[.pointer (some ⟨B, 0, none⟩)], .string left, .string right, .func (.func 119) #[.agg #[.pointer (some ⟨B, 0, none⟩)]] #[]] w fun e w' => ∃ (l : List Dt) (c' : Cu) (a : Option Addr) (n cp : Nat) (F : List Nat), optT (inpT (typF N) (litF true N)) left right c = (l, c') ∧ e = .returned (.slice a n cp) ∧ Sh w' 17 l w.heap.size w'.heap.size a n cp F ∧ CurN N w' B p c' ∧ Kp B w w' := by
 have hlt := h.lt
 have hplt := h.plt
 go_enter Tryz.func118, Tryz.ntmps118
 go_wp2_with fail
 obtain ⟨W1, hW1⟩ : ∃ W1, W1 = allocs w [(#[.pointer (some ⟨B, 0, none⟩)], 74)] := ⟨_, rfl⟩
 have gW1 : W1 = (w.alloc (.cells #[.pointer (some ⟨B, 0, none⟩)] 74)) := hW1
 have aa := allocs_at [(#[.pointer (some ⟨B, 0, none⟩)], 74)] w
 have fP1 : W1.heap[w.heap.size]? = some (.cells #[.pointer (some ⟨B, 0, none⟩)] 74 (0, 0)) := by rw [hW1]; exact aa 0 _ rfl
 have bw : Below w.heap.size w W1 := by rw [hW1]; exact allocs_below _ _
 have sz1 : w.heap.size + 1 ≤ W1.heap.size := by rw [hW1, allocs_size]; exact Nat.le_refl _
 have K1 : Kp B w W1 := Kp.of bw
 have C1 := h.below bw
 rw [← gW1]
 clear gW1 hW1 bw aa h
 have cP2_0 : W1.cell? ⟨w.heap.size, 0, none⟩ = some (.pointer (some ⟨B, 0, none⟩)) := (dt.cell_cells fP1 0).trans rfl
 have HH3 := Hi (And.intro fP1 (And.intro C1 (K1)))
 clear fP1 C1 K1
 go_wp2_with fail
 obtain ⟨fP1, C1, K1⟩ := uh HH3
 clear HH3
 refine (isP_ct left C1).mono ?_
 rintro e W4 ⟨q, qE1, rfl, C4, J4⟩
 have E1 := Hi qE1; clear qE1
 have sz4 := J4.size
 have fP4 : W4.heap[w.heap.size]? = some (.cells #[.pointer (some ⟨B, 0, none⟩)] 74 (0, 0)) := (J4.block _ (by omega) (by omega)).trans fP1
 have K4 := K1.trans J4
 clear fP1 K1 C1 J4 cP2_0
 cases q
 ·have HH5 := Hi (And.intro fP4 (And.intro C4 (K4)))
  clear fP4 C4 K4
  go_wp2_with fail
  obtain ⟨fP4, C4, K4⟩ := uh HH5
  clear HH5
  go_ret
  exact ⟨[], c, none, 0, 0, [], bnd_eq (uh E1), rfl, Sh.nil (Nat.le_refl _), C4, K4⟩
 ·have cP5_0 : W4.cell? ⟨w.heap.size, 0, none⟩ = some (.pointer (some ⟨B, 0, none⟩)) := (dt.cell_cells fP4 0).trans rfl
  have HH6 := Hi (And.intro fP4 (And.intro C4 (K4)))
  clear fP4 C4 K4
  go_wp2_with fail
  obtain ⟨fP4, C4, K4⟩ := uh HH6
  clear HH6
  refine (brkI_ct left right C4).mono ?_
  rintro e W7 ⟨l, u2, a, n, cp, F, qE2, rfl, sL7, C7, J7⟩
  have E2 := Hi qE2; clear qE2
  have sz7 := J7.size
  have fP7 : W7.heap[w.heap.size]? = some (.cells #[.pointer (some ⟨B, 0, none⟩)] 74 (0, 0)) := (J7.block _ (by omega) (by omega)).trans fP4
  have K7 := K4.trans J7
  clear fP4 K4 C4 J7 cP5_0
  have HH8 := Hi (And.intro fP7 (And.intro sL7 (And.intro C7 (K7))))
  clear fP7 sL7 C7 K7
  go_wp2_with fail
  obtain ⟨fP7, sL7, C7, K7⟩ := uh HH8
  clear HH8
  go_ret
  exact ⟨l, u2, a, n, cp, F, (bnd_eq (uh E1)).trans (uh E2), rfl, sL7.lo (by omega), C7, K7⟩
theorem infoFd : (Tryz.prog.info? 70).map (·.size) = some 10 := by kernel_rfl
def fdC (n1 n2 : Bool) (n3 nm : ByteArray) (a1 : Option Addr) (m1 c1 : Nat) (tn tw : ByteArray) (a3 : Option Addr) (m3 c3 : Nat) (ln co : Int) : List Value := [.bool n1, .bool n2, .string n3, .string nm, .slice a1 m1 c1, .string tn, .string tw, .slice a3 m3 c3, .int .i64 ln, .int .i64 co]
theorem fd_own {X : World} {n1 n2 : Bool} {n3 nm tn tw : ByteArray} {a1 : Option Addr} {m1 c1 : Nat} {a3 : Option Addr} {m3 c3 : Nat} {ln co : Int} {F2 F3 : List Nat} {lo lo1 hi1 lo2 hi2 : Nat} {al ds : List Dt} (hA : Sh X 17 al lo1 hi1 a1 m1 c1 F2) (hD : Sh X 4 ds lo2 hi2 a3 m3 c3 F3) (g1 : lo ≤ lo1) (g2 : hi1 ≤ lo2) (g3 : lo ≤ lo2) (g4 : lo2 ≤ hi2) :
  ∃ F, Ho X (fdD (n1, n2, n3) (nm, ln, co) al tn tw ds) (fdC n1 n2 n3 nm a1 m1 c1 tn tw a3 m3 c3 ln co) F lo X.heap.size := by
 have hh := hD.hi
 have h1 : Ho X (.lst 4 (Dt.of ds) (.val (.int .i64 ln) (.val (.int .i64 co) .nil))) [.slice a3 m3 c3, .int .i64 ln, .int .i64 co] (F3 ++ []) lo2 X.heap.size := Ho.lst hD (mid := hi2) (Ho.val rfl (Ho.val rfl (Ho.nil (Nat.le_refl _)))) (Nat.le_refl _) (Nat.le_refl _) g4 hh
 have h2 := Ho.val (x := .string tn) rfl (Ho.val (x := .string tw) rfl h1)
 have h3 := Ho.lst (lo := lo) hA h2 g1 g2 g3 (by omega)
 exact ⟨_, Ho.val (x := .bool n1) rfl (Ho.val (x := .bool n2) rfl (Ho.val (x := .string n3) rfl (Ho.val (x := .string nm) rfl h3)))⟩
section
variable {N B p : Nat} {c : Cu} {w : World}
set_option maxRecDepth 4000 in
set_option maxHeartbeats 4000000 in
theorem fd_ct (h : CurN N w B p c) : Calls Tryz.prog 114 #[.agg #[.pointer (some ⟨B, 0, none⟩)]] w fun e w' => ∃ (d : Dt) (c' : Cu) (n1 n2 : Bool) (n3 nm : ByteArray) (a1 : Option Addr) (m1 c1 : Nat) (tn tw : ByteArray) (a3 : Option Addr) (m3 c3 : Nat) (ln co : Int) (F : List Nat), fdT (typF N) (litF true N) c = (d, c') ∧ e = .returned (.agg (fdC n1 n2 n3 nm a1 m1 c1 tn tw a3 m3 c3 ln co).toArray) ∧ Ho w' d (fdC n1 n2 n3 nm a1 m1 c1 tn tw a3 m3 c3 ln co) F w.heap.size w'.heap.size ∧ CurN N w' B p c' ∧ Kp B w w' := by
 have hlt := h.lt
 have hplt := h.plt
 go_enter Tryz.func114, Tryz.ntmps114
 go_wp2_with fail
 obtain ⟨W1, hW1⟩ : ∃ W1, W1 = allocs w [(#[.pointer (some ⟨B, 0, none⟩)], 74), (#[.bool false, .bool false, .string ⟨#[]⟩, .string ⟨#[]⟩, .slice none 0 0, .string ⟨#[]⟩, .string ⟨#[]⟩, .slice none 0 0, .int .i64 0, .int .i64 0], 70)] := ⟨_, rfl⟩
 have gW1 : W1 = ((w.alloc (.cells #[.pointer (some ⟨B, 0, none⟩)] 74)).alloc (.cells #[.bool false, .bool false, .string ⟨#[]⟩, .string ⟨#[]⟩, .slice none 0 0, .string ⟨#[]⟩, .string ⟨#[]⟩, .slice none 0 0, .int .i64 0, .int .i64 0] 70)) := hW1
 have aa := allocs_at [(#[.pointer (some ⟨B, 0, none⟩)], 74), (#[.bool false, .bool false, .string ⟨#[]⟩, .string ⟨#[]⟩, .slice none 0 0, .string ⟨#[]⟩, .string ⟨#[]⟩, .slice none 0 0, .int .i64 0, .int .i64 0], 70)] w
 have fP1 : W1.heap[w.heap.size]? = some (.cells #[.pointer (some ⟨B, 0, none⟩)] 74 (0, 0)) := by rw [hW1]; exact aa 0 _ rfl
 have fR1 : W1.heap[(w.heap.size + 1)]? = some (.cells #[.bool false, .bool false, .string ⟨#[]⟩, .string ⟨#[]⟩, .slice none 0 0, .string ⟨#[]⟩, .string ⟨#[]⟩, .slice none 0 0, .int .i64 0, .int .i64 0] 70 (0, 0)) := by rw [hW1]; exact aa 1 _ rfl
 have bw : Below w.heap.size w W1 := by rw [hW1]; exact allocs_below _ _
 have sz1 : w.heap.size + 2 ≤ W1.heap.size := by rw [hW1, allocs_size]; exact Nat.le_refl _
 have K1 : Kp B w W1 := Kp.of bw
 have C1 := h.below bw
 rw [← gW1]
 clear gW1 hW1 bw aa h
 have cP2_0 : W1.cell? ⟨w.heap.size, 0, none⟩ = some (.pointer (some ⟨B, 0, none⟩)) := (dt.cell_cells fP1 0).trans rfl
 have HH3 := Hi (And.intro fP1 (And.intro fR1 (And.intro C1 (K1))))
 clear fP1 fR1 C1 K1
 go_wp2_with fail
 obtain ⟨fP1, fR1, C1, K1⟩ := uh HH3
 clear HH3
 refine (note_ct C1).mono ?_
 rintro e W4 ⟨n1, n2, n3, k1, u1, qE1, rfl, C4, J4⟩
 have E1 := Hi qE1; clear qE1
 have sz4 := J4.size
 have fP4 : W4.heap[w.heap.size]? = some (.cells #[.pointer (some ⟨B, 0, none⟩)] 74 (0, 0)) := (J4.block _ (by omega) (by omega)).trans fP1
 have fR4 : W4.heap[(w.heap.size + 1)]? = some (.cells #[.bool false, .bool false, .string ⟨#[]⟩, .string ⟨#[]⟩, .slice none 0 0, .string ⟨#[]⟩, .string ⟨#[]⟩, .slice none 0 0, .int .i64 0, .int .i64 0] 70 (0, 0)) := (J4.block _ (by omega) (by omega)).trans fR1
 have K4 := K1.trans J4
 clear fP1 fR1 K1 C1 J4 cP2_0
 have fP5 : (W4.alloc (.cells #[.bool n1, .bool n2, .string n3] 54)).heap[w.heap.size]? = some (.cells #[.pointer (some ⟨B, 0, none⟩)] 74 (0, 0)) := (Below.heap_alloc W4 _ _ (by omega)).trans fP4
 have fR5 : (W4.alloc (.cells #[.bool n1, .bool n2, .string n3] 54)).heap[(w.heap.size + 1)]? = some (.cells #[.bool false, .bool false, .string ⟨#[]⟩, .string ⟨#[]⟩, .slice none 0 0, .string ⟨#[]⟩, .string ⟨#[]⟩, .slice none 0 0, .int .i64 0, .int .i64 0] 70 (0, 0)) := (Below.heap_alloc W4 _ _ (by omega)).trans fR4
 have fN5 : (W4.alloc (.cells #[.bool n1, .bool n2, .string n3] 54)).heap[W4.heap.size]? = some (.cells #[.bool n1, .bool n2, .string n3] 54 (0, 0)) := heap_alloc_new _ _
 have bb5 : Below W4.heap.size W4 (W4.alloc (.cells #[.bool n1, .bool n2, .string n3] 54)) := ba
 have C5 := C4.below bb5
 have K5 := K4.trans (Kp.of bb5)
 have cP6_0 : (W4.alloc (.cells #[.bool n1, .bool n2, .string n3] 54)).cell? ⟨w.heap.size, 0, none⟩ = some (.pointer (some ⟨B, 0, none⟩)) := (dt.cell_cells fP5 0).trans rfl
 have HH7 := Hi (And.intro fP5 (And.intro fR5 (And.intro fN5 (And.intro C5 (And.intro K5 (And.intro fP4 (And.intro fR4 (And.intro K4 (C4)))))))))
 clear fP5 fR5 fN5 C5 K5 fP4 fR4 K4 C4
 go_wp2_with fail
 obtain ⟨fP5, fR5, fN5, C5, K5, fP4, fR4, K4, C4⟩ := uh HH7
 clear HH7
 obtain ⟨W8, hW8⟩ : ∃ W8, W8 = (W4.alloc (.cells #[.bool n1, .bool n2, .string n3] 54)) := ⟨_, rfl⟩
 rw [← hW8] at fP5 fR5 fN5 C5 K5 ⊢
 have sz8 : W4.heap.size + 1 ≤ W8.heap.size := by rw [hW8]; simp only [size_setC, dt.size_setCells, World.size_alloc]; exact Nat.le_refl _
 clear hW8 cP6_0 fP4 fR4 K4 C4
 refine (name_ct C5).mono ?_
 rintro e W9 ⟨nm, ln, co, u2, qE2, rfl, C9, J9⟩
 have E2 := Hi qE2; clear qE2
 have sz9 := J9.size
 have fP9 : W9.heap[w.heap.size]? = some (.cells #[.pointer (some ⟨B, 0, none⟩)] 74 (0, 0)) := (J9.block _ (by omega) (by omega)).trans fP5
 have fR9 : W9.heap[(w.heap.size + 1)]? = some (.cells #[.bool false, .bool false, .string ⟨#[]⟩, .string ⟨#[]⟩, .slice none 0 0, .string ⟨#[]⟩, .string ⟨#[]⟩, .slice none 0 0, .int .i64 0, .int .i64 0] 70 (0, 0)) := (J9.block _ (by omega) (by omega)).trans fR5
 have fN9 : W9.heap[W4.heap.size]? = some (.cells #[.bool n1, .bool n2, .string n3] 54 (0, 0)) := (J9.block _ (by omega) (by omega)).trans fN5
 have K9 := K5.trans J9
 clear fP5 fR5 fN5 K5 C5 J9
 have cN10_0 : W9.cell? ⟨W4.heap.size, 0, none⟩ = some (.bool n1) := (dt.cell_cells fN9 0).trans rfl
 have cN10_1 : W9.cell? ⟨W4.heap.size, 1, none⟩ = some (.bool n2) := (dt.cell_cells fN9 1).trans rfl
 have cN10_2 : W9.cell? ⟨W4.heap.size, 2, none⟩ = some (.string n3) := (dt.cell_cells fN9 2).trans rfl
 have fP11 : (W9.alloc (.cells #[.string nm, .int .i64 ln, .int .i64 co] 92)).heap[w.heap.size]? = some (.cells #[.pointer (some ⟨B, 0, none⟩)] 74 (0, 0)) := (Below.heap_alloc W9 _ _ (by omega)).trans fP9
 have fR11 : (W9.alloc (.cells #[.string nm, .int .i64 ln, .int .i64 co] 92)).heap[(w.heap.size + 1)]? = some (.cells #[.bool false, .bool false, .string ⟨#[]⟩, .string ⟨#[]⟩, .slice none 0 0, .string ⟨#[]⟩, .string ⟨#[]⟩, .slice none 0 0, .int .i64 0, .int .i64 0] 70 (0, 0)) := (Below.heap_alloc W9 _ _ (by omega)).trans fR9
 have fN11 : (W9.alloc (.cells #[.string nm, .int .i64 ln, .int .i64 co] 92)).heap[W4.heap.size]? = some (.cells #[.bool n1, .bool n2, .string n3] 54 (0, 0)) := (Below.heap_alloc W9 _ _ (by omega)).trans fN9
 have fM11 : (W9.alloc (.cells #[.string nm, .int .i64 ln, .int .i64 co] 92)).heap[W9.heap.size]? = some (.cells #[.string nm, .int .i64 ln, .int .i64 co] 92 (0, 0)) := heap_alloc_new _ _
 have bb11 : Below W9.heap.size W9 (W9.alloc (.cells #[.string nm, .int .i64 ln, .int .i64 co] 92)) := ba
 have C11 := C9.below bb11
 have K11 := K9.trans (Kp.of bb11)
 have cM12_0 : (W9.alloc (.cells #[.string nm, .int .i64 ln, .int .i64 co] 92)).cell? ⟨W9.heap.size, 0, none⟩ = some (.string nm) := (dt.cell_cells fM11 0).trans rfl
 have cM12_1 : (W9.alloc (.cells #[.string nm, .int .i64 ln, .int .i64 co] 92)).cell? ⟨W9.heap.size, 1, none⟩ = some (.int .i64 ln) := (dt.cell_cells fM11 1).trans rfl
 have cM12_2 : (W9.alloc (.cells #[.string nm, .int .i64 ln, .int .i64 co] 92)).cell? ⟨W9.heap.size, 2, none⟩ = some (.int .i64 co) := (dt.cell_cells fM11 2).trans rfl
 have cN13_0 : (W9.alloc (.cells #[.string nm, .int .i64 ln, .int .i64 co] 92)).cell? ⟨W4.heap.size, 0, none⟩ = some (.bool n1) := (dt.cell_cells fN11 0).trans rfl
 have cN13_1 : (W9.alloc (.cells #[.string nm, .int .i64 ln, .int .i64 co] 92)).cell? ⟨W4.heap.size, 1, none⟩ = some (.bool n2) := (dt.cell_cells fN11 1).trans rfl
 have cN13_2 : (W9.alloc (.cells #[.string nm, .int .i64 ln, .int .i64 co] 92)).cell? ⟨W4.heap.size, 2, none⟩ = some (.string n3) := (dt.cell_cells fN11 2).trans rfl
 have fP14 : ((W9.alloc (.cells #[.string nm, .int .i64 ln, .int .i64 co] 92)).alloc (.cells #[.bool n1, .bool n2, .string n3, .string nm, .slice none 0 0, .string ⟨#[]⟩, .string ⟨#[]⟩, .slice none 0 0, .int .i64 ln, .int .i64 co] 70)).heap[w.heap.size]? = some (.cells #[.pointer (some ⟨B, 0, none⟩)] 74 (0, 0)) := (Below.heap_alloc (W9.alloc (.cells #[.string nm, .int .i64 ln, .int .i64 co] 92)) _ _ (by simp only [World.size_alloc, size_setC, dt.size_setCells]; omega)).trans fP11
 have fR14 : ((W9.alloc (.cells #[.string nm, .int .i64 ln, .int .i64 co] 92)).alloc (.cells #[.bool n1, .bool n2, .string n3, .string nm, .slice none 0 0, .string ⟨#[]⟩, .string ⟨#[]⟩, .slice none 0 0, .int .i64 ln, .int .i64 co] 70)).heap[(w.heap.size + 1)]? = some (.cells #[.bool false, .bool false, .string ⟨#[]⟩, .string ⟨#[]⟩, .slice none 0 0, .string ⟨#[]⟩, .string ⟨#[]⟩, .slice none 0 0, .int .i64 0, .int .i64 0] 70 (0, 0)) := (Below.heap_alloc (W9.alloc (.cells #[.string nm, .int .i64 ln, .int .i64 co] 92)) _ _ (by simp only [World.size_alloc, size_setC, dt.size_setCells]; omega)).trans fR11
 have fN14 : ((W9.alloc (.cells #[.string nm, .int .i64 ln, .int .i64 co] 92)).alloc (.cells #[.bool n1, .bool n2, .string n3, .string nm, .slice none 0 0, .string ⟨#[]⟩, .string ⟨#[]⟩, .slice none 0 0, .int .i64 ln, .int .i64 co] 70)).heap[W4.heap.size]? = some (.cells #[.bool n1, .bool n2, .string n3] 54 (0, 0)) := (Below.heap_alloc (W9.alloc (.cells #[.string nm, .int .i64 ln, .int .i64 co] 92)) _ _ (by simp only [World.size_alloc, size_setC, dt.size_setCells]; omega)).trans fN11
 have fM14 : ((W9.alloc (.cells #[.string nm, .int .i64 ln, .int .i64 co] 92)).alloc (.cells #[.bool n1, .bool n2, .string n3, .string nm, .slice none 0 0, .string ⟨#[]⟩, .string ⟨#[]⟩, .slice none 0 0, .int .i64 ln, .int .i64 co] 70)).heap[W9.heap.size]? = some (.cells #[.string nm, .int .i64 ln, .int .i64 co] 92 (0, 0)) := (Below.heap_alloc (W9.alloc (.cells #[.string nm, .int .i64 ln, .int .i64 co] 92)) _ _ (by simp only [World.size_alloc, size_setC, dt.size_setCells]; omega)).trans fM11
 have fS14 : ((W9.alloc (.cells #[.string nm, .int .i64 ln, .int .i64 co] 92)).alloc (.cells #[.bool n1, .bool n2, .string n3, .string nm, .slice none 0 0, .string ⟨#[]⟩, .string ⟨#[]⟩, .slice none 0 0, .int .i64 ln, .int .i64 co] 70)).heap[(W9.heap.size + 1)]? = some (.cells #[.bool n1, .bool n2, .string n3, .string nm, .slice none 0 0, .string ⟨#[]⟩, .string ⟨#[]⟩, .slice none 0 0, .int .i64 ln, .int .i64 co] 70 (0, 0)) := by have hh := heap_alloc_new (W9.alloc (.cells #[.string nm, .int .i64 ln, .int .i64 co] 92)) (.cells #[.bool n1, .bool n2, .string n3, .string nm, .slice none 0 0, .string ⟨#[]⟩, .string ⟨#[]⟩, .slice none 0 0, .int .i64 ln, .int .i64 co] 70); simp only [World.size_alloc, size_setC, dt.size_setCells] at hh; exact hh
 have bb14 : Below (W9.alloc (.cells #[.string nm, .int .i64 ln, .int .i64 co] 92)).heap.size (W9.alloc (.cells #[.string nm, .int .i64 ln, .int .i64 co] 92)) ((W9.alloc (.cells #[.string nm, .int .i64 ln, .int .i64 co] 92)).alloc (.cells #[.bool n1, .bool n2, .string n3, .string nm, .slice none 0 0, .string ⟨#[]⟩, .string ⟨#[]⟩, .slice none 0 0, .int .i64 ln, .int .i64 co] 70)) := ba
 have C14 := C11.below bb14
 have K14 := K11.trans (Kp.of bb14)
 have cP15_0 : ((W9.alloc (.cells #[.string nm, .int .i64 ln, .int .i64 co] 92)).alloc (.cells #[.bool n1, .bool n2, .string n3, .string nm, .slice none 0 0, .string ⟨#[]⟩, .string ⟨#[]⟩, .slice none 0 0, .int .i64 ln, .int .i64 co] 70)).cell? ⟨w.heap.size, 0, none⟩ = some (.pointer (some ⟨B, 0, none⟩)) := (dt.cell_cells fP14 0).trans rfl
 have HH16 := Hi (And.intro fP14 (And.intro fR14 (And.intro fN14 (And.intro fM14 (And.intro fS14 (And.intro C14 (And.intro K14 (And.intro fP9 (And.intro fR9 (And.intro fN9 (And.intro K9 (And.intro C9 (And.intro fP11 (And.intro fR11 (And.intro fN11 (And.intro fM11 (And.intro K11 (C11))))))))))))))))))
 clear fP14 fR14 fN14 fM14 fS14 C14 K14 fP9 fR9 fN9 K9 C9 fP11 fR11 fN11 fM11 K11 C11
 go_wp2_with fail
 obtain ⟨fP14, fR14, fN14, fM14, fS14, C14, K14, fP9, fR9, fN9, K9, C9, fP11, fR11, fN11, fM11, K11, C11⟩ := uh HH16
 clear HH16
 obtain ⟨W17, hW17⟩ : ∃ W17, W17 = ((W9.alloc (.cells #[.string nm, .int .i64 ln, .int .i64 co] 92)).alloc (.cells #[.bool n1, .bool n2, .string n3, .string nm, .slice none 0 0, .string ⟨#[]⟩, .string ⟨#[]⟩, .slice none 0 0, .int .i64 ln, .int .i64 co] 70)) := ⟨_, rfl⟩
 rw [← hW17] at fP14 fR14 fN14 fM14 fS14 C14 K14 ⊢
 have sz17 : W9.heap.size + 2 ≤ W17.heap.size := by rw [hW17]; simp only [size_setC, dt.size_setCells, World.size_alloc]; exact Nat.le_refl _
 clear hW17 cN10_0 cN10_1 cN10_2 cM12_0 cM12_1 cM12_2 cN13_0 cN13_1 cN13_2 cP15_0 fP9 fR9 fN9 K9 C9 fP11 fR11 fN11 fM11 K11 C11
 clear fN14
 clear fM14
 refine (optI_ct ⟨#[40]⟩ ⟨#[41]⟩ C14).mono ?_
 rintro e W18 ⟨al, u3, a1, m1, c1, F1, qE3, rfl, sA18, C18, J18⟩
 have E3 := Hi qE3; clear qE3
 have sz18 := J18.size
 have fP18 : W18.heap[w.heap.size]? = some (.cells #[.pointer (some ⟨B, 0, none⟩)] 74 (0, 0)) := (J18.block _ (by omega) (by omega)).trans fP14
 have fR18 : W18.heap[(w.heap.size + 1)]? = some (.cells #[.bool false, .bool false, .string ⟨#[]⟩, .string ⟨#[]⟩, .slice none 0 0, .string ⟨#[]⟩, .string ⟨#[]⟩, .slice none 0 0, .int .i64 0, .int .i64 0] 70 (0, 0)) := (J18.block _ (by omega) (by omega)).trans fR14
 have fS18 : W18.heap[(W9.heap.size + 1)]? = some (.cells #[.bool n1, .bool n2, .string n3, .string nm, .slice none 0 0, .string ⟨#[]⟩, .string ⟨#[]⟩, .slice none 0 0, .int .i64 ln, .int .i64 co] 70 (0, 0)) := (J18.block _ (by omega) (by omega)).trans fS14
 have K18 := K14.trans J18
 clear fP14 fR14 fS14 K14 C14 J18
 have cS20_4 : W18.cell? ⟨(W9.heap.size + 1), 4, none⟩ = some (.slice none 0 0) := (dt.cell_cells fS18 4).trans rfl
 have zS20_4 : W18.frozen? ⟨(W9.heap.size + 1), 4, none⟩ = false := dt.frozen_cells fS18 4
 have fP19 : (W18.setCell ⟨(W9.heap.size + 1), 4, none⟩ (.slice a1 m1 c1)).heap[w.heap.size]? = some (.cells #[.pointer (some ⟨B, 0, none⟩)] 74 (0, 0)) := (Below.heap_setCell W18 _ _ _ (show w.heap.size ≠ (W9.heap.size + 1) by omega)).trans fP18
 have fR19 : (W18.setCell ⟨(W9.heap.size + 1), 4, none⟩ (.slice a1 m1 c1)).heap[(w.heap.size + 1)]? = some (.cells #[.bool false, .bool false, .string ⟨#[]⟩, .string ⟨#[]⟩, .slice none 0 0, .string ⟨#[]⟩, .string ⟨#[]⟩, .slice none 0 0, .int .i64 0, .int .i64 0] 70 (0, 0)) := (Below.heap_setCell W18 _ _ _ (show (w.heap.size + 1) ≠ (W9.heap.size + 1) by omega)).trans fR18
 have fS19 : (W18.setCell ⟨(W9.heap.size + 1), 4, none⟩ (.slice a1 m1 c1)).heap[(W9.heap.size + 1)]? = some (.cells #[.bool n1, .bool n2, .string n3, .string nm, .slice a1 m1 c1, .string ⟨#[]⟩, .string ⟨#[]⟩, .slice none 0 0, .int .i64 ln, .int .i64 co] 70 (0, 0)) := (dt.heap_setCell_at fS18 4 _).trans (by kernel_rfl)
 have C19 := C18.outC (b := (W9.heap.size + 1)) (by omega) (by omega) 4 (.slice a1 m1 c1)
 have K19 := K18.setB (b := (W9.heap.size + 1)) (by omega) 4 (.slice a1 m1 c1)
 have sA19 := sA18.outC (b := (W9.heap.size + 1)) (by omega) 4 (.slice a1 m1 c1)
 have cP21_0 : (W18.setCell ⟨(W9.heap.size + 1), 4, none⟩ (.slice a1 m1 c1)).cell? ⟨w.heap.size, 0, none⟩ = some (.pointer (some ⟨B, 0, none⟩)) := (dt.cell_cells fP19 0).trans rfl
 have HH22 := Hi (And.intro fP19 (And.intro fR19 (And.intro fS19 (And.intro sA19 (And.intro C19 (And.intro K19 (And.intro fP18 (And.intro fR18 (And.intro fS18 (And.intro sA18 (And.intro K18 (C18))))))))))))
 clear fP19 fR19 fS19 sA19 C19 K19 fP18 fR18 fS18 sA18 K18 C18
 go_wp2_with fail
 obtain ⟨fP19, fR19, fS19, sA19, C19, K19, fP18, fR18, fS18, sA18, K18, C18⟩ := uh HH22
 clear HH22
 obtain ⟨W23, hW23⟩ : ∃ W23, W23 = (W18.setCell ⟨(W9.heap.size + 1), 4, none⟩ (.slice a1 m1 c1)) := ⟨_, rfl⟩
 rw [← hW23] at fP19 fR19 fS19 sA19 C19 K19 ⊢
 have sz23 : W18.heap.size + 0 ≤ W23.heap.size := by rw [hW23]; simp only [size_setC, dt.size_setCells, World.size_alloc]; exact Nat.le_refl _
 clear hW23 cS20_4 zS20_4 cP21_0 fP18 fR18 fS18 sA18 K18 C18
 refine (want_ct bCol C19).mono ?_
 rintro e W24 ⟨u4, k4, qE4, rfl, C24, J24⟩
 have E4 := Hi qE4; clear qE4
 have sz24 := J24.size
 have fP24 : W24.heap[w.heap.size]? = some (.cells #[.pointer (some ⟨B, 0, none⟩)] 74 (0, 0)) := (J24.block _ (by omega) (by omega)).trans fP19
 have fR24 : W24.heap[(w.heap.size + 1)]? = some (.cells #[.bool false, .bool false, .string ⟨#[]⟩, .string ⟨#[]⟩, .slice none 0 0, .string ⟨#[]⟩, .string ⟨#[]⟩, .slice none 0 0, .int .i64 0, .int .i64 0] 70 (0, 0)) := (J24.block _ (by omega) (by omega)).trans fR19
 have fS24 : W24.heap[(W9.heap.size + 1)]? = some (.cells #[.bool n1, .bool n2, .string n3, .string nm, .slice a1 m1 c1, .string ⟨#[]⟩, .string ⟨#[]⟩, .slice none 0 0, .int .i64 ln, .int .i64 co] 70 (0, 0)) := (J24.block _ (by omega) (by omega)).trans fS19
 have sA24 := sA19.kp J24 (by omega)
 have K24 := K19.trans J24
 clear fP19 fR19 fS19 sA19 K19 C19 J24
 have cP25_0 : W24.cell? ⟨w.heap.size, 0, none⟩ = some (.pointer (some ⟨B, 0, none⟩)) := (dt.cell_cells fP24 0).trans rfl
 have HH26 := Hi (And.intro fP24 (And.intro fR24 (And.intro fS24 (And.intro sA24 (And.intro C24 (K24))))))
 clear fP24 fR24 fS24 sA24 C24 K24
 go_wp2_with fail
 obtain ⟨fP24, fR24, fS24, sA24, C24, K24⟩ := uh HH26
 clear HH26
 refine (typ_ct C24).mono ?_
 rintro e W27 ⟨ty, tn, tw, u5, k5, qE5, qE5n, qE5w, rfl, C27, J27⟩
 have E5 := Hi qE5; clear qE5
 have E5n := Hi qE5n; clear qE5n
 have E5w := Hi qE5w; clear qE5w
 have sz27 := J27.size
 have fP27 : W27.heap[w.heap.size]? = some (.cells #[.pointer (some ⟨B, 0, none⟩)] 74 (0, 0)) := (J27.block _ (by omega) (by omega)).trans fP24
 have fR27 : W27.heap[(w.heap.size + 1)]? = some (.cells #[.bool false, .bool false, .string ⟨#[]⟩, .string ⟨#[]⟩, .slice none 0 0, .string ⟨#[]⟩, .string ⟨#[]⟩, .slice none 0 0, .int .i64 0, .int .i64 0] 70 (0, 0)) := (J27.block _ (by omega) (by omega)).trans fR24
 have fS27 : W27.heap[(W9.heap.size + 1)]? = some (.cells #[.bool n1, .bool n2, .string n3, .string nm, .slice a1 m1 c1, .string ⟨#[]⟩, .string ⟨#[]⟩, .slice none 0 0, .int .i64 ln, .int .i64 co] 70 (0, 0)) := (J27.block _ (by omega) (by omega)).trans fS24
 have sA27 := sA24.kp J27 (by omega)
 have K27 := K24.trans J27
 clear fP24 fR24 fS24 sA24 K24 C24 J27 cP25_0
 have HT28 := Hi (dt.there_cells fS27 (o := 5) (n := 2) (by first | decide | simp))
 have fP28 : (W27.setCells (W9.heap.size + 1) 5 [.string tn, .string tw]).heap[w.heap.size]? = some (.cells #[.pointer (some ⟨B, 0, none⟩)] 74 (0, 0)) := (dt.heap_setCells (W9.heap.size + 1) _ (show w.heap.size ≠ (W9.heap.size + 1) by omega) _ 5 W27).trans fP27
 have fR28 : (W27.setCells (W9.heap.size + 1) 5 [.string tn, .string tw]).heap[(w.heap.size + 1)]? = some (.cells #[.bool false, .bool false, .string ⟨#[]⟩, .string ⟨#[]⟩, .slice none 0 0, .string ⟨#[]⟩, .string ⟨#[]⟩, .slice none 0 0, .int .i64 0, .int .i64 0] 70 (0, 0)) := (dt.heap_setCells (W9.heap.size + 1) _ (show (w.heap.size + 1) ≠ (W9.heap.size + 1) by omega) _ 5 W27).trans fR27
 have fS28 : (W27.setCells (W9.heap.size + 1) 5 [.string tn, .string tw]).heap[(W9.heap.size + 1)]? = some (.cells #[.bool n1, .bool n2, .string n3, .string nm, .slice a1 m1 c1, .string tn, .string tw, .slice none 0 0, .int .i64 ln, .int .i64 co] 70 (0, 0)) := (dt.setCells_at [.string tn, .string tw] 5 W27 _ fS27).trans (by kernel_rfl)
 have C28 := C27.out (b := (W9.heap.size + 1)) (by omega) (by omega) 5 [.string tn, .string tw]
 have K28 := K27.out (b := (W9.heap.size + 1)) (by omega) 5 [.string tn, .string tw]
 have sA28 := sA27.out (b := (W9.heap.size + 1)) (by omega) 5 [.string tn, .string tw]
 have cP29_0 : (W27.setCells (W9.heap.size + 1) 5 [.string tn, .string tw]).cell? ⟨w.heap.size, 0, none⟩ = some (.pointer (some ⟨B, 0, none⟩)) := (dt.cell_cells fP28 0).trans rfl
 have HH30 := Hi (And.intro fP28 (And.intro fR28 (And.intro fS28 (And.intro sA28 (And.intro C28 (And.intro K28 (And.intro fP27 (And.intro fR27 (And.intro fS27 (And.intro sA27 (And.intro K27 (C27))))))))))))
 clear fP28 fR28 fS28 sA28 C28 K28 fP27 fR27 fS27 sA27 K27 C27
 go_wp2_with (first
  | refine wpList_store_mid (by rfl) 68 _ _ (by rfl) (W9.heap.size + 1) 5 #[.string tn, .string tw] (by rfl) (by rfl) (uh HT28) infoTr (dt.one_cells (cs := [.string tn, .string tw]) (by rfl)) ?_)
 obtain ⟨fP28, fR28, fS28, sA28, C28, K28, fP27, fR27, fS27, sA27, K27, C27⟩ := uh HH30
 clear HH30
 obtain ⟨W31, hW31⟩ : ∃ W31, W31 = (W27.setCells (W9.heap.size + 1) 5 [.string tn, .string tw]) := ⟨_, rfl⟩
 rw [← hW31] at fP28 fR28 fS28 sA28 C28 K28 ⊢
 have sz31 : W27.heap.size + 0 ≤ W31.heap.size := by rw [hW31]; simp only [size_setC, dt.size_setCells, World.size_alloc]; exact Nat.le_refl _
 clear hW31 cP29_0 fP27 fR27 fS27 sA27 K27 C27
 refine (dirs_ct C28).mono ?_
 rintro e W32 ⟨ds, u7, a3, m3, c3, F3, k7, qE7, rfl, sD32, C32, J32⟩
 have E7 := Hi qE7; clear qE7
 have sz32 := J32.size
 have fP32 : W32.heap[w.heap.size]? = some (.cells #[.pointer (some ⟨B, 0, none⟩)] 74 (0, 0)) := (J32.block _ (by omega) (by omega)).trans fP28
 have fR32 : W32.heap[(w.heap.size + 1)]? = some (.cells #[.bool false, .bool false, .string ⟨#[]⟩, .string ⟨#[]⟩, .slice none 0 0, .string ⟨#[]⟩, .string ⟨#[]⟩, .slice none 0 0, .int .i64 0, .int .i64 0] 70 (0, 0)) := (J32.block _ (by omega) (by omega)).trans fR28
 have fS32 : W32.heap[(W9.heap.size + 1)]? = some (.cells #[.bool n1, .bool n2, .string n3, .string nm, .slice a1 m1 c1, .string tn, .string tw, .slice none 0 0, .int .i64 ln, .int .i64 co] 70 (0, 0)) := (J32.block _ (by omega) (by omega)).trans fS28
 have sA32 := sA28.kp J32 (by omega)
 have K32 := K28.trans J32
 clear fP28 fR28 fS28 sA28 K28 C28 J32
 have cS34_7 : W32.cell? ⟨(W9.heap.size + 1), 7, none⟩ = some (.slice none 0 0) := (dt.cell_cells fS32 7).trans rfl
 have zS34_7 : W32.frozen? ⟨(W9.heap.size + 1), 7, none⟩ = false := dt.frozen_cells fS32 7
 have fP33 : (W32.setCell ⟨(W9.heap.size + 1), 7, none⟩ (.slice a3 m3 c3)).heap[w.heap.size]? = some (.cells #[.pointer (some ⟨B, 0, none⟩)] 74 (0, 0)) := (Below.heap_setCell W32 _ _ _ (show w.heap.size ≠ (W9.heap.size + 1) by omega)).trans fP32
 have fR33 : (W32.setCell ⟨(W9.heap.size + 1), 7, none⟩ (.slice a3 m3 c3)).heap[(w.heap.size + 1)]? = some (.cells #[.bool false, .bool false, .string ⟨#[]⟩, .string ⟨#[]⟩, .slice none 0 0, .string ⟨#[]⟩, .string ⟨#[]⟩, .slice none 0 0, .int .i64 0, .int .i64 0] 70 (0, 0)) := (Below.heap_setCell W32 _ _ _ (show (w.heap.size + 1) ≠ (W9.heap.size + 1) by omega)).trans fR32
 have fS33 : (W32.setCell ⟨(W9.heap.size + 1), 7, none⟩ (.slice a3 m3 c3)).heap[(W9.heap.size + 1)]? = some (.cells #[.bool n1, .bool n2, .string n3, .string nm, .slice a1 m1 c1, .string tn, .string tw, .slice a3 m3 c3, .int .i64 ln, .int .i64 co] 70 (0, 0)) := (dt.heap_setCell_at fS32 7 _).trans (by kernel_rfl)
 have C33 := C32.outC (b := (W9.heap.size + 1)) (by omega) (by omega) 7 (.slice a3 m3 c3)
 have K33 := K32.setB (b := (W9.heap.size + 1)) (by omega) 7 (.slice a3 m3 c3)
 have sA33 := sA32.outC (b := (W9.heap.size + 1)) (by omega) 7 (.slice a3 m3 c3)
 have sD33 := sD32.outC (b := (W9.heap.size + 1)) (by omega) 7 (.slice a3 m3 c3)
 have HT := Hi (dt.there_cells fR33 (o := 0) (n := 10) (by decide))
 have RS := Hi (dt.range_cells fS33 0 [.bool n1, .bool n2, .string n3, .string nm, .slice a1 m1 c1, .string tn, .string tw, .slice a3 m3 c3, .int .i64 ln, .int .i64 co] (fun j u hu => by rw [Nat.zero_add]; simpa using hu))
 have HF := Hi (And.intro C33 (And.intro K33 (And.intro sA33 (sD33))))
 clear C33 K33 sA33 sD33 fP32 fR32 fS32 sA32 sD32 K32 C32
 go_wp2_with (first
  | refine wpList_load_mid (by rfl) 70 _ (by rfl) (W9.heap.size + 1) 0 (by rfl) [.bool n1, .bool n2, .string n3, .string nm, .slice a1 m1 c1, .string tn, .string tw, .slice a3 m3 c3, .int .i64 ln, .int .i64 co] _ (uh RS) Tryz.underlying70 (by rfl) infoFd ?_
  | refine wpList_store_mid (by rfl) 70 _ _ (by rfl) (w.heap.size + 1) 0 ([.bool n1, .bool n2, .string n3, .string nm, .slice a1 m1 c1, .string tn, .string tw, .slice a3 m3 c3, .int .i64 ln, .int .i64 co] : List Value).toArray (by rfl) (by rfl) (uh HT) infoFd (dt.one_cells (cs := [.bool n1, .bool n2, .string n3, .string nm, .slice a1 m1 c1, .string tn, .string tw, .slice a3 m3 c3, .int .i64 ln, .int .i64 co]) (by rfl)) ?_)
 refine bodyPost_ret (rgn.result_row rfl _ _ (w.heap.size + 1) 0 [.bool n1, .bool n2, .string n3, .string nm, .slice a1 m1 c1, .string tn, .string tw, .slice a3 m3 c3, .int .i64 ln, .int .i64 co] _ rfl (World.rangeAt_setCells_same _ _ _ _ (uh HT)) Tryz.underlying70 rfl infoFd) rfl ?_
 obtain ⟨C33, K33, sA33, sD33⟩ := uh HF
 have hC := C33.out (b := (w.heap.size + 1)) (by omega) (by omega) 0 [.bool n1, .bool n2, .string n3, .string nm, .slice a1 m1 c1, .string tn, .string tw, .slice a3 m3 c3, .int .i64 ln, .int .i64 co]
 have hK := K33.out (b := (w.heap.size + 1)) (by omega) 0 [.bool n1, .bool n2, .string n3, .string nm, .slice a1 m1 c1, .string tn, .string tw, .slice a3 m3 c3, .int .i64 ln, .int .i64 co]
 have hA := sA33.out (b := (w.heap.size + 1)) (by omega) 0 [.bool n1, .bool n2, .string n3, .string nm, .slice a1 m1 c1, .string tn, .string tw, .slice a3 m3 c3, .int .i64 ln, .int .i64 co]
 have hD := sD33.out (b := (w.heap.size + 1)) (by omega) 0 [.bool n1, .bool n2, .string n3, .string nm, .slice a1 m1 c1, .string tn, .string tw, .slice a3 m3 c3, .int .i64 ln, .int .i64 co]
 have hfin : fdT (typF N) (litF true N) c = (fdD (n1, n2, n3) (nm, ln, co) al tn tw (ds.getD []), u7) := by
  unfold fdT
  rw [bnd_eq (uh E1), bnd_eq (uh E2), bnd_eq (show optT (inpT (typF N) (litF true N)) bLp bRp u2 = (al, u3) from uh E3), bnd_eq (uh E4), bnd_eq (uh E5), bnd_eq (uh E7), uh E5n, uh E5w]
  rfl
 obtain ⟨F9, hF9⟩ := fd_own (n1 := n1) (n2 := n2) (n3 := n3) (nm := nm) (tn := tn) (tw := tw) (ln := ln) (co := co) (lo := w.heap.size) hA hD (by omega) (by omega) (by omega) (by omega)
 exact ⟨_, u7, _, _, _, _, _, _, _, _, _, _, _, _, _, _, F9, hfin, rfl, hF9, hC, hK⟩
end
end Go.Proofs.YtifbkdicglcogaaGreat.cu
