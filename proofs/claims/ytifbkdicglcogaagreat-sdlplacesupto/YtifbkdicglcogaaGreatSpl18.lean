import Derived.Test.YtifbkdicglcogaaGreatSpl17
set_option linter.unusedVariables false
set_option linter.unusedSimpArgs false
namespace Go.Proofs.YtifbkdicglcogaaGreat.cu
open Go.ChangeShapes Go.WideShapes Go.ChangeAt Go.RowKit
open ints (Hi uh)
open dt (Dt Kp RowAt Ow Grow OwIn)
section
variable {N B p : Nat} {c : Cu} {w : World}
set_option maxRecDepth 4000 in
set_option maxHeartbeats 8000000 in
theorem def_ct (hN : N ≤ 4294967296) (h : CurN N w B p c) : Calls Tryz.prog 31 #[.agg #[.pointer (some ⟨B, 0, none⟩)]] w fun e w' => ∃ (d : Dt) (c' : Cu) (k : Int) (ex n1 n2 : Bool) (n3 nm : ByteArray) (a1 : Option Addr) (m1 c1 : Nat) (a2 : Option Addr) (m2 c2 : Nat) (a3 : Option Addr) (m3 c3 : Nat) (a4 : Option Addr) (m4 c4 : Nat) (a5 : Option Addr) (m5 c5 : Nat) (a6 : Option Addr) (m6 c6 : Nat) (a7 : Option Addr) (m7 c7 : Nat) (rp : Bool) (a8 : Option Addr) (m8 c8 : Nat) (ln co : Int) (F : List Nat), defT (typF N) (litF true N) N c = (d, c') ∧ e = .returned (.agg (sysC k ex n1 n2 n3 nm a1 m1 c1 a2 m2 c2 a3 m3 c3 a4 m4 c4 a5 m5 c5 a6 m6 c6 a7 m7 c7 rp a8 m8 c8 ln co).toArray) ∧ Ho w' d (sysC k ex n1 n2 n3 nm a1 m1 c1 a2 m2 c2 a3 m3 c3 a4 m4 c4 a5 m5 c5 a6 m6 c6 a7 m7 c7 rp a8 m8 c8 ln co) F w.heap.size w'.heap.size ∧ CurN N w' B p c' ∧ Kp B w w' := by
 have hlt := h.lt
 have hplt := h.plt
 have hok := h.at_.ok
 have hcn := h.n
 go_enter Tryz.func31, Tryz.ntmps31
 go_wp2_with fail
 obtain ⟨W1, hW1⟩ : ∃ W1, W1 = allocs w [(#[.pointer (some ⟨B, 0, none⟩)], 74), (#[.int .i64 0, .bool false, .bool false, .bool false, .string ⟨#[]⟩, .string ⟨#[]⟩, .slice none 0 0, .slice none 0 0, .slice none 0 0, .slice none 0 0, .slice none 0 0, .slice none 0 0, .slice none 0 0, .bool false, .slice none 0 0, .int .i64 0, .int .i64 0], 62), (#[.int .i64 0, .bool false, .bool false, .bool false, .string ⟨#[]⟩, .string ⟨#[]⟩, .slice none 0 0, .slice none 0 0, .slice none 0 0, .slice none 0 0, .slice none 0 0, .slice none 0 0, .slice none 0 0, .bool false, .slice none 0 0, .int .i64 0, .int .i64 0], 62)] := ⟨_, rfl⟩
 have gW1 : W1 = (((w.alloc (.cells #[.pointer (some ⟨B, 0, none⟩)] 74)).alloc (.cells #[.int .i64 0, .bool false, .bool false, .bool false, .string ⟨#[]⟩, .string ⟨#[]⟩, .slice none 0 0, .slice none 0 0, .slice none 0 0, .slice none 0 0, .slice none 0 0, .slice none 0 0, .slice none 0 0, .bool false, .slice none 0 0, .int .i64 0, .int .i64 0] 62)).alloc (.cells #[.int .i64 0, .bool false, .bool false, .bool false, .string ⟨#[]⟩, .string ⟨#[]⟩, .slice none 0 0, .slice none 0 0, .slice none 0 0, .slice none 0 0, .slice none 0 0, .slice none 0 0, .slice none 0 0, .bool false, .slice none 0 0, .int .i64 0, .int .i64 0] 62)) := hW1
 have aa := allocs_at [(#[.pointer (some ⟨B, 0, none⟩)], 74), (#[.int .i64 0, .bool false, .bool false, .bool false, .string ⟨#[]⟩, .string ⟨#[]⟩, .slice none 0 0, .slice none 0 0, .slice none 0 0, .slice none 0 0, .slice none 0 0, .slice none 0 0, .slice none 0 0, .bool false, .slice none 0 0, .int .i64 0, .int .i64 0], 62), (#[.int .i64 0, .bool false, .bool false, .bool false, .string ⟨#[]⟩, .string ⟨#[]⟩, .slice none 0 0, .slice none 0 0, .slice none 0 0, .slice none 0 0, .slice none 0 0, .slice none 0 0, .slice none 0 0, .bool false, .slice none 0 0, .int .i64 0, .int .i64 0], 62)] w
 have fP1 : W1.heap[w.heap.size]? = some (.cells #[.pointer (some ⟨B, 0, none⟩)] 74 (0, 0)) := by rw [hW1]; exact aa 0 _ rfl
 have fR1 : W1.heap[(w.heap.size + 1)]? = some (.cells #[.int .i64 0, .bool false, .bool false, .bool false, .string ⟨#[]⟩, .string ⟨#[]⟩, .slice none 0 0, .slice none 0 0, .slice none 0 0, .slice none 0 0, .slice none 0 0, .slice none 0 0, .slice none 0 0, .bool false, .slice none 0 0, .int .i64 0, .int .i64 0] 62 (0, 0)) := by rw [hW1]; exact aa 1 _ rfl
 have fD1 : W1.heap[(w.heap.size + 1 + 1)]? = some (.cells #[.int .i64 0, .bool false, .bool false, .bool false, .string ⟨#[]⟩, .string ⟨#[]⟩, .slice none 0 0, .slice none 0 0, .slice none 0 0, .slice none 0 0, .slice none 0 0, .slice none 0 0, .slice none 0 0, .bool false, .slice none 0 0, .int .i64 0, .int .i64 0] 62 (0, 0)) := by rw [hW1]; exact aa 2 _ rfl
 have bw : Below w.heap.size w W1 := by rw [hW1]; exact allocs_below _ _
 have sz1 : w.heap.size + 3 ≤ W1.heap.size := by rw [hW1, allocs_size]; exact Nat.le_refl _
 have K1 : Kp B w W1 := Kp.of bw
 have C1 := h.below bw
 rw [← gW1]
 clear gW1 hW1 bw aa h
 have cP2_0 : W1.cell? ⟨w.heap.size, 0, none⟩ = some (.pointer (some ⟨B, 0, none⟩)) := (dt.cell_cells fP1 0).trans rfl
 have HH3 := Hi (And.intro fP1 (And.intro fR1 (And.intro fD1 (And.intro C1 (K1)))))
 clear fP1 fR1 fD1 C1 K1
 go_wp2_with fail
 obtain ⟨fP1, fR1, fD1, C1, K1⟩ := uh HH3
 clear HH3
 refine (note_ct C1).mono ?_
 rintro e W4 ⟨n1, n2, n3, u1, k1, qE1, rfl, C4, J4⟩
 have E1 := Hi qE1; clear qE1
 have sz4 := J4.size
 have fP4 : W4.heap[w.heap.size]? = some (.cells #[.pointer (some ⟨B, 0, none⟩)] 74 (0, 0)) := (J4.block _ (by omega) (by omega)).trans fP1
 have fR4 : W4.heap[(w.heap.size + 1)]? = some (.cells #[.int .i64 0, .bool false, .bool false, .bool false, .string ⟨#[]⟩, .string ⟨#[]⟩, .slice none 0 0, .slice none 0 0, .slice none 0 0, .slice none 0 0, .slice none 0 0, .slice none 0 0, .slice none 0 0, .bool false, .slice none 0 0, .int .i64 0, .int .i64 0] 62 (0, 0)) := (J4.block _ (by omega) (by omega)).trans fR1
 have fD4 : W4.heap[(w.heap.size + 1 + 1)]? = some (.cells #[.int .i64 0, .bool false, .bool false, .bool false, .string ⟨#[]⟩, .string ⟨#[]⟩, .slice none 0 0, .slice none 0 0, .slice none 0 0, .slice none 0 0, .slice none 0 0, .slice none 0 0, .slice none 0 0, .bool false, .slice none 0 0, .int .i64 0, .int .i64 0] 62 (0, 0)) := (J4.block _ (by omega) (by omega)).trans fD1
 have K4 := K1.trans J4
 clear fP1 fR1 fD1 K1 C1 J4 cP2_0
 cases n1
 ·have HT5 := Hi (dt.there_cells fD4 (o := 2) (n := 3) (by first | decide | simp))
  have fP5 : (W4.setCells (w.heap.size + 1 + 1) 2 [.bool false, .bool n2, .string n3]).heap[w.heap.size]? = some (.cells #[.pointer (some ⟨B, 0, none⟩)] 74 (0, 0)) := (dt.heap_setCells (w.heap.size + 1 + 1) _ (show w.heap.size ≠ (w.heap.size + 1 + 1) by omega) _ 2 W4).trans fP4
  have fR5 : (W4.setCells (w.heap.size + 1 + 1) 2 [.bool false, .bool n2, .string n3]).heap[(w.heap.size + 1)]? = some (.cells #[.int .i64 0, .bool false, .bool false, .bool false, .string ⟨#[]⟩, .string ⟨#[]⟩, .slice none 0 0, .slice none 0 0, .slice none 0 0, .slice none 0 0, .slice none 0 0, .slice none 0 0, .slice none 0 0, .bool false, .slice none 0 0, .int .i64 0, .int .i64 0] 62 (0, 0)) := (dt.heap_setCells (w.heap.size + 1 + 1) _ (show (w.heap.size + 1) ≠ (w.heap.size + 1 + 1) by omega) _ 2 W4).trans fR4
  have fD5 : (W4.setCells (w.heap.size + 1 + 1) 2 [.bool false, .bool n2, .string n3]).heap[(w.heap.size + 1 + 1)]? = some (.cells #[.int .i64 0, .bool false, .bool false, .bool n2, .string n3, .string ⟨#[]⟩, .slice none 0 0, .slice none 0 0, .slice none 0 0, .slice none 0 0, .slice none 0 0, .slice none 0 0, .slice none 0 0, .bool false, .slice none 0 0, .int .i64 0, .int .i64 0] 62 (0, 0)) := (dt.setCells_at [.bool false, .bool n2, .string n3] 2 W4 _ fD4).trans (by kernel_rfl)
  have C5 := C4.out (b := (w.heap.size + 1 + 1)) (by omega) (by omega) 2 [.bool false, .bool n2, .string n3]
  have K5 := K4.out (b := (w.heap.size + 1 + 1)) (by omega) 2 [.bool false, .bool n2, .string n3]
  obtain ⟨W6, hW6⟩ : ∃ W6, W6 = (W4.setCells (w.heap.size + 1 + 1) 2 [.bool false, .bool n2, .string n3]) := ⟨_, rfl⟩
  rw [← hW6] at fP5 fR5 fD5 C5 K5
  have sz6 : W4.heap.size + 0 ≤ W6.heap.size := by rw [hW6]; simp only [size_setC, dt.size_setCells, World.size_alloc]; exact Nat.le_refl _
  have GW6 := Hi hW6
  clear hW6 fP4 fR4 fD4 K4 C4
  have cD7_2 : W6.cell? ⟨(w.heap.size + 1 + 1), 2, none⟩ = some (.bool false) := (dt.cell_cells fD5 2).trans rfl
  have cP8_0 : W6.cell? ⟨w.heap.size, 0, none⟩ = some (.pointer (some ⟨B, 0, none⟩)) := (dt.cell_cells fP5 0).trans rfl
  have HH9 := Hi (And.intro fP5 (And.intro fR5 (And.intro fD5 (And.intro C5 (K5)))))
  clear fP5 fR5 fD5 C5 K5
  go_wp2_with (first
   | (refine wpList_store_mid (by rfl) 54 _ _ (by rfl) (w.heap.size + 1 + 1) 2 #[.bool false, .bool n2, .string n3] (by rfl) (by rfl) (uh HT5) infoNt (dt.one_cells (cs := [.bool false, .bool n2, .string n3]) (by rfl)) ?_; rw [show W4.setCells (w.heap.size + 1 + 1) 2 (#[.bool false, .bool n2, .string n3] : Array Value).toList = W6 from (uh GW6).symm]))
  obtain ⟨fP5, fR5, fD5, C5, K5⟩ := uh HH9
  clear HH9
  clear GW6
  refine (word_ct bExt C5).mono ?_
  rintro e W10 ⟨u2, x, qE2, rfl, C10, J10⟩
  have E2 := Hi qE2; clear qE2
  have sz10 := J10.size
  have fP10 : W10.heap[w.heap.size]? = some (.cells #[.pointer (some ⟨B, 0, none⟩)] 74 (0, 0)) := (J10.block _ (by omega) (by omega)).trans fP5
  have fR10 : W10.heap[(w.heap.size + 1)]? = some (.cells #[.int .i64 0, .bool false, .bool false, .bool false, .string ⟨#[]⟩, .string ⟨#[]⟩, .slice none 0 0, .slice none 0 0, .slice none 0 0, .slice none 0 0, .slice none 0 0, .slice none 0 0, .slice none 0 0, .bool false, .slice none 0 0, .int .i64 0, .int .i64 0] 62 (0, 0)) := (J10.block _ (by omega) (by omega)).trans fR5
  have fD10 : W10.heap[(w.heap.size + 1 + 1)]? = some (.cells #[.int .i64 0, .bool false, .bool false, .bool n2, .string n3, .string ⟨#[]⟩, .slice none 0 0, .slice none 0 0, .slice none 0 0, .slice none 0 0, .slice none 0 0, .slice none 0 0, .slice none 0 0, .bool false, .slice none 0 0, .int .i64 0, .int .i64 0] 62 (0, 0)) := (J10.block _ (by omega) (by omega)).trans fD5
  have K10 := K5.trans J10
  clear fP5 fR5 fD5 K5 C5 J10 cD7_2 cP8_0
  have cD12_1 : W10.cell? ⟨(w.heap.size + 1 + 1), 1, none⟩ = some (.bool false) := (dt.cell_cells fD10 1).trans rfl
  have zD12_1 : W10.frozen? ⟨(w.heap.size + 1 + 1), 1, none⟩ = false := dt.frozen_cells fD10 1
  have fP11 : (W10.setCell ⟨(w.heap.size + 1 + 1), 1, none⟩ (.bool x)).heap[w.heap.size]? = some (.cells #[.pointer (some ⟨B, 0, none⟩)] 74 (0, 0)) := (Below.heap_setCell W10 _ _ _ (show w.heap.size ≠ (w.heap.size + 1 + 1) by omega)).trans fP10
  have fR11 : (W10.setCell ⟨(w.heap.size + 1 + 1), 1, none⟩ (.bool x)).heap[(w.heap.size + 1)]? = some (.cells #[.int .i64 0, .bool false, .bool false, .bool false, .string ⟨#[]⟩, .string ⟨#[]⟩, .slice none 0 0, .slice none 0 0, .slice none 0 0, .slice none 0 0, .slice none 0 0, .slice none 0 0, .slice none 0 0, .bool false, .slice none 0 0, .int .i64 0, .int .i64 0] 62 (0, 0)) := (Below.heap_setCell W10 _ _ _ (show (w.heap.size + 1) ≠ (w.heap.size + 1 + 1) by omega)).trans fR10
  have fD11 : (W10.setCell ⟨(w.heap.size + 1 + 1), 1, none⟩ (.bool x)).heap[(w.heap.size + 1 + 1)]? = some (.cells #[.int .i64 0, .bool x, .bool false, .bool n2, .string n3, .string ⟨#[]⟩, .slice none 0 0, .slice none 0 0, .slice none 0 0, .slice none 0 0, .slice none 0 0, .slice none 0 0, .slice none 0 0, .bool false, .slice none 0 0, .int .i64 0, .int .i64 0] 62 (0, 0)) := (dt.heap_setCell_at fD10 1 _).trans (by kernel_rfl)
  have C11 := C10.outC (b := (w.heap.size + 1 + 1)) (by omega) (by omega) 1 (.bool x)
  have K11 := K10.setB (b := (w.heap.size + 1 + 1)) (by omega) 1 (.bool x)
  have cP13_0 : (W10.setCell ⟨(w.heap.size + 1 + 1), 1, none⟩ (.bool x)).cell? ⟨w.heap.size, 0, none⟩ = some (.pointer (some ⟨B, 0, none⟩)) := (dt.cell_cells fP11 0).trans rfl
  have HH14 := Hi (And.intro fP11 (And.intro fR11 (And.intro fD11 (And.intro C11 (And.intro K11 (And.intro fP10 (And.intro fR10 (And.intro fD10 (And.intro K10 (C10))))))))))
  clear fP11 fR11 fD11 C11 K11 fP10 fR10 fD10 K10 C10
  go_wp2_with fail
  obtain ⟨fP11, fR11, fD11, C11, K11, fP10, fR10, fD10, K10, C10⟩ := uh HH14
  clear HH14
  obtain ⟨W15, hW15⟩ : ∃ W15, W15 = (W10.setCell ⟨(w.heap.size + 1 + 1), 1, none⟩ (.bool x)) := ⟨_, rfl⟩
  rw [← hW15] at fP11 fR11 fD11 C11 K11 ⊢
  have sz15 : W10.heap.size + 0 ≤ W15.heap.size := by rw [hW15]; simp only [size_setC, dt.size_setCells, World.size_alloc]; exact Nat.le_refl _
  clear hW15 cD12_1 zD12_1 cP13_0 fP10 fR10 fD10 K10 C10
  refine (key_ct (ex := x) (n1 := false) (n2 := n2) (n3 := n3) fD11 (by omega) (by omega) C11).mono ?_
  rintro e W16 ⟨s, u3, cs, F, qE3, rfl, hSy, gD16, sH16, C16, J16⟩
  have sz16 := J16.size
  have E3 := Hi qE3
  have fP16 : W16.heap[w.heap.size]? = some (.cells #[.pointer (some ⟨B, 0, none⟩)] 74 (0, 0)) := (J16.block _ (by omega) (by omega) (by omega)).trans fP11
  have fR16 : W16.heap[(w.heap.size + 1)]? = some (.cells #[.int .i64 0, .bool false, .bool false, .bool false, .string ⟨#[]⟩, .string ⟨#[]⟩, .slice none 0 0, .slice none 0 0, .slice none 0 0, .slice none 0 0, .slice none 0 0, .slice none 0 0, .slice none 0 0, .bool false, .slice none 0 0, .int .i64 0, .int .i64 0] 62 (0, 0)) := (J16.block _ (by omega) (by omega) (by omega)).trans fR11
  have K16 := Kq.kp K11 J16 (by omega)
  obtain ⟨a1, m1, c1, a2, m2, c2, a3, m3, c3, a4, m4, c4, a5, m5, c5, a6, m6, c6, a7, m7, c7, a8, m8, c8, rfl, e1, e2, e3, e4, e5, e6, e7⟩ := hSy
  have hst3 := (key_st N (Sy.of (false, n2, n3) x)) u2 C11.at_.ok
  have hl := key_len N (of_len N (false, n2, n3) x) u2 C11.at_.ok C11.n
  rw [qE3] at hl
  have hB7 : m1 ≤ 8589934592 ∧ m2 ≤ 8589934592 ∧ m3 ≤ 8589934592 ∧ m4 ≤ 8589934592 ∧ m5 ≤ 8589934592 ∧ m6 ≤ 8589934592 ∧ m7 ≤ 8589934592 := by have q1 := hl.ifs; have q2 := hl.ds; have q3 := hl.fs; have q4 := hl.ins; have q5 := hl.ms; have q6 := hl.vs; have q7 := hl.rs; simp only at q1 q2 q3 q4 q5 q6 q7; omega
  have hbe := Hi (show s.bare = decide (m1 + m2 + m3 + m4 + m5 + m6 + m7 = 0) from by unfold Sy.bare; rw [← e1, ← e2, ← e3, ← e4, ← e5, ← e6, ← e7])
  have hbr := Hi (fun W => bare_ct W (k := s.k) (ex := s.ex) (n1 := s.n.1) (n2 := s.n.2.1) (n3 := s.n.2.2) (nm := s.nm) (a1 := a1) (c1 := c1) (a2 := a2) (c2 := c2) (a3 := a3) (c3 := c3) (a4 := a4) (c4 := c4) (a5 := a5) (c5 := c5) (a6 := a6) (c6 := c6) (a7 := a7) (c7 := c7) (rp := s.rp) (a8 := a8) (m8 := m8) (c8 := c8) (ln := s.ln) (co := s.co) hB7)
  clear qE3 hl hst3 hB7 e1 e2 e3 e4 e5 e6 e7
  unfold sysC at gD16 sH16 hbr
  have gf := Hi (And.intro gD16 (And.intro sH16 hbr))
  clear gD16 sH16 hbr
  obtain ⟨sk, hsk⟩ : ∃ sk, sk = s.k := ⟨_, rfl⟩
  obtain ⟨sx, hsx⟩ : ∃ sx, sx = s.ex := ⟨_, rfl⟩
  obtain ⟨s1, hs1⟩ : ∃ s1, s1 = s.n.1 := ⟨_, rfl⟩
  obtain ⟨s2, hs2⟩ : ∃ s2, s2 = s.n.2.1 := ⟨_, rfl⟩
  obtain ⟨s3, hs3⟩ : ∃ s3, s3 = s.n.2.2 := ⟨_, rfl⟩
  obtain ⟨sm, hsm⟩ : ∃ sm, sm = s.nm := ⟨_, rfl⟩
  obtain ⟨sr, hsr⟩ : ∃ sr, sr = s.rp := ⟨_, rfl⟩
  obtain ⟨sl, hsl⟩ : ∃ sl, sl = s.ln := ⟨_, rfl⟩
  obtain ⟨so, hso⟩ : ∃ so, so = s.co := ⟨_, rfl⟩
  rw [← hsk, ← hsx, ← hs1, ← hs2, ← hs3, ← hsm, ← hsr, ← hsl, ← hso] at gf
  obtain ⟨fD16, sH16, hbr⟩ := uh gf
  have HSX := Hi hsx
  clear gf hsk hsx hs1 hs2 hs3 hsm hsr hsl hso
  clear fP11 fR11 fD11 K11 C11 J16
  cases sx
  ·have cD17_1 : W16.cell? ⟨(w.heap.size + 1 + 1), 1, none⟩ = some (.bool false) := (dt.cell_cells fD16 1).trans rfl
   have HT := Hi (dt.there_cells fR16 (o := 0) (n := 17) (by decide))
   have RS := Hi (dt.range_cells fD16 0 [.int .i64 sk, .bool false, .bool s1, .bool s2, .string s3, .string sm, .slice a1 m1 c1, .slice a2 m2 c2, .slice a3 m3 c3, .slice a4 m4 c4, .slice a5 m5 c5, .slice a6 m6 c6, .slice a7 m7 c7, .bool sr, .slice a8 m8 c8, .int .i64 sl, .int .i64 so] (fun j u hu => by rw [Nat.zero_add]; simpa using hu))
   have HF := Hi (And.intro C16 (And.intro K16 (sH16)))
   clear C16 K16 sH16
   go_wp2_with (first
    | refine wpList_load_mid (by rfl) 62 _ (by rfl) (w.heap.size + 1 + 1) 0 (by rfl) [.int .i64 sk, .bool false, .bool s1, .bool s2, .string s3, .string sm, .slice a1 m1 c1, .slice a2 m2 c2, .slice a3 m3 c3, .slice a4 m4 c4, .slice a5 m5 c5, .slice a6 m6 c6, .slice a7 m7 c7, .bool sr, .slice a8 m8 c8, .int .i64 sl, .int .i64 so] _ (uh RS) Tryz.underlying62 (by rfl) infoSy ?_
    | refine wpList_store_mid (by rfl) 62 _ _ (by rfl) (w.heap.size + 1) 0 ([.int .i64 sk, .bool false, .bool s1, .bool s2, .string s3, .string sm, .slice a1 m1 c1, .slice a2 m2 c2, .slice a3 m3 c3, .slice a4 m4 c4, .slice a5 m5 c5, .slice a6 m6 c6, .slice a7 m7 c7, .bool sr, .slice a8 m8 c8, .int .i64 sl, .int .i64 so] : List Value).toArray (by rfl) (by rfl) (uh HT) infoSy (dt.one_cells (cs := [.int .i64 sk, .bool false, .bool s1, .bool s2, .string s3, .string sm, .slice a1 m1 c1, .slice a2 m2 c2, .slice a3 m3 c3, .slice a4 m4 c4, .slice a5 m5 c5, .slice a6 m6 c6, .slice a7 m7 c7, .bool sr, .slice a8 m8 c8, .int .i64 sl, .int .i64 so]) (by rfl)) ?_)
   refine bodyPost_ret (rgn.result_row rfl _ _ (w.heap.size + 1) 0 [.int .i64 sk, .bool false, .bool s1, .bool s2, .string s3, .string sm, .slice a1 m1 c1, .slice a2 m2 c2, .slice a3 m3 c3, .slice a4 m4 c4, .slice a5 m5 c5, .slice a6 m6 c6, .slice a7 m7 c7, .bool sr, .slice a8 m8 c8, .int .i64 sl, .int .i64 so] _ rfl (World.rangeAt_setCells_same _ _ _ _ (uh HT)) Tryz.underlying62 rfl infoSy) rfl ?_
   obtain ⟨C16, K16, sH16⟩ := uh HF
   have hC := C16.out (b := (w.heap.size + 1)) (by omega) (by omega) 0 [.int .i64 sk, .bool false, .bool s1, .bool s2, .string s3, .string sm, .slice a1 m1 c1, .slice a2 m2 c2, .slice a3 m3 c3, .slice a4 m4 c4, .slice a5 m5 c5, .slice a6 m6 c6, .slice a7 m7 c7, .bool sr, .slice a8 m8 c8, .int .i64 sl, .int .i64 so]
   have hK := K16.out (b := (w.heap.size + 1)) (by omega) 0 [.int .i64 sk, .bool false, .bool s1, .bool s2, .string s3, .string sm, .slice a1 m1 c1, .slice a2 m2 c2, .slice a3 m3 c3, .slice a4 m4 c4, .slice a5 m5 c5, .slice a6 m6 c6, .slice a7 m7 c7, .bool sr, .slice a8 m8 c8, .int .i64 sl, .int .i64 so]
   have hH := sH16.out (b := (w.heap.size + 1)) (by omega) 0 [.int .i64 sk, .bool false, .bool s1, .bool s2, .string s3, .string sm, .slice a1 m1 c1, .slice a2 m2 c2, .slice a3 m3 c3, .slice a4 m4 c4, .slice a5 m5 c5, .slice a6 m6 c6, .slice a7 m7 c7, .bool sr, .slice a8 m8 c8, .int .i64 sl, .int .i64 so]
   have hfin : defT (typF N) (litF true N) N c = (s.d, u3) := by
    unfold defT
    exact (bnd_eq (uh E1)).trans ((bnd_eq (cond_ff (E := ret false) (uh E2))).trans ((bnd_eq (uh E3)).trans (by rw [show (s.ex && s.bare) = false from by rw [← uh HSX]; rfl]; rfl)))
   exact ⟨s.d, u3, _, _, _, _, _, _, _, _, _, _, _, _, _, _, _, _, _, _, _, _, _, _, _, _, _, _, _, _, _, _, _, _, _, _, hfin, rfl, hH.mono (by omega) (by simp only [dt.size_setCells, size_setC]; omega) (Nat.le_refl _), hC, hK⟩
  ·have cD17_0 : W16.cell? ⟨(w.heap.size + 1 + 1), 0, none⟩ = some (.int .i64 sk) := (dt.cell_cells fD16 0).trans rfl
   have cD17_1 : W16.cell? ⟨(w.heap.size + 1 + 1), 1, none⟩ = some (.bool true) := (dt.cell_cells fD16 1).trans rfl
   have cD17_2 : W16.cell? ⟨(w.heap.size + 1 + 1), 2, none⟩ = some (.bool s1) := (dt.cell_cells fD16 2).trans rfl
   have cD17_3 : W16.cell? ⟨(w.heap.size + 1 + 1), 3, none⟩ = some (.bool s2) := (dt.cell_cells fD16 3).trans rfl
   have cD17_4 : W16.cell? ⟨(w.heap.size + 1 + 1), 4, none⟩ = some (.string s3) := (dt.cell_cells fD16 4).trans rfl
   have cD17_5 : W16.cell? ⟨(w.heap.size + 1 + 1), 5, none⟩ = some (.string sm) := (dt.cell_cells fD16 5).trans rfl
   have cD17_6 : W16.cell? ⟨(w.heap.size + 1 + 1), 6, none⟩ = some (.slice a1 m1 c1) := (dt.cell_cells fD16 6).trans rfl
   have cD17_7 : W16.cell? ⟨(w.heap.size + 1 + 1), 7, none⟩ = some (.slice a2 m2 c2) := (dt.cell_cells fD16 7).trans rfl
   have cD17_8 : W16.cell? ⟨(w.heap.size + 1 + 1), 8, none⟩ = some (.slice a3 m3 c3) := (dt.cell_cells fD16 8).trans rfl
   have cD17_9 : W16.cell? ⟨(w.heap.size + 1 + 1), 9, none⟩ = some (.slice a4 m4 c4) := (dt.cell_cells fD16 9).trans rfl
   have cD17_10 : W16.cell? ⟨(w.heap.size + 1 + 1), 10, none⟩ = some (.slice a5 m5 c5) := (dt.cell_cells fD16 10).trans rfl
   have cD17_11 : W16.cell? ⟨(w.heap.size + 1 + 1), 11, none⟩ = some (.slice a6 m6 c6) := (dt.cell_cells fD16 11).trans rfl
   have cD17_12 : W16.cell? ⟨(w.heap.size + 1 + 1), 12, none⟩ = some (.slice a7 m7 c7) := (dt.cell_cells fD16 12).trans rfl
   have cD17_13 : W16.cell? ⟨(w.heap.size + 1 + 1), 13, none⟩ = some (.bool sr) := (dt.cell_cells fD16 13).trans rfl
   have cD17_14 : W16.cell? ⟨(w.heap.size + 1 + 1), 14, none⟩ = some (.slice a8 m8 c8) := (dt.cell_cells fD16 14).trans rfl
   have cD17_15 : W16.cell? ⟨(w.heap.size + 1 + 1), 15, none⟩ = some (.int .i64 sl) := (dt.cell_cells fD16 15).trans rfl
   have cD17_16 : W16.cell? ⟨(w.heap.size + 1 + 1), 16, none⟩ = some (.int .i64 so) := (dt.cell_cells fD16 16).trans rfl
   have HH18 := Hi (And.intro fP16 (And.intro fR16 (And.intro fD16 (And.intro sH16 (And.intro C16 (K16))))))
   clear fP16 fR16 fD16 sH16 C16 K16
   go_wp2_with fail
   obtain ⟨fP16, fR16, fD16, sH16, C16, K16⟩ := uh HH18
   clear HH18
   refine (hbr _).mono ?_
   rintro e W19 ⟨rfl, bb19⟩
   have J19 : Kp B W16 W19 := Kp.of bb19
   have C19 := C16.below bb19
   have sz19 := J19.size
   have fP19 : W19.heap[w.heap.size]? = some (.cells #[.pointer (some ⟨B, 0, none⟩)] 74 (0, 0)) := (J19.block _ (by omega) (by omega)).trans fP16
   have fR19 : W19.heap[(w.heap.size + 1)]? = some (.cells #[.int .i64 0, .bool false, .bool false, .bool false, .string ⟨#[]⟩, .string ⟨#[]⟩, .slice none 0 0, .slice none 0 0, .slice none 0 0, .slice none 0 0, .slice none 0 0, .slice none 0 0, .slice none 0 0, .bool false, .slice none 0 0, .int .i64 0, .int .i64 0] 62 (0, 0)) := (J19.block _ (by omega) (by omega)).trans fR16
   have fD19 : W19.heap[(w.heap.size + 1 + 1)]? = some (.cells #[.int .i64 sk, .bool true, .bool s1, .bool s2, .string s3, .string sm, .slice a1 m1 c1, .slice a2 m2 c2, .slice a3 m3 c3, .slice a4 m4 c4, .slice a5 m5 c5, .slice a6 m6 c6, .slice a7 m7 c7, .bool sr, .slice a8 m8 c8, .int .i64 sl, .int .i64 so] 62 (0, 0)) := (J19.block _ (by omega) (by omega)).trans fD16
   have sH19 := sH16.kp J19 (by omega)
   have K19 := K16.trans J19
   clear fP16 fR16 fD16 sH16 K16 C16 J19 cD17_0 cD17_1 cD17_2 cD17_3 cD17_4 cD17_5 cD17_6 cD17_7 cD17_8 cD17_9 cD17_10 cD17_11 cD17_12 cD17_13 cD17_14 cD17_15 cD17_16
   clear hbr bb19
   obtain ⟨q, hq⟩ : ∃ q, q = decide (m1 + m2 + m3 + m4 + m5 + m6 + m7 = 0) := ⟨_, rfl⟩
   rw [← hq] at hbe ⊢
   clear hq
   cases q
   ·have HT := Hi (dt.there_cells fR19 (o := 0) (n := 17) (by decide))
    have RS := Hi (dt.range_cells fD19 0 [.int .i64 sk, .bool true, .bool s1, .bool s2, .string s3, .string sm, .slice a1 m1 c1, .slice a2 m2 c2, .slice a3 m3 c3, .slice a4 m4 c4, .slice a5 m5 c5, .slice a6 m6 c6, .slice a7 m7 c7, .bool sr, .slice a8 m8 c8, .int .i64 sl, .int .i64 so] (fun j u hu => by rw [Nat.zero_add]; simpa using hu))
    have HF := Hi (And.intro C19 (And.intro K19 (sH19)))
    clear C19 K19 sH19
    go_wp2_with (first
     | refine wpList_load_mid (by rfl) 62 _ (by rfl) (w.heap.size + 1 + 1) 0 (by rfl) [.int .i64 sk, .bool true, .bool s1, .bool s2, .string s3, .string sm, .slice a1 m1 c1, .slice a2 m2 c2, .slice a3 m3 c3, .slice a4 m4 c4, .slice a5 m5 c5, .slice a6 m6 c6, .slice a7 m7 c7, .bool sr, .slice a8 m8 c8, .int .i64 sl, .int .i64 so] _ (uh RS) Tryz.underlying62 (by rfl) infoSy ?_
     | refine wpList_store_mid (by rfl) 62 _ _ (by rfl) (w.heap.size + 1) 0 ([.int .i64 sk, .bool true, .bool s1, .bool s2, .string s3, .string sm, .slice a1 m1 c1, .slice a2 m2 c2, .slice a3 m3 c3, .slice a4 m4 c4, .slice a5 m5 c5, .slice a6 m6 c6, .slice a7 m7 c7, .bool sr, .slice a8 m8 c8, .int .i64 sl, .int .i64 so] : List Value).toArray (by rfl) (by rfl) (uh HT) infoSy (dt.one_cells (cs := [.int .i64 sk, .bool true, .bool s1, .bool s2, .string s3, .string sm, .slice a1 m1 c1, .slice a2 m2 c2, .slice a3 m3 c3, .slice a4 m4 c4, .slice a5 m5 c5, .slice a6 m6 c6, .slice a7 m7 c7, .bool sr, .slice a8 m8 c8, .int .i64 sl, .int .i64 so]) (by rfl)) ?_)
    refine bodyPost_ret (rgn.result_row rfl _ _ (w.heap.size + 1) 0 [.int .i64 sk, .bool true, .bool s1, .bool s2, .string s3, .string sm, .slice a1 m1 c1, .slice a2 m2 c2, .slice a3 m3 c3, .slice a4 m4 c4, .slice a5 m5 c5, .slice a6 m6 c6, .slice a7 m7 c7, .bool sr, .slice a8 m8 c8, .int .i64 sl, .int .i64 so] _ rfl (World.rangeAt_setCells_same _ _ _ _ (uh HT)) Tryz.underlying62 rfl infoSy) rfl ?_
    obtain ⟨C19, K19, sH19⟩ := uh HF
    have hC := C19.out (b := (w.heap.size + 1)) (by omega) (by omega) 0 [.int .i64 sk, .bool true, .bool s1, .bool s2, .string s3, .string sm, .slice a1 m1 c1, .slice a2 m2 c2, .slice a3 m3 c3, .slice a4 m4 c4, .slice a5 m5 c5, .slice a6 m6 c6, .slice a7 m7 c7, .bool sr, .slice a8 m8 c8, .int .i64 sl, .int .i64 so]
    have hK := K19.out (b := (w.heap.size + 1)) (by omega) 0 [.int .i64 sk, .bool true, .bool s1, .bool s2, .string s3, .string sm, .slice a1 m1 c1, .slice a2 m2 c2, .slice a3 m3 c3, .slice a4 m4 c4, .slice a5 m5 c5, .slice a6 m6 c6, .slice a7 m7 c7, .bool sr, .slice a8 m8 c8, .int .i64 sl, .int .i64 so]
    have hH := sH19.out (b := (w.heap.size + 1)) (by omega) 0 [.int .i64 sk, .bool true, .bool s1, .bool s2, .string s3, .string sm, .slice a1 m1 c1, .slice a2 m2 c2, .slice a3 m3 c3, .slice a4 m4 c4, .slice a5 m5 c5, .slice a6 m6 c6, .slice a7 m7 c7, .bool sr, .slice a8 m8 c8, .int .i64 sl, .int .i64 so]
    have hfin : defT (typF N) (litF true N) N c = (s.d, u3) := by
     unfold defT
     exact (bnd_eq (uh E1)).trans ((bnd_eq (cond_ff (E := ret false) (uh E2))).trans ((bnd_eq (uh E3)).trans (by rw [show (s.ex && s.bare) = false from by rw [← uh HSX, uh hbe]; rfl]; rfl)))
    exact ⟨s.d, u3, _, _, _, _, _, _, _, _, _, _, _, _, _, _, _, _, _, _, _, _, _, _, _, _, _, _, _, _, _, _, _, _, _, _, hfin, rfl, hH.mono (by omega) (by simp only [dt.size_setCells, size_setC]; omega) (Nat.le_refl _), hC, hK⟩
   ·have cP20_0 : W19.cell? ⟨w.heap.size, 0, none⟩ = some (.pointer (some ⟨B, 0, none⟩)) := (dt.cell_cells fP19 0).trans rfl
    have HH21 := Hi (And.intro fP19 (And.intro fR19 (And.intro fD19 (And.intro sH19 (And.intro C19 (K19))))))
    clear fP19 fR19 fD19 sH19 C19 K19
    go_wp2_with fail
    obtain ⟨fP19, fR19, fD19, sH19, C19, K19⟩ := uh HH21
    clear HH21
    refine (refuse_ct C19).mono ?_
    rintro e W22 ⟨rfl, C22, J22⟩
    have sz22 := J22.size
    have fP22 : W22.heap[w.heap.size]? = some (.cells #[.pointer (some ⟨B, 0, none⟩)] 74 (0, 0)) := (J22.block _ (by omega) (by omega)).trans fP19
    have fR22 : W22.heap[(w.heap.size + 1)]? = some (.cells #[.int .i64 0, .bool false, .bool false, .bool false, .string ⟨#[]⟩, .string ⟨#[]⟩, .slice none 0 0, .slice none 0 0, .slice none 0 0, .slice none 0 0, .slice none 0 0, .slice none 0 0, .slice none 0 0, .bool false, .slice none 0 0, .int .i64 0, .int .i64 0] 62 (0, 0)) := (J22.block _ (by omega) (by omega)).trans fR19
    have fD22 : W22.heap[(w.heap.size + 1 + 1)]? = some (.cells #[.int .i64 sk, .bool true, .bool s1, .bool s2, .string s3, .string sm, .slice a1 m1 c1, .slice a2 m2 c2, .slice a3 m3 c3, .slice a4 m4 c4, .slice a5 m5 c5, .slice a6 m6 c6, .slice a7 m7 c7, .bool sr, .slice a8 m8 c8, .int .i64 sl, .int .i64 so] 62 (0, 0)) := (J22.block _ (by omega) (by omega)).trans fD19
    have sH22 := sH19.kp J22 (by omega)
    have K22 := K19.trans J22
    clear fP19 fR19 fD19 sH19 K19 C19 J22 cP20_0
    have HT := Hi (dt.there_cells fR22 (o := 0) (n := 17) (by decide))
    have RS := Hi (dt.range_cells fD22 0 [.int .i64 sk, .bool true, .bool s1, .bool s2, .string s3, .string sm, .slice a1 m1 c1, .slice a2 m2 c2, .slice a3 m3 c3, .slice a4 m4 c4, .slice a5 m5 c5, .slice a6 m6 c6, .slice a7 m7 c7, .bool sr, .slice a8 m8 c8, .int .i64 sl, .int .i64 so] (fun j u hu => by rw [Nat.zero_add]; simpa using hu))
    have HF := Hi (And.intro C22 (And.intro K22 (sH22)))
    clear C22 K22 sH22
    go_wp2_with (first
     | refine wpList_load_mid (by rfl) 62 _ (by rfl) (w.heap.size + 1 + 1) 0 (by rfl) [.int .i64 sk, .bool true, .bool s1, .bool s2, .string s3, .string sm, .slice a1 m1 c1, .slice a2 m2 c2, .slice a3 m3 c3, .slice a4 m4 c4, .slice a5 m5 c5, .slice a6 m6 c6, .slice a7 m7 c7, .bool sr, .slice a8 m8 c8, .int .i64 sl, .int .i64 so] _ (uh RS) Tryz.underlying62 (by rfl) infoSy ?_
     | refine wpList_store_mid (by rfl) 62 _ _ (by rfl) (w.heap.size + 1) 0 ([.int .i64 sk, .bool true, .bool s1, .bool s2, .string s3, .string sm, .slice a1 m1 c1, .slice a2 m2 c2, .slice a3 m3 c3, .slice a4 m4 c4, .slice a5 m5 c5, .slice a6 m6 c6, .slice a7 m7 c7, .bool sr, .slice a8 m8 c8, .int .i64 sl, .int .i64 so] : List Value).toArray (by rfl) (by rfl) (uh HT) infoSy (dt.one_cells (cs := [.int .i64 sk, .bool true, .bool s1, .bool s2, .string s3, .string sm, .slice a1 m1 c1, .slice a2 m2 c2, .slice a3 m3 c3, .slice a4 m4 c4, .slice a5 m5 c5, .slice a6 m6 c6, .slice a7 m7 c7, .bool sr, .slice a8 m8 c8, .int .i64 sl, .int .i64 so]) (by rfl)) ?_)
    refine bodyPost_ret (rgn.result_row rfl _ _ (w.heap.size + 1) 0 [.int .i64 sk, .bool true, .bool s1, .bool s2, .string s3, .string sm, .slice a1 m1 c1, .slice a2 m2 c2, .slice a3 m3 c3, .slice a4 m4 c4, .slice a5 m5 c5, .slice a6 m6 c6, .slice a7 m7 c7, .bool sr, .slice a8 m8 c8, .int .i64 sl, .int .i64 so] _ rfl (World.rangeAt_setCells_same _ _ _ _ (uh HT)) Tryz.underlying62 rfl infoSy) rfl ?_
    obtain ⟨C22, K22, sH22⟩ := uh HF
    have hC := C22.out (b := (w.heap.size + 1)) (by omega) (by omega) 0 [.int .i64 sk, .bool true, .bool s1, .bool s2, .string s3, .string sm, .slice a1 m1 c1, .slice a2 m2 c2, .slice a3 m3 c3, .slice a4 m4 c4, .slice a5 m5 c5, .slice a6 m6 c6, .slice a7 m7 c7, .bool sr, .slice a8 m8 c8, .int .i64 sl, .int .i64 so]
    have hK := K22.out (b := (w.heap.size + 1)) (by omega) 0 [.int .i64 sk, .bool true, .bool s1, .bool s2, .string s3, .string sm, .slice a1 m1 c1, .slice a2 m2 c2, .slice a3 m3 c3, .slice a4 m4 c4, .slice a5 m5 c5, .slice a6 m6 c6, .slice a7 m7 c7, .bool sr, .slice a8 m8 c8, .int .i64 sl, .int .i64 so]
    have hH := sH22.out (b := (w.heap.size + 1)) (by omega) 0 [.int .i64 sk, .bool true, .bool s1, .bool s2, .string s3, .string sm, .slice a1 m1 c1, .slice a2 m2 c2, .slice a3 m3 c3, .slice a4 m4 c4, .slice a5 m5 c5, .slice a6 m6 c6, .slice a7 m7 c7, .bool sr, .slice a8 m8 c8, .int .i64 sl, .int .i64 so]
    have hfin : defT (typF N) (litF true N) N c = (s.d, u3.stop 70) := by
     unfold defT
     exact (bnd_eq (uh E1)).trans ((bnd_eq (cond_ff (E := ret false) (uh E2))).trans ((bnd_eq (uh E3)).trans (by rw [show (s.ex && s.bare) = true from by rw [← uh HSX, uh hbe]; rfl]; rfl)))
    exact ⟨s.d, u3.stop 70, _, _, _, _, _, _, _, _, _, _, _, _, _, _, _, _, _, _, _, _, _, _, _, _, _, _, _, _, _, _, _, _, _, _, hfin, rfl, hH.mono (by omega) (by simp only [dt.size_setCells, size_setC]; omega) (Nat.le_refl _), hC, hK⟩
 ·have HT5 := Hi (dt.there_cells fD4 (o := 2) (n := 3) (by first | decide | simp))
  have fP5 : (W4.setCells (w.heap.size + 1 + 1) 2 [.bool true, .bool n2, .string n3]).heap[w.heap.size]? = some (.cells #[.pointer (some ⟨B, 0, none⟩)] 74 (0, 0)) := (dt.heap_setCells (w.heap.size + 1 + 1) _ (show w.heap.size ≠ (w.heap.size + 1 + 1) by omega) _ 2 W4).trans fP4
  have fR5 : (W4.setCells (w.heap.size + 1 + 1) 2 [.bool true, .bool n2, .string n3]).heap[(w.heap.size + 1)]? = some (.cells #[.int .i64 0, .bool false, .bool false, .bool false, .string ⟨#[]⟩, .string ⟨#[]⟩, .slice none 0 0, .slice none 0 0, .slice none 0 0, .slice none 0 0, .slice none 0 0, .slice none 0 0, .slice none 0 0, .bool false, .slice none 0 0, .int .i64 0, .int .i64 0] 62 (0, 0)) := (dt.heap_setCells (w.heap.size + 1 + 1) _ (show (w.heap.size + 1) ≠ (w.heap.size + 1 + 1) by omega) _ 2 W4).trans fR4
  have fD5 : (W4.setCells (w.heap.size + 1 + 1) 2 [.bool true, .bool n2, .string n3]).heap[(w.heap.size + 1 + 1)]? = some (.cells #[.int .i64 0, .bool false, .bool true, .bool n2, .string n3, .string ⟨#[]⟩, .slice none 0 0, .slice none 0 0, .slice none 0 0, .slice none 0 0, .slice none 0 0, .slice none 0 0, .slice none 0 0, .bool false, .slice none 0 0, .int .i64 0, .int .i64 0] 62 (0, 0)) := (dt.setCells_at [.bool true, .bool n2, .string n3] 2 W4 _ fD4).trans (by kernel_rfl)
  have C5 := C4.out (b := (w.heap.size + 1 + 1)) (by omega) (by omega) 2 [.bool true, .bool n2, .string n3]
  have K5 := K4.out (b := (w.heap.size + 1 + 1)) (by omega) 2 [.bool true, .bool n2, .string n3]
  obtain ⟨W6, hW6⟩ : ∃ W6, W6 = (W4.setCells (w.heap.size + 1 + 1) 2 [.bool true, .bool n2, .string n3]) := ⟨_, rfl⟩
  rw [← hW6] at fP5 fR5 fD5 C5 K5
  have sz6 : W4.heap.size + 0 ≤ W6.heap.size := by rw [hW6]; simp only [size_setC, dt.size_setCells, World.size_alloc]; exact Nat.le_refl _
  have GW6 := Hi hW6
  clear hW6 fP4 fR4 fD4 K4 C4
  have cD7_2 : W6.cell? ⟨(w.heap.size + 1 + 1), 2, none⟩ = some (.bool true) := (dt.cell_cells fD5 2).trans rfl
  have cP8_0 : W6.cell? ⟨w.heap.size, 0, none⟩ = some (.pointer (some ⟨B, 0, none⟩)) := (dt.cell_cells fP5 0).trans rfl
  have cD10_1 : W6.cell? ⟨(w.heap.size + 1 + 1), 1, none⟩ = some (.bool false) := (dt.cell_cells fD5 1).trans rfl
  have zD10_1 : W6.frozen? ⟨(w.heap.size + 1 + 1), 1, none⟩ = false := dt.frozen_cells fD5 1
  have fP9 : (W6.setCell ⟨(w.heap.size + 1 + 1), 1, none⟩ (.bool false)).heap[w.heap.size]? = some (.cells #[.pointer (some ⟨B, 0, none⟩)] 74 (0, 0)) := (Below.heap_setCell W6 _ _ _ (show w.heap.size ≠ (w.heap.size + 1 + 1) by omega)).trans fP5
  have fR9 : (W6.setCell ⟨(w.heap.size + 1 + 1), 1, none⟩ (.bool false)).heap[(w.heap.size + 1)]? = some (.cells #[.int .i64 0, .bool false, .bool false, .bool false, .string ⟨#[]⟩, .string ⟨#[]⟩, .slice none 0 0, .slice none 0 0, .slice none 0 0, .slice none 0 0, .slice none 0 0, .slice none 0 0, .slice none 0 0, .bool false, .slice none 0 0, .int .i64 0, .int .i64 0] 62 (0, 0)) := (Below.heap_setCell W6 _ _ _ (show (w.heap.size + 1) ≠ (w.heap.size + 1 + 1) by omega)).trans fR5
  have fD9 : (W6.setCell ⟨(w.heap.size + 1 + 1), 1, none⟩ (.bool false)).heap[(w.heap.size + 1 + 1)]? = some (.cells #[.int .i64 0, .bool false, .bool true, .bool n2, .string n3, .string ⟨#[]⟩, .slice none 0 0, .slice none 0 0, .slice none 0 0, .slice none 0 0, .slice none 0 0, .slice none 0 0, .slice none 0 0, .bool false, .slice none 0 0, .int .i64 0, .int .i64 0] 62 (0, 0)) := (dt.heap_setCell_at fD5 1 _).trans (by kernel_rfl)
  have C9 := C5.outC (b := (w.heap.size + 1 + 1)) (by omega) (by omega) 1 (.bool false)
  have K9 := K5.setB (b := (w.heap.size + 1 + 1)) (by omega) 1 (.bool false)
  have cP11_0 : (W6.setCell ⟨(w.heap.size + 1 + 1), 1, none⟩ (.bool false)).cell? ⟨w.heap.size, 0, none⟩ = some (.pointer (some ⟨B, 0, none⟩)) := (dt.cell_cells fP9 0).trans rfl
  have HH12 := Hi (And.intro fP9 (And.intro fR9 (And.intro fD9 (And.intro C9 (And.intro K9 (And.intro fP5 (And.intro fR5 (And.intro fD5 (And.intro K5 (C5))))))))))
  clear fP9 fR9 fD9 C9 K9 fP5 fR5 fD5 K5 C5
  go_wp2_with (first
   | (refine wpList_store_mid (by rfl) 54 _ _ (by rfl) (w.heap.size + 1 + 1) 2 #[.bool true, .bool n2, .string n3] (by rfl) (by rfl) (uh HT5) infoNt (dt.one_cells (cs := [.bool true, .bool n2, .string n3]) (by rfl)) ?_; rw [show W4.setCells (w.heap.size + 1 + 1) 2 (#[.bool true, .bool n2, .string n3] : Array Value).toList = W6 from (uh GW6).symm]))
  obtain ⟨fP9, fR9, fD9, C9, K9, fP5, fR5, fD5, K5, C5⟩ := uh HH12
  clear HH12
  clear GW6
  obtain ⟨W13, hW13⟩ : ∃ W13, W13 = (W6.setCell ⟨(w.heap.size + 1 + 1), 1, none⟩ (.bool false)) := ⟨_, rfl⟩
  rw [← hW13] at fP9 fR9 fD9 C9 K9 ⊢
  have sz13 : W6.heap.size + 0 ≤ W13.heap.size := by rw [hW13]; simp only [size_setC, dt.size_setCells, World.size_alloc]; exact Nat.le_refl _
  clear hW13 cD7_2 cP8_0 cD10_1 zD10_1 cP11_0 fP5 fR5 fD5 K5 C5
  refine (key_ct (ex := false) (n1 := true) (n2 := n2) (n3 := n3) fD9 (by omega) (by omega) C9).mono ?_
  rintro e W14 ⟨s, u3, cs, F, qE3, rfl, hSy, gD14, sH14, C14, J14⟩
  have sz14 := J14.size
  have E3 := Hi qE3
  have fP14 : W14.heap[w.heap.size]? = some (.cells #[.pointer (some ⟨B, 0, none⟩)] 74 (0, 0)) := (J14.block _ (by omega) (by omega) (by omega)).trans fP9
  have fR14 : W14.heap[(w.heap.size + 1)]? = some (.cells #[.int .i64 0, .bool false, .bool false, .bool false, .string ⟨#[]⟩, .string ⟨#[]⟩, .slice none 0 0, .slice none 0 0, .slice none 0 0, .slice none 0 0, .slice none 0 0, .slice none 0 0, .slice none 0 0, .bool false, .slice none 0 0, .int .i64 0, .int .i64 0] 62 (0, 0)) := (J14.block _ (by omega) (by omega) (by omega)).trans fR9
  have K14 := Kq.kp K9 J14 (by omega)
  obtain ⟨a1, m1, c1, a2, m2, c2, a3, m3, c3, a4, m4, c4, a5, m5, c5, a6, m6, c6, a7, m7, c7, a8, m8, c8, rfl, e1, e2, e3, e4, e5, e6, e7⟩ := hSy
  have hst3 := (key_st N (Sy.of (true, n2, n3) false)) u1 C9.at_.ok
  have hl := key_len N (of_len N (true, n2, n3) false) u1 C9.at_.ok C9.n
  rw [qE3] at hl
  have hB7 : m1 ≤ 8589934592 ∧ m2 ≤ 8589934592 ∧ m3 ≤ 8589934592 ∧ m4 ≤ 8589934592 ∧ m5 ≤ 8589934592 ∧ m6 ≤ 8589934592 ∧ m7 ≤ 8589934592 := by have q1 := hl.ifs; have q2 := hl.ds; have q3 := hl.fs; have q4 := hl.ins; have q5 := hl.ms; have q6 := hl.vs; have q7 := hl.rs; simp only at q1 q2 q3 q4 q5 q6 q7; omega
  have hbe := Hi (show s.bare = decide (m1 + m2 + m3 + m4 + m5 + m6 + m7 = 0) from by unfold Sy.bare; rw [← e1, ← e2, ← e3, ← e4, ← e5, ← e6, ← e7])
  have hbr := Hi (fun W => bare_ct W (k := s.k) (ex := s.ex) (n1 := s.n.1) (n2 := s.n.2.1) (n3 := s.n.2.2) (nm := s.nm) (a1 := a1) (c1 := c1) (a2 := a2) (c2 := c2) (a3 := a3) (c3 := c3) (a4 := a4) (c4 := c4) (a5 := a5) (c5 := c5) (a6 := a6) (c6 := c6) (a7 := a7) (c7 := c7) (rp := s.rp) (a8 := a8) (m8 := m8) (c8 := c8) (ln := s.ln) (co := s.co) hB7)
  clear qE3 hl hst3 hB7 e1 e2 e3 e4 e5 e6 e7
  unfold sysC at gD14 sH14 hbr
  have gf := Hi (And.intro gD14 (And.intro sH14 hbr))
  clear gD14 sH14 hbr
  obtain ⟨sk, hsk⟩ : ∃ sk, sk = s.k := ⟨_, rfl⟩
  obtain ⟨sx, hsx⟩ : ∃ sx, sx = s.ex := ⟨_, rfl⟩
  obtain ⟨s1, hs1⟩ : ∃ s1, s1 = s.n.1 := ⟨_, rfl⟩
  obtain ⟨s2, hs2⟩ : ∃ s2, s2 = s.n.2.1 := ⟨_, rfl⟩
  obtain ⟨s3, hs3⟩ : ∃ s3, s3 = s.n.2.2 := ⟨_, rfl⟩
  obtain ⟨sm, hsm⟩ : ∃ sm, sm = s.nm := ⟨_, rfl⟩
  obtain ⟨sr, hsr⟩ : ∃ sr, sr = s.rp := ⟨_, rfl⟩
  obtain ⟨sl, hsl⟩ : ∃ sl, sl = s.ln := ⟨_, rfl⟩
  obtain ⟨so, hso⟩ : ∃ so, so = s.co := ⟨_, rfl⟩
  rw [← hsk, ← hsx, ← hs1, ← hs2, ← hs3, ← hsm, ← hsr, ← hsl, ← hso] at gf
  obtain ⟨fD14, sH14, hbr⟩ := uh gf
  have HSX := Hi hsx
  clear gf hsk hsx hs1 hs2 hs3 hsm hsr hsl hso
  clear fP9 fR9 fD9 K9 C9 J14
  cases sx
  ·have cD15_1 : W14.cell? ⟨(w.heap.size + 1 + 1), 1, none⟩ = some (.bool false) := (dt.cell_cells fD14 1).trans rfl
   have HT := Hi (dt.there_cells fR14 (o := 0) (n := 17) (by decide))
   have RS := Hi (dt.range_cells fD14 0 [.int .i64 sk, .bool false, .bool s1, .bool s2, .string s3, .string sm, .slice a1 m1 c1, .slice a2 m2 c2, .slice a3 m3 c3, .slice a4 m4 c4, .slice a5 m5 c5, .slice a6 m6 c6, .slice a7 m7 c7, .bool sr, .slice a8 m8 c8, .int .i64 sl, .int .i64 so] (fun j u hu => by rw [Nat.zero_add]; simpa using hu))
   have HF := Hi (And.intro C14 (And.intro K14 (sH14)))
   clear C14 K14 sH14
   go_wp2_with (first
    | refine wpList_load_mid (by rfl) 62 _ (by rfl) (w.heap.size + 1 + 1) 0 (by rfl) [.int .i64 sk, .bool false, .bool s1, .bool s2, .string s3, .string sm, .slice a1 m1 c1, .slice a2 m2 c2, .slice a3 m3 c3, .slice a4 m4 c4, .slice a5 m5 c5, .slice a6 m6 c6, .slice a7 m7 c7, .bool sr, .slice a8 m8 c8, .int .i64 sl, .int .i64 so] _ (uh RS) Tryz.underlying62 (by rfl) infoSy ?_
    | refine wpList_store_mid (by rfl) 62 _ _ (by rfl) (w.heap.size + 1) 0 ([.int .i64 sk, .bool false, .bool s1, .bool s2, .string s3, .string sm, .slice a1 m1 c1, .slice a2 m2 c2, .slice a3 m3 c3, .slice a4 m4 c4, .slice a5 m5 c5, .slice a6 m6 c6, .slice a7 m7 c7, .bool sr, .slice a8 m8 c8, .int .i64 sl, .int .i64 so] : List Value).toArray (by rfl) (by rfl) (uh HT) infoSy (dt.one_cells (cs := [.int .i64 sk, .bool false, .bool s1, .bool s2, .string s3, .string sm, .slice a1 m1 c1, .slice a2 m2 c2, .slice a3 m3 c3, .slice a4 m4 c4, .slice a5 m5 c5, .slice a6 m6 c6, .slice a7 m7 c7, .bool sr, .slice a8 m8 c8, .int .i64 sl, .int .i64 so]) (by rfl)) ?_)
   refine bodyPost_ret (rgn.result_row rfl _ _ (w.heap.size + 1) 0 [.int .i64 sk, .bool false, .bool s1, .bool s2, .string s3, .string sm, .slice a1 m1 c1, .slice a2 m2 c2, .slice a3 m3 c3, .slice a4 m4 c4, .slice a5 m5 c5, .slice a6 m6 c6, .slice a7 m7 c7, .bool sr, .slice a8 m8 c8, .int .i64 sl, .int .i64 so] _ rfl (World.rangeAt_setCells_same _ _ _ _ (uh HT)) Tryz.underlying62 rfl infoSy) rfl ?_
   obtain ⟨C14, K14, sH14⟩ := uh HF
   have hC := C14.out (b := (w.heap.size + 1)) (by omega) (by omega) 0 [.int .i64 sk, .bool false, .bool s1, .bool s2, .string s3, .string sm, .slice a1 m1 c1, .slice a2 m2 c2, .slice a3 m3 c3, .slice a4 m4 c4, .slice a5 m5 c5, .slice a6 m6 c6, .slice a7 m7 c7, .bool sr, .slice a8 m8 c8, .int .i64 sl, .int .i64 so]
   have hK := K14.out (b := (w.heap.size + 1)) (by omega) 0 [.int .i64 sk, .bool false, .bool s1, .bool s2, .string s3, .string sm, .slice a1 m1 c1, .slice a2 m2 c2, .slice a3 m3 c3, .slice a4 m4 c4, .slice a5 m5 c5, .slice a6 m6 c6, .slice a7 m7 c7, .bool sr, .slice a8 m8 c8, .int .i64 sl, .int .i64 so]
   have hH := sH14.out (b := (w.heap.size + 1)) (by omega) 0 [.int .i64 sk, .bool false, .bool s1, .bool s2, .string s3, .string sm, .slice a1 m1 c1, .slice a2 m2 c2, .slice a3 m3 c3, .slice a4 m4 c4, .slice a5 m5 c5, .slice a6 m6 c6, .slice a7 m7 c7, .bool sr, .slice a8 m8 c8, .int .i64 sl, .int .i64 so]
   have hfin : defT (typF N) (litF true N) N c = (s.d, u3) := by
    unfold defT
    exact (bnd_eq (uh E1)).trans ((bnd_eq (cond_tt (F := wordR bExt) (ret_eq false u1))).trans ((bnd_eq (uh E3)).trans (by rw [show (s.ex && s.bare) = false from by rw [← uh HSX]; rfl]; rfl)))
   exact ⟨s.d, u3, _, _, _, _, _, _, _, _, _, _, _, _, _, _, _, _, _, _, _, _, _, _, _, _, _, _, _, _, _, _, _, _, _, _, hfin, rfl, hH.mono (by omega) (by simp only [dt.size_setCells, size_setC]; omega) (Nat.le_refl _), hC, hK⟩
  ·have cD15_0 : W14.cell? ⟨(w.heap.size + 1 + 1), 0, none⟩ = some (.int .i64 sk) := (dt.cell_cells fD14 0).trans rfl
   have cD15_1 : W14.cell? ⟨(w.heap.size + 1 + 1), 1, none⟩ = some (.bool true) := (dt.cell_cells fD14 1).trans rfl
   have cD15_2 : W14.cell? ⟨(w.heap.size + 1 + 1), 2, none⟩ = some (.bool s1) := (dt.cell_cells fD14 2).trans rfl
   have cD15_3 : W14.cell? ⟨(w.heap.size + 1 + 1), 3, none⟩ = some (.bool s2) := (dt.cell_cells fD14 3).trans rfl
   have cD15_4 : W14.cell? ⟨(w.heap.size + 1 + 1), 4, none⟩ = some (.string s3) := (dt.cell_cells fD14 4).trans rfl
   have cD15_5 : W14.cell? ⟨(w.heap.size + 1 + 1), 5, none⟩ = some (.string sm) := (dt.cell_cells fD14 5).trans rfl
   have cD15_6 : W14.cell? ⟨(w.heap.size + 1 + 1), 6, none⟩ = some (.slice a1 m1 c1) := (dt.cell_cells fD14 6).trans rfl
   have cD15_7 : W14.cell? ⟨(w.heap.size + 1 + 1), 7, none⟩ = some (.slice a2 m2 c2) := (dt.cell_cells fD14 7).trans rfl
   have cD15_8 : W14.cell? ⟨(w.heap.size + 1 + 1), 8, none⟩ = some (.slice a3 m3 c3) := (dt.cell_cells fD14 8).trans rfl
   have cD15_9 : W14.cell? ⟨(w.heap.size + 1 + 1), 9, none⟩ = some (.slice a4 m4 c4) := (dt.cell_cells fD14 9).trans rfl
   have cD15_10 : W14.cell? ⟨(w.heap.size + 1 + 1), 10, none⟩ = some (.slice a5 m5 c5) := (dt.cell_cells fD14 10).trans rfl
   have cD15_11 : W14.cell? ⟨(w.heap.size + 1 + 1), 11, none⟩ = some (.slice a6 m6 c6) := (dt.cell_cells fD14 11).trans rfl
   have cD15_12 : W14.cell? ⟨(w.heap.size + 1 + 1), 12, none⟩ = some (.slice a7 m7 c7) := (dt.cell_cells fD14 12).trans rfl
   have cD15_13 : W14.cell? ⟨(w.heap.size + 1 + 1), 13, none⟩ = some (.bool sr) := (dt.cell_cells fD14 13).trans rfl
   have cD15_14 : W14.cell? ⟨(w.heap.size + 1 + 1), 14, none⟩ = some (.slice a8 m8 c8) := (dt.cell_cells fD14 14).trans rfl
   have cD15_15 : W14.cell? ⟨(w.heap.size + 1 + 1), 15, none⟩ = some (.int .i64 sl) := (dt.cell_cells fD14 15).trans rfl
   have cD15_16 : W14.cell? ⟨(w.heap.size + 1 + 1), 16, none⟩ = some (.int .i64 so) := (dt.cell_cells fD14 16).trans rfl
   have HH16 := Hi (And.intro fP14 (And.intro fR14 (And.intro fD14 (And.intro sH14 (And.intro C14 (K14))))))
   clear fP14 fR14 fD14 sH14 C14 K14
   go_wp2_with fail
   obtain ⟨fP14, fR14, fD14, sH14, C14, K14⟩ := uh HH16
   clear HH16
   refine (hbr _).mono ?_
   rintro e W17 ⟨rfl, bb17⟩
   have J17 : Kp B W14 W17 := Kp.of bb17
   have C17 := C14.below bb17
   have sz17 := J17.size
   have fP17 : W17.heap[w.heap.size]? = some (.cells #[.pointer (some ⟨B, 0, none⟩)] 74 (0, 0)) := (J17.block _ (by omega) (by omega)).trans fP14
   have fR17 : W17.heap[(w.heap.size + 1)]? = some (.cells #[.int .i64 0, .bool false, .bool false, .bool false, .string ⟨#[]⟩, .string ⟨#[]⟩, .slice none 0 0, .slice none 0 0, .slice none 0 0, .slice none 0 0, .slice none 0 0, .slice none 0 0, .slice none 0 0, .bool false, .slice none 0 0, .int .i64 0, .int .i64 0] 62 (0, 0)) := (J17.block _ (by omega) (by omega)).trans fR14
   have fD17 : W17.heap[(w.heap.size + 1 + 1)]? = some (.cells #[.int .i64 sk, .bool true, .bool s1, .bool s2, .string s3, .string sm, .slice a1 m1 c1, .slice a2 m2 c2, .slice a3 m3 c3, .slice a4 m4 c4, .slice a5 m5 c5, .slice a6 m6 c6, .slice a7 m7 c7, .bool sr, .slice a8 m8 c8, .int .i64 sl, .int .i64 so] 62 (0, 0)) := (J17.block _ (by omega) (by omega)).trans fD14
   have sH17 := sH14.kp J17 (by omega)
   have K17 := K14.trans J17
   clear fP14 fR14 fD14 sH14 K14 C14 J17 cD15_0 cD15_1 cD15_2 cD15_3 cD15_4 cD15_5 cD15_6 cD15_7 cD15_8 cD15_9 cD15_10 cD15_11 cD15_12 cD15_13 cD15_14 cD15_15 cD15_16
   clear hbr bb17
   obtain ⟨q, hq⟩ : ∃ q, q = decide (m1 + m2 + m3 + m4 + m5 + m6 + m7 = 0) := ⟨_, rfl⟩
   rw [← hq] at hbe ⊢
   clear hq
   cases q
   ·have HT := Hi (dt.there_cells fR17 (o := 0) (n := 17) (by decide))
    have RS := Hi (dt.range_cells fD17 0 [.int .i64 sk, .bool true, .bool s1, .bool s2, .string s3, .string sm, .slice a1 m1 c1, .slice a2 m2 c2, .slice a3 m3 c3, .slice a4 m4 c4, .slice a5 m5 c5, .slice a6 m6 c6, .slice a7 m7 c7, .bool sr, .slice a8 m8 c8, .int .i64 sl, .int .i64 so] (fun j u hu => by rw [Nat.zero_add]; simpa using hu))
    have HF := Hi (And.intro C17 (And.intro K17 (sH17)))
    clear C17 K17 sH17
    go_wp2_with (first
     | refine wpList_load_mid (by rfl) 62 _ (by rfl) (w.heap.size + 1 + 1) 0 (by rfl) [.int .i64 sk, .bool true, .bool s1, .bool s2, .string s3, .string sm, .slice a1 m1 c1, .slice a2 m2 c2, .slice a3 m3 c3, .slice a4 m4 c4, .slice a5 m5 c5, .slice a6 m6 c6, .slice a7 m7 c7, .bool sr, .slice a8 m8 c8, .int .i64 sl, .int .i64 so] _ (uh RS) Tryz.underlying62 (by rfl) infoSy ?_
     | refine wpList_store_mid (by rfl) 62 _ _ (by rfl) (w.heap.size + 1) 0 ([.int .i64 sk, .bool true, .bool s1, .bool s2, .string s3, .string sm, .slice a1 m1 c1, .slice a2 m2 c2, .slice a3 m3 c3, .slice a4 m4 c4, .slice a5 m5 c5, .slice a6 m6 c6, .slice a7 m7 c7, .bool sr, .slice a8 m8 c8, .int .i64 sl, .int .i64 so] : List Value).toArray (by rfl) (by rfl) (uh HT) infoSy (dt.one_cells (cs := [.int .i64 sk, .bool true, .bool s1, .bool s2, .string s3, .string sm, .slice a1 m1 c1, .slice a2 m2 c2, .slice a3 m3 c3, .slice a4 m4 c4, .slice a5 m5 c5, .slice a6 m6 c6, .slice a7 m7 c7, .bool sr, .slice a8 m8 c8, .int .i64 sl, .int .i64 so]) (by rfl)) ?_)
    refine bodyPost_ret (rgn.result_row rfl _ _ (w.heap.size + 1) 0 [.int .i64 sk, .bool true, .bool s1, .bool s2, .string s3, .string sm, .slice a1 m1 c1, .slice a2 m2 c2, .slice a3 m3 c3, .slice a4 m4 c4, .slice a5 m5 c5, .slice a6 m6 c6, .slice a7 m7 c7, .bool sr, .slice a8 m8 c8, .int .i64 sl, .int .i64 so] _ rfl (World.rangeAt_setCells_same _ _ _ _ (uh HT)) Tryz.underlying62 rfl infoSy) rfl ?_
    obtain ⟨C17, K17, sH17⟩ := uh HF
    have hC := C17.out (b := (w.heap.size + 1)) (by omega) (by omega) 0 [.int .i64 sk, .bool true, .bool s1, .bool s2, .string s3, .string sm, .slice a1 m1 c1, .slice a2 m2 c2, .slice a3 m3 c3, .slice a4 m4 c4, .slice a5 m5 c5, .slice a6 m6 c6, .slice a7 m7 c7, .bool sr, .slice a8 m8 c8, .int .i64 sl, .int .i64 so]
    have hK := K17.out (b := (w.heap.size + 1)) (by omega) 0 [.int .i64 sk, .bool true, .bool s1, .bool s2, .string s3, .string sm, .slice a1 m1 c1, .slice a2 m2 c2, .slice a3 m3 c3, .slice a4 m4 c4, .slice a5 m5 c5, .slice a6 m6 c6, .slice a7 m7 c7, .bool sr, .slice a8 m8 c8, .int .i64 sl, .int .i64 so]
    have hH := sH17.out (b := (w.heap.size + 1)) (by omega) 0 [.int .i64 sk, .bool true, .bool s1, .bool s2, .string s3, .string sm, .slice a1 m1 c1, .slice a2 m2 c2, .slice a3 m3 c3, .slice a4 m4 c4, .slice a5 m5 c5, .slice a6 m6 c6, .slice a7 m7 c7, .bool sr, .slice a8 m8 c8, .int .i64 sl, .int .i64 so]
    have hfin : defT (typF N) (litF true N) N c = (s.d, u3) := by
     unfold defT
     exact (bnd_eq (uh E1)).trans ((bnd_eq (cond_tt (F := wordR bExt) (ret_eq false u1))).trans ((bnd_eq (uh E3)).trans (by rw [show (s.ex && s.bare) = false from by rw [← uh HSX, uh hbe]; rfl]; rfl)))
    exact ⟨s.d, u3, _, _, _, _, _, _, _, _, _, _, _, _, _, _, _, _, _, _, _, _, _, _, _, _, _, _, _, _, _, _, _, _, _, _, hfin, rfl, hH.mono (by omega) (by simp only [dt.size_setCells, size_setC]; omega) (Nat.le_refl _), hC, hK⟩
   ·have cP18_0 : W17.cell? ⟨w.heap.size, 0, none⟩ = some (.pointer (some ⟨B, 0, none⟩)) := (dt.cell_cells fP17 0).trans rfl
    have HH19 := Hi (And.intro fP17 (And.intro fR17 (And.intro fD17 (And.intro sH17 (And.intro C17 (K17))))))
    clear fP17 fR17 fD17 sH17 C17 K17
    go_wp2_with fail
    obtain ⟨fP17, fR17, fD17, sH17, C17, K17⟩ := uh HH19
    clear HH19
    refine (refuse_ct C17).mono ?_
    rintro e W20 ⟨rfl, C20, J20⟩
    have sz20 := J20.size
    have fP20 : W20.heap[w.heap.size]? = some (.cells #[.pointer (some ⟨B, 0, none⟩)] 74 (0, 0)) := (J20.block _ (by omega) (by omega)).trans fP17
    have fR20 : W20.heap[(w.heap.size + 1)]? = some (.cells #[.int .i64 0, .bool false, .bool false, .bool false, .string ⟨#[]⟩, .string ⟨#[]⟩, .slice none 0 0, .slice none 0 0, .slice none 0 0, .slice none 0 0, .slice none 0 0, .slice none 0 0, .slice none 0 0, .bool false, .slice none 0 0, .int .i64 0, .int .i64 0] 62 (0, 0)) := (J20.block _ (by omega) (by omega)).trans fR17
    have fD20 : W20.heap[(w.heap.size + 1 + 1)]? = some (.cells #[.int .i64 sk, .bool true, .bool s1, .bool s2, .string s3, .string sm, .slice a1 m1 c1, .slice a2 m2 c2, .slice a3 m3 c3, .slice a4 m4 c4, .slice a5 m5 c5, .slice a6 m6 c6, .slice a7 m7 c7, .bool sr, .slice a8 m8 c8, .int .i64 sl, .int .i64 so] 62 (0, 0)) := (J20.block _ (by omega) (by omega)).trans fD17
    have sH20 := sH17.kp J20 (by omega)
    have K20 := K17.trans J20
    clear fP17 fR17 fD17 sH17 K17 C17 J20 cP18_0
    have HT := Hi (dt.there_cells fR20 (o := 0) (n := 17) (by decide))
    have RS := Hi (dt.range_cells fD20 0 [.int .i64 sk, .bool true, .bool s1, .bool s2, .string s3, .string sm, .slice a1 m1 c1, .slice a2 m2 c2, .slice a3 m3 c3, .slice a4 m4 c4, .slice a5 m5 c5, .slice a6 m6 c6, .slice a7 m7 c7, .bool sr, .slice a8 m8 c8, .int .i64 sl, .int .i64 so] (fun j u hu => by rw [Nat.zero_add]; simpa using hu))
    have HF := Hi (And.intro C20 (And.intro K20 (sH20)))
    clear C20 K20 sH20
    go_wp2_with (first
     | refine wpList_load_mid (by rfl) 62 _ (by rfl) (w.heap.size + 1 + 1) 0 (by rfl) [.int .i64 sk, .bool true, .bool s1, .bool s2, .string s3, .string sm, .slice a1 m1 c1, .slice a2 m2 c2, .slice a3 m3 c3, .slice a4 m4 c4, .slice a5 m5 c5, .slice a6 m6 c6, .slice a7 m7 c7, .bool sr, .slice a8 m8 c8, .int .i64 sl, .int .i64 so] _ (uh RS) Tryz.underlying62 (by rfl) infoSy ?_
     | refine wpList_store_mid (by rfl) 62 _ _ (by rfl) (w.heap.size + 1) 0 ([.int .i64 sk, .bool true, .bool s1, .bool s2, .string s3, .string sm, .slice a1 m1 c1, .slice a2 m2 c2, .slice a3 m3 c3, .slice a4 m4 c4, .slice a5 m5 c5, .slice a6 m6 c6, .slice a7 m7 c7, .bool sr, .slice a8 m8 c8, .int .i64 sl, .int .i64 so] : List Value).toArray (by rfl) (by rfl) (uh HT) infoSy (dt.one_cells (cs := [.int .i64 sk, .bool true, .bool s1, .bool s2, .string s3, .string sm, .slice a1 m1 c1, .slice a2 m2 c2, .slice a3 m3 c3, .slice a4 m4 c4, .slice a5 m5 c5, .slice a6 m6 c6, .slice a7 m7 c7, .bool sr, .slice a8 m8 c8, .int .i64 sl, .int .i64 so]) (by rfl)) ?_)
    refine bodyPost_ret (rgn.result_row rfl _ _ (w.heap.size + 1) 0 [.int .i64 sk, .bool true, .bool s1, .bool s2, .string s3, .string sm, .slice a1 m1 c1, .slice a2 m2 c2, .slice a3 m3 c3, .slice a4 m4 c4, .slice a5 m5 c5, .slice a6 m6 c6, .slice a7 m7 c7, .bool sr, .slice a8 m8 c8, .int .i64 sl, .int .i64 so] _ rfl (World.rangeAt_setCells_same _ _ _ _ (uh HT)) Tryz.underlying62 rfl infoSy) rfl ?_
    obtain ⟨C20, K20, sH20⟩ := uh HF
    have hC := C20.out (b := (w.heap.size + 1)) (by omega) (by omega) 0 [.int .i64 sk, .bool true, .bool s1, .bool s2, .string s3, .string sm, .slice a1 m1 c1, .slice a2 m2 c2, .slice a3 m3 c3, .slice a4 m4 c4, .slice a5 m5 c5, .slice a6 m6 c6, .slice a7 m7 c7, .bool sr, .slice a8 m8 c8, .int .i64 sl, .int .i64 so]
    have hK := K20.out (b := (w.heap.size + 1)) (by omega) 0 [.int .i64 sk, .bool true, .bool s1, .bool s2, .string s3, .string sm, .slice a1 m1 c1, .slice a2 m2 c2, .slice a3 m3 c3, .slice a4 m4 c4, .slice a5 m5 c5, .slice a6 m6 c6, .slice a7 m7 c7, .bool sr, .slice a8 m8 c8, .int .i64 sl, .int .i64 so]
    have hH := sH20.out (b := (w.heap.size + 1)) (by omega) 0 [.int .i64 sk, .bool true, .bool s1, .bool s2, .string s3, .string sm, .slice a1 m1 c1, .slice a2 m2 c2, .slice a3 m3 c3, .slice a4 m4 c4, .slice a5 m5 c5, .slice a6 m6 c6, .slice a7 m7 c7, .bool sr, .slice a8 m8 c8, .int .i64 sl, .int .i64 so]
    have hfin : defT (typF N) (litF true N) N c = (s.d, u3.stop 70) := by
     unfold defT
     exact (bnd_eq (uh E1)).trans ((bnd_eq (cond_tt (F := wordR bExt) (ret_eq false u1))).trans ((bnd_eq (uh E3)).trans (by rw [show (s.ex && s.bare) = true from by rw [← uh HSX, uh hbe]; rfl]; rfl)))
    exact ⟨s.d, u3.stop 70, _, _, _, _, _, _, _, _, _, _, _, _, _, _, _, _, _, _, _, _, _, _, _, _, _, _, _, _, _, _, _, _, _, _, hfin, rfl, hH.mono (by omega) (by simp only [dt.size_setCells, size_setC]; omega) (Nat.le_refl _), hC, hK⟩
end
end Go.Proofs.YtifbkdicglcogaaGreat.cu
