import Derived.Test.YtnkaoapnooanlaaGreatSdd24
set_option linter.unusedVariables false
set_option linter.unusedSimpArgs false
namespace Go.Proofs.YtnkaoapnooanlaaGreat.cu
open Go.ChangeShapes Go.WideShapes Go.ChangeAt Go.RowKit
open ints (Hi uh)
open dt (Dt Kp RowAt Ow Grow OwIn)
open mem (Row)
set_option maxHeartbeats 8000000 in
set_option maxRecDepth 4000 in
theorem args_t (f : Nat) (l l' : List Dt) (h : EqLs (EqA true f) l l') : SmLs 68 true 10 l l' := by
 intro w a a' c c' F G hl hl' hF hG hc hc' hm hm'
 obtain ⟨hlen, hel⟩ := h
 have HEL := Hi hel
 have HL := Hi hl
 have HL' := Hi hl'
 have HF := Hi hF
 have HG := Hi hG
 obtain ⟨n, hn⟩ : ∃ n, n = l.length := ⟨_, rfl⟩
 have hn' : n = l'.length := hn.trans hlen
 rw [← hn] at hc ⊢
 rw [← hn'] at hc' ⊢
 have Hn := Hi (And.intro hn hn')
 clear hel hl hl' hF hG hn hn' hlen
 unfold maxLen at hm hm'
 go_enter Tryz.func68, Tryz.ntmps68
 go_wp2_with fail
 go_loopw [7] (fun i wr => ∃ j : Nat, j ≤ n ∧ i = .int .i64 j ∧ Below w.heap.size w wr) (fun i _ => n - (intOf i).toNat)
 case atStart => exact ⟨0, Nat.zero_le _, rfl, Below.refl _ _⟩
 case round =>
  obtain ⟨j, hj, rfl, hI⟩ := hrel
  by_cases hlt : j < n
  ·have ji : (j : Int) < (n : Int) := by omega
   have hlt1 : j < l.length := by have := uh Hn; omega
   have hlt2 : j < l'.length := by have := uh Hn; omega
   obtain ⟨p, off, rfl, hpF, hget⟩ := (uh HL).resolve_left (fun h0 => by rw [h0] at hlt1; exact absurd hlt1 (Nat.not_lt_zero _))
   obtain ⟨p', off', rfl, hpG, hget'⟩ := (uh HL').resolve_left (fun h0 => by rw [h0] at hlt2; exact absurd hlt2 (Nat.not_lt_zero _))
   obtain ⟨ds, G1, hrow, hdl, hod, hGF⟩ := hget j _ (List.getElem?_eq_getElem hlt1)
   obtain ⟨ds', G2, hrow', hdl', hod', hGG⟩ := hget' j _ (List.getElem?_eq_getElem hlt2)
   obtain ⟨nm, e1, e2, x1, y1, x2, y2, hx, hy, hxy, heq⟩ := (uh HEL) j _ _ (List.getElem?_eq_getElem hlt1) (List.getElem?_eq_getElem hlt2)
   rw [hx] at hod
   rw [hy] at hod'
   have hshp : ∃ k1 tx1 bl1 ai1 ni1 ci1 af1 nf1 cf1 ln1 co1 k2 tx2 bl2 ai2 ni2 ci2 af2 nf2 cf2 ln2 co2, ds = [.string nm, .int .i64 k1, .string tx1, .bool bl1, .slice ai1 ni1 ci1, .slice af1 nf1 cf1, .int .i64 ln1, .int .i64 co1, .int .i64 x1, .int .i64 y1] ∧ ds' = [.string nm, .int .i64 k2, .string tx2, .bool bl2, .slice ai2 ni2 ci2, .slice af2 nf2 cf2, .int .i64 ln2, .int .i64 co2, .int .i64 x2, .int .i64 y2] ∧ Ow w e1 [.int .i64 k1, .string tx1, .bool bl1, .slice ai1 ni1 ci1, .slice af1 nf1 cf1, .int .i64 ln1, .int .i64 co1] G1 ∧ Ow w e2 [.int .i64 k2, .string tx2, .bool bl2, .slice ai2 ni2 ci2, .slice af2 nf2 cf2, .int .i64 ln2, .int .i64 co2] G2 := by
    obtain ⟨k1, tx1, bl1, i1, f1, ln1, co1, h1⟩ := heq.left
    obtain ⟨k2, tx2, bl2, i2, f2, ln2, co2, h2⟩ := heq.right
    rw [h1] at hod
    rw [h2] at hod'
    obtain ⟨a1, a2, a3, a4, a5, a6, q1, q2⟩ := fld_cells hod
    obtain ⟨b1, b2, b3, b4, b5, b6, r1, r2⟩ := fld_cells hod'
    rw [← h1] at q2
    rw [← h2] at r2
    exact ⟨k1, tx1, bl1, a1, a2, a3, a4, a5, a6, ln1, co1, k2, tx2, bl2, b1, b2, b3, b4, b5, b6, ln2, co2, q1, r1, q2, r2⟩
   obtain ⟨k1, tx1, bl1, ai1, ni1, ci1, af1, nf1, cf1, ln1, co1, k2, tx2, bl2, ai2, ni2, ci2, af2, nf2, cf2, ln2, co2, rfl, rfl, hov, hov'⟩ := hshp
   obtain ⟨rfl, rfl⟩ := hxy rfl
   clear hod hod' hx hy
   have hplt := (uh HF) p hpF
   have hplt' := (uh HG) p' hpG
   have hr := fun (q : Nat) (u : Value) hu => (hI.cell (p := ⟨p, off + j * 10 + q, none⟩) hplt).trans (hrow q u hu)
   have hr' := fun (q : Nat) (u : Value) hu => (hI.cell (p := ⟨p', off' + j * 10 + q, none⟩) hplt').trans (hrow' q u hu)
   have m0 : wr.cell? ⟨p, off + j * 10, none⟩ = some (.string nm) := hr 0 _ rfl
   have m1 : wr.cell? ⟨p, off + j * 10 + 1, none⟩ = some (.int .i64 k1) := hr 1 _ rfl
   have m2 : wr.cell? ⟨p, off + j * 10 + 2, none⟩ = some (.string tx1) := hr 2 _ rfl
   have m3 : wr.cell? ⟨p, off + j * 10 + 3, none⟩ = some (.bool bl1) := hr 3 _ rfl
   have m4 : wr.cell? ⟨p, off + j * 10 + 4, none⟩ = some (.slice ai1 ni1 ci1) := hr 4 _ rfl
   have m5 : wr.cell? ⟨p, off + j * 10 + 5, none⟩ = some (.slice af1 nf1 cf1) := hr 5 _ rfl
   have m6 : wr.cell? ⟨p, off + j * 10 + 6, none⟩ = some (.int .i64 ln1) := hr 6 _ rfl
   have m7 : wr.cell? ⟨p, off + j * 10 + 7, none⟩ = some (.int .i64 co1) := hr 7 _ rfl
   have m8 : wr.cell? ⟨p, off + j * 10 + 8, none⟩ = some (.int .i64 x1) := hr 8 _ rfl
   have m9 : wr.cell? ⟨p, off + j * 10 + 9, none⟩ = some (.int .i64 y1) := hr 9 _ rfl
   have n0 : wr.cell? ⟨p', off' + j * 10, none⟩ = some (.string nm) := hr' 0 _ rfl
   have n1 : wr.cell? ⟨p', off' + j * 10 + 1, none⟩ = some (.int .i64 k2) := hr' 1 _ rfl
   have n2 : wr.cell? ⟨p', off' + j * 10 + 2, none⟩ = some (.string tx2) := hr' 2 _ rfl
   have n3 : wr.cell? ⟨p', off' + j * 10 + 3, none⟩ = some (.bool bl2) := hr' 3 _ rfl
   have n4 : wr.cell? ⟨p', off' + j * 10 + 4, none⟩ = some (.slice ai2 ni2 ci2) := hr' 4 _ rfl
   have n5 : wr.cell? ⟨p', off' + j * 10 + 5, none⟩ = some (.slice af2 nf2 cf2) := hr' 5 _ rfl
   have n6 : wr.cell? ⟨p', off' + j * 10 + 6, none⟩ = some (.int .i64 ln2) := hr' 6 _ rfl
   have n7 : wr.cell? ⟨p', off' + j * 10 + 7, none⟩ = some (.int .i64 co2) := hr' 7 _ rfl
   have n8 : wr.cell? ⟨p', off' + j * 10 + 8, none⟩ = some (.int .i64 x1) := hr' 8 _ rfl
   have n9 : wr.cell? ⟨p', off' + j * 10 + 9, none⟩ = some (.int .i64 y1) := hr' 9 _ rfl
   have hC := Hi (fun W (hb : Below w.heap.size w W) => same_t f e1 e2 heq W [Value.int .i64 k1, .string tx1, .bool bl1, .slice ai1 ni1 ci1, .slice af1 nf1 cf1, .int .i64 ln1, .int .i64 co1] [Value.int .i64 k2, .string tx2, .bool bl2, .slice ai2 ni2 ci2, .slice af2 nf2 cf2, .int .i64 ln2, .int .i64 co2] G1 G2 (dt.Ow.agree e1 _ G1 (fun b hb' o => hb.cell (p := ⟨b, o, none⟩) ((uh HF) b (hGF b hb'))) hov) (dt.Ow.agree e2 _ G2 (fun b hb' o => hb.cell (p := ⟨b, o, none⟩) ((uh HG) b (hGG b hb'))) hov') (fun b hb' => Nat.lt_of_lt_of_le ((uh HF) b (hGF b hb')) hb.size) (fun b hb' => Nat.lt_of_lt_of_le ((uh HG) b (hGG b hb')) hb.size))
   have hq1 : p < wr.heap.size := Nat.lt_of_lt_of_le hplt hI.size
   have hq2 : p' < wr.heap.size := Nat.lt_of_lt_of_le hplt' hI.size
   clear hr hr' hrow hrow' hov hov' heq hdl hdl' hget hget'
   go_wp2_with fail
   have hS0 : Below wr.heap.size wr { wr with drawn := wr.drawn + 1 } := (Below.refl _ _).drew
   have bD := hI.trans (hS0.mono hI.size)
   refine wp_region_noPanic ?_
   refine wp_region_held (S := fun w' => Below wr.heap.size wr w') mixed ?_
   refine rgn.tl (i := 0) (v := ?v1) rfl (by kernel_rfl) (fun _ _ _ h => h) (by rfl) ?hy1 hS0 ?_
   case hy1 => (intro w' hw'; go_simp; try with_reducible rfl)
   simp only [zA, zB, zC, Act.put, zD, zE, zF]
   refine rgn.tl (i := 1) (v := ?v2) rfl (by kernel_rfl) (fun _ _ _ h => h) (by rfl) ?hy2 hS0 ?_
   case hy2 => (intro w' hw'; go_simp; try with_reducible rfl)
   simp only [zA, zB, zC, Act.put, zD, zE, zF]
   refine rgn.tl (i := 2) (v := ?v3) rfl (by kernel_rfl) (fun _ _ _ h => h) (by rfl) ?hy3 hS0 ?_
   case hy3 => (intro w' hw'; go_simp; try with_reducible rfl)
   simp only [zA, zB, zC, Act.put, zD, zE, zF]
   refine rgn.tl (i := 3) (v := ?v4) rfl (by kernel_rfl) (fun _ _ _ h => h) (by rfl) ?hy4 hS0 ?_
   case hy4 => (intro w' hw'; go_simp; try with_reducible rfl)
   simp only [zA, zB, zC, Act.put, zD, zE, zF]
   refine rgn.tl (i := 4) (v := ?v5) rfl (by kernel_rfl) (fun _ _ _ h => h) (by rfl) ?hy5 hS0 ?_
   case hy5 => (intro w' hw'; have m1' := (hw'.cell (p := ⟨p, off + j * 10 + 1, none⟩) hq1).trans m1; have m2' := (hw'.cell (p := ⟨p, off + j * 10 + 2, none⟩) hq1).trans m2; have m3' := (hw'.cell (p := ⟨p, off + j * 10 + 3, none⟩) hq1).trans m3; have m4' := (hw'.cell (p := ⟨p, off + j * 10 + 4, none⟩) hq1).trans m4; have m5' := (hw'.cell (p := ⟨p, off + j * 10 + 5, none⟩) hq1).trans m5; have m6' := (hw'.cell (p := ⟨p, off + j * 10 + 6, none⟩) hq1).trans m6; have m7' := (hw'.cell (p := ⟨p, off + j * 10 + 7, none⟩) hq1).trans m7; go_simp; try with_reducible rfl)
   simp only [zA, zB, zC, Act.put, zD, zE, zF]
   refine rgn.tl (i := 5) (v := ?v6) rfl (by kernel_rfl) (fun _ _ _ h => h) (by rfl) ?hy6 hS0 ?_
   case hy6 => (intro w' hw'; go_simp; try with_reducible rfl)
   simp only [zA, zB, zC, Act.put, zD, zE, zF]
   refine rgn.tl (i := 6) (v := ?v7) rfl (by kernel_rfl) (fun _ _ _ h => h) (by rfl) ?hy7 hS0 ?_
   case hy7 => (intro w' hw'; go_simp; try with_reducible rfl)
   simp only [zA, zB, zC, Act.put, zD, zE, zF]
   refine rgn.tl (i := 7) (v := ?v8) rfl (by kernel_rfl) (fun _ _ _ h => h) (by rfl) ?hy8 hS0 ?_
   case hy8 => (intro w' hw'; go_simp; try with_reducible rfl)
   simp only [zA, zB, zC, Act.put, zD, zE, zF]
   refine rgn.tl (i := 8) (v := ?v9) rfl (by kernel_rfl) (fun _ _ _ h => h) (by rfl) ?hy9 hS0 ?_
   case hy9 => (intro w' hw'; go_simp; try with_reducible rfl)
   simp only [zA, zB, zC, Act.put, zD, zE, zF]
   refine rgn.tl (i := 9) (v := ?v10) rfl (by kernel_rfl) (fun _ _ _ h => h) (by rfl) ?hy10 hS0 ?_
   case hy10 => (intro w' hw'; have n1' := (hw'.cell (p := ⟨p', off' + j * 10 + 1, none⟩) hq2).trans n1; have n2' := (hw'.cell (p := ⟨p', off' + j * 10 + 2, none⟩) hq2).trans n2; have n3' := (hw'.cell (p := ⟨p', off' + j * 10 + 3, none⟩) hq2).trans n3; have n4' := (hw'.cell (p := ⟨p', off' + j * 10 + 4, none⟩) hq2).trans n4; have n5' := (hw'.cell (p := ⟨p', off' + j * 10 + 5, none⟩) hq2).trans n5; have n6' := (hw'.cell (p := ⟨p', off' + j * 10 + 6, none⟩) hq2).trans n6; have n7' := (hw'.cell (p := ⟨p', off' + j * 10 + 7, none⟩) hq2).trans n7; go_simp; try with_reducible rfl)
   simp only [zA, zB, zC, Act.put, zD, zE, zF]
   refine rgn.tl (i := 10) (v := ?v11) rfl (by kernel_rfl) (fun _ _ _ h => h) (by rfl) ?hy11 hS0 ?_
   case hy11 => (intro w' hw'; go_simp; try with_reducible rfl)
   simp only [zA, zB, zC, Act.put, zD, zE, zF]
   refine rgn.one (i := 11) _ rfl (by kernel_rfl) (by rfl) ?_
   simp only [zA, zB, zC, Act.put, zD, zE, zF]
   go_wp2_with fail
   refine ((uh hC) _ bD).mono ?_
   rintro e' w2 ⟨rfl, b2⟩
   have b02 : Below wr.heap.size wr w2 := hS0.trans b2
   refine ⟨b02, ?_⟩
   clear hS0 b2 bD
   have hS0 := b02
   try simp only [zA, zB, zC, Act.put, zD, zE, zF]
   refine rgn.take (i := 12) _ (.bool true) rfl (by kernel_rfl) (by kernel_rfl) (by kernel_rfl) (fun _ _ _ h => h) (by rfl) hS0 (fun w' hw' => by go_simp) ?_
   simp only [zA, zB, zC, Act.put, zD, zE, zF]
   refine wpAnyH_done (by kernel_rfl) ?_ _; refine NoPanic.normal ?_
   have mNx := (b02.cell (p := ⟨p, off + j * 10, none⟩) hq1).trans m0
   have nNx := (b02.cell (p := ⟨p', off' + j * 10, none⟩) hq2).trans n0
   have m8x := (b02.cell (p := ⟨p, off + j * 10 + 8, none⟩) hq1).trans m8
   have n8x := (b02.cell (p := ⟨p', off' + j * 10 + 8, none⟩) hq2).trans n8
   have m9x := (b02.cell (p := ⟨p, off + j * 10 + 9, none⟩) hq1).trans m9
   have n9x := (b02.cell (p := ⟨p', off' + j * 10 + 9, none⟩) hq2).trans n9
   have hI2 := hI.trans (b02.mono hI.size)
   have g2 : p < w2.heap.size := Nat.lt_of_lt_of_le hq1 b02.size
   have g3 : p' < w2.heap.size := Nat.lt_of_lt_of_le hq2 b02.size
   clear m0 n0 m1 n1 m2 n2 m3 n3 m4 n4 m5 n5 m6 n6 m7 n7 m8 n8 m9 n9 hC hS0
   go_wp2_with fail
   go_quiet (fail)
   obtain ⟨V0, hV0⟩ : ∃ V0, V0 = w2.drewN nq := ⟨_, rfl⟩
   have hS0 : Below w2.heap.size w2 V0 := by rw [hV0]; exact Go.below_drewN (Below.refl _ _) nq
   rw [← hV0]
   clear hV0
   go_wp2_with fail
   go_roundw
   case rel => exact ⟨j + 1, by omega, by go_num, hI2.trans (hS0.mono hI2.size)⟩
   case measure => first | (simp [intOf]; omega) | simp [intOf]
  ·have ji : ¬ (j : Int) < (n : Int) := by omega
   have hI9 := Hi hI
   clear hlt
   go_wp2_with fail
   go_ret
   exact ⟨rfl, uh hI9⟩
set_option maxHeartbeats 8000000 in
set_option maxRecDepth 4000 in
theorem dirs_t (f : Nat) (l l' : List Dt) (h : EqLs (EqR true f) l l') : SmLs 45 true 4 l l' := by
 intro w a a' c c' F G hl hl' hF hG hc hc' hm hm'
 obtain ⟨hlen, hel⟩ := h
 have HEL := Hi hel
 have HL := Hi hl
 have HL' := Hi hl'
 have HF := Hi hF
 have HG := Hi hG
 obtain ⟨n, hn⟩ : ∃ n, n = l.length := ⟨_, rfl⟩
 have hn' : n = l'.length := hn.trans hlen
 rw [← hn] at hc ⊢
 rw [← hn'] at hc' ⊢
 have Hn := Hi (And.intro hn hn')
 clear hel hl hl' hF hG hn hn' hlen
 unfold maxLen at hm hm'
 go_enter Tryz.func45, Tryz.ntmps45
 go_wp2_with fail
 go_loopw [7] (fun i wr => ∃ j : Nat, j ≤ n ∧ i = .int .i64 j ∧ Below w.heap.size w wr) (fun i _ => n - (intOf i).toNat)
 case atStart => exact ⟨0, Nat.zero_le _, rfl, Below.refl _ _⟩
 case round =>
  obtain ⟨j, hj, rfl, hI⟩ := hrel
  by_cases hlt : j < n
  ·have ji : (j : Int) < (n : Int) := by omega
   have hlt1 : j < l.length := by have := uh Hn; omega
   have hlt2 : j < l'.length := by have := uh Hn; omega
   obtain ⟨p, off, rfl, hpF, hget⟩ := (uh HL).resolve_left (fun h0 => by rw [h0] at hlt1; exact absurd hlt1 (Nat.not_lt_zero _))
   obtain ⟨p', off', rfl, hpG, hget'⟩ := (uh HL').resolve_left (fun h0 => by rw [h0] at hlt2; exact absurd hlt2 (Nat.not_lt_zero _))
   obtain ⟨ds, G1, hrow, hdl, hod, hGF⟩ := hget j _ (List.getElem?_eq_getElem hlt1)
   obtain ⟨ds', G2, hrow', hdl', hod', hGG⟩ := hget' j _ (List.getElem?_eq_getElem hlt2)
   obtain ⟨nm, l1, l2, x1, y1, x2, y2, hx, hy, hxy, heq⟩ := (uh HEL) j _ _ (List.getElem?_eq_getElem hlt1) (List.getElem?_eq_getElem hlt2)
   rw [hx] at hod
   rw [hy] at hod'
   obtain ⟨a1, c1, rfl, u1, u2, hov⟩ := dir_cells hod
   obtain ⟨a2, c2, rfl, u3, u4, hov'⟩ := dir_cells hod'
   obtain ⟨rfl, rfl⟩ := hxy rfl
   have HU := Hi (And.intro (And.intro u1 u2) (And.intro u3 u4))
   obtain ⟨n1, hn1⟩ : ∃ n1, n1 = l1.length := ⟨_, rfl⟩
   obtain ⟨n2, hn2⟩ : ∃ n2, n2 = l2.length := ⟨_, rfl⟩
   clear hod hod' hx hy u1 u2 u3 u4
   have hplt := (uh HF) p hpF
   have hplt' := (uh HG) p' hpG
   have hC := (fun W (hb : Below w.heap.size w W) => args_t f l1 l2 heq W a1 a2 c1 c2 G1 G2 (hov.below (fun b hb' => (uh HF) b (hGF b hb')) hb) (hov'.below (fun b hb' => (uh HG) b (hGG b hb')) hb) (fun b hb' => Nat.lt_of_lt_of_le ((uh HF) b (hGF b hb')) hb.size) (fun b hb' => Nat.lt_of_lt_of_le ((uh HG) b (hGG b hb')) hb.size) (uh HU).1.1 (uh HU).2.1 (uh HU).1.2 (uh HU).2.2)
   rw [← hn1, ← hn2] at hC
   rw [← hn1] at hrow
   rw [← hn2] at hrow'
   replace hC := Hi hC
   clear hn1 hn2
   have hr := fun (q : Nat) (u : Value) hu => (hI.cell (p := ⟨p, off + j * 4 + q, none⟩) hplt).trans (hrow q u hu)
   have hr' := fun (q : Nat) (u : Value) hu => (hI.cell (p := ⟨p', off' + j * 4 + q, none⟩) hplt').trans (hrow' q u hu)
   have m0 : wr.cell? ⟨p, off + j * 4, none⟩ = some (.string nm) := hr 0 _ rfl
   have m1 : wr.cell? ⟨p, off + j * 4 + 1, none⟩ = some (.slice a1 n1 c1) := hr 1 _ rfl
   have m2 : wr.cell? ⟨p, off + j * 4 + 2, none⟩ = some (.int .i64 x1) := hr 2 _ rfl
   have m3 : wr.cell? ⟨p, off + j * 4 + 3, none⟩ = some (.int .i64 y1) := hr 3 _ rfl
   have n0 : wr.cell? ⟨p', off' + j * 4, none⟩ = some (.string nm) := hr' 0 _ rfl
   have n1 : wr.cell? ⟨p', off' + j * 4 + 1, none⟩ = some (.slice a2 n2 c2) := hr' 1 _ rfl
   have n2 : wr.cell? ⟨p', off' + j * 4 + 2, none⟩ = some (.int .i64 x1) := hr' 2 _ rfl
   have n3 : wr.cell? ⟨p', off' + j * 4 + 3, none⟩ = some (.int .i64 y1) := hr' 3 _ rfl
   have hq1 : p < wr.heap.size := Nat.lt_of_lt_of_le hplt hI.size
   have hq2 : p' < wr.heap.size := Nat.lt_of_lt_of_le hplt' hI.size
   clear hr hr' hrow hrow' hov hov' heq hdl hdl' hget hget'
   go_wp2_with fail
   have hS0 : Below wr.heap.size wr { wr with drawn := wr.drawn + 1 } := (Below.refl _ _).drew
   have bD := hI.trans (hS0.mono hI.size)
   refine wp_region_noPanic ?_
   refine wp_region_held (S := fun w' => Below wr.heap.size wr w') mixed ?_
   refine rgn.tl (i := 0) (v := ?v1) rfl (by kernel_rfl) (fun _ _ _ h => h) (by rfl) ?hy1 hS0 ?_
   case hy1 => (intro w' hw'; go_simp; try with_reducible rfl)
   simp only [zA, zB, zC, Act.put, zD, zE, zF]
   refine rgn.tl (i := 1) (v := ?v2) rfl (by kernel_rfl) (fun _ _ _ h => h) (by rfl) ?hy2 hS0 ?_
   case hy2 => (intro w' hw'; go_simp; try with_reducible rfl)
   simp only [zA, zB, zC, Act.put, zD, zE, zF]
   refine rgn.tl (i := 2) (v := ?v3) rfl (by kernel_rfl) (fun _ _ _ h => h) (by rfl) ?hy3 hS0 ?_
   case hy3 => (intro w' hw'; go_simp; try with_reducible rfl)
   simp only [zA, zB, zC, Act.put, zD, zE, zF]
   refine rgn.tl (i := 3) (v := ?v4) rfl (by kernel_rfl) (fun _ _ _ h => h) (by rfl) ?hy4 hS0 ?_
   case hy4 => (intro w' hw'; go_simp; try with_reducible rfl)
   simp only [zA, zB, zC, Act.put, zD, zE, zF]
   refine rgn.tl (i := 4) (v := ?v5) rfl (by kernel_rfl) (fun _ _ _ h => h) (by rfl) ?hy5 hS0 ?_
   case hy5 => (intro w' hw'; have m1' := (hw'.cell (p := ⟨p, off + j * 4 + 1, none⟩) hq1).trans m1; go_simp; try with_reducible rfl)
   simp only [zA, zB, zC, Act.put, zD, zE, zF]
   refine rgn.tl (i := 5) (v := ?v6) rfl (by kernel_rfl) (fun _ _ _ h => h) (by rfl) ?hy6 hS0 ?_
   case hy6 => (intro w' hw'; go_simp; try with_reducible rfl)
   simp only [zA, zB, zC, Act.put, zD, zE, zF]
   refine rgn.tl (i := 6) (v := ?v7) rfl (by kernel_rfl) (fun _ _ _ h => h) (by rfl) ?hy7 hS0 ?_
   case hy7 => (intro w' hw'; go_simp; try with_reducible rfl)
   simp only [zA, zB, zC, Act.put, zD, zE, zF]
   refine rgn.tl (i := 7) (v := ?v8) rfl (by kernel_rfl) (fun _ _ _ h => h) (by rfl) ?hy8 hS0 ?_
   case hy8 => (intro w' hw'; go_simp; try with_reducible rfl)
   simp only [zA, zB, zC, Act.put, zD, zE, zF]
   refine rgn.tl (i := 8) (v := ?v9) rfl (by kernel_rfl) (fun _ _ _ h => h) (by rfl) ?hy9 hS0 ?_
   case hy9 => (intro w' hw'; go_simp; try with_reducible rfl)
   simp only [zA, zB, zC, Act.put, zD, zE, zF]
   refine rgn.tl (i := 9) (v := ?v10) rfl (by kernel_rfl) (fun _ _ _ h => h) (by rfl) ?hy10 hS0 ?_
   case hy10 => (intro w' hw'; have n1' := (hw'.cell (p := ⟨p', off' + j * 4 + 1, none⟩) hq2).trans n1; go_simp; try with_reducible rfl)
   simp only [zA, zB, zC, Act.put, zD, zE, zF]
   refine rgn.tl (i := 10) (v := ?v11) rfl (by kernel_rfl) (fun _ _ _ h => h) (by rfl) ?hy11 hS0 ?_
   case hy11 => (intro w' hw'; go_simp; try with_reducible rfl)
   simp only [zA, zB, zC, Act.put, zD, zE, zF]
   refine rgn.one (i := 11) _ rfl (by kernel_rfl) (by rfl) ?_
   simp only [zA, zB, zC, Act.put, zD, zE, zF]
   go_wp2_with fail
   refine ((uh hC) _ bD).mono ?_
   rintro e' w2 ⟨rfl, b2⟩
   have b02 : Below wr.heap.size wr w2 := hS0.trans b2
   refine ⟨b02, ?_⟩
   clear hS0 b2 bD
   have hS0 := b02
   try simp only [zA, zB, zC, Act.put, zD, zE, zF]
   refine rgn.take (i := 12) _ (.bool true) rfl (by kernel_rfl) (by kernel_rfl) (by kernel_rfl) (fun _ _ _ h => h) (by rfl) hS0 (fun w' hw' => by go_simp) ?_
   simp only [zA, zB, zC, Act.put, zD, zE, zF]
   refine wpAnyH_done (by kernel_rfl) ?_ _; refine NoPanic.normal ?_
   have mNx := (b02.cell (p := ⟨p, off + j * 4, none⟩) hq1).trans m0
   have nNx := (b02.cell (p := ⟨p', off' + j * 4, none⟩) hq2).trans n0
   have m8x := (b02.cell (p := ⟨p, off + j * 4 + 2, none⟩) hq1).trans m2
   have n8x := (b02.cell (p := ⟨p', off' + j * 4 + 2, none⟩) hq2).trans n2
   have m9x := (b02.cell (p := ⟨p, off + j * 4 + 3, none⟩) hq1).trans m3
   have n9x := (b02.cell (p := ⟨p', off' + j * 4 + 3, none⟩) hq2).trans n3
   have hI2 := hI.trans (b02.mono hI.size)
   have g2 : p < w2.heap.size := Nat.lt_of_lt_of_le hq1 b02.size
   have g3 : p' < w2.heap.size := Nat.lt_of_lt_of_le hq2 b02.size
   clear m0 n0 m1 n1 m2 n2 m3 n3 hC hS0
   go_wp2_with fail
   go_quiet (fail)
   obtain ⟨V0, hV0⟩ : ∃ V0, V0 = w2.drewN nq := ⟨_, rfl⟩
   have hS0 : Below w2.heap.size w2 V0 := by rw [hV0]; exact Go.below_drewN (Below.refl _ _) nq
   rw [← hV0]
   clear hV0
   go_wp2_with fail
   go_roundw
   case rel => exact ⟨j + 1, by omega, by go_num, hI2.trans (hS0.mono hI2.size)⟩
   case measure => first | (simp [intOf]; omega) | simp [intOf]
  ·have ji : ¬ (j : Int) < (n : Int) := by omega
   have hI9 := Hi hI
   clear hlt
   go_wp2_with fail
   go_ret
   exact ⟨rfl, uh hI9⟩
set_option maxHeartbeats 8000000 in
set_option maxRecDepth 4000 in
theorem values_t (f : Nat) (l l' : List Dt) (h : EqLs (EqC true f) l l') : SmLs 43 true 7 l l' := by
 intro w a a' c c' F G hl hl' hF hG hc hc' hm hm'
 obtain ⟨hlen, hel⟩ := h
 have HEL := Hi hel
 have HL := Hi hl
 have HL' := Hi hl'
 have HF := Hi hF
 have HG := Hi hG
 obtain ⟨n, hn⟩ : ∃ n, n = l.length := ⟨_, rfl⟩
 have hn' : n = l'.length := hn.trans hlen
 rw [← hn] at hc ⊢
 rw [← hn'] at hc' ⊢
 have Hn := Hi (And.intro hn hn')
 clear hel hl hl' hF hG hn hn' hlen
 unfold maxLen at hm hm'
 go_enter Tryz.func43, Tryz.ntmps43
 go_wp2_with fail
 go_loopw [7] (fun i wr => ∃ j : Nat, j ≤ n ∧ i = .int .i64 j ∧ Below w.heap.size w wr) (fun i _ => n - (intOf i).toNat)
 case atStart => exact ⟨0, Nat.zero_le _, rfl, Below.refl _ _⟩
 case round =>
  obtain ⟨j, hj, rfl, hI⟩ := hrel
  by_cases hlt : j < n
  ·have ji : (j : Int) < (n : Int) := by omega
   have hlt1 : j < l.length := by have := uh Hn; omega
   have hlt2 : j < l'.length := by have := uh Hn; omega
   obtain ⟨p, off, rfl, hpF, hget⟩ := (uh HL).resolve_left (fun h0 => by rw [h0] at hlt1; exact absurd hlt1 (Nat.not_lt_zero _))
   obtain ⟨p', off', rfl, hpG, hget'⟩ := (uh HL').resolve_left (fun h0 => by rw [h0] at hlt2; exact absurd hlt2 (Nat.not_lt_zero _))
   obtain ⟨ds, G1, hrow, hdl, hod, hGF⟩ := hget j _ (List.getElem?_eq_getElem hlt1)
   obtain ⟨ds', G2, hrow', hdl', hod', hGG⟩ := hget' j _ (List.getElem?_eq_getElem hlt2)
   obtain ⟨⟨n0, n1, n2⟩, ⟨nm, x1, y1⟩, ⟨nm', x2, y2⟩, l1, l2, hx, hy, ⟨hnm, hxy⟩, heq⟩ := (uh HEL) j _ _ (List.getElem?_eq_getElem hlt1) (List.getElem?_eq_getElem hlt2)
   have hnm : nm = nm' := hnm
   subst hnm
   rw [hx] at hod
   rw [hy] at hod'
   obtain ⟨a1, c1, q1, hov1⟩ := cho_cells hod
   have q1 : ds = [.bool n0, .bool n1, .string n2, .string nm, .slice a1 l1.length c1, .int .i64 x1, .int .i64 y1] := q1
   subst q1
   obtain ⟨a2, c2, q2, hov2⟩ := cho_cells hod'
   have q2 : ds' = [.bool n0, .bool n1, .string n2, .string nm, .slice a2 l2.length c2, .int .i64 x2, .int .i64 y2] := q2
   subst q2
   obtain ⟨rfl, rfl⟩ : x1 = x2 ∧ y1 = y2 := hxy rfl
   have hplt := (uh HF) p hpF
   have hplt' := (uh HG) p' hpG
   have hC0 := (fun W (hb : Below w.heap.size w W) => dirs_t f l1 l2 heq W a1 a2 c1 c2 G1 G2 (hov1.1.below (fun b hb' => (uh HF) b (hGF b hb')) hb) (hov2.1.below (fun b hb' => (uh HG) b (hGG b hb')) hb) (fun b hb' => Nat.lt_of_lt_of_le ((uh HF) b (hGF b hb')) hb.size) (fun b hb' => Nat.lt_of_lt_of_le ((uh HG) b (hGG b hb')) hb.size) hov1.2.1 hov2.2.1 hov1.2.2 hov2.2.2)
   obtain ⟨m1, hm1⟩ : ∃ z, z = l1.length := ⟨_, rfl⟩
   obtain ⟨m2, hm2⟩ : ∃ z, z = l2.length := ⟨_, rfl⟩
   rw [← hm1, ← hm2] at hC0
   replace hC0 := Hi hC0
   rw [← hm1] at hrow
   rw [← hm2] at hrow'
   clear hm1 hm2
   have hr := fun (q : Nat) (u : Value) hu => (hI.cell (p := ⟨p, off + j * 7 + q, none⟩) hplt).trans (hrow q u hu)
   have hr' := fun (q : Nat) (u : Value) hu => (hI.cell (p := ⟨p', off' + j * 7 + q, none⟩) hplt').trans (hrow' q u hu)
   have r0 : wr.cell? ⟨p, off + j * 7, none⟩ = some (.bool n0) := hr 0 _ rfl
   have r1 : wr.cell? ⟨p, off + j * 7 + 1, none⟩ = some (.bool n1) := hr 1 _ rfl
   have r2 : wr.cell? ⟨p, off + j * 7 + 2, none⟩ = some (.string n2) := hr 2 _ rfl
   have r3 : wr.cell? ⟨p, off + j * 7 + 3, none⟩ = some (.string nm) := hr 3 _ rfl
   have r4 : wr.cell? ⟨p, off + j * 7 + 4, none⟩ = some (.slice a1 m1 c1) := hr 4 _ rfl
   have r5 : wr.cell? ⟨p, off + j * 7 + 5, none⟩ = some (.int .i64 x1) := hr 5 _ rfl
   have r6 : wr.cell? ⟨p, off + j * 7 + 6, none⟩ = some (.int .i64 y1) := hr 6 _ rfl
   have s0 : wr.cell? ⟨p', off' + j * 7, none⟩ = some (.bool n0) := hr' 0 _ rfl
   have s1 : wr.cell? ⟨p', off' + j * 7 + 1, none⟩ = some (.bool n1) := hr' 1 _ rfl
   have s2 : wr.cell? ⟨p', off' + j * 7 + 2, none⟩ = some (.string n2) := hr' 2 _ rfl
   have s3 : wr.cell? ⟨p', off' + j * 7 + 3, none⟩ = some (.string nm) := hr' 3 _ rfl
   have s4 : wr.cell? ⟨p', off' + j * 7 + 4, none⟩ = some (.slice a2 m2 c2) := hr' 4 _ rfl
   have s5 : wr.cell? ⟨p', off' + j * 7 + 5, none⟩ = some (.int .i64 x1) := hr' 5 _ rfl
   have s6 : wr.cell? ⟨p', off' + j * 7 + 6, none⟩ = some (.int .i64 y1) := hr' 6 _ rfl
   have hq1 : p < wr.heap.size := Nat.lt_of_lt_of_le hplt hI.size
   have hq2 : p' < wr.heap.size := Nat.lt_of_lt_of_le hplt' hI.size
   clear hr hr' hrow hrow' hod hod' hx hy hdl hdl' hget hget' hGF hGG heq hov1 hov2
   go_wp2_with fail
   go_quiet (fail)
   obtain ⟨V0, hV0⟩ : ∃ V0, V0 = wr.drewN nq := ⟨_, rfl⟩
   have hS0 : Below wr.heap.size wr V0 := by rw [hV0]; exact Go.below_drewN (Below.refl _ _) nq
   rw [← hV0]
   clear hV0
   go_wp2_with fail
   have hS1 := hS0.drew
   clear hS0
   have hS0 := hS1
   have bD0 := hI.trans (hS0.mono hI.size)
   refine wp_region_noPanic ?_
   refine wp_region_held (S := fun w' => Below wr.heap.size wr w') mixed ?_
   refine rgn.tl (i := 0) (v := ?v1) rfl (by kernel_rfl) (fun _ _ _ h => h) (by rfl) ?hy1 hS0 ?_
   case hy1 => (intro w' hw'; go_simp; try with_reducible rfl)
   simp only [zA, zB, zC, Act.put, zD, zE, zF]
   refine rgn.tl (i := 1) (v := ?v2) rfl (by kernel_rfl) (fun _ _ _ h => h) (by rfl) ?hy2 hS0 ?_
   case hy2 => (intro w' hw'; go_simp; try with_reducible rfl)
   simp only [zA, zB, zC, Act.put, zD, zE, zF]
   refine rgn.tl (i := 2) (v := ?v3) rfl (by kernel_rfl) (fun _ _ _ h => h) (by rfl) ?hy3 hS0 ?_
   case hy3 => (intro w' hw'; go_simp; try with_reducible rfl)
   simp only [zA, zB, zC, Act.put, zD, zE, zF]
   refine rgn.tl (i := 3) (v := ?v4) rfl (by kernel_rfl) (fun _ _ _ h => h) (by rfl) ?hy4 hS0 ?_
   case hy4 => (intro w' hw'; go_simp; try with_reducible rfl)
   simp only [zA, zB, zC, Act.put, zD, zE, zF]
   refine rgn.tl (i := 4) (v := ?v5) rfl (by kernel_rfl) (fun _ _ _ h => h) (by rfl) ?hy5 hS0 ?_
   case hy5 => (intro w' hw'; have r4' := (hw'.cell (p := ⟨p, off + j * 7 + 4, none⟩) hq1).trans r4; go_simp; try with_reducible rfl)
   simp only [zA, zB, zC, Act.put, zD, zE, zF]
   refine rgn.tl (i := 5) (v := ?v6) rfl (by kernel_rfl) (fun _ _ _ h => h) (by rfl) ?hy6 hS0 ?_
   case hy6 => (intro w' hw'; go_simp; try with_reducible rfl)
   simp only [zA, zB, zC, Act.put, zD, zE, zF]
   refine rgn.tl (i := 6) (v := ?v7) rfl (by kernel_rfl) (fun _ _ _ h => h) (by rfl) ?hy7 hS0 ?_
   case hy7 => (intro w' hw'; go_simp; try with_reducible rfl)
   simp only [zA, zB, zC, Act.put, zD, zE, zF]
   refine rgn.tl (i := 7) (v := ?v8) rfl (by kernel_rfl) (fun _ _ _ h => h) (by rfl) ?hy8 hS0 ?_
   case hy8 => (intro w' hw'; go_simp; try with_reducible rfl)
   simp only [zA, zB, zC, Act.put, zD, zE, zF]
   refine rgn.tl (i := 8) (v := ?v9) rfl (by kernel_rfl) (fun _ _ _ h => h) (by rfl) ?hy9 hS0 ?_
   case hy9 => (intro w' hw'; go_simp; try with_reducible rfl)
   simp only [zA, zB, zC, Act.put, zD, zE, zF]
   refine rgn.tl (i := 9) (v := ?v10) rfl (by kernel_rfl) (fun _ _ _ h => h) (by rfl) ?hy10 hS0 ?_
   case hy10 => (intro w' hw'; have s4' := (hw'.cell (p := ⟨p', off' + j * 7 + 4, none⟩) hq2).trans s4; go_simp; try with_reducible rfl)
   simp only [zA, zB, zC, Act.put, zD, zE, zF]
   refine rgn.tl (i := 10) (v := ?v11) rfl (by kernel_rfl) (fun _ _ _ h => h) (by rfl) ?hy11 hS0 ?_
   case hy11 => (intro w' hw'; go_simp; try with_reducible rfl)
   simp only [zA, zB, zC, Act.put, zD, zE, zF]
   refine rgn.one (i := 11) _ rfl (by kernel_rfl) (by rfl) ?_
   simp only [zA, zB, zC, Act.put, zD, zE, zF]
   go_wp2_with fail
   refine ((uh hC0) _ bD0).mono ?_
   rintro e' w2 ⟨rfl, b2⟩
   have hS1 : Below wr.heap.size wr w2 := hS0.trans (b2.mono hS0.size)
   refine ⟨hS1, ?_⟩
   clear hS0 hC0
   have hS0 := hS1
   clear hS1
   have bD1 := hI.trans (hS0.mono hI.size)
   try simp only [zA, zB, zC, Act.put, zD, zE, zF]
   refine rgn.tl (i := 12) (v := ?v12) rfl (by kernel_rfl) (fun _ _ _ h => h) (by rfl) ?hy12 hS0 ?_
   case hy12 => (intro w' hw'; go_simp; try with_reducible rfl)
   simp only [zA, zB, zC, Act.put, zD, zE, zF]
   refine wpAnyH_done (by kernel_rfl) ?_ _; refine NoPanic.normal ?_
   go_wp2_with fail
   go_roundw
   case rel => exact ⟨j + 1, by omega, by go_num, bD1⟩
   case measure => first | (simp [intOf]; omega) | simp [intOf]
  ·have ji : ¬ (j : Int) < (n : Int) := by omega
   have hI9 := Hi hI
   clear hlt
   go_wp2_with fail
   go_ret
   exact ⟨rfl, uh hI9⟩
set_option maxHeartbeats 8000000 in
set_option maxRecDepth 4000 in
theorem inputs_t (f : Nat) (l l' : List Dt) (h : EqLs (EqI true f) l l') : SmLs 42 true 17 l l' := by
 intro w a a' c c' F G hl hl' hF hG hc hc' hm hm'
 obtain ⟨hlen, hel⟩ := h
 have HEL := Hi hel
 have HL := Hi hl
 have HL' := Hi hl'
 have HF := Hi hF
 have HG := Hi hG
 obtain ⟨n, hn⟩ : ∃ n, n = l.length := ⟨_, rfl⟩
 have hn' : n = l'.length := hn.trans hlen
 rw [← hn] at hc ⊢
 rw [← hn'] at hc' ⊢
 have Hn := Hi (And.intro hn hn')
 clear hel hl hl' hF hG hn hn' hlen
 unfold maxLen at hm hm'
 go_enter Tryz.func42, Tryz.ntmps42
 go_wp2_with fail
 go_loopw [7] (fun i wr => ∃ j : Nat, j ≤ n ∧ i = .int .i64 j ∧ Below w.heap.size w wr) (fun i _ => n - (intOf i).toNat)
 case atStart => exact ⟨0, Nat.zero_le _, rfl, Below.refl _ _⟩
 case round =>
  obtain ⟨j, hj, rfl, hI⟩ := hrel
  by_cases hlt : j < n
  ·have ji : (j : Int) < (n : Int) := by omega
   have hlt1 : j < l.length := by have := uh Hn; omega
   have hlt2 : j < l'.length := by have := uh Hn; omega
   obtain ⟨p, off, rfl, hpF, hget⟩ := (uh HL).resolve_left (fun h0 => by rw [h0] at hlt1; exact absurd hlt1 (Nat.not_lt_zero _))
   obtain ⟨p', off', rfl, hpG, hget'⟩ := (uh HL').resolve_left (fun h0 => by rw [h0] at hlt2; exact absurd hlt2 (Nat.not_lt_zero _))
   obtain ⟨ds, G1, hrow, hdl, hod, hGF⟩ := hget j _ (List.getElem?_eq_getElem hlt1)
   obtain ⟨ds', G2, hrow', hdl', hod', hGG⟩ := hget' j _ (List.getElem?_eq_getElem hlt2)
   obtain ⟨⟨n0, n1, n2⟩, ⟨nm, x1, y1⟩, ⟨nm', x2, y2⟩, tn, tw, hd, v1, v2, l1, l2, hx, hy, ⟨hnm, hxy⟩, hev, heq⟩ := (uh HEL) j _ _ (List.getElem?_eq_getElem hlt1) (List.getElem?_eq_getElem hlt2)
   have hnm : nm = nm' := hnm
   subst hnm
   obtain ⟨k1, tx1, bl1, i1, f1, ln1, co1, h1⟩ := hev.left
   obtain ⟨k2, tx2, bl2, i2, f2, ln2, co2, h2⟩ := hev.right
   rw [hx, h1] at hod
   rw [hy, h2] at hod'
   obtain ⟨ai1, ni1, ci1, af1, nf1, cf1, a1, c1, Gv1, q1, hv1, hvG1, hov1⟩ := inp_cells hod
   have q1 : ds = [.bool n0, .bool n1, .string n2, .string nm, .string tn, .string tw, .bool hd, .int .i64 k1, .string tx1, .bool bl1, .slice ai1 ni1 ci1, .slice af1 nf1 cf1, .int .i64 ln1, .int .i64 co1, .slice a1 l1.length c1, .int .i64 x1, .int .i64 y1] := q1
   subst q1
   rw [← h1] at hv1
   obtain ⟨ai2, ni2, ci2, af2, nf2, cf2, a2, c2, Gv2, q2, hv2, hvG2, hov2⟩ := inp_cells hod'
   have q2 : ds' = [.bool n0, .bool n1, .string n2, .string nm, .string tn, .string tw, .bool hd, .int .i64 k2, .string tx2, .bool bl2, .slice ai2 ni2 ci2, .slice af2 nf2 cf2, .int .i64 ln2, .int .i64 co2, .slice a2 l2.length c2, .int .i64 x2, .int .i64 y2] := q2
   subst q2
   rw [← h2] at hv2
   obtain ⟨rfl, rfl⟩ : x1 = x2 ∧ y1 = y2 := hxy rfl
   have hplt := (uh HF) p hpF
   have hplt' := (uh HG) p' hpG
   have hC0 := Hi (fun W (hb : Below w.heap.size w W) => same_t f v1 v2 hev W [Value.int .i64 k1, .string tx1, .bool bl1, .slice ai1 ni1 ci1, .slice af1 nf1 cf1, .int .i64 ln1, .int .i64 co1] [Value.int .i64 k2, .string tx2, .bool bl2, .slice ai2 ni2 ci2, .slice af2 nf2 cf2, .int .i64 ln2, .int .i64 co2] Gv1 Gv2 (dt.Ow.agree v1 _ Gv1 (fun b hb' o => hb.cell (p := ⟨b, o, none⟩) ((uh HF) b (hGF b (hvG1 b hb')))) hv1) (dt.Ow.agree v2 _ Gv2 (fun b hb' o => hb.cell (p := ⟨b, o, none⟩) ((uh HG) b (hGG b (hvG2 b hb')))) hv2) (fun b hb' => Nat.lt_of_lt_of_le ((uh HF) b (hGF b (hvG1 b hb'))) hb.size) (fun b hb' => Nat.lt_of_lt_of_le ((uh HG) b (hGG b (hvG2 b hb'))) hb.size))
   have hC1 := (fun W (hb : Below w.heap.size w W) => dirs_t f l1 l2 heq W a1 a2 c1 c2 G1 G2 (hov1.1.below (fun b hb' => (uh HF) b (hGF b hb')) hb) (hov2.1.below (fun b hb' => (uh HG) b (hGG b hb')) hb) (fun b hb' => Nat.lt_of_lt_of_le ((uh HF) b (hGF b hb')) hb.size) (fun b hb' => Nat.lt_of_lt_of_le ((uh HG) b (hGG b hb')) hb.size) hov1.2.1 hov2.2.1 hov1.2.2 hov2.2.2)
   obtain ⟨m1, hm1⟩ : ∃ z, z = l1.length := ⟨_, rfl⟩
   obtain ⟨m2, hm2⟩ : ∃ z, z = l2.length := ⟨_, rfl⟩
   rw [← hm1, ← hm2] at hC1
   replace hC1 := Hi hC1
   rw [← hm1] at hrow
   rw [← hm2] at hrow'
   clear hm1 hm2
   have hr := fun (q : Nat) (u : Value) hu => (hI.cell (p := ⟨p, off + j * 17 + q, none⟩) hplt).trans (hrow q u hu)
   have hr' := fun (q : Nat) (u : Value) hu => (hI.cell (p := ⟨p', off' + j * 17 + q, none⟩) hplt').trans (hrow' q u hu)
   have r0 : wr.cell? ⟨p, off + j * 17, none⟩ = some (.bool n0) := hr 0 _ rfl
   have r1 : wr.cell? ⟨p, off + j * 17 + 1, none⟩ = some (.bool n1) := hr 1 _ rfl
   have r2 : wr.cell? ⟨p, off + j * 17 + 2, none⟩ = some (.string n2) := hr 2 _ rfl
   have r3 : wr.cell? ⟨p, off + j * 17 + 3, none⟩ = some (.string nm) := hr 3 _ rfl
   have r4 : wr.cell? ⟨p, off + j * 17 + 4, none⟩ = some (.string tn) := hr 4 _ rfl
   have r5 : wr.cell? ⟨p, off + j * 17 + 5, none⟩ = some (.string tw) := hr 5 _ rfl
   have r6 : wr.cell? ⟨p, off + j * 17 + 6, none⟩ = some (.bool hd) := hr 6 _ rfl
   have r7 : wr.cell? ⟨p, off + j * 17 + 7, none⟩ = some (.int .i64 k1) := hr 7 _ rfl
   have r8 : wr.cell? ⟨p, off + j * 17 + 8, none⟩ = some (.string tx1) := hr 8 _ rfl
   have r9 : wr.cell? ⟨p, off + j * 17 + 9, none⟩ = some (.bool bl1) := hr 9 _ rfl
   have r10 : wr.cell? ⟨p, off + j * 17 + 10, none⟩ = some (.slice ai1 ni1 ci1) := hr 10 _ rfl
   have r11 : wr.cell? ⟨p, off + j * 17 + 11, none⟩ = some (.slice af1 nf1 cf1) := hr 11 _ rfl
   have r12 : wr.cell? ⟨p, off + j * 17 + 12, none⟩ = some (.int .i64 ln1) := hr 12 _ rfl
   have r13 : wr.cell? ⟨p, off + j * 17 + 13, none⟩ = some (.int .i64 co1) := hr 13 _ rfl
   have r14 : wr.cell? ⟨p, off + j * 17 + 14, none⟩ = some (.slice a1 m1 c1) := hr 14 _ rfl
   have r15 : wr.cell? ⟨p, off + j * 17 + 15, none⟩ = some (.int .i64 x1) := hr 15 _ rfl
   have r16 : wr.cell? ⟨p, off + j * 17 + 16, none⟩ = some (.int .i64 y1) := hr 16 _ rfl
   have s0 : wr.cell? ⟨p', off' + j * 17, none⟩ = some (.bool n0) := hr' 0 _ rfl
   have s1 : wr.cell? ⟨p', off' + j * 17 + 1, none⟩ = some (.bool n1) := hr' 1 _ rfl
   have s2 : wr.cell? ⟨p', off' + j * 17 + 2, none⟩ = some (.string n2) := hr' 2 _ rfl
   have s3 : wr.cell? ⟨p', off' + j * 17 + 3, none⟩ = some (.string nm) := hr' 3 _ rfl
   have s4 : wr.cell? ⟨p', off' + j * 17 + 4, none⟩ = some (.string tn) := hr' 4 _ rfl
   have s5 : wr.cell? ⟨p', off' + j * 17 + 5, none⟩ = some (.string tw) := hr' 5 _ rfl
   have s6 : wr.cell? ⟨p', off' + j * 17 + 6, none⟩ = some (.bool hd) := hr' 6 _ rfl
   have s7 : wr.cell? ⟨p', off' + j * 17 + 7, none⟩ = some (.int .i64 k2) := hr' 7 _ rfl
   have s8 : wr.cell? ⟨p', off' + j * 17 + 8, none⟩ = some (.string tx2) := hr' 8 _ rfl
   have s9 : wr.cell? ⟨p', off' + j * 17 + 9, none⟩ = some (.bool bl2) := hr' 9 _ rfl
   have s10 : wr.cell? ⟨p', off' + j * 17 + 10, none⟩ = some (.slice ai2 ni2 ci2) := hr' 10 _ rfl
   have s11 : wr.cell? ⟨p', off' + j * 17 + 11, none⟩ = some (.slice af2 nf2 cf2) := hr' 11 _ rfl
   have s12 : wr.cell? ⟨p', off' + j * 17 + 12, none⟩ = some (.int .i64 ln2) := hr' 12 _ rfl
   have s13 : wr.cell? ⟨p', off' + j * 17 + 13, none⟩ = some (.int .i64 co2) := hr' 13 _ rfl
   have s14 : wr.cell? ⟨p', off' + j * 17 + 14, none⟩ = some (.slice a2 m2 c2) := hr' 14 _ rfl
   have s15 : wr.cell? ⟨p', off' + j * 17 + 15, none⟩ = some (.int .i64 x1) := hr' 15 _ rfl
   have s16 : wr.cell? ⟨p', off' + j * 17 + 16, none⟩ = some (.int .i64 y1) := hr' 16 _ rfl
   have hq1 : p < wr.heap.size := Nat.lt_of_lt_of_le hplt hI.size
   have hq2 : p' < wr.heap.size := Nat.lt_of_lt_of_le hplt' hI.size
   clear hr hr' hrow hrow' hod hod' hx hy hdl hdl' hget hget' hGF hGG h1 h2 hev heq hv1 hv2 hvG1 hvG2 hov1 hov2
   go_wp2_with fail
   go_quiet (fail)
   obtain ⟨V0, hV0⟩ : ∃ V0, V0 = wr.drewN nq := ⟨_, rfl⟩
   have hS0 : Below wr.heap.size wr V0 := by rw [hV0]; exact Go.below_drewN (Below.refl _ _) nq
   rw [← hV0]
   clear hV0
   go_wp2_with fail
   have hS1 := hS0.drew
   clear hS0
   have hS0 := hS1
   have bD0 := hI.trans (hS0.mono hI.size)
   refine wp_region_noPanic ?_
   refine wp_region_held (S := fun w' => Below wr.heap.size wr w') mixed ?_
   refine rgn.tl (i := 0) (v := ?v1) rfl (by kernel_rfl) (fun _ _ _ h => h) (by rfl) ?hy1 hS0 ?_
   case hy1 => (intro w' hw'; go_simp; try with_reducible rfl)
   simp only [zA, zB, zC, Act.put, zD, zE, zF]
   refine rgn.tl (i := 1) (v := ?v2) rfl (by kernel_rfl) (fun _ _ _ h => h) (by rfl) ?hy2 hS0 ?_
   case hy2 => (intro w' hw'; go_simp; try with_reducible rfl)
   simp only [zA, zB, zC, Act.put, zD, zE, zF]
   refine rgn.tl (i := 2) (v := ?v3) rfl (by kernel_rfl) (fun _ _ _ h => h) (by rfl) ?hy3 hS0 ?_
   case hy3 => (intro w' hw'; go_simp; try with_reducible rfl)
   simp only [zA, zB, zC, Act.put, zD, zE, zF]
   refine rgn.tl (i := 3) (v := ?v4) rfl (by kernel_rfl) (fun _ _ _ h => h) (by rfl) ?hy4 hS0 ?_
   case hy4 => (intro w' hw'; go_simp; try with_reducible rfl)
   simp only [zA, zB, zC, Act.put, zD, zE, zF]
   refine rgn.tl (i := 4) (v := ?v5) rfl (by kernel_rfl) (fun _ _ _ h => h) (by rfl) ?hy5 hS0 ?_
   case hy5 => (intro w' hw'; have r7' := (hw'.cell (p := ⟨p, off + j * 17 + 7, none⟩) hq1).trans r7; have r8' := (hw'.cell (p := ⟨p, off + j * 17 + 8, none⟩) hq1).trans r8; have r9' := (hw'.cell (p := ⟨p, off + j * 17 + 9, none⟩) hq1).trans r9; have r10' := (hw'.cell (p := ⟨p, off + j * 17 + 10, none⟩) hq1).trans r10; have r11' := (hw'.cell (p := ⟨p, off + j * 17 + 11, none⟩) hq1).trans r11; have r12' := (hw'.cell (p := ⟨p, off + j * 17 + 12, none⟩) hq1).trans r12; have r13' := (hw'.cell (p := ⟨p, off + j * 17 + 13, none⟩) hq1).trans r13; go_simp; try with_reducible rfl)
   simp only [zA, zB, zC, Act.put, zD, zE, zF]
   refine rgn.tl (i := 5) (v := ?v6) rfl (by kernel_rfl) (fun _ _ _ h => h) (by rfl) ?hy6 hS0 ?_
   case hy6 => (intro w' hw'; go_simp; try with_reducible rfl)
   simp only [zA, zB, zC, Act.put, zD, zE, zF]
   refine rgn.tl (i := 6) (v := ?v7) rfl (by kernel_rfl) (fun _ _ _ h => h) (by rfl) ?hy7 hS0 ?_
   case hy7 => (intro w' hw'; go_simp; try with_reducible rfl)
   simp only [zA, zB, zC, Act.put, zD, zE, zF]
   refine rgn.tl (i := 7) (v := ?v8) rfl (by kernel_rfl) (fun _ _ _ h => h) (by rfl) ?hy8 hS0 ?_
   case hy8 => (intro w' hw'; go_simp; try with_reducible rfl)
   simp only [zA, zB, zC, Act.put, zD, zE, zF]
   refine rgn.tl (i := 8) (v := ?v9) rfl (by kernel_rfl) (fun _ _ _ h => h) (by rfl) ?hy9 hS0 ?_
   case hy9 => (intro w' hw'; go_simp; try with_reducible rfl)
   simp only [zA, zB, zC, Act.put, zD, zE, zF]
   refine rgn.tl (i := 9) (v := ?v10) rfl (by kernel_rfl) (fun _ _ _ h => h) (by rfl) ?hy10 hS0 ?_
   case hy10 => (intro w' hw'; have s7' := (hw'.cell (p := ⟨p', off' + j * 17 + 7, none⟩) hq2).trans s7; have s8' := (hw'.cell (p := ⟨p', off' + j * 17 + 8, none⟩) hq2).trans s8; have s9' := (hw'.cell (p := ⟨p', off' + j * 17 + 9, none⟩) hq2).trans s9; have s10' := (hw'.cell (p := ⟨p', off' + j * 17 + 10, none⟩) hq2).trans s10; have s11' := (hw'.cell (p := ⟨p', off' + j * 17 + 11, none⟩) hq2).trans s11; have s12' := (hw'.cell (p := ⟨p', off' + j * 17 + 12, none⟩) hq2).trans s12; have s13' := (hw'.cell (p := ⟨p', off' + j * 17 + 13, none⟩) hq2).trans s13; go_simp; try with_reducible rfl)
   simp only [zA, zB, zC, Act.put, zD, zE, zF]
   refine rgn.tl (i := 10) (v := ?v11) rfl (by kernel_rfl) (fun _ _ _ h => h) (by rfl) ?hy11 hS0 ?_
   case hy11 => (intro w' hw'; go_simp; try with_reducible rfl)
   simp only [zA, zB, zC, Act.put, zD, zE, zF]
   refine rgn.one (i := 11) _ rfl (by kernel_rfl) (by rfl) ?_
   simp only [zA, zB, zC, Act.put, zD, zE, zF]
   go_wp2_with fail
   refine ((uh hC0) _ bD0).mono ?_
   rintro e' w2 ⟨rfl, b2⟩
   have hS1 : Below wr.heap.size wr w2 := hS0.trans (b2.mono hS0.size)
   refine ⟨hS1, ?_⟩
   clear hS0 hC0
   have hS0 := hS1
   clear hS1
   have bD1 := hI.trans (hS0.mono hI.size)
   try simp only [zA, zB, zC, Act.put, zD, zE, zF]
   refine rgn.tl (i := 12) (v := ?v12) rfl (by kernel_rfl) (fun _ _ _ h => h) (by rfl) ?hy12 hS0 ?_
   case hy12 => (intro w' hw'; go_simp; try with_reducible rfl)
   simp only [zA, zB, zC, Act.put, zD, zE, zF]
   refine rgn.tl (i := 13) (v := ?v13) rfl (by kernel_rfl) (fun _ _ _ h => h) (by rfl) ?hy13 hS0 ?_
   case hy13 => (intro w' hw'; go_simp; try with_reducible rfl)
   simp only [zA, zB, zC, Act.put, zD, zE, zF]
   refine rgn.tl (i := 14) (v := ?v14) rfl (by kernel_rfl) (fun _ _ _ h => h) (by rfl) ?hy14 hS0 ?_
   case hy14 => (intro w' hw'; go_simp; try with_reducible rfl)
   simp only [zA, zB, zC, Act.put, zD, zE, zF]
   refine rgn.tl (i := 15) (v := ?v15) rfl (by kernel_rfl) (fun _ _ _ h => h) (by rfl) ?hy15 hS0 ?_
   case hy15 => (intro w' hw'; go_simp; try with_reducible rfl)
   simp only [zA, zB, zC, Act.put, zD, zE, zF]
   refine rgn.tl (i := 16) (v := ?v16) rfl (by kernel_rfl) (fun _ _ _ h => h) (by rfl) ?hy16 hS0 ?_
   case hy16 => (intro w' hw'; go_simp; try with_reducible rfl)
   simp only [zA, zB, zC, Act.put, zD, zE, zF]
   refine rgn.tl (i := 17) (v := ?v17) rfl (by kernel_rfl) (fun _ _ _ h => h) (by rfl) ?hy17 hS0 ?_
   case hy17 => (intro w' hw'; go_simp; try with_reducible rfl)
   simp only [zA, zB, zC, Act.put, zD, zE, zF]
   refine rgn.tl (i := 18) (v := ?v18) rfl (by kernel_rfl) (fun _ _ _ h => h) (by rfl) ?hy18 hS0 ?_
   case hy18 => (intro w' hw'; have r14' := (hw'.cell (p := ⟨p, off + j * 17 + 14, none⟩) hq1).trans r14; go_simp; try with_reducible rfl)
   simp only [zA, zB, zC, Act.put, zD, zE, zF]
   refine rgn.tl (i := 19) (v := ?v19) rfl (by kernel_rfl) (fun _ _ _ h => h) (by rfl) ?hy19 hS0 ?_
   case hy19 => (intro w' hw'; go_simp; try with_reducible rfl)
   simp only [zA, zB, zC, Act.put, zD, zE, zF]
   refine rgn.tl (i := 20) (v := ?v20) rfl (by kernel_rfl) (fun _ _ _ h => h) (by rfl) ?hy20 hS0 ?_
   case hy20 => (intro w' hw'; go_simp; try with_reducible rfl)
   simp only [zA, zB, zC, Act.put, zD, zE, zF]
   refine rgn.tl (i := 21) (v := ?v21) rfl (by kernel_rfl) (fun _ _ _ h => h) (by rfl) ?hy21 hS0 ?_
   case hy21 => (intro w' hw'; go_simp; try with_reducible rfl)
   simp only [zA, zB, zC, Act.put, zD, zE, zF]
   refine rgn.tl (i := 22) (v := ?v22) rfl (by kernel_rfl) (fun _ _ _ h => h) (by rfl) ?hy22 hS0 ?_
   case hy22 => (intro w' hw'; go_simp; try with_reducible rfl)
   simp only [zA, zB, zC, Act.put, zD, zE, zF]
   refine rgn.tl (i := 23) (v := ?v23) rfl (by kernel_rfl) (fun _ _ _ h => h) (by rfl) ?hy23 hS0 ?_
   case hy23 => (intro w' hw'; have s14' := (hw'.cell (p := ⟨p', off' + j * 17 + 14, none⟩) hq2).trans s14; go_simp; try with_reducible rfl)
   simp only [zA, zB, zC, Act.put, zD, zE, zF]
   refine rgn.tl (i := 24) (v := ?v24) rfl (by kernel_rfl) (fun _ _ _ h => h) (by rfl) ?hy24 hS0 ?_
   case hy24 => (intro w' hw'; go_simp; try with_reducible rfl)
   simp only [zA, zB, zC, Act.put, zD, zE, zF]
   refine rgn.one (i := 25) _ rfl (by kernel_rfl) (by rfl) ?_
   simp only [zA, zB, zC, Act.put, zD, zE, zF]
   go_wp2_with fail
   refine ((uh hC1) _ bD1).mono ?_
   rintro e' w3 ⟨rfl, b3⟩
   have hS1 : Below wr.heap.size wr w3 := hS0.trans (b3.mono hS0.size)
   refine ⟨hS1, ?_⟩
   clear hS0 hC1
   have hS0 := hS1
   clear hS1
   have bD2 := hI.trans (hS0.mono hI.size)
   try simp only [zA, zB, zC, Act.put, zD, zE, zF]
   refine rgn.tl (i := 26) (v := ?v25) rfl (by kernel_rfl) (fun _ _ _ h => h) (by rfl) ?hy25 hS0 ?_
   case hy25 => (intro w' hw'; go_simp; try with_reducible rfl)
   simp only [zA, zB, zC, Act.put, zD, zE, zF]
   refine rgn.tl (i := 27) (v := ?v26) rfl (by kernel_rfl) (fun _ _ _ h => h) (by rfl) ?hy26 hS0 ?_
   case hy26 => (intro w' hw'; go_simp; try with_reducible rfl)
   simp only [zA, zB, zC, Act.put, zD, zE, zF]
   refine wpAnyH_done (by kernel_rfl) ?_ _; refine NoPanic.normal ?_
   go_wp2_with fail
   go_roundw
   case rel => exact ⟨j + 1, by omega, by go_num, bD2⟩
   case measure => first | (simp [intOf]; omega) | simp [intOf]
  ·have ji : ¬ (j : Int) < (n : Int) := by omega
   have hI9 := Hi hI
   clear hlt
   go_wp2_with fail
   go_ret
   exact ⟨rfl, uh hI9⟩
end Go.Proofs.YtnkaoapnooanlaaGreat.cu
