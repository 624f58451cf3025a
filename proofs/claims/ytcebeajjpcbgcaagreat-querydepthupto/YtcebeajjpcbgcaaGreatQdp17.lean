import Derived.Test.YtcebeajjpcbgcaaGreatQdp16
import Derived.Lib.SlBytesConst
import Derived.Test.YtcebeajjpcbgcaaGreatQdp3
import Derived.Test.YtcebeajjpcbgcaaGreatQdp12
import Derived.Test.YtcebeajjpcbgcaaGreatQdp13
import Derived.Test.YtcebeajjpcbgcaaGreatQdp14
import Derived.Lib.MinMax
namespace Go.Proofs.YtcebeajjpcbgcaaGreat.cu
open Go.ChangeShapes Go.WideShapes Go.ChangeAt Go.RowKit
open ints (hide unhide)
open dt (Dt Kp RowAt Ow Grow OwIn)
open mem (Row)
open lx (toks chs cln)
set_option linter.unusedVariables false
set_option linter.unusedSimpArgs false
/-- what the first fixed document reads as, in memory -/
theorem doc1_cells {w : World} {lo : Nat} {sl : Value} {G : List Nat} (h : Grow 53 9 w lo [defD 1 nQ em false [varD nv nInt nW true (litD 2 n1 false .nil .nil 1 19) [] 1 9] [] [selD 1 nb na em [fldD nx (litD 1 nv false .nil .nil 1 28) 1 26] [] [] 1 22] 1 1] sl G) :
    ∃ p c pv cv ps cs', sl = .slice (some ⟨p, 0, none⟩) 1 c ∧ p < w.heap.size ∧ pv < w.heap.size ∧ ps < w.heap.size ∧ w.cell? ⟨p, 1, none⟩ = some (.string nQ) ∧ w.cell? ⟨p, 3, none⟩ = some (.bool false) ∧ w.cell? ⟨p, 4, none⟩ = some (.slice (some ⟨pv, 0, none⟩) 1 cv) ∧ w.cell? ⟨p, 6, none⟩ = some (.slice (some ⟨ps, 0, none⟩) 1 cs') ∧ w.cell? ⟨pv, 2, none⟩ = some (.string nW) ∧ w.cell? ⟨ps, 1, none⟩ = some (.string nb) := by
  obtain ⟨a, n, c, F, rfl, hs⟩ := Sh.of h
  obtain ⟨p, cs, G1, rfl, rfl, hr, how⟩ := one_row hs
  unfold defD at how
  obtain ⟨d1, rfl, w1⟩ := val_row how
  obtain ⟨d2, rfl, w2⟩ := val_row w1
  obtain ⟨d3, rfl, w3⟩ := val_row w2
  obtain ⟨d4, rfl, w4⟩ := val_row w3
  obtain ⟨pv, cv, d5, csv, Gv, Fv, rfl, hrv, hov, w5⟩ := lst_row w4
  obtain ⟨a2, c2, d6, F2, rfl, w6⟩ := lst_nil w5
  obtain ⟨ps, cps, d7, css, Gs, Fs, rfl, hrs, hos, w7⟩ := lst_row w6
  unfold varD at hov
  obtain ⟨v1, rfl, y1⟩ := val_row hov
  obtain ⟨v2', rfl, y2⟩ := val_row y1
  obtain ⟨v3, rfl, y3⟩ := val_row y2
  unfold selD at hos
  obtain ⟨q1, rfl, z1⟩ := val_row hos
  obtain ⟨q2, rfl, z2⟩ := val_row z1
  have e1 := hr 1 _ rfl
  have e3 := hr 3 _ rfl
  have e4 := hr 4 _ rfl
  have e6 := hr 6 _ rfl
  have v2 := hrv 2 _ rfl
  have s1 := hrs 1 _ rfl
  simp only [Nat.zero_add] at e1 e3 e4 e6 v2 s1
  exact ⟨p, c, pv, cv, ps, cps, rfl, World.block_lt_of_cell? w _ e1, World.block_lt_of_cell? w _ v2, World.block_lt_of_cell? w _ s1, e1, e3, e4, e6, v2, s1⟩
theorem row_new9 (W : World) (zs : List Int) (t : TypeId) (fr : Nat × Nat) : Row .u8 (W.alloc (.cells (zs.map (Value.int .u8)).toArray t fr)) (some ⟨W.heap.size, 0, none⟩) zs.length zs.length zs := by
  refine ⟨rfl, Nat.le_refl _, (fun e => by cases e), .inr ⟨W.heap.size, 0, rfl, by simp, fun i hi => ?_⟩⟩
  have e : (W.alloc (.cells (zs.map (Value.int .u8)).toArray t fr)).cell? ⟨W.heap.size, 0 + i, none⟩ = (zs.map (Value.int .u8)).toArray[0 + i]? := World.cell?_alloc_mark _ _ _ _ _
  rw [e]
  simp [List.getD, hi]
theorem parse1_ok (W : World) (N : Nat) (hN : N = W.heap.size) : Calls Tryz.prog 9 #[.slice (some ⟨N, 0, none⟩) 31 31, .int .i64 3] (W.alloc (.cells #[Value.int .u8 113, Value.int .u8 117, Value.int .u8 101, Value.int .u8 114, Value.int .u8 121, Value.int .u8 32, Value.int .u8 81, Value.int .u8 40, Value.int .u8 36, Value.int .u8 118, Value.int .u8 58, Value.int .u8 91, Value.int .u8 73, Value.int .u8 110, Value.int .u8 116, Value.int .u8 33, Value.int .u8 93, Value.int .u8 61, Value.int .u8 49, Value.int .u8 41, Value.int .u8 123, Value.int .u8 98, Value.int .u8 58, Value.int .u8 97, Value.int .u8 40, Value.int .u8 120, Value.int .u8 58, Value.int .u8 36, Value.int .u8 118, Value.int .u8 41, Value.int .u8 125] 5 (31, 32))) fun e w' => ∃ p c pv cv ps cs', e = .returned (.tuple #[.agg #[.slice (some ⟨p, 0, none⟩) 1 c], .agg #[.int .i64 0, .slice none 0 0, .slice none 0 0]]) ∧ p < w'.heap.size ∧ pv < w'.heap.size ∧ ps < w'.heap.size ∧ w'.cell? ⟨p, 1, none⟩ = some (.string nQ) ∧ w'.cell? ⟨p, 3, none⟩ = some (.bool false) ∧ w'.cell? ⟨p, 4, none⟩ = some (.slice (some ⟨pv, 0, none⟩) 1 cv) ∧ w'.cell? ⟨p, 6, none⟩ = some (.slice (some ⟨ps, 0, none⟩) 1 cs') ∧ w'.cell? ⟨pv, 2, none⟩ = some (.string nW) ∧ w'.cell? ⟨ps, 1, none⟩ = some (.string nb) ∧ Below W.heap.size W w' := by
  subst hN
  have hb : Below W.heap.size W (W.alloc (.cells #[Value.int .u8 113, Value.int .u8 117, Value.int .u8 101, Value.int .u8 114, Value.int .u8 121, Value.int .u8 32, Value.int .u8 81, Value.int .u8 40, Value.int .u8 36, Value.int .u8 118, Value.int .u8 58, Value.int .u8 91, Value.int .u8 73, Value.int .u8 110, Value.int .u8 116, Value.int .u8 33, Value.int .u8 93, Value.int .u8 61, Value.int .u8 49, Value.int .u8 41, Value.int .u8 123, Value.int .u8 98, Value.int .u8 58, Value.int .u8 97, Value.int .u8 40, Value.int .u8 120, Value.int .u8 58, Value.int .u8 36, Value.int .u8 118, Value.int .u8 41, Value.int .u8 125] 5 (31, 32))) := (Below.refl _ _).alloc (Nat.le_refl _) _
  refine (parse_ok (some ⟨W.heap.size, 0, none⟩) 31 31 (mem.bytesZ src1) 3 _ (row_new9 W (mem.bytesZ src1) 5 (31, 32)) (by decide) (mem.bytesZ_byt _) (by rfl)).mono ?_
  rintro e w2 ⟨sl, fs, rfl, hpp, b2⟩
  have hd : docS (newG (mem.bytesZ src1) 3) = docG (mem.bytesZ src1) 3 := rfl
  rw [hd] at hpp
  unfold ParPost at hpp
  rw [doc1] at hpp
  obtain ⟨⟨G, hgr⟩, rfl⟩ := hpp
  obtain ⟨p, c, pv, cv, ps, cps, rfl, l1, l2, l3, q1, q3, q4, q6, qv, qs⟩ := doc1_cells hgr
  exact ⟨p, c, pv, cv, ps, cps, rfl, l1, l2, l3, q1, q3, q4, q6, qv, qs, hb.trans (b2.mono hb.size)⟩
theorem parse2_ok (W : World) (N : Nat) (hN : N = W.heap.size) : Calls Tryz.prog 9 #[.slice (some ⟨N, 0, none⟩) 4 4, .int .i64 3] (W.alloc (.cells #[Value.int .u8 123, Value.int .u8 97, Value.int .u8 125, Value.int .u8 125] 5 (4, 5))) fun e w' => ∃ b, e = .returned (.tuple #[.agg #[.slice none 0 0], .agg #[.int .i64 70, .slice (some ⟨b, 0, none⟩) 1 1, .slice none 0 0]]) ∧ W.heap.size ≤ b ∧ b < w'.heap.size ∧ w'.cell? ⟨b, 0, none⟩ = some (.int .i64 1) ∧ w'.cell? ⟨b, 1, none⟩ = some (.int .i64 4) ∧ Below W.heap.size W w' := by
  subst hN
  have hb : Below W.heap.size W (W.alloc (.cells #[Value.int .u8 123, Value.int .u8 97, Value.int .u8 125, Value.int .u8 125] 5 (4, 5))) := (Below.refl _ _).alloc (Nat.le_refl _) _
  refine (parse_ok (some ⟨W.heap.size, 0, none⟩) 4 4 (mem.bytesZ src2) 3 _ (row_new9 W (mem.bytesZ src2) 5 (4, 5)) (by decide) (mem.bytesZ_byt _) (by rfl)).mono ?_
  rintro e w2 ⟨sl, fs, rfl, hpp, b2⟩
  have hd : docS (newG (mem.bytesZ src2) 3) = docG (mem.bytesZ src2) 3 := rfl
  rw [hd] at hpp
  unfold ParPost at hpp
  rw [doc2] at hpp
  obtain ⟨rfl, hfl⟩ := hpp
  obtain ⟨e1, e2, e3⟩ := doc2k
  unfold FltAt at hfl
  rw [if_neg (by rw [e1]; decide), e1, e2, e3] at hfl
  obtain ⟨b, h1, h2, rfl, h4, h5⟩ := hfl
  exact ⟨b, rfl, Nat.le_trans hb.size h1, h2, h4, h5, hb.trans (b2.mono hb.size)⟩
set_option maxHeartbeats 4000000 in
set_option maxRecDepth 10000 in
theorem parses_ok (w : World) : Calls Tryz.prog 7 #[] w fun e w' => e = .returned (.bool true) ∧ Below w.heap.size w w' := by
  have kc := fun (w : World) (C : Array Value) (n c : Nat) => Lib.run_convert_bytes_const (P := Tryz.prog) w 22 5 C n c Tryz.underlying22 Tryz.underlying5
  go_enter Tryz.func7, Tryz.ntmps7
  go_wp2_with fail
  refine (parse1_ok w w.heap.size rfl).mono ?_
  rintro e w2 ⟨p, c, pv, cv, ps, cps, rfl, l1, l2, l3, q1, q3, q4, q6, qv, qs, bw2⟩
  obtain ⟨X, hX⟩ : ∃ X, X = (w2.alloc (.cells #[.slice (some ⟨p, 0, none⟩) 1 c] 34)).alloc (.cells #[.int .i64 0, .slice none 0 0, .slice none 0 0] 39) := ⟨_, rfl⟩
  have bX : Below w2.heap.size w2 X := by rw [hX]; exact two_alloc _ _ _
  have hat := (show X.heap[w2.heap.size]? = _ ∧ X.heap[w2.heap.size + 1]? = _ from by rw [hX]; exact two_at _ _ _ _ _)
  have zX : w2.heap.size + 2 ≤ X.heap.size := by rw [hX]; simp
  have bw2s := bw2.size
  have BW := bw2.trans (bX.mono bw2.size)
  have T := fun o o' (b i : Nat) (v : Value) (hb : b < w2.heap.size) (h : w2.cell? ⟨b, i, none⟩ = some v) => ((two_alloc w2 o o').cell (p := ⟨b, i, none⟩) hb).trans h
  have r1 := fun o o' => T o o' _ _ _ l1 q1
  have r3 := fun o o' => T o o' _ _ _ l1 q3
  have r4 := fun o o' => T o o' _ _ _ l1 q4
  have r6 := fun o o' => T o o' _ _ _ l1 q6
  have rv := fun o o' => T o o' _ _ _ l2 qv
  have rs := fun o o' => T o o' _ _ _ l3 qs
  unfold nQ at r1
  unfold nW at rv
  unfold nb at rs
  have HX := hide (And.intro hX (And.intro bX (And.intro hat (And.intro zX BW))))
  have kc1 := fun (o o' : Obj) (C : Array Value) (n c : Nat) => by simpa using kc ((w2.alloc o).alloc o') C n c
  clear T q1 q3 q4 q6 qv qs bw2 hX bX hat zX BW
  go_wp2_with fail
  obtain ⟨hX, bX, hat, zX, BW⟩ := unhide HX
  have zE : w2.heap.size + 1 + 1 = X.heap.size := by rw [hX]; simp
  rw [← hX]
  refine (parse2_ok X _ zE).mono ?_
  rintro e w4 ⟨b, rfl, lb0, lb, c0, c1, b4⟩
  have hD := (b4.block w2.heap.size (by omega)).trans hat.1
  have hF := (b4.block (w2.heap.size + 1) (by omega)).trans hat.2
  have HT1 := hide (show w4.there w2.heap.size 0 1 from dt.there_cells hD (by simp))
  obtain ⟨W6, e6⟩ : ∃ W6, W6 = w4.setCells w2.heap.size 0 (#[.slice none 0 0] : Array Value).toList := ⟨_, rfl⟩
  have hD6 : W6.heap[w2.heap.size]? = some (.cells #[.slice none 0 0] 34 (0, 0)) := by rw [e6]; exact (dt.setCells_at [.slice none 0 0] 0 w4 _ hD).trans (by kernel_rfl)
  have hF6 : W6.heap[w2.heap.size + 1]? = some (.cells #[.int .i64 0, .slice none 0 0, .slice none 0 0] 39 (0, 0)) := by rw [e6]; exact (dt.heap_setCells w2.heap.size _ (by omega) _ 0 w4).trans hF
  have HT2 := hide (show W6.there (w2.heap.size + 1) 0 3 from dt.there_cells hF6 (by decide))
  obtain ⟨W7, e7⟩ : ∃ W7, W7 = W6.setCells (w2.heap.size + 1) 0 (#[.int .i64 70, .slice (some ⟨b, 0, none⟩) 1 1, .slice none 0 0] : Array Value).toList := ⟨_, rfl⟩
  have hD7 : W7.heap[w2.heap.size]? = some (.cells #[.slice none 0 0] 34 (0, 0)) := by rw [e7]; exact (dt.heap_setCells (w2.heap.size + 1) _ (by omega) _ 0 W6).trans hD6
  have hF7 : W7.heap[w2.heap.size + 1]? = some (.cells #[.int .i64 70, .slice (some ⟨b, 0, none⟩) 1 1, .slice none 0 0] 39 (0, 0)) := by rw [e7]; exact (dt.setCells_at [.int .i64 70, .slice (some ⟨b, 0, none⟩) 1 1, .slice none 0 0] 0 W6 _ hF6).trans (by kernel_rfl)
  have hb7 : W7.heap[b]? = w4.heap[b]? := by rw [e7, e6]; exact (dt.heap_setCells (w2.heap.size + 1) b (by omega) _ 0 _).trans (dt.heap_setCells w2.heap.size b (by omega) _ 0 w4)
  have C0 := (dt.cell_blk hb7 0).trans c0
  have C1 := (dt.cell_blk hb7 1).trans c1
  have z7 : W7.heap.size = w4.heap.size := by rw [e7, e6, dt.size_setCells, dt.size_setCells]
  have BW7 : Below w.heap.size w W7 := by
    rw [e7, e6]
    have h0 := BW.trans (b4.mono BW.size)
    have hw := BW.size
    exact dt.below_setCells _ _ _ _ (dt.below_setCells _ _ _ _ h0 (by have := bw2s; omega)) (by have := bw2s; omega)
  have lb7 : b < W7.heap.size := by omega
  have d0 : W7.cell? ⟨w2.heap.size, 0, none⟩ = some (.slice none 0 0) := (dt.cell_cells hD7 0).trans rfl
  have f0 : W7.cell? ⟨w2.heap.size + 1, 0, none⟩ = some (.int .i64 70) := (dt.cell_cells hF7 0).trans rfl
  have f1 : W7.cell? ⟨w2.heap.size + 1, 1, none⟩ = some (.slice (some ⟨b, 0, none⟩) 1 1) := (dt.cell_cells hF7 1).trans rfl
  have f2 : W7.cell? ⟨w2.heap.size + 1, 2, none⟩ = some (.slice none 0 0) := (dt.cell_cells hF7 2).trans rfl
  have HFa := hide (fails_ok 70 b 1 4 W7 C0 C1 lb7)
  have E6 := hide e6
  have E7 := hide e7
  have HB := hide BW7
  clear hD hF hD6 hF6 hD7 hF7 hb7 C0 C1 z7 BW7 lb7 e6 e7 c0 c1 b4 hat bX BW HX hX zE kc kc1 r1 r3 r4 r6 rv rs zX lb lb0 bw2s
  go_wp2_with (first
    | (refine wpList_store_mid (by rfl) 34 _ _ (by rfl) w2.heap.size 0 #[.slice none 0 0] (by rfl) (by rfl) (unhide HT1) infoDoc (dt.one_cells (cs := [.slice none 0 0]) (by rfl)) ?_; rw [← unhide E6])
    | (refine wpList_store_mid (by rfl) 39 _ _ (by rfl) (w2.heap.size + 1) 0 #[.int .i64 70, .slice (some ⟨b, 0, none⟩) 1 1, .slice none 0 0] (by rfl) (by rfl) (unhide HT2) infoFl (dt.one_cells (cs := [.int .i64 70, .slice (some ⟨b, 0, none⟩) 1 1, .slice none 0 0]) (by rfl)) ?_; rw [← unhide E7]))
  refine (unhide HFa).mono ?_
  rintro e w8 ⟨rfl, b8⟩
  go_wp2_with fail
  go_ret
  exact ⟨rfl, (unhide HB).trans (b8.mono (unhide HB).size)⟩
end Go.Proofs.YtcebeajjpcbgcaaGreat.cu
namespace Go.Proofs.YtcebeajjpcbgcaaGreat.rgn
set_option linter.unusedVariables false
set_option linter.unusedSimpArgs false
variable {P : Program}
end Go.Proofs.YtcebeajjpcbgcaaGreat.rgn
namespace Go.Proofs.YtcebeajjpcbgcaaGreat.cu
open Go.ChangeShapes Go.WideShapes Go.ChangeAt Go.RowKit
open ints (hide unhide)
open dt (Dt Kp RowAt Ow Grow OwIn)
open mem (Row)
open lx (toks chs cln)
set_option linter.unusedVariables false
set_option linter.unusedSimpArgs false
/-- a document's definitions, to be read -/
theorem doc_ls {w : World} {lo : Nat} {l : List Dt} {sl : Value} {G : List Nat} (h : Grow 53 9 w lo l sl G) : ∃ a c F, sl = .slice a l.length c ∧ Ls w 9 l a F ∧ (∀ b ∈ F, b < w.heap.size) ∧ l.length ≤ c ∧ c ≤ maxLen := by
  obtain ⟨a, n, c, F, rfl, hs⟩ := Sh.of h
  obtain ⟨h1, h2⟩ := lst_ls hs.at_
  have hn := hs.len
  subst hn
  exact ⟨a, c, F, rfl, h2, fun b hb => Nat.lt_of_lt_of_le (hs.rng b hb).2 hs.hi, hs.nc, hs.cm⟩
set_option maxHeartbeats 2000000 in
theorem sdoc_ok (pl : Bool) (l l' : List Dt) (h : SmLs 12 pl 9 l l') (w : World) (a a' : Option Addr) (c c' : Nat) (F G : List Nat) (hl : Ls w 9 l a F) (hl' : Ls w 9 l' a' G) (hF : ∀ b ∈ F, b < w.heap.size) (hG : ∀ b ∈ G, b < w.heap.size) (hc : l.length ≤ c) (hc' : l'.length ≤ c') (hm : c ≤ maxLen) (hm' : c' ≤ maxLen) :
    Calls Tryz.prog 10 #[.agg #[.slice a l.length c], .agg #[.slice a' l'.length c'], .bool pl] w fun e w' => e = .returned (.bool true) ∧ Below w.heap.size w w' := by
  have hC := hide (fun o o' => h ((w.alloc o).alloc o') a a' c c' F G (hl.below hF (two_alloc w o o')) (hl'.below hG (two_alloc w o o')) (fun b hb => Nat.lt_of_lt_of_le (hF b hb) (two_alloc w o o').size) (fun b hb => Nat.lt_of_lt_of_le (hG b hb) (two_alloc w o o').size) hc hc' hm hm')
  have HB := hide (fun o o' => two_alloc w o o')
  clear h hl hl' hF hG hc hc' hm hm'
  go_enter Tryz.func10, Tryz.ntmps10
  go_wp2_with fail
  refine ((unhide hC) _ _).mono ?_
  rintro e w1 ⟨rfl, b1⟩
  clear hC
  go_wp2_with fail
  go_ret
  exact ⟨rfl, ((unhide HB) _ _).trans (b1.mono ((unhide HB) _ _).size)⟩
end Go.Proofs.YtcebeajjpcbgcaaGreat.cu
namespace Go.Proofs.YtcebeajjpcbgcaaGreat.cu
open Go.ChangeShapes Go.WideShapes Go.ChangeAt Go.RowKit
open ints (hide unhide)
open dt (Dt Kp RowAt Ow Grow OwIn)
open mem (Row)
open lx (toks chs cln)
set_option linter.unusedVariables false
set_option linter.unusedSimpArgs false
theorem most_lim (d : Int) : min (max d 0) 200 = (mostS d : Int) := by
  unfold mostS
  omega
set_option maxHeartbeats 4000000 in
set_option maxRecDepth 4000 in
theorem law_depth (s : ByteArray) (d : Int) (w : World) (hs : s.size ≤ 1048576) (hd : (Lit.int .i64 d).wf = true) :
    Calls Tryz.prog 6 #[.string s, .int .i64 d] w fun e w' => e = .returned (.bool true) ∧ Below w.heap.size w w' := by
  have hPs := hide (fun W => parses_ok W)
  have hcv := hide (fun W => conv_bytes9 s W)
  have hPa := hide (fun W a n c (h : Row .u8 W a n c (mem.bytesZ s)) (hn : n ≤ 1073741824) => parse_ok a n c (mem.bytesZ s) 1099511627776 W h hn (mem.bytesZ_byt s) (by rfl))
  have hPb := hide (fun W a n c (h : Row .u8 W a n c (mem.bytesZ s)) (hn : n ≤ 1073741824) => parse_ok a n c (mem.bytesZ s) d W h hn (mem.bytesZ_byt s) hd)
  have hTk := hide (fun W a n c (h : Row .u8 W a n c (mem.bytesZ s)) (hn : n ≤ 1099511627776) => lx.tokensG_ok a n c (mem.bytesZ s) W h hn (mem.bytesZ_byt s))
  have hDD := hide (doc_depth (mem.bytesZ s) d)
  have hRf := hide (fun l (hl : (docG (mem.bytesZ s) 1099511627776).1 = some l) => docS_refl true (newG (mem.bytesZ s) 1099511627776) (newG_ok' _ _) rfl hl)
  have hDN := hide (show (docG (mem.bytesZ s) 1099511627776).1 = none → (docG (mem.bytesZ s) 1099511627776).2.kd ≠ 0 from docS_faults _ (newG_ok' _ _))
  have htl := toks_len (mem.bytesZ s) (mem.bytesZ_byt s)
  rw [mem.bytesZ_len] at htl
  clear hd
  go_enter Tryz.func6, Tryz.ntmps6
  go_wp2_with fail
  refine ((unhide hPs) _).mono ?_
  rintro e w1 ⟨rfl, b1⟩
  clear hPs
  obtain ⟨cap, W2, hc2, hrow2, b2⟩ := (unhide hcv) w1
  have hP := hide ((unhide hPa) W2 _ _ _ hrow2 (by omega))
  clear hPa hrow2
  go_wp2_with fail
  refine (unhide hP).mono ?_
  rintro e w3 ⟨sl, fs, rfl, hpp, b3⟩
  have bw3 := b1.trans ((b2.trans (b3.mono b2.size)).mono b1.size)
  have hpp2 : ParPost (docG (mem.bytesZ s) 1099511627776) W2.heap.size w3 sl fs := hpp
  clear hpp hP hc2 b1 b2 b3
  unfold ParPost at hpp2
  cases hr : (docG (mem.bytesZ s) 1099511627776).1 with
  | none =>
    rw [hr] at hpp2
    obtain ⟨rfl, hfl⟩ := hpp2
    have hK0 := (unhide hDN) hr
    unfold FltAt at hfl
    rw [if_neg hK0] at hfl
    obtain ⟨b, y1, y2, rfl, y4, y5⟩ := hfl
    obtain ⟨K, hK⟩ : ∃ K, K = (docG (mem.bytesZ s) 1099511627776).2.kd := ⟨_, rfl⟩
    rw [← hK] at hK0 ⊢
    have hKb : (K != 0) = true := by simpa using hK0
    clear hDD hRf hDN hTk hcv hPb hr hK y1 y2 y4 y5
    go_wp2_with fail
    go_ret
    exact ⟨rfl, bw3.trans ((two_alloc _ _ _).mono bw3.size)⟩
  | some l =>
    rw [hr] at hpp2
    obtain ⟨⟨G, hg⟩, rfl⟩ := hpp2
    obtain ⟨al, cl, F, rfl, hls, hFl, hc1, hc2⟩ := doc_ls hg
    have HDD := hide ((unhide hDD) l hr)
    have HRF := hide ((unhide hRf) l hr)
    have HLS := hide (And.intro hls (And.intro hFl (And.intro hc1 hc2)))
    clear hg hDD hRf hDN hr hls hFl hc1 hc2
    obtain ⟨X, hX⟩ : ∃ X, X = (w3.alloc (.cells #[.slice al l.length cl] 34)).alloc (.cells #[.int .i64 0, .slice none 0 0, .slice none 0 0] 39) := ⟨_, rfl⟩
    have bX : Below w3.heap.size w3 X := by rw [hX]; exact two_alloc _ _ _
    obtain ⟨cap2, W4, hc4, hrow4, b4⟩ := (unhide hcv) X
    have gX := (show X.heap[w3.heap.size]? = _ ∧ X.heap[w3.heap.size + 1]? = _ from by rw [hX]; exact two_at _ _ _ _ _).1
    have zX : w3.heap.size + 2 ≤ X.heap.size := by rw [hX]; simp
    rw [hX] at hc4
    have zE : ((w3.alloc (.cells #[.slice al l.length cl] 34)).alloc (.cells #[.int .i64 0, .slice none 0 0, .slice none 0 0] 39)).heap.size = w3.heap.size + 1 + 1 := by simp
    rw [zE] at hc4
    have HT4 := (unhide hTk) W4 _ _ _ hrow4 (by omega)
    rw [hX, zE] at HT4
    have hT4 := hide HT4
    have BW4 := bw3.trans ((bX.trans (b4.mono bX.size)).mono bw3.size)
    have g4 := (b4.block w3.heap.size (by omega)).trans gX
    have HG4 := hide (And.intro g4 (bX.trans (b4.mono bX.size)))
    clear HT4 hrow4 hX gX g4 b4 bX
    go_wp2_with fail
    rw [most_lim]
    refine (unhide hT4).mono ?_
    rintro e5 w5 ⟨p, cp, rfl, hp1, hp2, hrows, b5⟩
    have hDp := hide (deepest_ok p (toks (mem.bytesZ s)).length cp (toks (mem.bytesZ s)) (mostS d) w5 rfl (by omega) (by unfold mostS; omega) hp2 hrows)
    have hM2 : mostS d ≤ 200 := by unfold mostS; omega
    have hdb := dps_bd (mostS d) (toks (mem.bytesZ s)) (toks (mem.bytesZ s)).length
    clear hrows hT4 hTk hc4 zE
    go_wp2_with fail
    obtain ⟨q, hq⟩ : ∃ q, q = dps (mostS d) (toks (mem.bytesZ s)) (toks (mem.bytesZ s)).length := ⟨_, rfl⟩
    rw [← hq] at hDp HDD hdb
    clear hq
    obtain ⟨oo, mm, ax, ay⟩ := q
    simp only at hDp HDD hdb
    refine (unhide hDp).mono ?_
    rintro e6 w6 ⟨rfl, b6⟩
    clear hDp
    obtain ⟨Y, hY⟩ : ∃ Y, Y = w6.alloc (.cells #[.int .i64 ax, .int .i64 ay] 28) := ⟨_, rfl⟩
    have bY : Below w6.heap.size w6 Y := by rw [hY]; exact (Below.refl _ _).alloc (Nat.le_refl _) _
    have gY : Y.heap[w6.heap.size]? = some (.cells #[.int .i64 ax, .int .i64 ay] 28 (0, 0)) := by rw [hY]; exact heap_alloc_new _ _
    have zY : Y.heap.size = w6.heap.size + 1 := by rw [hY]; simp
    obtain ⟨cap7, W7, hc7, hrow7, b7⟩ := (unhide hcv) Y
    rw [zY] at hc7 hrow7
    have hP7 := hide ((unhide hPb) W7 _ _ _ hrow7 (by omega))
    rw [hY] at hc7
    have b47 : Below W4.heap.size W4 W7 := b5.trans ((b6.trans ((bY.trans (b7.mono bY.size)).mono b6.size)).mono b5.size)
    have g7 := (b7.block w6.heap.size (by omega)).trans gY
    have HG7 := hide (And.intro g7 b47)
    have z7 := b7.size
    clear hrow7 hPb hcv b7 bY b6 b5 gY g7 b47
    go_wp2_with fail
    refine (unhide hP7).mono ?_
    rintro e8 w8 ⟨sl8, fs8, rfl, hpp8, b8⟩
    have hpp9 : ParPost (docG (mem.bytesZ s) d) W7.heap.size w8 sl8 fs8 := hpp8
    have z8 := b8.size
    clear hpp8 hP7 hc7
    unfold ParPost at hpp9
    have b48 : Below W4.heap.size W4 w8 := (unhide HG7).2.trans (b8.mono (unhide HG7).2.size)
    have z48 := b48.size
    have z4 := (unhide HG4).2.size
    have b38 : Below w3.heap.size w3 w8 := (unhide HG4).2.trans (b48.mono (unhide HG4).2.size)
    have lt4 : w3.heap.size < W4.heap.size := (Array.getElem?_eq_some_iff.1 (unhide HG4).1).1
    have gD := (b48.block w3.heap.size lt4).trans (unhide HG4).1
    have lt7 : w6.heap.size < W7.heap.size := (Array.getElem?_eq_some_iff.1 (unhide HG7).1).1
    have gA := (b8.block w6.heap.size lt7).trans (unhide HG7).1
    have bW8 := BW4.trans (b48.mono BW4.size)
    rcases unhide HDD with ⟨hmm, hm0, hr8⟩ | ⟨hmm, hr8, hk8, ht8⟩
    · rw [hr8] at hpp9
      obtain ⟨⟨G8, hg8⟩, rfl⟩ := hpp9
      obtain ⟨al8, cl8, F8, rfl, hls8, hF8, hc81, hc82⟩ := doc_ls hg8
      have hm1 : ¬ ((mostS d : Int) < mm) := by omega
      have hm3 : ((0 : Int) < mm) := by omega
      clear hg8 hr8
      obtain ⟨Z, hZ⟩ : ∃ Z, Z = (w8.alloc (.cells #[.slice al8 l.length cl8] 34)).alloc (.cells #[.int .i64 0, .slice none 0 0, .slice none 0 0] 39) := ⟨_, rfl⟩
      have bZ : Below w8.heap.size w8 Z := by rw [hZ]; exact two_alloc _ _ _
      have gZ := (show Z.heap[w8.heap.size]? = _ ∧ Z.heap[w8.heap.size + 1]? = _ from by rw [hZ]; exact two_at _ _ _ _ _)
      have zZ : w8.heap.size + 2 ≤ Z.heap.size := by rw [hZ]; simp
      have l8 : w3.heap.size < w8.heap.size := (Array.getElem?_eq_some_iff.1 gD).1
      have c1 : ∀ o o', ((w8.alloc o).alloc o').cell? ⟨w3.heap.size, 0, none⟩ = some (.slice al l.length cl) := fun o o' => ((two_alloc w8 o o').cell (p := ⟨w3.heap.size, 0, none⟩) l8).trans ((dt.cell_cells gD 0).trans rfl)
      have b3Z := b38.trans (bZ.mono b38.size)
      have hSD := hide (sdoc_ok true l l (defs_t _ _ l l (unhide HRF)))
      have HL1 := hide ((unhide HLS).1.below (unhide HLS).2.1 b3Z)
      have HL2 := hide (hls8.below hF8 bZ)
      have HF1 := hide (fun b hb => Nat.lt_of_lt_of_le ((unhide HLS).2.1 b hb) b3Z.size)
      have HF2 := hide (fun b hb => Nat.lt_of_lt_of_le (hF8 b hb) bZ.size)
      have HCC := hide (And.intro (unhide HLS).2.2 (And.intro hc81 hc82))
      have BZ := hide (bW8.trans (bZ.mono bW8.size))
      clear hls8 hF8 hc81 hc82 b3Z gZ gD gA b8 b48 b38 bW8 HLS HRF HDD
      go_wp2_with fail
      rw [← hZ]
      refine ((unhide hSD) Z al al8 cl cl8 F F8 (unhide HL1) (unhide HL2) (unhide HF1) (unhide HF2) (unhide HCC).1.1 (unhide HCC).2.1 (unhide HCC).1.2 (unhide HCC).2.2).mono ?_
      rintro e9 w9 ⟨rfl, b9⟩
      clear hSD c1
      go_wp2_with fail
      go_ret
      exact ⟨rfl, (unhide BZ).trans (b9.mono (unhide BZ).size)⟩
    · rw [hr8] at hpp9
      obtain ⟨rfl, hfl⟩ := hpp9
      unfold FltAt at hfl
      rw [hk8] at hfl
      rw [if_neg (by decide)] at hfl
      obtain ⟨b, y1, y2, rfl, y4, y5⟩ := hfl
      have ht8' : ax = (docG (mem.bytesZ s) d).2.tok.ln ∧ ay = (docG (mem.bytesZ s) d).2.tok.co := by simpa using ht8
      rw [← ht8'.1] at y4
      rw [← ht8'.2] at y5
      have l8 : w6.heap.size < w8.heap.size := (Array.getElem?_eq_some_iff.1 gA).1
      have c1 : ∀ o o', ((w8.alloc o).alloc o').cell? ⟨w6.heap.size, 0, none⟩ = some (.int .i64 ax) := fun o o' => ((two_alloc w8 o o').cell (p := ⟨w6.heap.size, 0, none⟩) l8).trans ((dt.cell_cells gA 0).trans rfl)
      have c2 : ∀ o o', ((w8.alloc o).alloc o').cell? ⟨w6.heap.size, 1, none⟩ = some (.int .i64 ay) := fun o o' => ((two_alloc w8 o o').cell (p := ⟨w6.heap.size, 1, none⟩) l8).trans ((dt.cell_cells gA 1).trans rfl)
      have hFa := hide (fun o o' => fails_ok 71 b ax ay ((w8.alloc o).alloc o') (((two_alloc w8 o o').cell (p := ⟨b, 0, none⟩) y2).trans y4) (((two_alloc w8 o o').cell (p := ⟨b, 1, none⟩) y2).trans y5) (Nat.lt_of_lt_of_le y2 (two_alloc w8 o o').size))
      have HBW := hide (fun o o' => bW8.trans ((two_alloc w8 o o').mono bW8.size))
      have hm1 : ((mostS d : Int) < mm) := hmm
      clear gD gA b8 b48 b38 bW8 HLS HRF HDD hr8 hk8 ht8 ht8' y1 y2 y4 y5 hmm
      go_wp2_with fail
      refine ((unhide hFa) _ _).mono ?_
      rintro e9 w9 ⟨rfl, b9⟩
      clear hFa c1 c2
      go_wp2_with fail
      go_ret
      exact ⟨rfl, ((unhide HBW) _ _).trans (b9.mono ((unhide HBW) _ _).size)⟩
end Go.Proofs.YtcebeajjpcbgcaaGreat.cu
