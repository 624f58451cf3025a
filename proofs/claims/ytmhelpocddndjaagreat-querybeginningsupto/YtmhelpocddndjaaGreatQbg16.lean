import Derived.Test.YtmhelpocddndjaaGreatQbg15
import Derived.Lib.SlBytesConst
import Derived.Test.YtmhelpocddndjaaGreatQbg3
import Derived.Test.YtmhelpocddndjaaGreatQbg12
namespace Go.Proofs.YtmhelpocddndjaaGreat.cu
open Go.ChangeShapes Go.WideShapes Go.ChangeAt Go.RowKit
open ints (hide unhide)
open dt (Dt Kp RowAt Ow Grow OwIn)
open mem (Row)
open lx (toks chs cln)
set_option linter.unusedVariables false
set_option linter.unusedSimpArgs false
theorem conv_bytes9 (s : ByteArray) (w : World) : ∃ cap W2, (convert 9 33 (.string s)).run Tryz.prog w = .ok (.slice (some ⟨w.heap.size, 0, none⟩) s.size cap) W2 ∧
    Row .u8 W2 (some ⟨w.heap.size, 0, none⟩) s.size cap (mem.bytesZ s) ∧ Below w.heap.size w W2 := by
  have h := run_bytes_of_string (P := Tryz.prog) w 9 33 5 s Tryz.underlying9 Tryz.underlying33 Tryz.underlying5
  refine ⟨_, _, h, ⟨mem.bytesZ_len s, grownCap_ge _ _ _ _, (fun e => by cases e), .inr ⟨w.heap.size, 0, rfl, by simp, fun i hi => ?_⟩⟩, (Below.refl _ _).drew.alloc (Nat.le_refl _) _⟩
  have e : (w.drew.alloc (.cells (bytesRow s (grownCap w s.size 0 5)) 5 ((bytesRow s (grownCap w s.size 0 5)).size, (bytesRow s (grownCap w s.size 0 5)).size + 1))).cell? ⟨w.drew.heap.size, 0 + i, none⟩ = (bytesRow s (grownCap w s.size 0 5))[0 + i]? := World.cell?_alloc_mark _ _ _ _ _
  refine e.trans ?_
  have hi' : i < s.data.size := hi
  unfold bytesRow mem.bytesZ
  rw [Nat.zero_add, Array.getElem?_append_left (by simpa using hi')]
  have e2 : (s.data.toList.map fun b => (b.toNat : Int)).getD i 0 = ((s.data[i]'hi').toNat : Int) := by simp [List.getD, Array.getElem?_eq_getElem hi']
  rw [e2, Array.getElem?_map, Array.getElem?_eq_getElem hi']
  rfl
def src1 : ByteArray := ⟨#[113, 117, 101, 114, 121, 32, 81, 40, 36, 118, 58, 91, 73, 110, 116, 33, 93, 61, 49, 41, 123, 98, 58, 97, 40, 120, 58, 36, 118, 41, 125]⟩
def src2 : ByteArray := ⟨#[123, 97, 125, 125]⟩
def nQ : ByteArray := ⟨#[81]⟩
def nv : ByteArray := ⟨#[118]⟩
def nInt : ByteArray := ⟨#[73, 110, 116]⟩
def nW : ByteArray := ⟨#[33, 93]⟩
def n1 : ByteArray := ⟨#[49]⟩
def nb : ByteArray := ⟨#[98]⟩
def na : ByteArray := ⟨#[97]⟩
def nx : ByteArray := ⟨#[120]⟩
theorem doc1 : (docG (mem.bytesZ src1) 3).1 = some [defD 1 nQ em false [varD nv nInt nW true (litD 2 n1 false .nil .nil 1 19) [] 1 9] [] [selD 1 nb na em [fldD nx (litD 1 nv false .nil .nil 1 28) 1 26] [] [] 1 22] 1 1] := by kernel_rfl
theorem doc2 : (docG (mem.bytesZ src2) 3).1 = none := by kernel_rfl
theorem doc2k : (docG (mem.bytesZ src2) 3).2.kd = 70 ∧ (docG (mem.bytesZ src2) 3).2.tok.ln = 1 ∧ (docG (mem.bytesZ src2) 3).2.tok.co = 4 := by refine ⟨?_, ?_, ?_⟩ <;> kernel_rfl
theorem val_row {w : World} {v : Value} {r : Dt} {cs : List Value} {F : List Nat} (h : Ow w (.val v r) cs F) : ∃ ds, cs = v :: ds ∧ Ow w r ds F := by
  unfold Ow at h
  obtain ⟨ds, h1, _, h2⟩ := h
  exact ⟨ds, h1, h2⟩
theorem lst_row {w : World} {k : Nat} {e r : Dt} {cs : List Value} {F : List Nat} (h : Ow w (.lst k (Dt.of [e]) r) cs F) : ∃ p c ds cs' G F2, cs = .slice (some ⟨p, 0, none⟩) 1 c :: ds ∧ RowAt w p 0 cs' ∧ Ow w e cs' G ∧ Ow w r ds F2 := by
  unfold Ow at h
  obtain ⟨a, n, c, ds, F1, F2, rfl, _, _, _, h4, h5, rfl⟩ := h
  rcases h4 with ⟨_, h4, _⟩ | ⟨p, G, rfl, rfl, h4⟩
  · exact absurd h4 (by unfold Dt.of; intro e; cases e)
  · unfold Dt.of OwIn at h4
    obtain ⟨m, cs', G1, G2, rfl, h6, _, h7, h8, rfl⟩ := h4
    unfold Dt.of OwIn at h8
    obtain ⟨rfl, _⟩ := h8
    exact ⟨p, c, ds, cs', G1, F2, rfl, h6, h7, h5⟩
theorem lst_nil {w : World} {k : Nat} {r : Dt} {cs : List Value} {F : List Nat} (h : Ow w (.lst k (Dt.of []) r) cs F) : ∃ a c ds F2, cs = .slice a 0 c :: ds ∧ Ow w r ds F2 := by
  unfold Ow at h
  obtain ⟨a, n, c, ds, F1, F2, rfl, _, _, _, h4, h5, rfl⟩ := h
  rcases h4 with ⟨_, _, rfl, _⟩ | ⟨p, G, rfl, rfl, h4⟩
  · exact ⟨a, c, ds, F2, rfl, h5⟩
  · unfold Dt.of OwIn at h4
    obtain ⟨rfl, _⟩ := h4
    exact ⟨_, c, ds, F2, rfl, h5⟩
theorem one_row {w : World} {k : Nat} {d : Dt} {lo hi : Nat} {a : Option Addr} {n c : Nat} {F : List Nat} (h : Sh w k [d] lo hi a n c F) : ∃ p cs G, a = some ⟨p, 0, none⟩ ∧ n = 1 ∧ RowAt w p 0 cs ∧ Ow w d cs G := by
  rcases h.at_ with ⟨_, h4, _⟩ | ⟨p, G, rfl, rfl, h4⟩
  · exact absurd h4 (by unfold Dt.of; intro e; cases e)
  · unfold Dt.of OwIn at h4
    obtain ⟨m, cs', G1, G2, h5, h6, _, h7, h8, rfl⟩ := h4
    exact ⟨p, cs', G1, rfl, h.len, h6, h7⟩
end Go.Proofs.YtmhelpocddndjaaGreat.cu
namespace Go.Proofs.YtmhelpocddndjaaGreat.cu
open Go.ChangeShapes Go.WideShapes Go.ChangeAt Go.RowKit
open ints (hide unhide)
open dt (Dt Kp RowAt Ow Grow OwIn)
open mem (Row)
open lx (toks chs cln)
set_option linter.unusedVariables false
set_option linter.unusedSimpArgs false
/-- what the first fixed document reads as, in memory -/
theorem doc1_cells {w : World} {lo : Nat} {sl : Value} {G : List Nat} (h : Grow 53 9 w lo [defD 1 nQ em false [varD nv nInt nW true (litD 2 n1 false .nil .nil 1 19) [] 1 9] [] [selD 1 nb na em [fldD nx (litD 1 nv false .nil .nil 1 28) 1 26] [] [] 1 22] 1 1] sl G) :
    ∃ p c pv cv ps cs', sl = .slice (some ⟨p, 0, none⟩) 1 c ∧ p < w.heap.size ∧ pv < w.heap.size ∧ ps < w.heap.size ∧ w.cell? ⟨p, 1, none⟩ = some (.string nQ) ∧ w.cell? ⟨p, 3, none⟩ = some (.bool false) ∧ w.cell? ⟨p, 4, none⟩ = some (.slice (some ⟨pv, 0, none⟩) 1 cv) ∧ w.cell? ⟨p, 6, none⟩ = some (.slice (some ⟨ps, 0, none⟩) 1 cs') ∧ w.cell? ⟨pv, 2, none⟩ = some (.string nW) ∧ w.cell? ⟨ps, 1, none⟩ = some (.string nb) := by
  obtain ⟨a, n, c, F, rfl, hs⟩ := Sh.of h
  obtain ⟨p, cs, G1, rfl, rfl, hr, how⟩ := one_row hs
  unfold defD at how
  obtain ⟨d1, rfl, w1⟩ := val_row how
  obtain ⟨d2, rfl, w2⟩ := val_row w1
  obtain ⟨d3, rfl, w3⟩ := val_row w2
  obtain ⟨d4, rfl, w4⟩ := val_row w3
  obtain ⟨pv, cv, d5, csv, Gv, Fv, rfl, hrv, hov, w5⟩ := lst_row w4
  obtain ⟨a2, c2, d6, F2, rfl, w6⟩ := lst_nil w5
  obtain ⟨ps, cps, d7, css, Gs, Fs, rfl, hrs, hos, w7⟩ := lst_row w6
  unfold varD at hov
  obtain ⟨v1, rfl, y1⟩ := val_row hov
  obtain ⟨v2', rfl, y2⟩ := val_row y1
  obtain ⟨v3, rfl, y3⟩ := val_row y2
  unfold selD at hos
  obtain ⟨q1, rfl, z1⟩ := val_row hos
  obtain ⟨q2, rfl, z2⟩ := val_row z1
  have e1 := hr 1 _ rfl
  have e3 := hr 3 _ rfl
  have e4 := hr 4 _ rfl
  have e6 := hr 6 _ rfl
  have v2 := hrv 2 _ rfl
  have s1 := hrs 1 _ rfl
  simp only [Nat.zero_add] at e1 e3 e4 e6 v2 s1
  exact ⟨p, c, pv, cv, ps, cps, rfl, World.block_lt_of_cell? w _ e1, World.block_lt_of_cell? w _ v2, World.block_lt_of_cell? w _ s1, e1, e3, e4, e6, v2, s1⟩
theorem row_new9 (W : World) (zs : List Int) (t : TypeId) (fr : Nat × Nat) : Row .u8 (W.alloc (.cells (zs.map (Value.int .u8)).toArray t fr)) (some ⟨W.heap.size, 0, none⟩) zs.length zs.length zs := by
  refine ⟨rfl, Nat.le_refl _, (fun e => by cases e), .inr ⟨W.heap.size, 0, rfl, by simp, fun i hi => ?_⟩⟩
  have e : (W.alloc (.cells (zs.map (Value.int .u8)).toArray t fr)).cell? ⟨W.heap.size, 0 + i, none⟩ = (zs.map (Value.int .u8)).toArray[0 + i]? := World.cell?_alloc_mark _ _ _ _ _
  rw [e]
  simp [List.getD, hi]
theorem parse1_ok (W : World) (N : Nat) (hN : N = W.heap.size) : Calls Tryz.prog 6 #[.slice (some ⟨N, 0, none⟩) 31 31, .int .i64 3] (W.alloc (.cells #[Value.int .u8 113, Value.int .u8 117, Value.int .u8 101, Value.int .u8 114, Value.int .u8 121, Value.int .u8 32, Value.int .u8 81, Value.int .u8 40, Value.int .u8 36, Value.int .u8 118, Value.int .u8 58, Value.int .u8 91, Value.int .u8 73, Value.int .u8 110, Value.int .u8 116, Value.int .u8 33, Value.int .u8 93, Value.int .u8 61, Value.int .u8 49, Value.int .u8 41, Value.int .u8 123, Value.int .u8 98, Value.int .u8 58, Value.int .u8 97, Value.int .u8 40, Value.int .u8 120, Value.int .u8 58, Value.int .u8 36, Value.int .u8 118, Value.int .u8 41, Value.int .u8 125] 5 (31, 32))) fun e w' => ∃ p c pv cv ps cs', e = .returned (.tuple #[.agg #[.slice (some ⟨p, 0, none⟩) 1 c], .agg #[.int .i64 0, .slice none 0 0, .slice none 0 0]]) ∧ p < w'.heap.size ∧ pv < w'.heap.size ∧ ps < w'.heap.size ∧ w'.cell? ⟨p, 1, none⟩ = some (.string nQ) ∧ w'.cell? ⟨p, 3, none⟩ = some (.bool false) ∧ w'.cell? ⟨p, 4, none⟩ = some (.slice (some ⟨pv, 0, none⟩) 1 cv) ∧ w'.cell? ⟨p, 6, none⟩ = some (.slice (some ⟨ps, 0, none⟩) 1 cs') ∧ w'.cell? ⟨pv, 2, none⟩ = some (.string nW) ∧ w'.cell? ⟨ps, 1, none⟩ = some (.string nb) ∧ Below W.heap.size W w' := by
  subst hN
  have hb : Below W.heap.size W (W.alloc (.cells #[Value.int .u8 113, Value.int .u8 117, Value.int .u8 101, Value.int .u8 114, Value.int .u8 121, Value.int .u8 32, Value.int .u8 81, Value.int .u8 40, Value.int .u8 36, Value.int .u8 118, Value.int .u8 58, Value.int .u8 91, Value.int .u8 73, Value.int .u8 110, Value.int .u8 116, Value.int .u8 33, Value.int .u8 93, Value.int .u8 61, Value.int .u8 49, Value.int .u8 41, Value.int .u8 123, Value.int .u8 98, Value.int .u8 58, Value.int .u8 97, Value.int .u8 40, Value.int .u8 120, Value.int .u8 58, Value.int .u8 36, Value.int .u8 118, Value.int .u8 41, Value.int .u8 125] 5 (31, 32))) := (Below.refl _ _).alloc (Nat.le_refl _) _
  refine (parse_ok (some ⟨W.heap.size, 0, none⟩) 31 31 (mem.bytesZ src1) 3 _ (row_new9 W (mem.bytesZ src1) 5 (31, 32)) (by decide) (mem.bytesZ_byt _) (by rfl)).mono ?_
  rintro e w2 ⟨sl, fs, rfl, hpp, b2⟩
  have hd : docS (newG (mem.bytesZ src1) 3) = docG (mem.bytesZ src1) 3 := rfl
  rw [hd] at hpp
  unfold ParPost at hpp
  rw [doc1] at hpp
  obtain ⟨⟨G, hgr⟩, rfl⟩ := hpp
  obtain ⟨p, c, pv, cv, ps, cps, rfl, l1, l2, l3, q1, q3, q4, q6, qv, qs⟩ := doc1_cells hgr
  exact ⟨p, c, pv, cv, ps, cps, rfl, l1, l2, l3, q1, q3, q4, q6, qv, qs, hb.trans (b2.mono hb.size)⟩
theorem parse2_ok (W : World) (N : Nat) (hN : N = W.heap.size) : Calls Tryz.prog 6 #[.slice (some ⟨N, 0, none⟩) 4 4, .int .i64 3] (W.alloc (.cells #[Value.int .u8 123, Value.int .u8 97, Value.int .u8 125, Value.int .u8 125] 5 (4, 5))) fun e w' => ∃ b, e = .returned (.tuple #[.agg #[.slice none 0 0], .agg #[.int .i64 70, .slice (some ⟨b, 0, none⟩) 1 1, .slice none 0 0]]) ∧ W.heap.size ≤ b ∧ b < w'.heap.size ∧ w'.cell? ⟨b, 0, none⟩ = some (.int .i64 1) ∧ w'.cell? ⟨b, 1, none⟩ = some (.int .i64 4) ∧ Below W.heap.size W w' := by
  subst hN
  have hb : Below W.heap.size W (W.alloc (.cells #[Value.int .u8 123, Value.int .u8 97, Value.int .u8 125, Value.int .u8 125] 5 (4, 5))) := (Below.refl _ _).alloc (Nat.le_refl _) _
  refine (parse_ok (some ⟨W.heap.size, 0, none⟩) 4 4 (mem.bytesZ src2) 3 _ (row_new9 W (mem.bytesZ src2) 5 (4, 5)) (by decide) (mem.bytesZ_byt _) (by rfl)).mono ?_
  rintro e w2 ⟨sl, fs, rfl, hpp, b2⟩
  have hd : docS (newG (mem.bytesZ src2) 3) = docG (mem.bytesZ src2) 3 := rfl
  rw [hd] at hpp
  unfold ParPost at hpp
  rw [doc2] at hpp
  obtain ⟨rfl, hfl⟩ := hpp
  obtain ⟨e1, e2, e3⟩ := doc2k
  unfold FltAt at hfl
  rw [if_neg (by rw [e1]; decide), e1, e2, e3] at hfl
  obtain ⟨b, h1, h2, rfl, h4, h5⟩ := hfl
  exact ⟨b, rfl, Nat.le_trans hb.size h1, h2, h4, h5, hb.trans (b2.mono hb.size)⟩
set_option maxHeartbeats 4000000 in
set_option maxRecDepth 10000 in
theorem parses_ok (w : World) : Calls Tryz.prog 5 #[] w fun e w' => e = .returned (.bool true) ∧ Below w.heap.size w w' := by
  have kc := fun (w : World) (C : Array Value) (n c : Nat) => Lib.run_convert_bytes_const (P := Tryz.prog) w 33 5 C n c Tryz.underlying33 Tryz.underlying5
  go_enter Tryz.func5, Tryz.ntmps5
  go_wp2_with fail
  refine (parse1_ok w w.heap.size rfl).mono ?_
  rintro e w2 ⟨p, c, pv, cv, ps, cps, rfl, l1, l2, l3, q1, q3, q4, q6, qv, qs, bw2⟩
  obtain ⟨X, hX⟩ : ∃ X, X = (w2.alloc (.cells #[.slice (some ⟨p, 0, none⟩) 1 c] 25)).alloc (.cells #[.int .i64 0, .slice none 0 0, .slice none 0 0] 30) := ⟨_, rfl⟩
  have bX : Below w2.heap.size w2 X := by rw [hX]; exact two_alloc _ _ _
  have hat := (show X.heap[w2.heap.size]? = _ ∧ X.heap[w2.heap.size + 1]? = _ from by rw [hX]; exact two_at _ _ _ _ _)
  have zX : w2.heap.size + 2 ≤ X.heap.size := by rw [hX]; simp
  have bw2s := bw2.size
  have BW := bw2.trans (bX.mono bw2.size)
  have T := fun o o' (b i : Nat) (v : Value) (hb : b < w2.heap.size) (h : w2.cell? ⟨b, i, none⟩ = some v) => ((two_alloc w2 o o').cell (p := ⟨b, i, none⟩) hb).trans h
  have r1 := fun o o' => T o o' _ _ _ l1 q1
  have r3 := fun o o' => T o o' _ _ _ l1 q3
  have r4 := fun o o' => T o o' _ _ _ l1 q4
  have r6 := fun o o' => T o o' _ _ _ l1 q6
  have rv := fun o o' => T o o' _ _ _ l2 qv
  have rs := fun o o' => T o o' _ _ _ l3 qs
  unfold nQ at r1
  unfold nW at rv
  unfold nb at rs
  have HX := hide (And.intro hX (And.intro bX (And.intro hat (And.intro zX BW))))
  have kc1 := fun (o o' : Obj) (C : Array Value) (n c : Nat) => by simpa using kc ((w2.alloc o).alloc o') C n c
  clear T q1 q3 q4 q6 qv qs bw2 hX bX hat zX BW
  go_wp2_with fail
  obtain ⟨hX, bX, hat, zX, BW⟩ := unhide HX
  have zE : w2.heap.size + 1 + 1 = X.heap.size := by rw [hX]; simp
  rw [← hX]
  refine (parse2_ok X _ zE).mono ?_
  rintro e w4 ⟨b, rfl, lb0, lb, c0, c1, b4⟩
  have hD := (b4.block w2.heap.size (by omega)).trans hat.1
  have hF := (b4.block (w2.heap.size + 1) (by omega)).trans hat.2
  have HT1 := hide (show w4.there w2.heap.size 0 1 from dt.there_cells hD (by simp))
  obtain ⟨W6, e6⟩ : ∃ W6, W6 = w4.setCells w2.heap.size 0 (#[.slice none 0 0] : Array Value).toList := ⟨_, rfl⟩
  have hD6 : W6.heap[w2.heap.size]? = some (.cells #[.slice none 0 0] 25 (0, 0)) := by rw [e6]; exact (dt.setCells_at [.slice none 0 0] 0 w4 _ hD).trans (by kernel_rfl)
  have hF6 : W6.heap[w2.heap.size + 1]? = some (.cells #[.int .i64 0, .slice none 0 0, .slice none 0 0] 30 (0, 0)) := by rw [e6]; exact (dt.heap_setCells w2.heap.size _ (by omega) _ 0 w4).trans hF
  have HT2 := hide (show W6.there (w2.heap.size + 1) 0 3 from dt.there_cells hF6 (by decide))
  obtain ⟨W7, e7⟩ : ∃ W7, W7 = W6.setCells (w2.heap.size + 1) 0 (#[.int .i64 70, .slice (some ⟨b, 0, none⟩) 1 1, .slice none 0 0] : Array Value).toList := ⟨_, rfl⟩
  have hD7 : W7.heap[w2.heap.size]? = some (.cells #[.slice none 0 0] 25 (0, 0)) := by rw [e7]; exact (dt.heap_setCells (w2.heap.size + 1) _ (by omega) _ 0 W6).trans hD6
  have hF7 : W7.heap[w2.heap.size + 1]? = some (.cells #[.int .i64 70, .slice (some ⟨b, 0, none⟩) 1 1, .slice none 0 0] 30 (0, 0)) := by rw [e7]; exact (dt.setCells_at [.int .i64 70, .slice (some ⟨b, 0, none⟩) 1 1, .slice none 0 0] 0 W6 _ hF6).trans (by kernel_rfl)
  have hb7 : W7.heap[b]? = w4.heap[b]? := by rw [e7, e6]; exact (dt.heap_setCells (w2.heap.size + 1) b (by omega) _ 0 _).trans (dt.heap_setCells w2.heap.size b (by omega) _ 0 w4)
  have C0 := (dt.cell_blk hb7 0).trans c0
  have C1 := (dt.cell_blk hb7 1).trans c1
  have z7 : W7.heap.size = w4.heap.size := by rw [e7, e6, dt.size_setCells, dt.size_setCells]
  have BW7 : Below w.heap.size w W7 := by
    rw [e7, e6]
    have h0 := BW.trans (b4.mono BW.size)
    have hw := BW.size
    exact dt.below_setCells _ _ _ _ (dt.below_setCells _ _ _ _ h0 (by have := bw2s; omega)) (by have := bw2s; omega)
  have lb7 : b < W7.heap.size := by omega
  have d0 : W7.cell? ⟨w2.heap.size, 0, none⟩ = some (.slice none 0 0) := (dt.cell_cells hD7 0).trans rfl
  have f0 : W7.cell? ⟨w2.heap.size + 1, 0, none⟩ = some (.int .i64 70) := (dt.cell_cells hF7 0).trans rfl
  have f1 : W7.cell? ⟨w2.heap.size + 1, 1, none⟩ = some (.slice (some ⟨b, 0, none⟩) 1 1) := (dt.cell_cells hF7 1).trans rfl
  have f2 : W7.cell? ⟨w2.heap.size + 1, 2, none⟩ = some (.slice none 0 0) := (dt.cell_cells hF7 2).trans rfl
  have HFa := hide (fails_ok 70 b 1 4 W7 C0 C1 lb7)
  have E6 := hide e6
  have E7 := hide e7
  have HB := hide BW7
  clear hD hF hD6 hF6 hD7 hF7 hb7 C0 C1 z7 BW7 lb7 e6 e7 c0 c1 b4 hat bX BW HX hX zE kc kc1 r1 r3 r4 r6 rv rs zX lb lb0 bw2s
  go_wp2_with (first
    | (refine wpList_store_mid (by rfl) 25 _ _ (by rfl) w2.heap.size 0 #[.slice none 0 0] (by rfl) (by rfl) (unhide HT1) infoDoc (dt.one_cells (cs := [.slice none 0 0]) (by rfl)) ?_; rw [← unhide E6])
    | (refine wpList_store_mid (by rfl) 30 _ _ (by rfl) (w2.heap.size + 1) 0 #[.int .i64 70, .slice (some ⟨b, 0, none⟩) 1 1, .slice none 0 0] (by rfl) (by rfl) (unhide HT2) infoFl (dt.one_cells (cs := [.int .i64 70, .slice (some ⟨b, 0, none⟩) 1 1, .slice none 0 0]) (by rfl)) ?_; rw [← unhide E7]))
  refine (unhide HFa).mono ?_
  rintro e w8 ⟨rfl, b8⟩
  go_wp2_with fail
  go_ret
  exact ⟨rfl, (unhide HB).trans (b8.mono (unhide HB).size)⟩
end Go.Proofs.YtmhelpocddndjaaGreat.cu
namespace Go.Proofs.YtmhelpocddndjaaGreat.cu
open Go.ChangeShapes Go.WideShapes Go.ChangeAt Go.RowKit
open ints (hide unhide)
open mem (Row)
open lx (toks chs cln)
set_option linter.unusedVariables false
set_option linter.unusedSimpArgs false
theorem bytesZ_app9 (a b : ByteArray) : mem.bytesZ (a ++ b) = mem.bytesZ a ++ mem.bytesZ b := by simp [mem.bytesZ]
theorem flat_byt9 : ∀ zs : List Int, zs.all mem.scB = true → mem.Byt (zs.flatMap mem.putB)
  | [], _ => by intro x hx; cases hx
  | c :: zs, h => by
    rw [List.all_cons, Bool.and_eq_true] at h
    intro x hx
    rw [List.flatMap_cons] at hx
    rcases List.mem_append.1 hx with h1 | h1
    · exact mem.putB_byt ((mem.scB_iff c).1 h.1) x h1
    · exact flat_byt9 zs h.2 x h1
theorem up_size (s : ByteArray) (T : Nat) (hs : s.size ≤ 1048576) {S : ByteArray} (hSb : mem.bytesZ S = ((chs (mem.bytesZ s)).take T).flatMap mem.putB) : S.size ≤ 1048576 := by
  rw [← mem.bytesZ_len, hSb]
  have e := (mem.decF_flat (mem.bytesZ s).length (mem.bytesZ s) (mem.bytesZ_byt s)).2.2.2
  have e2 := mem.decZ_le (mem.bytesZ s) (mem.bytesZ_byt s)
  rw [mem.bytesZ_len] at e2
  have e3 : (chs (mem.bytesZ s)).flatMap mem.putB = ((chs (mem.bytesZ s)).take T).flatMap mem.putB ++ ((chs (mem.bytesZ s)).drop T).flatMap mem.putB := by rw [← List.flatMap_append, List.take_append_drop]
  have e4 : ((chs (mem.bytesZ s)).flatMap mem.putB).length = (mem.decZ (mem.bytesZ s)).2 := e
  rw [e3, List.length_append] at e4
  omega
end Go.Proofs.YtmhelpocddndjaaGreat.cu
namespace Go.Proofs.YtmhelpocddndjaaGreat.rgn
set_option linter.unusedVariables false
set_option linter.unusedSimpArgs false
variable {P : Program}
/-- a call of a function of the program, as one operation -/
theorem call_wp {o : Oper} {a : Act} {w : World} {K : Act → World → Prop} {Q : Exit → Act → World → Prop} (f : FuncId) (fn : Func) (args : Array Operand) (tys : Array TypeId) (ho : o.op = .call { callee := .value (.func f), args := args, argTypes := tys })
    (hf : P.funcs[f]? = some fn) (hname : (fn.name == "runtime.NumGoroutine") = false) (hb : fn.body.isNone = false) (vs : Array Value) (hv : args.map a.eval = vs)
    (hc : Calls P f vs w fun e w' => ∃ v, e = .returned v ∧ K (a.put o.dst v) w') : o.wp P a w K Q := by
  have h1 : fn.name ≠ "runtime.NumGoroutine" := by simpa using hname
  have hrun : (execOp a.eval o).run P w = .ok (.enter f vs) w := by
    unfold execOp
    simp only [ho]
    obtain ⟨c, hc'⟩ : ∃ c, fn.body = some c := by cases h : fn.body <;> simp_all
    simp [resolve, hv, Deferred.ofValue, invoke, callFunc, hf, h1, hc', Act.eval]
  unfold Oper.wp
  rw [hrun, Oper.upon_enter]
  refine hc.mono ?_
  rintro e w' ⟨v, rfl, hk⟩
  exact hk
end Go.Proofs.YtmhelpocddndjaaGreat.rgn
namespace Go.Proofs.YtmhelpocddndjaaGreat.cu
open Go.ChangeShapes Go.WideShapes Go.ChangeAt Go.RowKit
open ints (hide unhide)
open dt (Dt Kp RowAt Ow Grow OwIn)
open mem (Row)
open lx (toks chs cln)
set_option linter.unusedVariables false
set_option linter.unusedSimpArgs false
set_option maxHeartbeats 4000000 in
set_option maxRecDepth 4000 in
theorem law_begs (s : ByteArray) (ct : Int) (w : World) (hs : s.size ≤ 1048576) (hct : 0 ≤ ct ∧ ct ≤ 65535) :
    Calls Tryz.prog 4 #[.string s, .int .u16 ct] w fun e w' => e = .returned (.bool true) ∧ Below w.heap.size w w' := by
  have hPs := hide (fun W => parses_ok W)
  have hcv := hide (fun W => conv_bytes9 s W)
  have hPa := hide (fun W a n c (h : Row .u8 W a n c (mem.bytesZ s)) (hn : n ≤ 1073741824) => parse_ok a n c (mem.bytesZ s) 200 W h hn (mem.bytesZ_byt s) (by rfl))
  have hTk := hide (fun W a n c (h : Row .u8 W a n c (mem.bytesZ s)) (hn : n ≤ 1099511627776) => lx.tokensG_ok a n c (mem.bytesZ s) W h hn (mem.bytesZ_byt s))
  have hUp := hide (fun W T hT => upTo9_ok s T W hs hT)
  have hDB := hide (doc_begins (mem.bytesZ s) (mem.bytesZ_byt s) 200)
  have hDN := hide (show (docG (mem.bytesZ s) 200).1 = none → (docG (mem.bytesZ s) 200).2.kd ≠ 0 from docS_faults _ (newG_ok' _ _))
  have htl := toks_len (mem.bytesZ s) (mem.bytesZ_byt s)
  rw [mem.bytesZ_len] at htl
  go_enter Tryz.func4, Tryz.ntmps4
  go_wp2_with fail
  refine ((unhide hPs) _).mono ?_
  rintro e w1 ⟨rfl, b1⟩
  clear hPs
  obtain ⟨cap, W2, hc2, hrow2, b2⟩ := (unhide hcv) w1
  have hP := hide ((unhide hPa) W2 _ _ _ hrow2 (by omega))
  clear hPa hrow2
  go_wp2_with fail
  refine (unhide hP).mono ?_
  rintro e w3 ⟨sl, fs, rfl, hpp, b3⟩
  have bw3 := b1.trans ((b2.trans (b3.mono b2.size)).mono b1.size)
  have hpp2 : ParPost (docG (mem.bytesZ s) 200) W2.heap.size w3 sl fs := hpp
  clear hpp hP hc2 b1 b2 b3
  unfold ParPost at hpp2
  cases hr : (docG (mem.bytesZ s) 200).1 with
  | none =>
    rw [hr] at hpp2
    obtain ⟨rfl, hfl⟩ := hpp2
    have hK0 := (unhide hDN) hr
    unfold FltAt at hfl
    rw [if_neg hK0] at hfl
    obtain ⟨b, y1, y2, rfl, y4, y5⟩ := hfl
    obtain ⟨K, hK⟩ : ∃ K, K = (docG (mem.bytesZ s) 200).2.kd := ⟨_, rfl⟩
    rw [← hK] at hK0 ⊢
    have hKb : (K != 0) = true := by simpa using hK0
    clear hDB hDN hUp hTk hcv hr hK y1 y2 y4 y5
    go_wp2_with fail
    go_ret
    exact ⟨rfl, bw3.trans ((two_alloc _ _ _).mono bw3.size)⟩
  | some l =>
    rw [hr] at hpp2
    obtain ⟨⟨G, hg⟩, rfl⟩ := hpp2
    obtain ⟨al, cl, hsl⟩ := hg.form
    subst hsl
    obtain ⟨hN2, hall⟩ := (unhide hDB) l hr
    clear hg hDB hDN hr
    obtain ⟨X, hX⟩ : ∃ X, X = (w3.alloc (.cells #[.slice al l.length cl] 25)).alloc (.cells #[.int .i64 0, .slice none 0 0, .slice none 0 0] 30) := ⟨_, rfl⟩
    have bX : Below w3.heap.size w3 X := by rw [hX]; exact two_alloc _ _ _
    obtain ⟨cap2, W4, hc4, hrow4, b4⟩ := (unhide hcv) X
    rw [hX] at hc4
    have zE : ((w3.alloc (.cells #[.slice al l.length cl] 25)).alloc (.cells #[.int .i64 0, .slice none 0 0, .slice none 0 0] 30)).heap.size = w3.heap.size + 1 + 1 := by simp
    rw [zE] at hc4
    have HT4 := (unhide hTk) W4 _ _ _ hrow4 (by omega)
    rw [hX, zE] at HT4
    have hT4 := hide HT4
    have BW4 := bw3.trans ((bX.trans (b4.mono bX.size)).mono bw3.size)
    clear HT4 hrow4 hX
    go_wp2_with fail
    refine (unhide hT4).mono ?_
    rintro e5 w5 ⟨p, cp, rfl, hp1, hp2, hrows, b5⟩
    have hlz : ¬ (((toks (mem.bytesZ s)).length : Int) < 2) := by omega
    have j0 : 0 ≤ ct % (((toks (mem.bytesZ s)).length : Int) - 1) := Int.emod_nonneg _ (by omega)
    have j1 : ct % (((toks (mem.bytesZ s)).length : Int) - 1) < ((toks (mem.bytesZ s)).length : Int) - 1 := Int.emod_lt_of_pos _ (by omega)
    have j2 : ct % (((toks (mem.bytesZ s)).length : Int) - 1) < ((toks (mem.bytesZ s)).length : Int) := by omega
    have j3 : ¬ (((toks (mem.bytesZ s)).length : Int) - 1 = 0) := by omega
    have hj : (ct % (((toks (mem.bytesZ s)).length : Int) - 1)).toNat + 1 < (toks (mem.bytesZ s)).length := by omega
    have hget := List.getElem?_eq_getElem (l := toks (mem.bytesZ s)) (i := (ct % (((toks (mem.bytesZ s)).length : Int) - 1)).toNat) (by omega)
    obtain ⟨u, hu⟩ : ∃ u, u = (toks (mem.bytesZ s))[(ct % (((toks (mem.bytesZ s)).length : Int) - 1)).toNat]'(by omega) := ⟨_, rfl⟩
    rw [← hu] at hget
    clear hu
    have hrow7 := hrows _ u hget
    unfold Tk.cells at hrow7
    have m0 : w5.cell? ⟨p, (ct % (((toks (mem.bytesZ s)).length : Int) - 1)).toNat * 7, none⟩ = some (.int .i64 u.k) := hrow7 0 _ rfl
    have m1 : w5.cell? ⟨p, (ct % (((toks (mem.bytesZ s)).length : Int) - 1)).toNat * 7 + 1, none⟩ = some (.int .i64 u.ln) := hrow7 1 _ rfl
    have m2 : w5.cell? ⟨p, (ct % (((toks (mem.bytesZ s)).length : Int) - 1)).toNat * 7 + 2, none⟩ = some (.int .i64 u.co) := hrow7 2 _ rfl
    have m3 : w5.cell? ⟨p, (ct % (((toks (mem.bytesZ s)).length : Int) - 1)).toNat * 7 + 3, none⟩ = some (.int .i64 u.fr) := hrow7 3 _ rfl
    have m4 : w5.cell? ⟨p, (ct % (((toks (mem.bytesZ s)).length : Int) - 1)).toNat * 7 + 4, none⟩ = some (.int .i64 u.to) := hrow7 4 _ rfl
    have m5 : w5.cell? ⟨p, (ct % (((toks (mem.bytesZ s)).length : Int) - 1)).toNat * 7 + 5, none⟩ = some (.string u.tx) := hrow7 5 _ rfl
    have m6 : w5.cell? ⟨p, (ct % (((toks (mem.bytesZ s)).length : Int) - 1)).toNat * 7 + 6, none⟩ = some (.string u.va) := hrow7 6 _ rfl
    obtain ⟨hto, hbe⟩ := hall _ u hget hj
    have HBE := hide hbe
    have BW5 := BW4.trans (b5.mono BW4.size)
    clear hrow7 hrows hbe hall hget hj hT4 hc4 zE b5 b4 bX BW4
    go_wp2_with fail
    have bT := fun o => show Below w5.heap.size w5 (w5.alloc o) from (Below.refl _ _).alloc (Nat.le_refl _) _
    refine ((unhide hUp) _ u.to hto).mono ?_
    rintro e6 w6 ⟨rfl, b6⟩
    have BW6 := BW5.trans (((bT _).trans (b6.mono (bT _).size)).mono BW5.size)
    have hall : ((chs (mem.bytesZ s)).take u.to).all mem.scB = true := by
      rw [List.all_eq_true]
      exact fun x hx => (mem.scB_iff x).2 (lx.chs_sc (mem.bytesZ_byt s) x (List.mem_of_mem_take hx))
    have hSb : mem.bytesZ (mem.encS ((chs (mem.bytesZ s)).take u.to)) = cutZ (chs (mem.bytesZ s)) u.to := by
      unfold mem.encS
      rw [if_pos hall]
      exact mem.bytesZ_str _ (flat_byt9 _ hall)
    have hSs : (mem.encS ((chs (mem.bytesZ s)).take u.to)).size ≤ 1048576 := up_size s u.to hs hSb
    obtain ⟨S, hS⟩ : ∃ S, S = mem.encS ((chs (mem.bytesZ s)).take u.to) := ⟨_, rfl⟩
    obtain ⟨z', hz'⟩ : ∃ z', z' = cutZ (chs (mem.bytesZ s)) u.to := ⟨_, rfl⟩
    rw [← hS] at hSb hSs ⊢
    rw [← hz'] at hSb HBE
    have hcS := hide (fun W => conv_bytes9 S W)
    have hby := mem.bytesZ_byt S
    rw [hSb] at hcS hby
    have hPS := hide (fun W a n c (h : Row .u8 W a n c z') (hn : n ≤ 1073741824) => parse_ok a n c z' 200 W h hn hby (by rfl))
    have hTS := hide (fun W a n c (h : Row .u8 W a n c z') (hn : n ≤ 1099511627776) => lx.tokensG_ok a n c z' W h hn hby)
    have hDS := hide (show (docG z' 200).1 = none → (docG z' 200).2.kd ≠ 0 from docS_faults _ (newG_ok' _ _))
    have htS := toks_len z' hby
    rw [← hSb, mem.bytesZ_len, hSb] at htS
    obtain ⟨cap7, W7, hc7, hrow7, b7⟩ := (unhide hcS) w6
    have hP7 := hide ((unhide hPS) W7 _ _ _ hrow7 (by omega))
    clear hS hz' hall hUp hPS hrow7 m0 m1 m2 m3 m4 m5 m6 hSb hcv hTk bT b6 hto BW5
    go_wp2_with fail
    refine (unhide hP7).mono ?_
    rintro e8 w8 ⟨sl8, fs8, rfl, hpp8, b8⟩
    have BW8 := BW6.trans ((b7.trans (b8.mono b7.size)).mono BW6.size)
    have hpp9 : ParPost (docG z' 200) W7.heap.size w8 sl8 fs8 := hpp8
    clear hpp8 hP7 hc7 b7 b8 BW6
    unfold ParPost at hpp9
    cases hr8 : (docG z' 200).1 with
    | some l8 =>
      rw [hr8] at hpp9
      obtain ⟨⟨G8, hg8⟩, rfl⟩ := hpp9
      obtain ⟨al8, cl8, hsl8⟩ := hg8.form
      subst hsl8
      clear hg8 hr8 hDS hTS hcS HBE
      go_wp2_with fail
      go_ret
      exact ⟨rfl, BW8.trans ((two_alloc _ _ _).mono BW8.size)⟩
    | none =>
      rw [hr8] at hpp9
      obtain ⟨rfl, hfl⟩ := hpp9
      have hK0 := (unhide hDS) hr8
      have hb70 := unhide HBE
      rcases hb70 with hb70 | ⟨hk, hix, e, he, htk⟩
      · exact absurd hb70 hK0
      unfold FltAt at hfl
      rw [if_neg hK0, hk, htk] at hfl
      obtain ⟨b, y1, y2, rfl, y4, y5⟩ := hfl
      obtain ⟨X, hX⟩ : ∃ X, X = (w8.alloc (.cells #[.slice none 0 0] 25)).alloc (.cells #[.int .i64 70, .slice (some ⟨b, 0, none⟩) 1 1, .slice none 0 0] 30) := ⟨_, rfl⟩
      have bX : Below w8.heap.size w8 X := by rw [hX]; exact two_alloc _ _ _
      have gX := (show X.heap[w8.heap.size]? = _ ∧ X.heap[w8.heap.size + 1]? = _ from by rw [hX]; exact two_at _ _ _ _ _).2
      have zX : w8.heap.size + 2 ≤ X.heap.size := by rw [hX]; simp
      obtain ⟨cap9, W9, hc9, hrow9, b9⟩ := (unhide hcS) X
      have zE : ((w8.alloc (.cells #[.slice none 0 0] 25)).alloc (.cells #[.int .i64 70, .slice (some ⟨b, 0, none⟩) 1 1, .slice none 0 0] 30)).heap.size = w8.heap.size + 1 + 1 := by simp
      have HT9 := (unhide hTS) W9 _ _ _ hrow9 (by omega)
      rw [hX, zE] at HT9
      rw [hX, zE] at hc9
      have hT9 := hide HT9
      have s9 := b9.size
      clear HT9 hrow9 HBE hDS hTS hcS hr8 hK0
      obtain ⟨ixx, hixx⟩ : ∃ i, i = (docG z' 200).2.ix := ⟨_, rfl⟩
      rw [← hixx] at hix he
      have bX9 := bX.trans (b9.mono bX.size)
      have g9 := (b9.block (w8.heap.size + 1) (by omega)).trans gX
      have c90 := (bX9.cell (p := ⟨b, 0, none⟩) y2).trans y4
      have c91 := (bX9.cell (p := ⟨b, 1, none⟩) y2).trans y5
      clear hX hk htk hixx
      go_wp2_with fail
      refine (unhide hT9).mono ?_
      rintro e10 w10 ⟨p9, cp9, rfl, hp91, hp92, hrows9, b10⟩
      have hrow7 := hrows9 _ e he
      unfold Tk.cells at hrow7
      have t1 : w10.cell? ⟨p9, ixx * 7 + 1, none⟩ = some (.int .i64 e.ln) := hrow7 1 _ rfl
      have t2 : w10.cell? ⟨p9, ixx * 7 + 2, none⟩ = some (.int .i64 e.co) := hrow7 2 _ rfl
      have lp : p9 < w10.heap.size := World.block_lt_of_cell? w10 _ t1
      have g10 := (b10.block (w8.heap.size + 1) (by omega)).trans g9
      have lG : w8.heap.size + 1 < w10.heap.size := (Array.getElem?_eq_some_iff.1 g10).1
      have G0 : w10.cell? ⟨w8.heap.size + 1, 0, none⟩ = some (.int .i64 70) := (dt.cell_cells g10 0).trans rfl
      have G1 : w10.cell? ⟨w8.heap.size + 1, 1, none⟩ = some (.slice (some ⟨b, 0, none⟩) 1 1) := (dt.cell_cells g10 1).trans rfl
      have G2 : w10.cell? ⟨w8.heap.size + 1, 2, none⟩ = some (.slice none 0 0) := (dt.cell_cells g10 2).trans rfl
      have lb : b < W9.heap.size := World.block_lt_of_cell? W9 _ c90
      have v0 := (b10.cell (p := ⟨b, 0, none⟩) lb).trans c90
      have v1 := (b10.cell (p := ⟨b, 1, none⟩) lb).trans c91
      have lC : b < w10.heap.size := World.block_lt_of_cell? w10 _ v0
      have BZ := hide (BW8.trans ((bX9.trans (b10.mono bX9.size)).mono BW8.size))
      have hlz9 : ¬ (((toks z').length : Int) = 0) := by omega
      have hq1 : (ixx : Int) < ((toks z').length : Int) := by omega
      have hw4 : IntKind.i64.wrap (((toks z').length : Int) - 1) = (ixx : Int) := by rw [IntKind.wrap_i64]; omega
      have hq0 : (0 : Int) ≤ (ixx : Int) := by omega
      clear hrow7 hrows9 g9 g10 gX c90 c91 b10 b9 bX bX9 hT9 hc9
      go_wp2_with fail
      have hS0 : Below w10.heap.size w10 { w10 with drawn := w10.drawn + 1 } := (Below.refl _ _).drew
      refine wp_region_noPanic ?_
      refine wp_region_held (S := fun w' => Below w10.heap.size w10 w') mixed ?_
      refine wpAnyH_take (i := 0) (v := ?v1) rfl (by kernel_rfl) (by kernel_rfl) (by kernel_rfl) (fun _ _ _ h => h) (Or.inl ⟨by rfl, ?hy1⟩) hS0 ?_
      case hy1 => (intro w' hw'; have q0 := (hw'.cell (p := ⟨w8.heap.size + 1, 0, none⟩) lG).trans G0; have q1 := (hw'.cell (p := ⟨w8.heap.size + 1, 1, none⟩) lG).trans G1; have q2 := (hw'.cell (p := ⟨w8.heap.size + 1, 2, none⟩) lG).trans G2; go_simp; try with_reducible rfl)
      simp only [List.getElem_toArray, List.getElem_cons_zero, List.getElem_cons_succ, Act.put, List.setIfInBounds_toArray, List.set_cons_zero, List.set_cons_succ]
      refine wpAnyH_take (i := 1) (v := ?v2) rfl (by kernel_rfl) (by kernel_rfl) (by kernel_rfl) (fun _ _ _ h => h) (Or.inl ⟨by rfl, ?hy2⟩) hS0 ?_
      case hy2 => (intro w' hw'; skip; go_simp; try with_reducible rfl)
      simp only [List.getElem_toArray, List.getElem_cons_zero, List.getElem_cons_succ, Act.put, List.setIfInBounds_toArray, List.set_cons_zero, List.set_cons_succ]
      refine wpAnyH_take (i := 2) (v := ?v3) rfl (by kernel_rfl) (by kernel_rfl) (by kernel_rfl) (fun _ _ _ h => h) (Or.inl ⟨by rfl, ?hy3⟩) hS0 ?_
      case hy3 => (intro w' hw'; skip; go_simp; try with_reducible rfl)
      simp only [List.getElem_toArray, List.getElem_cons_zero, List.getElem_cons_succ, Act.put, List.setIfInBounds_toArray, List.set_cons_zero, List.set_cons_succ]
      refine wpAnyH_take (i := 3) (v := ?v4) rfl (by kernel_rfl) (by kernel_rfl) (by kernel_rfl) (fun _ _ _ h => h) (Or.inl ⟨by rfl, ?hy4⟩) hS0 ?_
      case hy4 => (intro w' hw'; skip; go_simp; try with_reducible rfl)
      simp only [List.getElem_toArray, List.getElem_cons_zero, List.getElem_cons_succ, Act.put, List.setIfInBounds_toArray, List.set_cons_zero, List.set_cons_succ]
      refine wpAnyH_take (i := 4) (v := ?v5) rfl (by kernel_rfl) (by kernel_rfl) (by kernel_rfl) (fun _ _ _ h => h) (Or.inl ⟨by rfl, ?hy5⟩) hS0 ?_
      case hy5 => (intro w' hw'; have hh := hw4; go_simp; try with_reducible rfl)
      simp only [List.getElem_toArray, List.getElem_cons_zero, List.getElem_cons_succ, Act.put, List.setIfInBounds_toArray, List.set_cons_zero, List.set_cons_succ]
      refine wpAnyH_take (i := 5) (v := ?v6) rfl (by kernel_rfl) (by kernel_rfl) (by kernel_rfl) (fun _ _ _ h => h) (Or.inl ⟨by rfl, ?hy6⟩) hS0 ?_
      case hy6 => (intro w' hw'; have hh := hq1; go_simp; try with_reducible rfl)
      simp only [List.getElem_toArray, List.getElem_cons_zero, List.getElem_cons_succ, Act.put, List.setIfInBounds_toArray, List.set_cons_zero, List.set_cons_succ]
      refine wpAnyH_take (i := 6) (v := ?v7) rfl (by kernel_rfl) (by kernel_rfl) (by kernel_rfl) (fun _ _ _ h => h) (Or.inl ⟨by rfl, ?hy7⟩) hS0 ?_
      case hy7 => (intro w' hw'; skip; go_simp; try with_reducible rfl)
      simp only [List.getElem_toArray, List.getElem_cons_zero, List.getElem_cons_succ, Act.put, List.setIfInBounds_toArray, List.set_cons_zero, List.set_cons_succ]
      refine wpAnyH_take (i := 7) (v := ?v8) rfl (by kernel_rfl) (by kernel_rfl) (by kernel_rfl) (fun _ _ _ h => h) (Or.inl ⟨by rfl, ?hy8⟩) hS0 ?_
      case hy8 => (intro w' hw'; have q0 := (hw'.cell (p := ⟨p9, ixx * 7 + 1, none⟩) lp).trans t1; have q1 := (hw'.cell (p := ⟨p9, ixx * 7 + 2, none⟩) lp).trans t2; go_simp; try with_reducible rfl)
      simp only [List.getElem_toArray, List.getElem_cons_zero, List.getElem_cons_succ, Act.put, List.setIfInBounds_toArray, List.set_cons_zero, List.set_cons_succ]
      refine rgn.one (i := 8) _ rfl (by kernel_rfl) (by rfl) ?_
      try simp only [List.getElem_toArray, List.getElem_cons_zero, List.getElem_cons_succ, Act.put, List.setIfInBounds_toArray, List.set_cons_zero, List.set_cons_succ]
      refine rgn.call_wp _ _ _ _ rfl Tryz.func10 (by kernel_rfl) (by kernel_rfl) #[.agg #[.int .i64 70, .slice (some ⟨b, 0, none⟩) 1 1, .slice none 0 0], .int .i64 70, .agg #[.int .i64 e.ln, .int .i64 e.co]] (by first | kernel_rfl | (simp only [List.map_toArray, List.map_cons, List.map_nil]; rfl)) ?_
      refine (fails_ok 70 b e.ln e.co _ ((hS0.cell (p := ⟨b, 0, none⟩) lC).trans v0) ((hS0.cell (p := ⟨b, 1, none⟩) lC).trans v1) (Nat.lt_of_lt_of_le lC hS0.size)).mono ?_
      rintro e9 w11 ⟨rfl, b11⟩
      have hS9 := hS0.trans (b11.mono hS0.size)
      refine ⟨_, rfl, hS9, ?_⟩
      clear hS0
      have hS0 := hS9
      try simp only [List.getElem_toArray, List.getElem_cons_zero, List.getElem_cons_succ, Act.put, List.setIfInBounds_toArray, List.set_cons_zero, List.set_cons_succ]
      refine wpAnyH_take (i := 9) (v := ?v9) rfl (by kernel_rfl) (by kernel_rfl) (by kernel_rfl) (fun _ _ _ h => h) (Or.inl ⟨by rfl, ?hy9⟩) hS0 ?_
      case hy9 => (intro w' hw'; skip; go_simp; try with_reducible rfl)
      simp only [List.getElem_toArray, List.getElem_cons_zero, List.getElem_cons_succ, Act.put, List.setIfInBounds_toArray, List.set_cons_zero, List.set_cons_succ]
      refine wpAnyH_done (by kernel_rfl) ?_ _; refine NoPanic.normal ?_
      go_wp2_with fail
      go_ret
      exact ⟨rfl, (unhide BZ).trans (hS9.mono (unhide BZ).size)⟩
end Go.Proofs.YtmhelpocddndjaaGreat.cu
