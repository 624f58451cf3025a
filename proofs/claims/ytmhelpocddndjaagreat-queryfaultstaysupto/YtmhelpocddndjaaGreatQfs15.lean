import Derived.Test.YtmhelpocddndjaaGreatQfs14
import Derived.Lib.SlBytesConst
import Derived.Test.YtmhelpocddndjaaGreatQfs3
namespace Go.Proofs.YtmhelpocddndjaaGreat.cu
open Go.ChangeShapes Go.WideShapes Go.ChangeAt Go.RowKit
open ints (hide unhide)
open dt (Dt Kp RowAt Ow Grow OwIn)
open mem (Row)
open lx (toks chs cln)
set_option linter.unusedVariables false
set_option linter.unusedSimpArgs false
theorem conv_bytes9 (s : ByteArray) (w : World) : ∃ cap W2, (convert 9 33 (.string s)).run Tryz.prog w = .ok (.slice (some ⟨w.heap.size, 0, none⟩) s.size cap) W2 ∧
    Row .u8 W2 (some ⟨w.heap.size, 0, none⟩) s.size cap (mem.bytesZ s) ∧ Below w.heap.size w W2 := by
  have h := run_bytes_of_string (P := Tryz.prog) w 9 33 5 s Tryz.underlying9 Tryz.underlying33 Tryz.underlying5
  refine ⟨_, _, h, ⟨mem.bytesZ_len s, grownCap_ge _ _ _ _, (fun e => by cases e), .inr ⟨w.heap.size, 0, rfl, by simp, fun i hi => ?_⟩⟩, (Below.refl _ _).drew.alloc (Nat.le_refl _) _⟩
  have e : (w.drew.alloc (.cells (bytesRow s (grownCap w s.size 0 5)) 5 ((bytesRow s (grownCap w s.size 0 5)).size, (bytesRow s (grownCap w s.size 0 5)).size + 1))).cell? ⟨w.drew.heap.size, 0 + i, none⟩ = (bytesRow s (grownCap w s.size 0 5))[0 + i]? := World.cell?_alloc_mark _ _ _ _ _
  refine e.trans ?_
  have hi' : i < s.data.size := hi
  unfold bytesRow mem.bytesZ
  rw [Nat.zero_add, Array.getElem?_append_left (by simpa using hi')]
  have e2 : (s.data.toList.map fun b => (b.toNat : Int)).getD i 0 = ((s.data[i]'hi').toNat : Int) := by simp [List.getD, Array.getElem?_eq_getElem hi']
  rw [e2, Array.getElem?_map, Array.getElem?_eq_getElem hi']
  rfl
def src1 : ByteArray := ⟨#[113, 117, 101, 114, 121, 32, 81, 40, 36, 118, 58, 91, 73, 110, 116, 33, 93, 61, 49, 41, 123, 98, 58, 97, 40, 120, 58, 36, 118, 41, 125]⟩
def src2 : ByteArray := ⟨#[123, 97, 125, 125]⟩
def nQ : ByteArray := ⟨#[81]⟩
def nv : ByteArray := ⟨#[118]⟩
def nInt : ByteArray := ⟨#[73, 110, 116]⟩
def nW : ByteArray := ⟨#[33, 93]⟩
def n1 : ByteArray := ⟨#[49]⟩
def nb : ByteArray := ⟨#[98]⟩
def na : ByteArray := ⟨#[97]⟩
def nx : ByteArray := ⟨#[120]⟩
theorem doc1 : (docG (mem.bytesZ src1) 3).1 = some [defD 1 nQ em false [varD nv nInt nW true (litD 2 n1 false .nil .nil 1 19) [] 1 9] [] [selD 1 nb na em [fldD nx (litD 1 nv false .nil .nil 1 28) 1 26] [] [] 1 22] 1 1] := by kernel_rfl
theorem doc2 : (docG (mem.bytesZ src2) 3).1 = none := by kernel_rfl
theorem doc2k : (docG (mem.bytesZ src2) 3).2.kd = 70 ∧ (docG (mem.bytesZ src2) 3).2.tok.ln = 1 ∧ (docG (mem.bytesZ src2) 3).2.tok.co = 4 := by refine ⟨?_, ?_, ?_⟩ <;> kernel_rfl
theorem val_row {w : World} {v : Value} {r : Dt} {cs : List Value} {F : List Nat} (h : Ow w (.val v r) cs F) : ∃ ds, cs = v :: ds ∧ Ow w r ds F := by
  unfold Ow at h
  obtain ⟨ds, h1, _, h2⟩ := h
  exact ⟨ds, h1, h2⟩
theorem lst_row {w : World} {k : Nat} {e r : Dt} {cs : List Value} {F : List Nat} (h : Ow w (.lst k (Dt.of [e]) r) cs F) : ∃ p c ds cs' G F2, cs = .slice (some ⟨p, 0, none⟩) 1 c :: ds ∧ RowAt w p 0 cs' ∧ Ow w e cs' G ∧ Ow w r ds F2 := by
  unfold Ow at h
  obtain ⟨a, n, c, ds, F1, F2, rfl, _, _, _, h4, h5, rfl⟩ := h
  rcases h4 with ⟨_, h4, _⟩ | ⟨p, G, rfl, rfl, h4⟩
  · exact absurd h4 (by unfold Dt.of; intro e; cases e)
  · unfold Dt.of OwIn at h4
    obtain ⟨m, cs', G1, G2, rfl, h6, _, h7, h8, rfl⟩ := h4
    unfold Dt.of OwIn at h8
    obtain ⟨rfl, _⟩ := h8
    exact ⟨p, c, ds, cs', G1, F2, rfl, h6, h7, h5⟩
theorem lst_nil {w : World} {k : Nat} {r : Dt} {cs : List Value} {F : List Nat} (h : Ow w (.lst k (Dt.of []) r) cs F) : ∃ a c ds F2, cs = .slice a 0 c :: ds ∧ Ow w r ds F2 := by
  unfold Ow at h
  obtain ⟨a, n, c, ds, F1, F2, rfl, _, _, _, h4, h5, rfl⟩ := h
  rcases h4 with ⟨_, _, rfl, _⟩ | ⟨p, G, rfl, rfl, h4⟩
  · exact ⟨a, c, ds, F2, rfl, h5⟩
  · unfold Dt.of OwIn at h4
    obtain ⟨rfl, _⟩ := h4
    exact ⟨_, c, ds, F2, rfl, h5⟩
theorem one_row {w : World} {k : Nat} {d : Dt} {lo hi : Nat} {a : Option Addr} {n c : Nat} {F : List Nat} (h : Sh w k [d] lo hi a n c F) : ∃ p cs G, a = some ⟨p, 0, none⟩ ∧ n = 1 ∧ RowAt w p 0 cs ∧ Ow w d cs G := by
  rcases h.at_ with ⟨_, h4, _⟩ | ⟨p, G, rfl, rfl, h4⟩
  · exact absurd h4 (by unfold Dt.of; intro e; cases e)
  · unfold Dt.of OwIn at h4
    obtain ⟨m, cs', G1, G2, h5, h6, _, h7, h8, rfl⟩ := h4
    exact ⟨p, cs', G1, rfl, h.len, h6, h7⟩
end Go.Proofs.YtmhelpocddndjaaGreat.cu
namespace Go.Proofs.YtmhelpocddndjaaGreat.cu
open Go.ChangeShapes Go.WideShapes Go.ChangeAt Go.RowKit
open ints (hide unhide)
open dt (Dt Kp RowAt Ow Grow OwIn)
open mem (Row)
open lx (toks chs cln)
set_option linter.unusedVariables false
set_option linter.unusedSimpArgs false
/-- what the first fixed document reads as, in memory -/
theorem doc1_cells {w : World} {lo : Nat} {sl : Value} {G : List Nat} (h : Grow 53 9 w lo [defD 1 nQ em false [varD nv nInt nW true (litD 2 n1 false .nil .nil 1 19) [] 1 9] [] [selD 1 nb na em [fldD nx (litD 1 nv false .nil .nil 1 28) 1 26] [] [] 1 22] 1 1] sl G) :
    ∃ p c pv cv ps cs', sl = .slice (some ⟨p, 0, none⟩) 1 c ∧ p < w.heap.size ∧ pv < w.heap.size ∧ ps < w.heap.size ∧ w.cell? ⟨p, 1, none⟩ = some (.string nQ) ∧ w.cell? ⟨p, 3, none⟩ = some (.bool false) ∧ w.cell? ⟨p, 4, none⟩ = some (.slice (some ⟨pv, 0, none⟩) 1 cv) ∧ w.cell? ⟨p, 6, none⟩ = some (.slice (some ⟨ps, 0, none⟩) 1 cs') ∧ w.cell? ⟨pv, 2, none⟩ = some (.string nW) ∧ w.cell? ⟨ps, 1, none⟩ = some (.string nb) := by
  obtain ⟨a, n, c, F, rfl, hs⟩ := Sh.of h
  obtain ⟨p, cs, G1, rfl, rfl, hr, how⟩ := one_row hs
  unfold defD at how
  obtain ⟨d1, rfl, w1⟩ := val_row how
  obtain ⟨d2, rfl, w2⟩ := val_row w1
  obtain ⟨d3, rfl, w3⟩ := val_row w2
  obtain ⟨d4, rfl, w4⟩ := val_row w3
  obtain ⟨pv, cv, d5, csv, Gv, Fv, rfl, hrv, hov, w5⟩ := lst_row w4
  obtain ⟨a2, c2, d6, F2, rfl, w6⟩ := lst_nil w5
  obtain ⟨ps, cps, d7, css, Gs, Fs, rfl, hrs, hos, w7⟩ := lst_row w6
  unfold varD at hov
  obtain ⟨v1, rfl, y1⟩ := val_row hov
  obtain ⟨v2', rfl, y2⟩ := val_row y1
  obtain ⟨v3, rfl, y3⟩ := val_row y2
  unfold selD at hos
  obtain ⟨q1, rfl, z1⟩ := val_row hos
  obtain ⟨q2, rfl, z2⟩ := val_row z1
  have e1 := hr 1 _ rfl
  have e3 := hr 3 _ rfl
  have e4 := hr 4 _ rfl
  have e6 := hr 6 _ rfl
  have v2 := hrv 2 _ rfl
  have s1 := hrs 1 _ rfl
  simp only [Nat.zero_add] at e1 e3 e4 e6 v2 s1
  exact ⟨p, c, pv, cv, ps, cps, rfl, World.block_lt_of_cell? w _ e1, World.block_lt_of_cell? w _ v2, World.block_lt_of_cell? w _ s1, e1, e3, e4, e6, v2, s1⟩
theorem row_new9 (W : World) (zs : List Int) (t : TypeId) (fr : Nat × Nat) : Row .u8 (W.alloc (.cells (zs.map (Value.int .u8)).toArray t fr)) (some ⟨W.heap.size, 0, none⟩) zs.length zs.length zs := by
  refine ⟨rfl, Nat.le_refl _, (fun e => by cases e), .inr ⟨W.heap.size, 0, rfl, by simp, fun i hi => ?_⟩⟩
  have e : (W.alloc (.cells (zs.map (Value.int .u8)).toArray t fr)).cell? ⟨W.heap.size, 0 + i, none⟩ = (zs.map (Value.int .u8)).toArray[0 + i]? := World.cell?_alloc_mark _ _ _ _ _
  rw [e]
  simp [List.getD, hi]
theorem parse1_ok (W : World) (N : Nat) (hN : N = W.heap.size) : Calls Tryz.prog 6 #[.slice (some ⟨N, 0, none⟩) 31 31, .int .i64 3] (W.alloc (.cells #[Value.int .u8 113, Value.int .u8 117, Value.int .u8 101, Value.int .u8 114, Value.int .u8 121, Value.int .u8 32, Value.int .u8 81, Value.int .u8 40, Value.int .u8 36, Value.int .u8 118, Value.int .u8 58, Value.int .u8 91, Value.int .u8 73, Value.int .u8 110, Value.int .u8 116, Value.int .u8 33, Value.int .u8 93, Value.int .u8 61, Value.int .u8 49, Value.int .u8 41, Value.int .u8 123, Value.int .u8 98, Value.int .u8 58, Value.int .u8 97, Value.int .u8 40, Value.int .u8 120, Value.int .u8 58, Value.int .u8 36, Value.int .u8 118, Value.int .u8 41, Value.int .u8 125] 5 (31, 32))) fun e w' => ∃ p c pv cv ps cs', e = .returned (.tuple #[.agg #[.slice (some ⟨p, 0, none⟩) 1 c], .agg #[.int .i64 0, .slice none 0 0, .slice none 0 0]]) ∧ p < w'.heap.size ∧ pv < w'.heap.size ∧ ps < w'.heap.size ∧ w'.cell? ⟨p, 1, none⟩ = some (.string nQ) ∧ w'.cell? ⟨p, 3, none⟩ = some (.bool false) ∧ w'.cell? ⟨p, 4, none⟩ = some (.slice (some ⟨pv, 0, none⟩) 1 cv) ∧ w'.cell? ⟨p, 6, none⟩ = some (.slice (some ⟨ps, 0, none⟩) 1 cs') ∧ w'.cell? ⟨pv, 2, none⟩ = some (.string nW) ∧ w'.cell? ⟨ps, 1, none⟩ = some (.string nb) ∧ Below W.heap.size W w' := by
  subst hN
  have hb : Below W.heap.size W (W.alloc (.cells #[Value.int .u8 113, Value.int .u8 117, Value.int .u8 101, Value.int .u8 114, Value.int .u8 121, Value.int .u8 32, Value.int .u8 81, Value.int .u8 40, Value.int .u8 36, Value.int .u8 118, Value.int .u8 58, Value.int .u8 91, Value.int .u8 73, Value.int .u8 110, Value.int .u8 116, Value.int .u8 33, Value.int .u8 93, Value.int .u8 61, Value.int .u8 49, Value.int .u8 41, Value.int .u8 123, Value.int .u8 98, Value.int .u8 58, Value.int .u8 97, Value.int .u8 40, Value.int .u8 120, Value.int .u8 58, Value.int .u8 36, Value.int .u8 118, Value.int .u8 41, Value.int .u8 125] 5 (31, 32))) := (Below.refl _ _).alloc (Nat.le_refl _) _
  refine (parse_ok (some ⟨W.heap.size, 0, none⟩) 31 31 (mem.bytesZ src1) 3 _ (row_new9 W (mem.bytesZ src1) 5 (31, 32)) (by decide) (mem.bytesZ_byt _) (by rfl)).mono ?_
  rintro e w2 ⟨sl, fs, rfl, hpp, b2⟩
  have hd : docS (newG (mem.bytesZ src1) 3) = docG (mem.bytesZ src1) 3 := rfl
  rw [hd] at hpp
  unfold ParPost at hpp
  rw [doc1] at hpp
  obtain ⟨⟨G, hgr⟩, rfl⟩ := hpp
  obtain ⟨p, c, pv, cv, ps, cps, rfl, l1, l2, l3, q1, q3, q4, q6, qv, qs⟩ := doc1_cells hgr
  exact ⟨p, c, pv, cv, ps, cps, rfl, l1, l2, l3, q1, q3, q4, q6, qv, qs, hb.trans (b2.mono hb.size)⟩
theorem parse2_ok (W : World) (N : Nat) (hN : N = W.heap.size) : Calls Tryz.prog 6 #[.slice (some ⟨N, 0, none⟩) 4 4, .int .i64 3] (W.alloc (.cells #[Value.int .u8 123, Value.int .u8 97, Value.int .u8 125, Value.int .u8 125] 5 (4, 5))) fun e w' => ∃ b, e = .returned (.tuple #[.agg #[.slice none 0 0], .agg #[.int .i64 70, .slice (some ⟨b, 0, none⟩) 1 1, .slice none 0 0]]) ∧ W.heap.size ≤ b ∧ b < w'.heap.size ∧ w'.cell? ⟨b, 0, none⟩ = some (.int .i64 1) ∧ w'.cell? ⟨b, 1, none⟩ = some (.int .i64 4) ∧ Below W.heap.size W w' := by
  subst hN
  have hb : Below W.heap.size W (W.alloc (.cells #[Value.int .u8 123, Value.int .u8 97, Value.int .u8 125, Value.int .u8 125] 5 (4, 5))) := (Below.refl _ _).alloc (Nat.le_refl _) _
  refine (parse_ok (some ⟨W.heap.size, 0, none⟩) 4 4 (mem.bytesZ src2) 3 _ (row_new9 W (mem.bytesZ src2) 5 (4, 5)) (by decide) (mem.bytesZ_byt _) (by rfl)).mono ?_
  rintro e w2 ⟨sl, fs, rfl, hpp, b2⟩
  have hd : docS (newG (mem.bytesZ src2) 3) = docG (mem.bytesZ src2) 3 := rfl
  rw [hd] at hpp
  unfold ParPost at hpp
  rw [doc2] at hpp
  obtain ⟨rfl, hfl⟩ := hpp
  obtain ⟨e1, e2, e3⟩ := doc2k
  unfold FltAt at hfl
  rw [if_neg (by rw [e1]; decide), e1, e2, e3] at hfl
  obtain ⟨b, h1, h2, rfl, h4, h5⟩ := hfl
  exact ⟨b, rfl, Nat.le_trans hb.size h1, h2, h4, h5, hb.trans (b2.mono hb.size)⟩
set_option maxHeartbeats 4000000 in
set_option maxRecDepth 10000 in
theorem parses_ok (w : World) : Calls Tryz.prog 5 #[] w fun e w' => e = .returned (.bool true) ∧ Below w.heap.size w w' := by
  have kc := fun (w : World) (C : Array Value) (n c : Nat) => Lib.run_convert_bytes_const (P := Tryz.prog) w 33 5 C n c Tryz.underlying33 Tryz.underlying5
  go_enter Tryz.func5, Tryz.ntmps5
  go_wp2_with fail
  refine (parse1_ok w w.heap.size rfl).mono ?_
  rintro e w2 ⟨p, c, pv, cv, ps, cps, rfl, l1, l2, l3, q1, q3, q4, q6, qv, qs, bw2⟩
  obtain ⟨X, hX⟩ : ∃ X, X = (w2.alloc (.cells #[.slice (some ⟨p, 0, none⟩) 1 c] 25)).alloc (.cells #[.int .i64 0, .slice none 0 0, .slice none 0 0] 30) := ⟨_, rfl⟩
  have bX : Below w2.heap.size w2 X := by rw [hX]; exact two_alloc _ _ _
  have hat := (show X.heap[w2.heap.size]? = _ ∧ X.heap[w2.heap.size + 1]? = _ from by rw [hX]; exact two_at _ _ _ _ _)
  have zX : w2.heap.size + 2 ≤ X.heap.size := by rw [hX]; simp
  have bw2s := bw2.size
  have BW := bw2.trans (bX.mono bw2.size)
  have T := fun o o' (b i : Nat) (v : Value) (hb : b < w2.heap.size) (h : w2.cell? ⟨b, i, none⟩ = some v) => ((two_alloc w2 o o').cell (p := ⟨b, i, none⟩) hb).trans h
  have r1 := fun o o' => T o o' _ _ _ l1 q1
  have r3 := fun o o' => T o o' _ _ _ l1 q3
  have r4 := fun o o' => T o o' _ _ _ l1 q4
  have r6 := fun o o' => T o o' _ _ _ l1 q6
  have rv := fun o o' => T o o' _ _ _ l2 qv
  have rs := fun o o' => T o o' _ _ _ l3 qs
  unfold nQ at r1
  unfold nW at rv
  unfold nb at rs
  have HX := hide (And.intro hX (And.intro bX (And.intro hat (And.intro zX BW))))
  have kc1 := fun (o o' : Obj) (C : Array Value) (n c : Nat) => by simpa using kc ((w2.alloc o).alloc o') C n c
  clear T q1 q3 q4 q6 qv qs bw2 hX bX hat zX BW
  go_wp2_with fail
  obtain ⟨hX, bX, hat, zX, BW⟩ := unhide HX
  have zE : w2.heap.size + 1 + 1 = X.heap.size := by rw [hX]; simp
  rw [← hX]
  refine (parse2_ok X _ zE).mono ?_
  rintro e w4 ⟨b, rfl, lb0, lb, c0, c1, b4⟩
  have hD := (b4.block w2.heap.size (by omega)).trans hat.1
  have hF := (b4.block (w2.heap.size + 1) (by omega)).trans hat.2
  have HT1 := hide (show w4.there w2.heap.size 0 1 from dt.there_cells hD (by simp))
  obtain ⟨W6, e6⟩ : ∃ W6, W6 = w4.setCells w2.heap.size 0 (#[.slice none 0 0] : Array Value).toList := ⟨_, rfl⟩
  have hD6 : W6.heap[w2.heap.size]? = some (.cells #[.slice none 0 0] 25 (0, 0)) := by rw [e6]; exact (dt.setCells_at [.slice none 0 0] 0 w4 _ hD).trans (by kernel_rfl)
  have hF6 : W6.heap[w2.heap.size + 1]? = some (.cells #[.int .i64 0, .slice none 0 0, .slice none 0 0] 30 (0, 0)) := by rw [e6]; exact (dt.heap_setCells w2.heap.size _ (by omega) _ 0 w4).trans hF
  have HT2 := hide (show W6.there (w2.heap.size + 1) 0 3 from dt.there_cells hF6 (by decide))
  obtain ⟨W7, e7⟩ : ∃ W7, W7 = W6.setCells (w2.heap.size + 1) 0 (#[.int .i64 70, .slice (some ⟨b, 0, none⟩) 1 1, .slice none 0 0] : Array Value).toList := ⟨_, rfl⟩
  have hD7 : W7.heap[w2.heap.size]? = some (.cells #[.slice none 0 0] 25 (0, 0)) := by rw [e7]; exact (dt.heap_setCells (w2.heap.size + 1) _ (by omega) _ 0 W6).trans hD6
  have hF7 : W7.heap[w2.heap.size + 1]? = some (.cells #[.int .i64 70, .slice (some ⟨b, 0, none⟩) 1 1, .slice none 0 0] 30 (0, 0)) := by rw [e7]; exact (dt.setCells_at [.int .i64 70, .slice (some ⟨b, 0, none⟩) 1 1, .slice none 0 0] 0 W6 _ hF6).trans (by kernel_rfl)
  have hb7 : W7.heap[b]? = w4.heap[b]? := by rw [e7, e6]; exact (dt.heap_setCells (w2.heap.size + 1) b (by omega) _ 0 _).trans (dt.heap_setCells w2.heap.size b (by omega) _ 0 w4)
  have C0 := (dt.cell_blk hb7 0).trans c0
  have C1 := (dt.cell_blk hb7 1).trans c1
  have z7 : W7.heap.size = w4.heap.size := by rw [e7, e6, dt.size_setCells, dt.size_setCells]
  have BW7 : Below w.heap.size w W7 := by
    rw [e7, e6]
    have h0 := BW.trans (b4.mono BW.size)
    have hw := BW.size
    exact dt.below_setCells _ _ _ _ (dt.below_setCells _ _ _ _ h0 (by have := bw2s; omega)) (by have := bw2s; omega)
  have lb7 : b < W7.heap.size := by omega
  have d0 : W7.cell? ⟨w2.heap.size, 0, none⟩ = some (.slice none 0 0) := (dt.cell_cells hD7 0).trans rfl
  have f0 : W7.cell? ⟨w2.heap.size + 1, 0, none⟩ = some (.int .i64 70) := (dt.cell_cells hF7 0).trans rfl
  have f1 : W7.cell? ⟨w2.heap.size + 1, 1, none⟩ = some (.slice (some ⟨b, 0, none⟩) 1 1) := (dt.cell_cells hF7 1).trans rfl
  have f2 : W7.cell? ⟨w2.heap.size + 1, 2, none⟩ = some (.slice none 0 0) := (dt.cell_cells hF7 2).trans rfl
  have HFa := hide (fails_ok 70 b 1 4 W7 C0 C1 lb7)
  have E6 := hide e6
  have E7 := hide e7
  have HB := hide BW7
  clear hD hF hD6 hF6 hD7 hF7 hb7 C0 C1 z7 BW7 lb7 e6 e7 c0 c1 b4 hat bX BW HX hX zE kc kc1 r1 r3 r4 r6 rv rs zX lb lb0 bw2s
  go_wp2_with (first
    | (refine wpList_store_mid (by rfl) 25 _ _ (by rfl) w2.heap.size 0 #[.slice none 0 0] (by rfl) (by rfl) (unhide HT1) infoDoc (dt.one_cells (cs := [.slice none 0 0]) (by rfl)) ?_; rw [← unhide E6])
    | (refine wpList_store_mid (by rfl) 30 _ _ (by rfl) (w2.heap.size + 1) 0 #[.int .i64 70, .slice (some ⟨b, 0, none⟩) 1 1, .slice none 0 0] (by rfl) (by rfl) (unhide HT2) infoFl (dt.one_cells (cs := [.int .i64 70, .slice (some ⟨b, 0, none⟩) 1 1, .slice none 0 0]) (by rfl)) ?_; rw [← unhide E7]))
  refine (unhide HFa).mono ?_
  rintro e w8 ⟨rfl, b8⟩
  go_wp2_with fail
  go_ret
  exact ⟨rfl, (unhide HB).trans (b8.mono (unhide HB).size)⟩
end Go.Proofs.YtmhelpocddndjaaGreat.cu
namespace Go.Proofs.YtmhelpocddndjaaGreat.rgn
set_option linter.unusedVariables false
set_option linter.unusedSimpArgs false
variable {P : Program}
/-- a call of a function of the program, as one operation -/
theorem call_wp {o : Oper} {a : Act} {w : World} {K : Act → World → Prop} {Q : Exit → Act → World → Prop} (f : FuncId) (fn : Func) (args : Array Operand) (tys : Array TypeId) (ho : o.op = .call { callee := .value (.func f), args := args, argTypes := tys })
    (hf : P.funcs[f]? = some fn) (hname : (fn.name == "runtime.NumGoroutine") = false) (hb : fn.body.isNone = false) (vs : Array Value) (hv : args.map a.eval = vs)
    (hc : Calls P f vs w fun e w' => ∃ v, e = .returned v ∧ K (a.put o.dst v) w') : o.wp P a w K Q := by
  have h1 : fn.name ≠ "runtime.NumGoroutine" := by simpa using hname
  have hrun : (execOp a.eval o).run P w = .ok (.enter f vs) w := by
    unfold execOp
    simp only [ho]
    obtain ⟨c, hc'⟩ : ∃ c, fn.body = some c := by cases h : fn.body <;> simp_all
    simp [resolve, hv, Deferred.ofValue, invoke, callFunc, hf, h1, hc', Act.eval]
  unfold Oper.wp
  rw [hrun, Oper.upon_enter]
  refine hc.mono ?_
  rintro e w' ⟨v, rfl, hk⟩
  exact hk
end Go.Proofs.YtmhelpocddndjaaGreat.rgn
namespace Go.Proofs.YtmhelpocddndjaaGreat.cu
open Go.ChangeShapes Go.WideShapes Go.ChangeAt Go.RowKit
open ints (hide unhide)
open dt (Dt Kp RowAt Ow Grow OwIn)
open mem (Row)
open lx (toks chs cln)
set_option linter.unusedVariables false
set_option linter.unusedSimpArgs false
/-- all that is said of a source that is refused -/
theorem doc_none (z : List Int) (hz : mem.Byt z) (d : Int) (h : (docG z d).1 = none) : ∃ (K : Int) (t : Tk) (m : Nat), (docG z d).2.kd = K ∧ (docG z d).2.tok = t ∧ K ≠ 0 ∧ (toks z)[m]? = some t ∧ (∀ q u, (toks z)[q]? = some u → u.ln = t.ln ∧ u.co = t.co → q = m) ∧ t.to ≤ (chs z).length ∧ (t.k = 0 ∨ t.k = 1 → K = 70) ∧
    (t.k ≠ 0 → t.k ≠ 1 → ∀ tl, (docG (behind (chs z) t.to tl) d).1 = none ∧ (docG (behind (chs z) t.to tl) d).2.kd = K ∧ (docG (behind (chs z) t.to tl) d).2.tok = t) := by
  obtain ⟨hst, hkd⟩ := docG_stp z d
  have hget : (toks z)[(docG z d).2.ix]? = some (docG z d).2.tok := by
    have := (docG z d).2.get hst.ok.lt
    rw [hst.ts] at this
    exact this
  refine ⟨_, _, (docG z d).2.ix, rfl, rfl, docS_faults _ (newG_ok' z d) h, hget, fun q u hq e => toks_at z hq hget e, ?_, ?_, ?_⟩
  · have key : ∀ (q i : Nat) (t : Tk), i ≤ (chs z).length → (lx.tksG (chs z) (cln z) i)[q]? = some t → t.to ≤ (chs z).length := by
      intro q
      induction q with
      | zero =>
        intro i t hi hq
        have hle := lx.tkG_le (chs z) (cln z) i hi
        by_cases he : (lx.tkG (chs z) (cln z) i).k = 0 ∨ (lx.tkG (chs z) (cln z) i).k = 1
        · rw [lx.tksG_end he] at hq; simp at hq; subst hq; exact hle.2.1
        · rw [lx.tksG_go hi he] at hq; simp at hq; subst hq; exact hle.2.1
      | succ q ih =>
        intro i t hi hq
        have hle := lx.tkG_le (chs z) (cln z) i hi
        by_cases he : (lx.tkG (chs z) (cln z) i).k = 0 ∨ (lx.tkG (chs z) (cln z) i).k = 1
        · rw [lx.tksG_end he] at hq; simp at hq
        · rw [lx.tksG_go hi he] at hq
          exact ih _ t hle.2.1 (by simpa using hq)
    exact key _ 0 _ (Nat.zero_le _) hget
  · intro e
    rcases hkd with k | k | k
    · exact absurd k (docS_faults _ (newG_ok' z d) h)
    · exact k
    · rw [k.2] at e; rcases e with e | e <;> exact absurd e (by decide)
  · intro h0 h1 tl
    obtain ⟨e1, e2, e3⟩ := doc_stays z hz tl d h0 h1
    exact ⟨by rw [e1]; exact h, e2, e3⟩
theorem bytesZ_app9 (a b : ByteArray) : mem.bytesZ (a ++ b) = mem.bytesZ a ++ mem.bytesZ b := by simp [mem.bytesZ]
theorem flat_byt9 : ∀ zs : List Int, zs.all mem.scB = true → mem.Byt (zs.flatMap mem.putB)
  | [], _ => by intro x hx; cases hx
  | c :: zs, h => by
    rw [List.all_cons, Bool.and_eq_true] at h
    intro x hx
    rw [List.flatMap_cons] at hx
    rcases List.mem_append.1 hx with h1 | h1
    · exact mem.putB_byt ((mem.scB_iff c).1 h.1) x h1
    · exact flat_byt9 zs h.2 x h1
theorem up_size (s : ByteArray) (T : Nat) (hs : s.size ≤ 1048576) {S : ByteArray} (hSb : mem.bytesZ S = ((chs (mem.bytesZ s)).take T).flatMap mem.putB) : S.size ≤ 1048576 := by
  rw [← mem.bytesZ_len, hSb]
  have e := (mem.decF_flat (mem.bytesZ s).length (mem.bytesZ s) (mem.bytesZ_byt s)).2.2.2
  have e2 := mem.decZ_le (mem.bytesZ s) (mem.bytesZ_byt s)
  rw [mem.bytesZ_len] at e2
  have e3 : (chs (mem.bytesZ s)).flatMap mem.putB = ((chs (mem.bytesZ s)).take T).flatMap mem.putB ++ ((chs (mem.bytesZ s)).drop T).flatMap mem.putB := by rw [← List.flatMap_append, List.take_append_drop]
  have e4 : ((chs (mem.bytesZ s)).flatMap mem.putB).length = (mem.decZ (mem.bytesZ s)).2 := e
  rw [e3, List.length_append] at e4
  omega
theorem _root_.Go.Proofs.YtmhelpocddndjaaGreat.rgn.conv_wp {P : Program} {o : Oper} {a : Act} {w w' : World} {K : Act → World → Prop} {Q : Exit → Act → World → Prop} {sl : Value} (src dst : TypeId) (x : Operand) (ho : o.op = .convert src dst x) (v : Value) (hx : a.eval x = v) (hr : (convert src dst v).run P w = .ok sl w') (h : K (a.put o.dst sl) w') : o.wp P a w K Q := by
  unfold Oper.wp execOp
  simp only [ho, hx, Sem.run_bind, hr, Result.andThen_ok, Sem.run_pure]
  exact h
theorem _root_.Go.Proofs.YtmhelpocddndjaaGreat.rgn.alloc_wp {P : Program} {o : Oper} {a : Act} {w w' : World} {K : Act → World → Prop} {Q : Exit → Act → World → Prop} {sl : Value} (ty : TypeId) (ho : o.op = .alloc ty) (hr : (Instr.alloc ty true (.tuple #[])).run P w = .ok sl w') (h : K (a.put o.dst sl) w') : o.wp P a w K Q := by
  unfold Oper.wp execOp
  simp only [ho, Sem.run_bind, hr, Result.andThen_ok, Sem.run_pure]
  exact h
set_option maxHeartbeats 4000000 in
set_option maxRecDepth 4000 in
theorem law_fstays (s tl : ByteArray) (d : Int) (w : World) (hs : s.size ≤ 1048576) (ht : tl.size ≤ 1048576) (hd : (Lit.int .i64 d).wf = true) :
    Calls Tryz.prog 3 #[.string s, .string tl, .int .i64 d] w fun e w' => e = .returned (.bool true) ∧ Below w.heap.size w w' := by
  have hPs := hide (fun W => parses_ok W)
  have hcv := hide (fun W => conv_bytes9 s W)
  have hPa := hide (fun W a n c (h : Row .u8 W a n c (mem.bytesZ s)) (hn : n ≤ 1073741824) => parse_ok a n c (mem.bytesZ s) d W h hn (mem.bytesZ_byt s) hd)
  have hTk := hide (fun W a n c (h : Row .u8 W a n c (mem.bytesZ s)) (hn : n ≤ 1099511627776) => lx.tokensG_ok a n c (mem.bytesZ s) W h hn (mem.bytesZ_byt s))
  have hUp := hide (fun W T hT => upTo9_ok s T W hs hT)
  have hDN := hide (doc_none (mem.bytesZ s) (mem.bytesZ_byt s) d)
  go_enter Tryz.func3, Tryz.ntmps3
  go_wp2_with fail
  refine ((unhide hPs) _).mono ?_
  rintro e w1 ⟨rfl, b1⟩
  clear hPs
  obtain ⟨cap, W2, hc2, hrow2, b2⟩ := (unhide hcv) w1
  have hP := hide ((unhide hPa) W2 _ _ _ hrow2 (by omega))
  clear hPa hrow2
  go_wp2_with fail
  refine (unhide hP).mono ?_
  rintro e w3 ⟨sl, fs, rfl, hpp, b3⟩
  have bw3 := b1.trans ((b2.trans (b3.mono b2.size)).mono b1.size)
  have hpp2 : ParPost (docG (mem.bytesZ s) d) W2.heap.size w3 sl fs := hpp
  clear hpp hP hc2 b1 b2 b3
  unfold ParPost at hpp2
  cases hr : (docG (mem.bytesZ s) d).1 with
  | some l =>
    rw [hr] at hpp2
    obtain ⟨⟨G, hg⟩, rfl⟩ := hpp2
    obtain ⟨al, cl, hsl⟩ := hg.form
    subst hsl
    clear hg hDN hUp hTk hcv hr
    go_wp2_with fail
    go_ret
    exact ⟨rfl, bw3.trans ((two_alloc _ _ _).mono bw3.size)⟩
  | none =>
    rw [hr] at hpp2
    obtain ⟨rfl, hfl⟩ := hpp2
    obtain ⟨K, t, m, e1, e2, hK0, hm, hun, hto, hK70, hst⟩ := (unhide hDN) hr
    unfold FltAt at hfl
    rw [e1, e2, if_neg hK0] at hfl
    obtain ⟨b, y1, y2, rfl, y4, y5⟩ := hfl
    have bN := fun o => show Below w3.heap.size w3 (w3.alloc o) from (Below.refl _ _).alloc (Nat.le_refl _) _
    have HS := hide (And.intro hm (And.intro hun (And.intro hto (And.intro hK70 hst))))
    clear hDN hr hm hun hto hK70 hst e1 e2
    obtain ⟨X, hX⟩ : ∃ X, X = (w3.alloc (.cells #[.slice none 0 0] 25)).alloc (.cells #[.int .i64 K, .slice (some ⟨b, 0, none⟩) 1 1, .slice none 0 0] 30) := ⟨_, rfl⟩
    have bX : Below w3.heap.size w3 X := by rw [hX]; exact two_alloc _ _ _
    have gX := (show X.heap[w3.heap.size]? = _ ∧ X.heap[w3.heap.size + 1]? = _ from by rw [hX]; exact two_at _ _ _ _ _).2
    have zX : w3.heap.size + 2 ≤ X.heap.size := by rw [hX]; simp
    obtain ⟨cap2, W4, hc4, hrow4, b4⟩ := (unhide hcv) X
    rw [hX] at hc4
    have zE : ((w3.alloc (.cells #[.slice none 0 0] 25)).alloc (.cells #[.int .i64 K, .slice (some ⟨b, 0, none⟩) 1 1, .slice none 0 0] 30)).heap.size = w3.heap.size + 1 + 1 := by simp
    rw [zE] at hc4
    have hKb : (K == 0) = false := by simpa using hK0
    go_wp2_with fail
    rw [← hX]
    clear hX hc4 hrow4 b4 zE
    have g0 : X.cell? ⟨w3.heap.size + 1, 1, none⟩ = some (.slice (some ⟨b, 0, none⟩) 1 1) := (dt.cell_cells gX 1).trans rfl
    have p0 : X.cell? ⟨b, 0, none⟩ = some (.int .i64 t.ln) := (bX.cell (p := ⟨b, 0, none⟩) y2).trans y4
    have p1 : X.cell? ⟨b, 1, none⟩ = some (.int .i64 t.co) := (bX.cell (p := ⟨b, 1, none⟩) y2).trans y5
    have htl := toks_len (mem.bytesZ s) (mem.bytesZ_byt s)
    rw [mem.bytesZ_len] at htl
    have hal : ∀ W : World, (Instr.alloc 38 true (.tuple #[])).run Tryz.prog W = .ok (.pointer (some ⟨W.heap.size, 0, none⟩)) (W.alloc (.cells #[.int .i64 0, .int .i64 0, .int .i64 0, .int .i64 0, .int .i64 0, .string ⟨#[]⟩, .string ⟨#[]⟩] 38)) := fun W => by go_simp
    have hSY : Below X.heap.size X { X with drawn := X.drawn + 1 } := (Below.refl _ _).drew
    refine wp_region_noPanic ?_
    refine wp_region_held (S := fun w' => Below X.heap.size X w') mixed ?_
    obtain ⟨Y, hY⟩ : ∃ Y, Y = { X with drawn := X.drawn + 1 } := ⟨_, rfl⟩
    rw [← hY] at hSY ⊢
    clear hY
    have hS0 := hSY
    have sY := hSY.size
    refine wpAnyH_take (i := 0) (v := ?v1) rfl (by kernel_rfl) (by kernel_rfl) (by kernel_rfl) (fun _ _ _ h => h) (Or.inl ⟨by rfl, ?hy1⟩) hS0 ?_
    case hy1 => (intro w' hw'; skip; go_simp; try with_reducible rfl)
    simp only [List.getElem_toArray, List.getElem_cons_zero, List.getElem_cons_succ, Act.put, List.setIfInBounds_toArray, List.set_cons_zero, List.set_cons_succ]
    refine wpAnyH_take (i := 3) (v := ?v2) rfl (by kernel_rfl) (by kernel_rfl) (by kernel_rfl) (fun _ _ _ h => h) (Or.inl ⟨by rfl, ?hy2⟩) hS0 ?_
    case hy2 => (intro w' hw'; skip; go_simp; try with_reducible rfl)
    simp only [List.getElem_toArray, List.getElem_cons_zero, List.getElem_cons_succ, Act.put, List.setIfInBounds_toArray, List.set_cons_zero, List.set_cons_succ]
    refine wpAnyH_take (i := 4) (v := ?v3) rfl (by kernel_rfl) (by kernel_rfl) (by kernel_rfl) (fun _ _ _ h => h) (Or.inl ⟨by rfl, ?hy3⟩) hS0 ?_
    case hy3 => (intro w' hw'; have q0 := (hw'.cell (p := ⟨w3.heap.size + 1, 1, none⟩) (show w3.heap.size + 1 < X.heap.size by omega)).trans g0; go_simp; try with_reducible rfl)
    simp only [List.getElem_toArray, List.getElem_cons_zero, List.getElem_cons_succ, Act.put, List.setIfInBounds_toArray, List.set_cons_zero, List.set_cons_succ]
    refine wpAnyH_take (i := 5) (v := ?v4) rfl (by kernel_rfl) (by kernel_rfl) (by kernel_rfl) (fun _ _ _ h => h) (Or.inl ⟨by rfl, ?hy4⟩) hS0 ?_
    case hy4 => (intro w' hw'; skip; go_simp; try with_reducible rfl)
    simp only [List.getElem_toArray, List.getElem_cons_zero, List.getElem_cons_succ, Act.put, List.setIfInBounds_toArray, List.set_cons_zero, List.set_cons_succ]
    refine wpAnyH_take (i := 6) (v := ?v5) rfl (by kernel_rfl) (by kernel_rfl) (by kernel_rfl) (fun _ _ _ h => h) (Or.inl ⟨by rfl, ?hy5⟩) hS0 ?_
    case hy5 => (intro w' hw'; have q0 := (hw'.cell (p := ⟨b, 0, none⟩) (show b < X.heap.size by omega)).trans p0; have q1 := (hw'.cell (p := ⟨b, 1, none⟩) (show b < X.heap.size by omega)).trans p1; go_simp; try with_reducible rfl)
    simp only [List.getElem_toArray, List.getElem_cons_zero, List.getElem_cons_succ, Act.put, List.setIfInBounds_toArray, List.set_cons_zero, List.set_cons_succ]
    refine rgn.two (i := 1) (j := 11) _ _ rfl rfl (by kernel_rfl) (by rfl) (by rfl) ?_ ?_
    · try simp only [List.getElem_toArray, List.getElem_cons_zero, List.getElem_cons_succ, Act.put, List.setIfInBounds_toArray, List.set_cons_zero, List.set_cons_succ]
      obtain ⟨cv1, V1, hcv1, hrow1, bv1⟩ := (unhide hcv) Y
      refine rgn.conv_wp 9 33 _ rfl (.string s) (by rfl) hcv1 ?_
      have sv1 := bv1.size
      have hSn1 := hS0.trans (bv1.mono hS0.size)
      refine ⟨hSn1, ?_⟩
      clear hS0
      have hS0 := hSn1
      try simp only [List.getElem_toArray, List.getElem_cons_zero, List.getElem_cons_succ, Act.put, List.setIfInBounds_toArray, List.set_cons_zero, List.set_cons_succ]
      clear hcv1
      refine rgn.two (i := 2) (j := 11) _ _ rfl rfl (by kernel_rfl) (by rfl) (by rfl) ?_ ?_
      · try simp only [List.getElem_toArray, List.getElem_cons_zero, List.getElem_cons_succ, Act.put, List.setIfInBounds_toArray, List.set_cons_zero, List.set_cons_succ]
        refine rgn.call_wp _ _ _ _ rfl Tryz.func8 (by kernel_rfl) (by kernel_rfl) #[.slice (some ⟨Y.heap.size, 0, none⟩) s.size cv1] (by first | kernel_rfl | (simp only [List.map_toArray, List.map_cons, List.map_nil]; rfl)) ?_
        refine ((unhide hTk) _ _ _ _ hrow1 (by omega)).mono ?_
        rintro e' V2 ⟨p2, ct2, rfl, hp12, hp22, hrw2, bv2⟩
        have sv2 := bv2.size
        have hSn2 := hS0.trans (bv2.mono hS0.size)
        refine ⟨_, rfl, hSn2, ?_⟩
        clear hS0
        have hS0 := hSn2
        try simp only [List.getElem_toArray, List.getElem_cons_zero, List.getElem_cons_succ, Act.put, List.setIfInBounds_toArray, List.set_cons_zero, List.set_cons_succ]
        refine rgn.two (i := 7) (j := 11) _ _ rfl rfl (by kernel_rfl) (by rfl) (by rfl) ?_ ?_
        · try simp only [List.getElem_toArray, List.getElem_cons_zero, List.getElem_cons_succ, Act.put, List.setIfInBounds_toArray, List.set_cons_zero, List.set_cons_succ]
          refine rgn.call_wp _ _ _ _ rfl Tryz.func7 (by kernel_rfl) (by kernel_rfl) #[.slice (some ⟨p2, 0, none⟩) (toks (mem.bytesZ s)).length ct2, .agg #[.int .i64 t.ln, .int .i64 t.co]] (by first | kernel_rfl | (simp only [List.map_toArray, List.map_cons, List.map_nil]; rfl)) ?_
          refine (tokenAt_ok p2 _ ct2 (toks (mem.bytesZ s)) m t _ rfl (by omega) (by omega) hrw2 (unhide HS).1 (unhide HS).2.1).mono ?_
          rintro e' V3 ⟨rfl, bv3⟩
          have sv3 := bv3.size
          have hSn3 := hS0.trans (bv3.mono hS0.size)
          refine ⟨_, rfl, hSn3, ?_⟩
          clear hS0
          have hS0 := hSn3
          try simp only [List.getElem_toArray, List.getElem_cons_zero, List.getElem_cons_succ, Act.put, List.setIfInBounds_toArray, List.set_cons_zero, List.set_cons_succ]
          refine wpAnyH_take (i := 8) (v := ?v6) rfl (by kernel_rfl) (by kernel_rfl) (by kernel_rfl) (fun _ _ _ h => h) (Or.inl ⟨by rfl, ?hy6⟩) hS0 ?_
          case hy6 => (intro w' hw'; skip; go_simp; try with_reducible rfl)
          simp only [List.getElem_toArray, List.getElem_cons_zero, List.getElem_cons_succ, Act.put, List.setIfInBounds_toArray, List.set_cons_zero, List.set_cons_succ]
          refine wpAnyH_take (i := 9) (v := ?v7) rfl (by kernel_rfl) (by kernel_rfl) (by kernel_rfl) (fun _ _ _ h => h) (Or.inl ⟨by rfl, ?hy7⟩) hS0 ?_
          case hy7 => (intro w' hw'; skip; go_simp; try with_reducible rfl)
          simp only [List.getElem_toArray, List.getElem_cons_zero, List.getElem_cons_succ, Act.put, List.setIfInBounds_toArray, List.set_cons_zero, List.set_cons_succ]
          refine wpAnyH_take (i := 10) (v := ?v8) rfl (by kernel_rfl) (by kernel_rfl) (by kernel_rfl) (fun _ _ _ h => h) (Or.inl ⟨by rfl, ?hy8⟩) hS0 ?_
          case hy8 => (intro w' hw'; skip; go_simp; try with_reducible rfl)
          simp only [List.getElem_toArray, List.getElem_cons_zero, List.getElem_cons_succ, Act.put, List.setIfInBounds_toArray, List.set_cons_zero, List.set_cons_succ]
          refine rgn.one (i := 11) _ rfl (by kernel_rfl) (by rfl) ?_
          try simp only [List.getElem_toArray, List.getElem_cons_zero, List.getElem_cons_succ, Act.put, List.setIfInBounds_toArray, List.set_cons_zero, List.set_cons_succ]
          refine rgn.alloc_wp 38 rfl (hal _) ?_
          obtain ⟨V4, hV4⟩ : ∃ V, V = V3.alloc (.cells #[.int .i64 0, .int .i64 0, .int .i64 0, .int .i64 0, .int .i64 0, .string ⟨#[]⟩, .string ⟨#[]⟩] 38) := ⟨_, rfl⟩
          have bv4 : Below V3.heap.size V3 V4 := by rw [hV4]; exact (Below.refl _ _).alloc (Nat.le_refl _) _
          have gT4 : V4.heap[V3.heap.size]? = some (.cells #[.int .i64 0, .int .i64 0, .int .i64 0, .int .i64 0, .int .i64 0, .string ⟨#[]⟩, .string ⟨#[]⟩] 38 (0, 0)) := by rw [hV4]; exact heap_alloc_new _ _
          have sv4 : V3.heap.size + 1 ≤ V4.heap.size := by rw [hV4]; simp
          rw [← hV4]
          clear hV4
          have hSn4 := hS0.trans (bv4.mono hS0.size)
          refine ⟨hSn4, ?_⟩
          clear hS0
          have hS0 := hSn4
          try simp only [List.getElem_toArray, List.getElem_cons_zero, List.getElem_cons_succ, Act.put, List.setIfInBounds_toArray, List.set_cons_zero, List.set_cons_succ]
          refine rgn.one (i := 12) _ rfl (by kernel_rfl) (by rfl) ?_
          try simp only [List.getElem_toArray, List.getElem_cons_zero, List.getElem_cons_succ, Act.put, List.setIfInBounds_toArray, List.set_cons_zero, List.set_cons_succ]
          have hth : V4.there V3.heap.size 0 7 := dt.there_cells gT4 (by decide)
          refine wp_store_mid 38 _ _ (by rfl) V3.heap.size 0 #[.int .i64 t.k, .int .i64 t.ln, .int .i64 t.co, .int .i64 t.fr, .int .i64 t.to, .string t.tx, .string t.va] (by rfl) (by rfl) hth infoTk9 (dt.one_cells (cs := [.int .i64 t.k, .int .i64 t.ln, .int .i64 t.co, .int .i64 t.fr, .int .i64 t.to, .string t.tx, .string t.va]) (by rfl)) ?_
          obtain ⟨Y2, hY2⟩ : ∃ Y2, Y2 = V4.setCells V3.heap.size 0 (#[.int .i64 t.k, .int .i64 t.ln, .int .i64 t.co, .int .i64 t.fr, .int .i64 t.to, .string t.tx, .string t.va] : Array Value).toList := ⟨_, rfl⟩
          have bY2 : Below X.heap.size X Y2 := by rw [hY2]; exact dt.below_setCells _ _ _ _ hS0 (by omega)
          have gY2 : Y2.heap[V3.heap.size]? = some (.cells #[.int .i64 t.k, .int .i64 t.ln, .int .i64 t.co, .int .i64 t.fr, .int .i64 t.to, .string t.tx, .string t.va] 38 (0, 0)) := by rw [hY2]; exact (dt.setCells_at [.int .i64 t.k, .int .i64 t.ln, .int .i64 t.co, .int .i64 t.fr, .int .i64 t.to, .string t.tx, .string t.va] 0 V4 _ gT4).trans (by kernel_rfl)
          have qY2 : V3.heap.size < Y2.heap.size := (Array.getElem?_eq_some_iff.1 gY2).1
          rw [← hY2]
          clear hY2 hth
          refine ⟨bY2, ?_⟩
          clear hS0
          have hS0 := bY2
          try simp only [List.getElem_toArray, List.getElem_cons_zero, List.getElem_cons_succ, Act.put, List.setIfInBounds_toArray, List.set_cons_zero, List.set_cons_succ]
          refine wpAnyH_take (i := 13) (v := ?v9) rfl (by kernel_rfl) (by kernel_rfl) (by kernel_rfl) (fun _ _ _ h => h) (Or.inl ⟨by rfl, ?hy9⟩) hS0 ?_
          case hy9 => (intro w' hw'; skip; go_simp; try with_reducible rfl)
          simp only [List.getElem_toArray, List.getElem_cons_zero, List.getElem_cons_succ, Act.put, List.setIfInBounds_toArray, List.set_cons_zero, List.set_cons_succ]
          refine wpAnyH_done (by kernel_rfl) ?_ _; refine NoPanic.normal ?_
          have k0 : Y2.cell? ⟨V3.heap.size, 0, none⟩ = some (.int .i64 t.k) := (dt.cell_cells gY2 0).trans rfl
          have k4 : Y2.cell? ⟨V3.heap.size, 4, none⟩ = some (.int .i64 t.to) := (dt.cell_cells gY2 4).trans rfl
          have gF := (bY2.block (w3.heap.size + 1) (by omega)).trans gX
          have f0 : Y2.cell? ⟨w3.heap.size + 1, 0, none⟩ = some (.int .i64 K) := (dt.cell_cells gF 0).trans rfl
          have f1 : Y2.cell? ⟨w3.heap.size + 1, 1, none⟩ = some (.slice (some ⟨b, 0, none⟩) 1 1) := (dt.cell_cells gF 1).trans rfl
          have r0 := (bY2.cell (p := ⟨b, 0, none⟩) (show b < X.heap.size by omega)).trans p0
          have r1 := (bY2.cell (p := ⟨b, 1, none⟩) (show b < X.heap.size by omega)).trans p1
          have BY := hide (bw3.trans ((bX.trans (bY2.mono bX.size)).mono bw3.size))
          have HK := hide (unhide HS).2.2.2
          have hm0 : ¬ ((m : Int) < 0) := by omega
          by_cases h0 : t.k = 0
          · obtain rfl : K = 70 := (unhide HK).1 (.inl h0)
            rw [h0] at k0
            go_wp2_with fail
            go_ret
            exact ⟨rfl, unhide BY⟩
          by_cases h1 : t.k = 1
          · obtain rfl : K = 70 := (unhide HK).1 (.inr h1)
            rw [h1] at k0
            go_wp2_with fail
            go_ret
            exact ⟨rfl, unhide BY⟩
          have h0b : (t.k == 0) = false := by simpa using h0
          have h1b : (t.k == 1) = false := by simpa using h1
          have hUp2 := hide ((unhide hUp) Y2 t.to (unhide HS).2.2.1)
          have HST := hide ((unhide HK).2 h0 h1 (mem.bytesZ tl))
          clear h0 h1
          go_wp2_with fail
          refine (unhide hUp2).mono ?_
          rintro e5 w5 ⟨rfl, b5⟩
          have hall : ((chs (mem.bytesZ s)).take t.to).all mem.scB = true := by
            rw [List.all_eq_true]
            exact fun x hx => (mem.scB_iff x).2 (lx.chs_sc (mem.bytesZ_byt s) x (List.mem_of_mem_take hx))
          have hSb : mem.bytesZ (mem.encS ((chs (mem.bytesZ s)).take t.to)) = ((chs (mem.bytesZ s)).take t.to).flatMap mem.putB := by
            unfold mem.encS
            rw [if_pos hall]
            exact mem.bytesZ_str _ (flat_byt9 _ hall)
          have hSs : (mem.encS ((chs (mem.bytesZ s)).take t.to)).size ≤ 1048576 := up_size s t.to hs hSb
          obtain ⟨S, hS⟩ : ∃ S, S = mem.encS ((chs (mem.bytesZ s)).take t.to) := ⟨_, rfl⟩
          rw [← hS] at hSb hSs ⊢
          clear hS hall hUp2
          obtain ⟨cap6, W6, hc6, hrow6, b6⟩ := conv_bytes9 (S ++ (⟨#[10]⟩ : ByteArray) ++ tl) w5
          have hz6 : mem.bytesZ (S ++ (⟨#[10]⟩ : ByteArray) ++ tl) = behind (chs (mem.bytesZ s)) t.to (mem.bytesZ tl) := by
            rw [bytesZ_app9, bytesZ_app9, hSb]
            unfold behind
            rw [List.append_assoc]
            rfl
          have hsz6 : (S ++ (⟨#[10]⟩ : ByteArray) ++ tl).size = S.size + 1 + tl.size := by rw [size_app, size_app]; rfl
          have hby6 := mem.bytesZ_byt (S ++ (⟨#[10]⟩ : ByteArray) ++ tl)
          rw [hz6] at hrow6 hby6
          rw [hsz6] at hrow6
          have hP6 := hide (parse_ok _ _ cap6 (behind (chs (mem.bytesZ s)) t.to (mem.bytesZ tl)) d W6 hrow6 (by omega) hby6 hd)
          rw [hsz6] at hc6
          have s5 := b5.size
          have s6 := b6.size
          clear hz6 hsz6 hby6 hrow6 hSb
          go_wp2_with fail
          refine (unhide hP6).mono ?_
          rintro e7 w7 ⟨sl7, fs7, rfl, hpp7, b7⟩
          have hpp8 : ParPost (docG (behind (chs (mem.bytesZ s)) t.to (mem.bytesZ tl)) d) W6.heap.size w7 sl7 fs7 := hpp7
          obtain ⟨d1, d2, d3⟩ := unhide HST
          unfold ParPost at hpp8
          rw [d1] at hpp8
          obtain ⟨rfl, hfl7⟩ := hpp8
          unfold FltAt at hfl7
          rw [d2, d3, if_neg hK0] at hfl7
          obtain ⟨c7, z1, z2, rfl, z4, z5⟩ := hfl7
          have b57 := b5.trans ((b6.trans (b7.mono b6.size)).mono b5.size)
          have s7 := b57.size
          obtain ⟨X7, hX7⟩ : ∃ X7, X7 = (w7.alloc (.cells #[.slice none 0 0] 25)).alloc (.cells #[.int .i64 K, .slice (some ⟨c7, 0, none⟩) 1 1, .slice none 0 0] 30) := ⟨_, rfl⟩
          have bX7 : Below w7.heap.size w7 X7 := by rw [hX7]; exact two_alloc _ _ _
          have gX7 := (show X7.heap[w7.heap.size]? = _ ∧ X7.heap[w7.heap.size + 1]? = _ from by rw [hX7]; exact two_at _ _ _ _ _).2
          have zX7 : w7.heap.size + 2 ≤ X7.heap.size := by rw [hX7]; simp
          have b5X := b57.trans (bX7.mono b57.size)
          have gF7 := (b5X.block (w3.heap.size + 1) (by have := bY2.size; omega)).trans gF
          have u0 := (b5X.cell (p := ⟨b, 0, none⟩) (show b < Y2.heap.size by have := bY2.size; omega)).trans r0
          have u1 := (b5X.cell (p := ⟨b, 1, none⟩) (show b < Y2.heap.size by have := bY2.size; omega)).trans r1
          have v0 := (bX7.cell (p := ⟨c7, 0, none⟩) z2).trans z4
          have v1 := (bX7.cell (p := ⟨c7, 1, none⟩) z2).trans z5
          clear HST hpp7 hP6 hc6 d1 d2 d3 f0 f1 r0 r1 k0 k4
          go_wp2_with fail
          rw [← hX7]
          clear hX7
          have BZ := hide ((unhide BY).trans (b5X.mono (unhide BY).size))
          clear hS0 b5X bX7 b57
          have hS0 : Below X7.heap.size X7 { X7 with drawn := X7.drawn + 1 } := (Below.refl _ _).drew
          have lF : w3.heap.size + 1 < X7.heap.size := (Array.getElem?_eq_some_iff.1 gF7).1
          have lB : b < X7.heap.size := World.block_lt_of_cell? X7 _ u0
          have lC : c7 < X7.heap.size := World.block_lt_of_cell? X7 _ v0
          have lG : w7.heap.size + 1 < X7.heap.size := by omega
          have G0 : X7.cell? ⟨w7.heap.size + 1, 0, none⟩ = some (.int .i64 K) := (dt.cell_cells gX7 0).trans rfl
          have G1 : X7.cell? ⟨w7.heap.size + 1, 1, none⟩ = some (.slice (some ⟨c7, 0, none⟩) 1 1) := (dt.cell_cells gX7 1).trans rfl
          have G2 : X7.cell? ⟨w7.heap.size + 1, 2, none⟩ = some (.slice none 0 0) := (dt.cell_cells gX7 2).trans rfl
          have F0 : X7.cell? ⟨w3.heap.size + 1, 0, none⟩ = some (.int .i64 K) := (dt.cell_cells gF7 0).trans rfl
          have F1 : X7.cell? ⟨w3.heap.size + 1, 1, none⟩ = some (.slice (some ⟨b, 0, none⟩) 1 1) := (dt.cell_cells gF7 1).trans rfl
          refine wp_region_noPanic ?_
          refine wp_region_held (S := fun w' => Below X7.heap.size X7 w') mixed ?_
          refine wpAnyH_take (i := 0) (v := ?v10) rfl (by kernel_rfl) (by kernel_rfl) (by kernel_rfl) (fun _ _ _ h => h) (Or.inl ⟨by rfl, ?hy10⟩) hS0 ?_
          case hy10 => (intro w' hw'; have q0 := (hw'.cell (p := ⟨w7.heap.size + 1, 0, none⟩) lG).trans G0; have q1 := (hw'.cell (p := ⟨w7.heap.size + 1, 1, none⟩) lG).trans G1; have q2 := (hw'.cell (p := ⟨w7.heap.size + 1, 2, none⟩) lG).trans G2; go_simp; try with_reducible rfl)
          simp only [List.getElem_toArray, List.getElem_cons_zero, List.getElem_cons_succ, Act.put, List.setIfInBounds_toArray, List.set_cons_zero, List.set_cons_succ]
          refine wpAnyH_take (i := 1) (v := ?v11) rfl (by kernel_rfl) (by kernel_rfl) (by kernel_rfl) (fun _ _ _ h => h) (Or.inl ⟨by rfl, ?hy11⟩) hS0 ?_
          case hy11 => (intro w' hw'; skip; go_simp; try with_reducible rfl)
          simp only [List.getElem_toArray, List.getElem_cons_zero, List.getElem_cons_succ, Act.put, List.setIfInBounds_toArray, List.set_cons_zero, List.set_cons_succ]
          refine wpAnyH_take (i := 2) (v := ?v12) rfl (by kernel_rfl) (by kernel_rfl) (by kernel_rfl) (fun _ _ _ h => h) (Or.inl ⟨by rfl, ?hy12⟩) hS0 ?_
          case hy12 => (intro w' hw'; have q0 := (hw'.cell (p := ⟨w3.heap.size + 1, 0, none⟩) lF).trans F0; go_simp; try with_reducible rfl)
          simp only [List.getElem_toArray, List.getElem_cons_zero, List.getElem_cons_succ, Act.put, List.setIfInBounds_toArray, List.set_cons_zero, List.set_cons_succ]
          refine wpAnyH_take (i := 3) (v := ?v13) rfl (by kernel_rfl) (by kernel_rfl) (by kernel_rfl) (fun _ _ _ h => h) (Or.inl ⟨by rfl, ?hy13⟩) hS0 ?_
          case hy13 => (intro w' hw'; skip; go_simp; try with_reducible rfl)
          simp only [List.getElem_toArray, List.getElem_cons_zero, List.getElem_cons_succ, Act.put, List.setIfInBounds_toArray, List.set_cons_zero, List.set_cons_succ]
          refine wpAnyH_take (i := 4) (v := ?v14) rfl (by kernel_rfl) (by kernel_rfl) (by kernel_rfl) (fun _ _ _ h => h) (Or.inl ⟨by rfl, ?hy14⟩) hS0 ?_
          case hy14 => (intro w' hw'; have q0 := (hw'.cell (p := ⟨w3.heap.size + 1, 1, none⟩) lF).trans F1; go_simp; try with_reducible rfl)
          simp only [List.getElem_toArray, List.getElem_cons_zero, List.getElem_cons_succ, Act.put, List.setIfInBounds_toArray, List.set_cons_zero, List.set_cons_succ]
          refine wpAnyH_take (i := 5) (v := ?v15) rfl (by kernel_rfl) (by kernel_rfl) (by kernel_rfl) (fun _ _ _ h => h) (Or.inl ⟨by rfl, ?hy15⟩) hS0 ?_
          case hy15 => (intro w' hw'; skip; go_simp; try with_reducible rfl)
          simp only [List.getElem_toArray, List.getElem_cons_zero, List.getElem_cons_succ, Act.put, List.setIfInBounds_toArray, List.set_cons_zero, List.set_cons_succ]
          refine wpAnyH_take (i := 6) (v := ?v16) rfl (by kernel_rfl) (by kernel_rfl) (by kernel_rfl) (fun _ _ _ h => h) (Or.inl ⟨by rfl, ?hy16⟩) hS0 ?_
          case hy16 => (intro w' hw'; have q0 := (hw'.cell (p := ⟨b, 0, none⟩) lB).trans u0; have q1 := (hw'.cell (p := ⟨b, 1, none⟩) lB).trans u1; go_simp; try with_reducible rfl)
          simp only [List.getElem_toArray, List.getElem_cons_zero, List.getElem_cons_succ, Act.put, List.setIfInBounds_toArray, List.set_cons_zero, List.set_cons_succ]
          refine rgn.one (i := 7) _ rfl (by kernel_rfl) (by rfl) ?_
          try simp only [List.getElem_toArray, List.getElem_cons_zero, List.getElem_cons_succ, Act.put, List.setIfInBounds_toArray, List.set_cons_zero, List.set_cons_succ]
          refine rgn.call_wp _ _ _ _ rfl Tryz.func10 (by kernel_rfl) (by kernel_rfl) #[.agg #[.int .i64 K, .slice (some ⟨c7, 0, none⟩) 1 1, .slice none 0 0], .int .i64 K, .agg #[.int .i64 t.ln, .int .i64 t.co]] (by first | kernel_rfl | (simp only [List.map_toArray, List.map_cons, List.map_nil]; rfl)) ?_
          refine (fails_ok K c7 t.ln t.co _ ((hS0.cell (p := ⟨c7, 0, none⟩) lC).trans v0) ((hS0.cell (p := ⟨c7, 1, none⟩) lC).trans v1) (Nat.lt_of_lt_of_le lC hS0.size)).mono ?_
          rintro e9 w9 ⟨rfl, b9⟩
          have hS9 := hS0.trans (b9.mono hS0.size)
          refine ⟨_, rfl, hS9, ?_⟩
          clear hS0
          have hS0 := hS9
          try simp only [List.getElem_toArray, List.getElem_cons_zero, List.getElem_cons_succ, Act.put, List.setIfInBounds_toArray, List.set_cons_zero, List.set_cons_succ]
          refine wpAnyH_take (i := 8) (v := ?v17) rfl (by kernel_rfl) (by kernel_rfl) (by kernel_rfl) (fun _ _ _ h => h) (Or.inl ⟨by rfl, ?hy17⟩) hS0 ?_
          case hy17 => (intro w' hw'; skip; go_simp; try with_reducible rfl)
          simp only [List.getElem_toArray, List.getElem_cons_zero, List.getElem_cons_succ, Act.put, List.setIfInBounds_toArray, List.set_cons_zero, List.set_cons_succ]
          refine wpAnyH_done (by kernel_rfl) ?_ _; refine NoPanic.normal ?_
          go_wp2_with fail
          go_ret
          exact ⟨rfl, (unhide BZ).trans (hS9.mono (unhide BZ).size)⟩
        · try simp only [List.getElem_toArray, List.getElem_cons_zero, List.getElem_cons_succ, Act.put, List.setIfInBounds_toArray, List.set_cons_zero, List.set_cons_succ]
          refine rgn.alloc_wp 38 rfl (hal _) ?_
          obtain ⟨V5, hV5⟩ : ∃ V, V = V2.alloc (.cells #[.int .i64 0, .int .i64 0, .int .i64 0, .int .i64 0, .int .i64 0, .string ⟨#[]⟩, .string ⟨#[]⟩] 38) := ⟨_, rfl⟩
          have bv5 : Below V2.heap.size V2 V5 := by rw [hV5]; exact (Below.refl _ _).alloc (Nat.le_refl _) _
          have gT5 : V5.heap[V2.heap.size]? = some (.cells #[.int .i64 0, .int .i64 0, .int .i64 0, .int .i64 0, .int .i64 0, .string ⟨#[]⟩, .string ⟨#[]⟩] 38 (0, 0)) := by rw [hV5]; exact heap_alloc_new _ _
          have sv5 : V2.heap.size + 1 ≤ V5.heap.size := by rw [hV5]; simp
          rw [← hV5]
          clear hV5
          have hSn5 := hS0.trans (bv5.mono hS0.size)
          refine ⟨hSn5, ?_⟩
          clear hS0
          have hS0 := hSn5
          have hrw5 := fun i u hu => (hrw2 i u hu).below bv5
          try simp only [List.getElem_toArray, List.getElem_cons_zero, List.getElem_cons_succ, Act.put, List.setIfInBounds_toArray, List.set_cons_zero, List.set_cons_succ]
          refine rgn.one (i := 7) _ rfl (by kernel_rfl) (by rfl) ?_
          try simp only [List.getElem_toArray, List.getElem_cons_zero, List.getElem_cons_succ, Act.put, List.setIfInBounds_toArray, List.set_cons_zero, List.set_cons_succ]
          refine rgn.call_wp _ _ _ _ rfl Tryz.func7 (by kernel_rfl) (by kernel_rfl) #[.slice (some ⟨p2, 0, none⟩) (toks (mem.bytesZ s)).length ct2, .agg #[.int .i64 t.ln, .int .i64 t.co]] (by first | kernel_rfl | (simp only [List.map_toArray, List.map_cons, List.map_nil]; rfl)) ?_
          refine (tokenAt_ok p2 _ ct2 (toks (mem.bytesZ s)) m t _ rfl (by omega) (by omega) hrw5 (unhide HS).1 (unhide HS).2.1).mono ?_
          rintro e' V6 ⟨rfl, bv6⟩
          have sv6 := bv6.size
          have hSn6 := hS0.trans (bv6.mono hS0.size)
          have gT6 := (bv6.block _ (by omega)).trans gT5
          refine ⟨_, rfl, hSn6, ?_⟩
          clear hS0
          have hS0 := hSn6
          try simp only [List.getElem_toArray, List.getElem_cons_zero, List.getElem_cons_succ, Act.put, List.setIfInBounds_toArray, List.set_cons_zero, List.set_cons_succ]
          refine wpAnyH_take (i := 8) (v := ?v18) rfl (by kernel_rfl) (by kernel_rfl) (by kernel_rfl) (fun _ _ _ h => h) (Or.inl ⟨by rfl, ?hy18⟩) hS0 ?_
          case hy18 => (intro w' hw'; skip; go_simp; try with_reducible rfl)
          simp only [List.getElem_toArray, List.getElem_cons_zero, List.getElem_cons_succ, Act.put, List.setIfInBounds_toArray, List.set_cons_zero, List.set_cons_succ]
          refine wpAnyH_take (i := 9) (v := ?v19) rfl (by kernel_rfl) (by kernel_rfl) (by kernel_rfl) (fun _ _ _ h => h) (Or.inl ⟨by rfl, ?hy19⟩) hS0 ?_
          case hy19 => (intro w' hw'; skip; go_simp; try with_reducible rfl)
          simp only [List.getElem_toArray, List.getElem_cons_zero, List.getElem_cons_succ, Act.put, List.setIfInBounds_toArray, List.set_cons_zero, List.set_cons_succ]
          refine wpAnyH_take (i := 10) (v := ?v20) rfl (by kernel_rfl) (by kernel_rfl) (by kernel_rfl) (fun _ _ _ h => h) (Or.inl ⟨by rfl, ?hy20⟩) hS0 ?_
          case hy20 => (intro w' hw'; skip; go_simp; try with_reducible rfl)
          simp only [List.getElem_toArray, List.getElem_cons_zero, List.getElem_cons_succ, Act.put, List.setIfInBounds_toArray, List.set_cons_zero, List.set_cons_succ]
          refine rgn.one (i := 12) _ rfl (by kernel_rfl) (by rfl) ?_
          try simp only [List.getElem_toArray, List.getElem_cons_zero, List.getElem_cons_succ, Act.put, List.setIfInBounds_toArray, List.set_cons_zero, List.set_cons_succ]
          have hth : V6.there V2.heap.size 0 7 := dt.there_cells gT6 (by decide)
          refine wp_store_mid 38 _ _ (by rfl) V2.heap.size 0 #[.int .i64 t.k, .int .i64 t.ln, .int .i64 t.co, .int .i64 t.fr, .int .i64 t.to, .string t.tx, .string t.va] (by rfl) (by rfl) hth infoTk9 (dt.one_cells (cs := [.int .i64 t.k, .int .i64 t.ln, .int .i64 t.co, .int .i64 t.fr, .int .i64 t.to, .string t.tx, .string t.va]) (by rfl)) ?_
          obtain ⟨Y2, hY2⟩ : ∃ Y2, Y2 = V6.setCells V2.heap.size 0 (#[.int .i64 t.k, .int .i64 t.ln, .int .i64 t.co, .int .i64 t.fr, .int .i64 t.to, .string t.tx, .string t.va] : Array Value).toList := ⟨_, rfl⟩
          have bY2 : Below X.heap.size X Y2 := by rw [hY2]; exact dt.below_setCells _ _ _ _ hS0 (by omega)
          have gY2 : Y2.heap[V2.heap.size]? = some (.cells #[.int .i64 t.k, .int .i64 t.ln, .int .i64 t.co, .int .i64 t.fr, .int .i64 t.to, .string t.tx, .string t.va] 38 (0, 0)) := by rw [hY2]; exact (dt.setCells_at [.int .i64 t.k, .int .i64 t.ln, .int .i64 t.co, .int .i64 t.fr, .int .i64 t.to, .string t.tx, .string t.va] 0 V6 _ gT6).trans (by kernel_rfl)
          have qY2 : V2.heap.size < Y2.heap.size := (Array.getElem?_eq_some_iff.1 gY2).1
          rw [← hY2]
          clear hY2 hth
          refine ⟨bY2, ?_⟩
          clear hS0
          have hS0 := bY2
          try simp only [List.getElem_toArray, List.getElem_cons_zero, List.getElem_cons_succ, Act.put, List.setIfInBounds_toArray, List.set_cons_zero, List.set_cons_succ]
          refine wpAnyH_take (i := 13) (v := ?v21) rfl (by kernel_rfl) (by kernel_rfl) (by kernel_rfl) (fun _ _ _ h => h) (Or.inl ⟨by rfl, ?hy21⟩) hS0 ?_
          case hy21 => (intro w' hw'; skip; go_simp; try with_reducible rfl)
          simp only [List.getElem_toArray, List.getElem_cons_zero, List.getElem_cons_succ, Act.put, List.setIfInBounds_toArray, List.set_cons_zero, List.set_cons_succ]
          refine wpAnyH_done (by kernel_rfl) ?_ _; refine NoPanic.normal ?_
          have k0 : Y2.cell? ⟨V2.heap.size, 0, none⟩ = some (.int .i64 t.k) := (dt.cell_cells gY2 0).trans rfl
          have k4 : Y2.cell? ⟨V2.heap.size, 4, none⟩ = some (.int .i64 t.to) := (dt.cell_cells gY2 4).trans rfl
          have gF := (bY2.block (w3.heap.size + 1) (by omega)).trans gX
          have f0 : Y2.cell? ⟨w3.heap.size + 1, 0, none⟩ = some (.int .i64 K) := (dt.cell_cells gF 0).trans rfl
          have f1 : Y2.cell? ⟨w3.heap.size + 1, 1, none⟩ = some (.slice (some ⟨b, 0, none⟩) 1 1) := (dt.cell_cells gF 1).trans rfl
          have r0 := (bY2.cell (p := ⟨b, 0, none⟩) (show b < X.heap.size by omega)).trans p0
          have r1 := (bY2.cell (p := ⟨b, 1, none⟩) (show b < X.heap.size by omega)).trans p1
          have BY := hide (bw3.trans ((bX.trans (bY2.mono bX.size)).mono bw3.size))
          have HK := hide (unhide HS).2.2.2
          have hm0 : ¬ ((m : Int) < 0) := by omega
          by_cases h0 : t.k = 0
          · obtain rfl : K = 70 := (unhide HK).1 (.inl h0)
            rw [h0] at k0
            go_wp2_with fail
            go_ret
            exact ⟨rfl, unhide BY⟩
          by_cases h1 : t.k = 1
          · obtain rfl : K = 70 := (unhide HK).1 (.inr h1)
            rw [h1] at k0
            go_wp2_with fail
            go_ret
            exact ⟨rfl, unhide BY⟩
          have h0b : (t.k == 0) = false := by simpa using h0
          have h1b : (t.k == 1) = false := by simpa using h1
          have hUp2 := hide ((unhide hUp) Y2 t.to (unhide HS).2.2.1)
          have HST := hide ((unhide HK).2 h0 h1 (mem.bytesZ tl))
          clear h0 h1
          go_wp2_with fail
          refine (unhide hUp2).mono ?_
          rintro e5 w5 ⟨rfl, b5⟩
          have hall : ((chs (mem.bytesZ s)).take t.to).all mem.scB = true := by
            rw [List.all_eq_true]
            exact fun x hx => (mem.scB_iff x).2 (lx.chs_sc (mem.bytesZ_byt s) x (List.mem_of_mem_take hx))
          have hSb : mem.bytesZ (mem.encS ((chs (mem.bytesZ s)).take t.to)) = ((chs (mem.bytesZ s)).take t.to).flatMap mem.putB := by
            unfold mem.encS
            rw [if_pos hall]
            exact mem.bytesZ_str _ (flat_byt9 _ hall)
          have hSs : (mem.encS ((chs (mem.bytesZ s)).take t.to)).size ≤ 1048576 := up_size s t.to hs hSb
          obtain ⟨S, hS⟩ : ∃ S, S = mem.encS ((chs (mem.bytesZ s)).take t.to) := ⟨_, rfl⟩
          rw [← hS] at hSb hSs ⊢
          clear hS hall hUp2
          obtain ⟨cap6, W6, hc6, hrow6, b6⟩ := conv_bytes9 (S ++ (⟨#[10]⟩ : ByteArray) ++ tl) w5
          have hz6 : mem.bytesZ (S ++ (⟨#[10]⟩ : ByteArray) ++ tl) = behind (chs (mem.bytesZ s)) t.to (mem.bytesZ tl) := by
            rw [bytesZ_app9, bytesZ_app9, hSb]
            unfold behind
            rw [List.append_assoc]
            rfl
          have hsz6 : (S ++ (⟨#[10]⟩ : ByteArray) ++ tl).size = S.size + 1 + tl.size := by rw [size_app, size_app]; rfl
          have hby6 := mem.bytesZ_byt (S ++ (⟨#[10]⟩ : ByteArray) ++ tl)
          rw [hz6] at hrow6 hby6
          rw [hsz6] at hrow6
          have hP6 := hide (parse_ok _ _ cap6 (behind (chs (mem.bytesZ s)) t.to (mem.bytesZ tl)) d W6 hrow6 (by omega) hby6 hd)
          rw [hsz6] at hc6
          have s5 := b5.size
          have s6 := b6.size
          clear hz6 hsz6 hby6 hrow6 hSb
          go_wp2_with fail
          refine (unhide hP6).mono ?_
          rintro e7 w7 ⟨sl7, fs7, rfl, hpp7, b7⟩
          have hpp8 : ParPost (docG (behind (chs (mem.bytesZ s)) t.to (mem.bytesZ tl)) d) W6.heap.size w7 sl7 fs7 := hpp7
          obtain ⟨d1, d2, d3⟩ := unhide HST
          unfold ParPost at hpp8
          rw [d1] at hpp8
          obtain ⟨rfl, hfl7⟩ := hpp8
          unfold FltAt at hfl7
          rw [d2, d3, if_neg hK0] at hfl7
          obtain ⟨c7, z1, z2, rfl, z4, z5⟩ := hfl7
          have b57 := b5.trans ((b6.trans (b7.mono b6.size)).mono b5.size)
          have s7 := b57.size
          obtain ⟨X7, hX7⟩ : ∃ X7, X7 = (w7.alloc (.cells #[.slice none 0 0] 25)).alloc (.cells #[.int .i64 K, .slice (some ⟨c7, 0, none⟩) 1 1, .slice none 0 0] 30) := ⟨_, rfl⟩
          have bX7 : Below w7.heap.size w7 X7 := by rw [hX7]; exact two_alloc _ _ _
          have gX7 := (show X7.heap[w7.heap.size]? = _ ∧ X7.heap[w7.heap.size + 1]? = _ from by rw [hX7]; exact two_at _ _ _ _ _).2
          have zX7 : w7.heap.size + 2 ≤ X7.heap.size := by rw [hX7]; simp
          have b5X := b57.trans (bX7.mono b57.size)
          have gF7 := (b5X.block (w3.heap.size + 1) (by have := bY2.size; omega)).trans gF
          have u0 := (b5X.cell (p := ⟨b, 0, none⟩) (show b < Y2.heap.size by have := bY2.size; omega)).trans r0
          have u1 := (b5X.cell (p := ⟨b, 1, none⟩) (show b < Y2.heap.size by have := bY2.size; omega)).trans r1
          have v0 := (bX7.cell (p := ⟨c7, 0, none⟩) z2).trans z4
          have v1 := (bX7.cell (p := ⟨c7, 1, none⟩) z2).trans z5
          clear HST hpp7 hP6 hc6 d1 d2 d3 f0 f1 r0 r1 k0 k4
          go_wp2_with fail
          rw [← hX7]
          clear hX7
          have BZ := hide ((unhide BY).trans (b5X.mono (unhide BY).size))
          clear hS0 b5X bX7 b57
          have hS0 : Below X7.heap.size X7 { X7 with drawn := X7.drawn + 1 } := (Below.refl _ _).drew
          have lF : w3.heap.size + 1 < X7.heap.size := (Array.getElem?_eq_some_iff.1 gF7).1
          have lB : b < X7.heap.size := World.block_lt_of_cell? X7 _ u0
          have lC : c7 < X7.heap.size := World.block_lt_of_cell? X7 _ v0
          have lG : w7.heap.size + 1 < X7.heap.size := by omega
          have G0 : X7.cell? ⟨w7.heap.size + 1, 0, none⟩ = some (.int .i64 K) := (dt.cell_cells gX7 0).trans rfl
          have G1 : X7.cell? ⟨w7.heap.size + 1, 1, none⟩ = some (.slice (some ⟨c7, 0, none⟩) 1 1) := (dt.cell_cells gX7 1).trans rfl
          have G2 : X7.cell? ⟨w7.heap.size + 1, 2, none⟩ = some (.slice none 0 0) := (dt.cell_cells gX7 2).trans rfl
          have F0 : X7.cell? ⟨w3.heap.size + 1, 0, none⟩ = some (.int .i64 K) := (dt.cell_cells gF7 0).trans rfl
          have F1 : X7.cell? ⟨w3.heap.size + 1, 1, none⟩ = some (.slice (some ⟨b, 0, none⟩) 1 1) := (dt.cell_cells gF7 1).trans rfl
          refine wp_region_noPanic ?_
          refine wp_region_held (S := fun w' => Below X7.heap.size X7 w') mixed ?_
          refine wpAnyH_take (i := 0) (v := ?v22) rfl (by kernel_rfl) (by kernel_rfl) (by kernel_rfl) (fun _ _ _ h => h) (Or.inl ⟨by rfl, ?hy22⟩) hS0 ?_
          case hy22 => (intro w' hw'; have q0 := (hw'.cell (p := ⟨w7.heap.size + 1, 0, none⟩) lG).trans G0; have q1 := (hw'.cell (p := ⟨w7.heap.size + 1, 1, none⟩) lG).trans G1; have q2 := (hw'.cell (p := ⟨w7.heap.size + 1, 2, none⟩) lG).trans G2; go_simp; try with_reducible rfl)
          simp only [List.getElem_toArray, List.getElem_cons_zero, List.getElem_cons_succ, Act.put, List.setIfInBounds_toArray, List.set_cons_zero, List.set_cons_succ]
          refine wpAnyH_take (i := 1) (v := ?v23) rfl (by kernel_rfl) (by kernel_rfl) (by kernel_rfl) (fun _ _ _ h => h) (Or.inl ⟨by rfl, ?hy23⟩) hS0 ?_
          case hy23 => (intro w' hw'; skip; go_simp; try with_reducible rfl)
          simp only [List.getElem_toArray, List.getElem_cons_zero, List.getElem_cons_succ, Act.put, List.setIfInBounds_toArray, List.set_cons_zero, List.set_cons_succ]
          refine wpAnyH_take (i := 2) (v := ?v24) rfl (by kernel_rfl) (by kernel_rfl) (by kernel_rfl) (fun _ _ _ h => h) (Or.inl ⟨by rfl, ?hy24⟩) hS0 ?_
          case hy24 => (intro w' hw'; have q0 := (hw'.cell (p := ⟨w3.heap.size + 1, 0, none⟩) lF).trans F0; go_simp; try with_reducible rfl)
          simp only [List.getElem_toArray, List.getElem_cons_zero, List.getElem_cons_succ, Act.put, List.setIfInBounds_toArray, List.set_cons_zero, List.set_cons_succ]
          refine wpAnyH_take (i := 3) (v := ?v25) rfl (by kernel_rfl) (by kernel_rfl) (by kernel_rfl) (fun _ _ _ h => h) (Or.inl ⟨by rfl, ?hy25⟩) hS0 ?_
          case hy25 => (intro w' hw'; skip; go_simp; try with_reducible rfl)
          simp only [List.getElem_toArray, List.getElem_cons_zero, List.getElem_cons_succ, Act.put, List.setIfInBounds_toArray, List.set_cons_zero, List.set_cons_succ]
          refine wpAnyH_take (i := 4) (v := ?v26) rfl (by kernel_rfl) (by kernel_rfl) (by kernel_rfl) (fun _ _ _ h => h) (Or.inl ⟨by rfl, ?hy26⟩) hS0 ?_
          case hy26 => (intro w' hw'; have q0 := (hw'.cell (p := ⟨w3.heap.size + 1, 1, none⟩) lF).trans F1; go_simp; try with_reducible rfl)
          simp only [List.getElem_toArray, List.getElem_cons_zero, List.getElem_cons_succ, Act.put, List.setIfInBounds_toArray, List.set_cons_zero, List.set_cons_succ]
          refine wpAnyH_take (i := 5) (v := ?v27) rfl (by kernel_rfl) (by kernel_rfl) (by kernel_rfl) (fun _ _ _ h => h) (Or.inl ⟨by rfl, ?hy27⟩) hS0 ?_
          case hy27 => (intro w' hw'; skip; go_simp; try with_reducible rfl)
          simp only [List.getElem_toArray, List.getElem_cons_zero, List.getElem_cons_succ, Act.put, List.setIfInBounds_toArray, List.set_cons_zero, List.set_cons_succ]
          refine wpAnyH_take (i := 6) (v := ?v28) rfl (by kernel_rfl) (by kernel_rfl) (by kernel_rfl) (fun _ _ _ h => h) (Or.inl ⟨by rfl, ?hy28⟩) hS0 ?_
          case hy28 => (intro w' hw'; have q0 := (hw'.cell (p := ⟨b, 0, none⟩) lB).trans u0; have q1 := (hw'.cell (p := ⟨b, 1, none⟩) lB).trans u1; go_simp; try with_reducible rfl)
          simp only [List.getElem_toArray, List.getElem_cons_zero, List.getElem_cons_succ, Act.put, List.setIfInBounds_toArray, List.set_cons_zero, List.set_cons_succ]
          refine rgn.one (i := 7) _ rfl (by kernel_rfl) (by rfl) ?_
          try simp only [List.getElem_toArray, List.getElem_cons_zero, List.getElem_cons_succ, Act.put, List.setIfInBounds_toArray, List.set_cons_zero, List.set_cons_succ]
          refine rgn.call_wp _ _ _ _ rfl Tryz.func10 (by kernel_rfl) (by kernel_rfl) #[.agg #[.int .i64 K, .slice (some ⟨c7, 0, none⟩) 1 1, .slice none 0 0], .int .i64 K, .agg #[.int .i64 t.ln, .int .i64 t.co]] (by first | kernel_rfl | (simp only [List.map_toArray, List.map_cons, List.map_nil]; rfl)) ?_
          refine (fails_ok K c7 t.ln t.co _ ((hS0.cell (p := ⟨c7, 0, none⟩) lC).trans v0) ((hS0.cell (p := ⟨c7, 1, none⟩) lC).trans v1) (Nat.lt_of_lt_of_le lC hS0.size)).mono ?_
          rintro e9 w9 ⟨rfl, b9⟩
          have hS9 := hS0.trans (b9.mono hS0.size)
          refine ⟨_, rfl, hS9, ?_⟩
          clear hS0
          have hS0 := hS9
          try simp only [List.getElem_toArray, List.getElem_cons_zero, List.getElem_cons_succ, Act.put, List.setIfInBounds_toArray, List.set_cons_zero, List.set_cons_succ]
          refine wpAnyH_take (i := 8) (v := ?v29) rfl (by kernel_rfl) (by kernel_rfl) (by kernel_rfl) (fun _ _ _ h => h) (Or.inl ⟨by rfl, ?hy29⟩) hS0 ?_
          case hy29 => (intro w' hw'; skip; go_simp; try with_reducible rfl)
          simp only [List.getElem_toArray, List.getElem_cons_zero, List.getElem_cons_succ, Act.put, List.setIfInBounds_toArray, List.set_cons_zero, List.set_cons_succ]
          refine wpAnyH_done (by kernel_rfl) ?_ _; refine NoPanic.normal ?_
          go_wp2_with fail
          go_ret
          exact ⟨rfl, (unhide BZ).trans (hS9.mono (unhide BZ).size)⟩
      · try simp only [List.getElem_toArray, List.getElem_cons_zero, List.getElem_cons_succ, Act.put, List.setIfInBounds_toArray, List.set_cons_zero, List.set_cons_succ]
        refine rgn.alloc_wp 38 rfl (hal _) ?_
        obtain ⟨V7, hV7⟩ : ∃ V, V = V1.alloc (.cells #[.int .i64 0, .int .i64 0, .int .i64 0, .int .i64 0, .int .i64 0, .string ⟨#[]⟩, .string ⟨#[]⟩] 38) := ⟨_, rfl⟩
        have bv7 : Below V1.heap.size V1 V7 := by rw [hV7]; exact (Below.refl _ _).alloc (Nat.le_refl _) _
        have gT7 : V7.heap[V1.heap.size]? = some (.cells #[.int .i64 0, .int .i64 0, .int .i64 0, .int .i64 0, .int .i64 0, .string ⟨#[]⟩, .string ⟨#[]⟩] 38 (0, 0)) := by rw [hV7]; exact heap_alloc_new _ _
        have sv7 : V1.heap.size + 1 ≤ V7.heap.size := by rw [hV7]; simp
        rw [← hV7]
        clear hV7
        have hSn7 := hS0.trans (bv7.mono hS0.size)
        refine ⟨hSn7, ?_⟩
        clear hS0
        have hS0 := hSn7
        have hrow7 := hrow1.below bv7
        try simp only [List.getElem_toArray, List.getElem_cons_zero, List.getElem_cons_succ, Act.put, List.setIfInBounds_toArray, List.set_cons_zero, List.set_cons_succ]
        refine rgn.one (i := 2) _ rfl (by kernel_rfl) (by rfl) ?_
        try simp only [List.getElem_toArray, List.getElem_cons_zero, List.getElem_cons_succ, Act.put, List.setIfInBounds_toArray, List.set_cons_zero, List.set_cons_succ]
        refine rgn.call_wp _ _ _ _ rfl Tryz.func8 (by kernel_rfl) (by kernel_rfl) #[.slice (some ⟨Y.heap.size, 0, none⟩) s.size cv1] (by first | kernel_rfl | (simp only [List.map_toArray, List.map_cons, List.map_nil]; rfl)) ?_
        refine ((unhide hTk) _ _ _ _ hrow7 (by omega)).mono ?_
        rintro e' V8 ⟨p8, ct8, rfl, hp18, hp28, hrw8, bv8⟩
        have sv8 := bv8.size
        have hSn8 := hS0.trans (bv8.mono hS0.size)
        have gT8 := (bv8.block _ (by omega)).trans gT7
        refine ⟨_, rfl, hSn8, ?_⟩
        clear hS0
        have hS0 := hSn8
        try simp only [List.getElem_toArray, List.getElem_cons_zero, List.getElem_cons_succ, Act.put, List.setIfInBounds_toArray, List.set_cons_zero, List.set_cons_succ]
        refine rgn.one (i := 7) _ rfl (by kernel_rfl) (by rfl) ?_
        try simp only [List.getElem_toArray, List.getElem_cons_zero, List.getElem_cons_succ, Act.put, List.setIfInBounds_toArray, List.set_cons_zero, List.set_cons_succ]
        refine rgn.call_wp _ _ _ _ rfl Tryz.func7 (by kernel_rfl) (by kernel_rfl) #[.slice (some ⟨p8, 0, none⟩) (toks (mem.bytesZ s)).length ct8, .agg #[.int .i64 t.ln, .int .i64 t.co]] (by first | kernel_rfl | (simp only [List.map_toArray, List.map_cons, List.map_nil]; rfl)) ?_
        refine (tokenAt_ok p8 _ ct8 (toks (mem.bytesZ s)) m t _ rfl (by omega) (by omega) hrw8 (unhide HS).1 (unhide HS).2.1).mono ?_
        rintro e' V9 ⟨rfl, bv9⟩
        have sv9 := bv9.size
        have hSn9 := hS0.trans (bv9.mono hS0.size)
        have gT9 := (bv9.block _ (by omega)).trans gT8
        refine ⟨_, rfl, hSn9, ?_⟩
        clear hS0
        have hS0 := hSn9
        try simp only [List.getElem_toArray, List.getElem_cons_zero, List.getElem_cons_succ, Act.put, List.setIfInBounds_toArray, List.set_cons_zero, List.set_cons_succ]
        refine wpAnyH_take (i := 8) (v := ?v30) rfl (by kernel_rfl) (by kernel_rfl) (by kernel_rfl) (fun _ _ _ h => h) (Or.inl ⟨by rfl, ?hy30⟩) hS0 ?_
        case hy30 => (intro w' hw'; skip; go_simp; try with_reducible rfl)
        simp only [List.getElem_toArray, List.getElem_cons_zero, List.getElem_cons_succ, Act.put, List.setIfInBounds_toArray, List.set_cons_zero, List.set_cons_succ]
        refine wpAnyH_take (i := 9) (v := ?v31) rfl (by kernel_rfl) (by kernel_rfl) (by kernel_rfl) (fun _ _ _ h => h) (Or.inl ⟨by rfl, ?hy31⟩) hS0 ?_
        case hy31 => (intro w' hw'; skip; go_simp; try with_reducible rfl)
        simp only [List.getElem_toArray, List.getElem_cons_zero, List.getElem_cons_succ, Act.put, List.setIfInBounds_toArray, List.set_cons_zero, List.set_cons_succ]
        refine wpAnyH_take (i := 10) (v := ?v32) rfl (by kernel_rfl) (by kernel_rfl) (by kernel_rfl) (fun _ _ _ h => h) (Or.inl ⟨by rfl, ?hy32⟩) hS0 ?_
        case hy32 => (intro w' hw'; skip; go_simp; try with_reducible rfl)
        simp only [List.getElem_toArray, List.getElem_cons_zero, List.getElem_cons_succ, Act.put, List.setIfInBounds_toArray, List.set_cons_zero, List.set_cons_succ]
        refine rgn.one (i := 12) _ rfl (by kernel_rfl) (by rfl) ?_
        try simp only [List.getElem_toArray, List.getElem_cons_zero, List.getElem_cons_succ, Act.put, List.setIfInBounds_toArray, List.set_cons_zero, List.set_cons_succ]
        have hth : V9.there V1.heap.size 0 7 := dt.there_cells gT9 (by decide)
        refine wp_store_mid 38 _ _ (by rfl) V1.heap.size 0 #[.int .i64 t.k, .int .i64 t.ln, .int .i64 t.co, .int .i64 t.fr, .int .i64 t.to, .string t.tx, .string t.va] (by rfl) (by rfl) hth infoTk9 (dt.one_cells (cs := [.int .i64 t.k, .int .i64 t.ln, .int .i64 t.co, .int .i64 t.fr, .int .i64 t.to, .string t.tx, .string t.va]) (by rfl)) ?_
        obtain ⟨Y2, hY2⟩ : ∃ Y2, Y2 = V9.setCells V1.heap.size 0 (#[.int .i64 t.k, .int .i64 t.ln, .int .i64 t.co, .int .i64 t.fr, .int .i64 t.to, .string t.tx, .string t.va] : Array Value).toList := ⟨_, rfl⟩
        have bY2 : Below X.heap.size X Y2 := by rw [hY2]; exact dt.below_setCells _ _ _ _ hS0 (by omega)
        have gY2 : Y2.heap[V1.heap.size]? = some (.cells #[.int .i64 t.k, .int .i64 t.ln, .int .i64 t.co, .int .i64 t.fr, .int .i64 t.to, .string t.tx, .string t.va] 38 (0, 0)) := by rw [hY2]; exact (dt.setCells_at [.int .i64 t.k, .int .i64 t.ln, .int .i64 t.co, .int .i64 t.fr, .int .i64 t.to, .string t.tx, .string t.va] 0 V9 _ gT9).trans (by kernel_rfl)
        have qY2 : V1.heap.size < Y2.heap.size := (Array.getElem?_eq_some_iff.1 gY2).1
        rw [← hY2]
        clear hY2 hth
        refine ⟨bY2, ?_⟩
        clear hS0
        have hS0 := bY2
        try simp only [List.getElem_toArray, List.getElem_cons_zero, List.getElem_cons_succ, Act.put, List.setIfInBounds_toArray, List.set_cons_zero, List.set_cons_succ]
        refine wpAnyH_take (i := 13) (v := ?v33) rfl (by kernel_rfl) (by kernel_rfl) (by kernel_rfl) (fun _ _ _ h => h) (Or.inl ⟨by rfl, ?hy33⟩) hS0 ?_
        case hy33 => (intro w' hw'; skip; go_simp; try with_reducible rfl)
        simp only [List.getElem_toArray, List.getElem_cons_zero, List.getElem_cons_succ, Act.put, List.setIfInBounds_toArray, List.set_cons_zero, List.set_cons_succ]
        refine wpAnyH_done (by kernel_rfl) ?_ _; refine NoPanic.normal ?_
        have k0 : Y2.cell? ⟨V1.heap.size, 0, none⟩ = some (.int .i64 t.k) := (dt.cell_cells gY2 0).trans rfl
        have k4 : Y2.cell? ⟨V1.heap.size, 4, none⟩ = some (.int .i64 t.to) := (dt.cell_cells gY2 4).trans rfl
        have gF := (bY2.block (w3.heap.size + 1) (by omega)).trans gX
        have f0 : Y2.cell? ⟨w3.heap.size + 1, 0, none⟩ = some (.int .i64 K) := (dt.cell_cells gF 0).trans rfl
        have f1 : Y2.cell? ⟨w3.heap.size + 1, 1, none⟩ = some (.slice (some ⟨b, 0, none⟩) 1 1) := (dt.cell_cells gF 1).trans rfl
        have r0 := (bY2.cell (p := ⟨b, 0, none⟩) (show b < X.heap.size by omega)).trans p0
        have r1 := (bY2.cell (p := ⟨b, 1, none⟩) (show b < X.heap.size by omega)).trans p1
        have BY := hide (bw3.trans ((bX.trans (bY2.mono bX.size)).mono bw3.size))
        have HK := hide (unhide HS).2.2.2
        have hm0 : ¬ ((m : Int) < 0) := by omega
        by_cases h0 : t.k = 0
        · obtain rfl : K = 70 := (unhide HK).1 (.inl h0)
          rw [h0] at k0
          go_wp2_with fail
          go_ret
          exact ⟨rfl, unhide BY⟩
        by_cases h1 : t.k = 1
        · obtain rfl : K = 70 := (unhide HK).1 (.inr h1)
          rw [h1] at k0
          go_wp2_with fail
          go_ret
          exact ⟨rfl, unhide BY⟩
        have h0b : (t.k == 0) = false := by simpa using h0
        have h1b : (t.k == 1) = false := by simpa using h1
        have hUp2 := hide ((unhide hUp) Y2 t.to (unhide HS).2.2.1)
        have HST := hide ((unhide HK).2 h0 h1 (mem.bytesZ tl))
        clear h0 h1
        go_wp2_with fail
        refine (unhide hUp2).mono ?_
        rintro e5 w5 ⟨rfl, b5⟩
        have hall : ((chs (mem.bytesZ s)).take t.to).all mem.scB = true := by
          rw [List.all_eq_true]
          exact fun x hx => (mem.scB_iff x).2 (lx.chs_sc (mem.bytesZ_byt s) x (List.mem_of_mem_take hx))
        have hSb : mem.bytesZ (mem.encS ((chs (mem.bytesZ s)).take t.to)) = ((chs (mem.bytesZ s)).take t.to).flatMap mem.putB := by
          unfold mem.encS
          rw [if_pos hall]
          exact mem.bytesZ_str _ (flat_byt9 _ hall)
        have hSs : (mem.encS ((chs (mem.bytesZ s)).take t.to)).size ≤ 1048576 := up_size s t.to hs hSb
        obtain ⟨S, hS⟩ : ∃ S, S = mem.encS ((chs (mem.bytesZ s)).take t.to) := ⟨_, rfl⟩
        rw [← hS] at hSb hSs ⊢
        clear hS hall hUp2
        obtain ⟨cap6, W6, hc6, hrow6, b6⟩ := conv_bytes9 (S ++ (⟨#[10]⟩ : ByteArray) ++ tl) w5
        have hz6 : mem.bytesZ (S ++ (⟨#[10]⟩ : ByteArray) ++ tl) = behind (chs (mem.bytesZ s)) t.to (mem.bytesZ tl) := by
          rw [bytesZ_app9, bytesZ_app9, hSb]
          unfold behind
          rw [List.append_assoc]
          rfl
        have hsz6 : (S ++ (⟨#[10]⟩ : ByteArray) ++ tl).size = S.size + 1 + tl.size := by rw [size_app, size_app]; rfl
        have hby6 := mem.bytesZ_byt (S ++ (⟨#[10]⟩ : ByteArray) ++ tl)
        rw [hz6] at hrow6 hby6
        rw [hsz6] at hrow6
        have hP6 := hide (parse_ok _ _ cap6 (behind (chs (mem.bytesZ s)) t.to (mem.bytesZ tl)) d W6 hrow6 (by omega) hby6 hd)
        rw [hsz6] at hc6
        have s5 := b5.size
        have s6 := b6.size
        clear hz6 hsz6 hby6 hrow6 hSb
        go_wp2_with fail
        refine (unhide hP6).mono ?_
        rintro e7 w7 ⟨sl7, fs7, rfl, hpp7, b7⟩
        have hpp8 : ParPost (docG (behind (chs (mem.bytesZ s)) t.to (mem.bytesZ tl)) d) W6.heap.size w7 sl7 fs7 := hpp7
        obtain ⟨d1, d2, d3⟩ := unhide HST
        unfold ParPost at hpp8
        rw [d1] at hpp8
        obtain ⟨rfl, hfl7⟩ := hpp8
        unfold FltAt at hfl7
        rw [d2, d3, if_neg hK0] at hfl7
        obtain ⟨c7, z1, z2, rfl, z4, z5⟩ := hfl7
        have b57 := b5.trans ((b6.trans (b7.mono b6.size)).mono b5.size)
        have s7 := b57.size
        obtain ⟨X7, hX7⟩ : ∃ X7, X7 = (w7.alloc (.cells #[.slice none 0 0] 25)).alloc (.cells #[.int .i64 K, .slice (some ⟨c7, 0, none⟩) 1 1, .slice none 0 0] 30) := ⟨_, rfl⟩
        have bX7 : Below w7.heap.size w7 X7 := by rw [hX7]; exact two_alloc _ _ _
        have gX7 := (show X7.heap[w7.heap.size]? = _ ∧ X7.heap[w7.heap.size + 1]? = _ from by rw [hX7]; exact two_at _ _ _ _ _).2
        have zX7 : w7.heap.size + 2 ≤ X7.heap.size := by rw [hX7]; simp
        have b5X := b57.trans (bX7.mono b57.size)
        have gF7 := (b5X.block (w3.heap.size + 1) (by have := bY2.size; omega)).trans gF
        have u0 := (b5X.cell (p := ⟨b, 0, none⟩) (show b < Y2.heap.size by have := bY2.size; omega)).trans r0
        have u1 := (b5X.cell (p := ⟨b, 1, none⟩) (show b < Y2.heap.size by have := bY2.size; omega)).trans r1
        have v0 := (bX7.cell (p := ⟨c7, 0, none⟩) z2).trans z4
        have v1 := (bX7.cell (p := ⟨c7, 1, none⟩) z2).trans z5
        clear HST hpp7 hP6 hc6 d1 d2 d3 f0 f1 r0 r1 k0 k4
        go_wp2_with fail
        rw [← hX7]
        clear hX7
        have BZ := hide ((unhide BY).trans (b5X.mono (unhide BY).size))
        clear hS0 b5X bX7 b57
        have hS0 : Below X7.heap.size X7 { X7 with drawn := X7.drawn + 1 } := (Below.refl _ _).drew
        have lF : w3.heap.size + 1 < X7.heap.size := (Array.getElem?_eq_some_iff.1 gF7).1
        have lB : b < X7.heap.size := World.block_lt_of_cell? X7 _ u0
        have lC : c7 < X7.heap.size := World.block_lt_of_cell? X7 _ v0
        have lG : w7.heap.size + 1 < X7.heap.size := by omega
        have G0 : X7.cell? ⟨w7.heap.size + 1, 0, none⟩ = some (.int .i64 K) := (dt.cell_cells gX7 0).trans rfl
        have G1 : X7.cell? ⟨w7.heap.size + 1, 1, none⟩ = some (.slice (some ⟨c7, 0, none⟩) 1 1) := (dt.cell_cells gX7 1).trans rfl
        have G2 : X7.cell? ⟨w7.heap.size + 1, 2, none⟩ = some (.slice none 0 0) := (dt.cell_cells gX7 2).trans rfl
        have F0 : X7.cell? ⟨w3.heap.size + 1, 0, none⟩ = some (.int .i64 K) := (dt.cell_cells gF7 0).trans rfl
        have F1 : X7.cell? ⟨w3.heap.size + 1, 1, none⟩ = some (.slice (some ⟨b, 0, none⟩) 1 1) := (dt.cell_cells gF7 1).trans rfl
        refine wp_region_noPanic ?_
        refine wp_region_held (S := fun w' => Below X7.heap.size X7 w') mixed ?_
        refine wpAnyH_take (i := 0) (v := ?v34) rfl (by kernel_rfl) (by kernel_rfl) (by kernel_rfl) (fun _ _ _ h => h) (Or.inl ⟨by rfl, ?hy34⟩) hS0 ?_
        case hy34 => (intro w' hw'; have q0 := (hw'.cell (p := ⟨w7.heap.size + 1, 0, none⟩) lG).trans G0; have q1 := (hw'.cell (p := ⟨w7.heap.size + 1, 1, none⟩) lG).trans G1; have q2 := (hw'.cell (p := ⟨w7.heap.size + 1, 2, none⟩) lG).trans G2; go_simp; try with_reducible rfl)
        simp only [List.getElem_toArray, List.getElem_cons_zero, List.getElem_cons_succ, Act.put, List.setIfInBounds_toArray, List.set_cons_zero, List.set_cons_succ]
        refine wpAnyH_take (i := 1) (v := ?v35) rfl (by kernel_rfl) (by kernel_rfl) (by kernel_rfl) (fun _ _ _ h => h) (Or.inl ⟨by rfl, ?hy35⟩) hS0 ?_
        case hy35 => (intro w' hw'; skip; go_simp; try with_reducible rfl)
        simp only [List.getElem_toArray, List.getElem_cons_zero, List.getElem_cons_succ, Act.put, List.setIfInBounds_toArray, List.set_cons_zero, List.set_cons_succ]
        refine wpAnyH_take (i := 2) (v := ?v36) rfl (by kernel_rfl) (by kernel_rfl) (by kernel_rfl) (fun _ _ _ h => h) (Or.inl ⟨by rfl, ?hy36⟩) hS0 ?_
        case hy36 => (intro w' hw'; have q0 := (hw'.cell (p := ⟨w3.heap.size + 1, 0, none⟩) lF).trans F0; go_simp; try with_reducible rfl)
        simp only [List.getElem_toArray, List.getElem_cons_zero, List.getElem_cons_succ, Act.put, List.setIfInBounds_toArray, List.set_cons_zero, List.set_cons_succ]
        refine wpAnyH_take (i := 3) (v := ?v37) rfl (by kernel_rfl) (by kernel_rfl) (by kernel_rfl) (fun _ _ _ h => h) (Or.inl ⟨by rfl, ?hy37⟩) hS0 ?_
        case hy37 => (intro w' hw'; skip; go_simp; try with_reducible rfl)
        simp only [List.getElem_toArray, List.getElem_cons_zero, List.getElem_cons_succ, Act.put, List.setIfInBounds_toArray, List.set_cons_zero, List.set_cons_succ]
        refine wpAnyH_take (i := 4) (v := ?v38) rfl (by kernel_rfl) (by kernel_rfl) (by kernel_rfl) (fun _ _ _ h => h) (Or.inl ⟨by rfl, ?hy38⟩) hS0 ?_
        case hy38 => (intro w' hw'; have q0 := (hw'.cell (p := ⟨w3.heap.size + 1, 1, none⟩) lF).trans F1; go_simp; try with_reducible rfl)
        simp only [List.getElem_toArray, List.getElem_cons_zero, List.getElem_cons_succ, Act.put, List.setIfInBounds_toArray, List.set_cons_zero, List.set_cons_succ]
        refine wpAnyH_take (i := 5) (v := ?v39) rfl (by kernel_rfl) (by kernel_rfl) (by kernel_rfl) (fun _ _ _ h => h) (Or.inl ⟨by rfl, ?hy39⟩) hS0 ?_
        case hy39 => (intro w' hw'; skip; go_simp; try with_reducible rfl)
        simp only [List.getElem_toArray, List.getElem_cons_zero, List.getElem_cons_succ, Act.put, List.setIfInBounds_toArray, List.set_cons_zero, List.set_cons_succ]
        refine wpAnyH_take (i := 6) (v := ?v40) rfl (by kernel_rfl) (by kernel_rfl) (by kernel_rfl) (fun _ _ _ h => h) (Or.inl ⟨by rfl, ?hy40⟩) hS0 ?_
        case hy40 => (intro w' hw'; have q0 := (hw'.cell (p := ⟨b, 0, none⟩) lB).trans u0; have q1 := (hw'.cell (p := ⟨b, 1, none⟩) lB).trans u1; go_simp; try with_reducible rfl)
        simp only [List.getElem_toArray, List.getElem_cons_zero, List.getElem_cons_succ, Act.put, List.setIfInBounds_toArray, List.set_cons_zero, List.set_cons_succ]
        refine rgn.one (i := 7) _ rfl (by kernel_rfl) (by rfl) ?_
        try simp only [List.getElem_toArray, List.getElem_cons_zero, List.getElem_cons_succ, Act.put, List.setIfInBounds_toArray, List.set_cons_zero, List.set_cons_succ]
        refine rgn.call_wp _ _ _ _ rfl Tryz.func10 (by kernel_rfl) (by kernel_rfl) #[.agg #[.int .i64 K, .slice (some ⟨c7, 0, none⟩) 1 1, .slice none 0 0], .int .i64 K, .agg #[.int .i64 t.ln, .int .i64 t.co]] (by first | kernel_rfl | (simp only [List.map_toArray, List.map_cons, List.map_nil]; rfl)) ?_
        refine (fails_ok K c7 t.ln t.co _ ((hS0.cell (p := ⟨c7, 0, none⟩) lC).trans v0) ((hS0.cell (p := ⟨c7, 1, none⟩) lC).trans v1) (Nat.lt_of_lt_of_le lC hS0.size)).mono ?_
        rintro e9 w9 ⟨rfl, b9⟩
        have hS9 := hS0.trans (b9.mono hS0.size)
        refine ⟨_, rfl, hS9, ?_⟩
        clear hS0
        have hS0 := hS9
        try simp only [List.getElem_toArray, List.getElem_cons_zero, List.getElem_cons_succ, Act.put, List.setIfInBounds_toArray, List.set_cons_zero, List.set_cons_succ]
        refine wpAnyH_take (i := 8) (v := ?v41) rfl (by kernel_rfl) (by kernel_rfl) (by kernel_rfl) (fun _ _ _ h => h) (Or.inl ⟨by rfl, ?hy41⟩) hS0 ?_
        case hy41 => (intro w' hw'; skip; go_simp; try with_reducible rfl)
        simp only [List.getElem_toArray, List.getElem_cons_zero, List.getElem_cons_succ, Act.put, List.setIfInBounds_toArray, List.set_cons_zero, List.set_cons_succ]
        refine wpAnyH_done (by kernel_rfl) ?_ _; refine NoPanic.normal ?_
        go_wp2_with fail
        go_ret
        exact ⟨rfl, (unhide BZ).trans (hS9.mono (unhide BZ).size)⟩
    · try simp only [List.getElem_toArray, List.getElem_cons_zero, List.getElem_cons_succ, Act.put, List.setIfInBounds_toArray, List.set_cons_zero, List.set_cons_succ]
      refine rgn.alloc_wp 38 rfl (hal _) ?_
      obtain ⟨V10, hV10⟩ : ∃ V, V = Y.alloc (.cells #[.int .i64 0, .int .i64 0, .int .i64 0, .int .i64 0, .int .i64 0, .string ⟨#[]⟩, .string ⟨#[]⟩] 38) := ⟨_, rfl⟩
      have bv10 : Below Y.heap.size Y V10 := by rw [hV10]; exact (Below.refl _ _).alloc (Nat.le_refl _) _
      have gT10 : V10.heap[Y.heap.size]? = some (.cells #[.int .i64 0, .int .i64 0, .int .i64 0, .int .i64 0, .int .i64 0, .string ⟨#[]⟩, .string ⟨#[]⟩] 38 (0, 0)) := by rw [hV10]; exact heap_alloc_new _ _
      have sv10 : Y.heap.size + 1 ≤ V10.heap.size := by rw [hV10]; simp
      rw [← hV10]
      clear hV10
      have hSn10 := hS0.trans (bv10.mono hS0.size)
      refine ⟨hSn10, ?_⟩
      clear hS0
      have hS0 := hSn10
      try simp only [List.getElem_toArray, List.getElem_cons_zero, List.getElem_cons_succ, Act.put, List.setIfInBounds_toArray, List.set_cons_zero, List.set_cons_succ]
      refine rgn.one (i := 1) _ rfl (by kernel_rfl) (by rfl) ?_
      try simp only [List.getElem_toArray, List.getElem_cons_zero, List.getElem_cons_succ, Act.put, List.setIfInBounds_toArray, List.set_cons_zero, List.set_cons_succ]
      obtain ⟨cv11, V11, hcv11, hrow11, bv11⟩ := (unhide hcv) V10
      refine rgn.conv_wp 9 33 _ rfl (.string s) (by rfl) hcv11 ?_
      have sv11 := bv11.size
      have hSn11 := hS0.trans (bv11.mono hS0.size)
      refine ⟨hSn11, ?_⟩
      clear hS0
      have hS0 := hSn11
      have gT11 := (bv11.block _ (by omega)).trans gT10
      try simp only [List.getElem_toArray, List.getElem_cons_zero, List.getElem_cons_succ, Act.put, List.setIfInBounds_toArray, List.set_cons_zero, List.set_cons_succ]
      clear hcv11
      refine rgn.one (i := 2) _ rfl (by kernel_rfl) (by rfl) ?_
      try simp only [List.getElem_toArray, List.getElem_cons_zero, List.getElem_cons_succ, Act.put, List.setIfInBounds_toArray, List.set_cons_zero, List.set_cons_succ]
      refine rgn.call_wp _ _ _ _ rfl Tryz.func8 (by kernel_rfl) (by kernel_rfl) #[.slice (some ⟨V10.heap.size, 0, none⟩) s.size cv11] (by first | kernel_rfl | (simp only [List.map_toArray, List.map_cons, List.map_nil]; rfl)) ?_
      refine ((unhide hTk) _ _ _ _ hrow11 (by omega)).mono ?_
      rintro e' V12 ⟨p12, ct12, rfl, hp112, hp212, hrw12, bv12⟩
      have sv12 := bv12.size
      have hSn12 := hS0.trans (bv12.mono hS0.size)
      have gT12 := (bv12.block _ (by omega)).trans gT11
      refine ⟨_, rfl, hSn12, ?_⟩
      clear hS0
      have hS0 := hSn12
      try simp only [List.getElem_toArray, List.getElem_cons_zero, List.getElem_cons_succ, Act.put, List.setIfInBounds_toArray, List.set_cons_zero, List.set_cons_succ]
      refine rgn.one (i := 7) _ rfl (by kernel_rfl) (by rfl) ?_
      try simp only [List.getElem_toArray, List.getElem_cons_zero, List.getElem_cons_succ, Act.put, List.setIfInBounds_toArray, List.set_cons_zero, List.set_cons_succ]
      refine rgn.call_wp _ _ _ _ rfl Tryz.func7 (by kernel_rfl) (by kernel_rfl) #[.slice (some ⟨p12, 0, none⟩) (toks (mem.bytesZ s)).length ct12, .agg #[.int .i64 t.ln, .int .i64 t.co]] (by first | kernel_rfl | (simp only [List.map_toArray, List.map_cons, List.map_nil]; rfl)) ?_
      refine (tokenAt_ok p12 _ ct12 (toks (mem.bytesZ s)) m t _ rfl (by omega) (by omega) hrw12 (unhide HS).1 (unhide HS).2.1).mono ?_
      rintro e' V13 ⟨rfl, bv13⟩
      have sv13 := bv13.size
      have hSn13 := hS0.trans (bv13.mono hS0.size)
      have gT13 := (bv13.block _ (by omega)).trans gT12
      refine ⟨_, rfl, hSn13, ?_⟩
      clear hS0
      have hS0 := hSn13
      try simp only [List.getElem_toArray, List.getElem_cons_zero, List.getElem_cons_succ, Act.put, List.setIfInBounds_toArray, List.set_cons_zero, List.set_cons_succ]
      refine wpAnyH_take (i := 8) (v := ?v42) rfl (by kernel_rfl) (by kernel_rfl) (by kernel_rfl) (fun _ _ _ h => h) (Or.inl ⟨by rfl, ?hy42⟩) hS0 ?_
      case hy42 => (intro w' hw'; skip; go_simp; try with_reducible rfl)
      simp only [List.getElem_toArray, List.getElem_cons_zero, List.getElem_cons_succ, Act.put, List.setIfInBounds_toArray, List.set_cons_zero, List.set_cons_succ]
      refine wpAnyH_take (i := 9) (v := ?v43) rfl (by kernel_rfl) (by kernel_rfl) (by kernel_rfl) (fun _ _ _ h => h) (Or.inl ⟨by rfl, ?hy43⟩) hS0 ?_
      case hy43 => (intro w' hw'; skip; go_simp; try with_reducible rfl)
      simp only [List.getElem_toArray, List.getElem_cons_zero, List.getElem_cons_succ, Act.put, List.setIfInBounds_toArray, List.set_cons_zero, List.set_cons_succ]
      refine wpAnyH_take (i := 10) (v := ?v44) rfl (by kernel_rfl) (by kernel_rfl) (by kernel_rfl) (fun _ _ _ h => h) (Or.inl ⟨by rfl, ?hy44⟩) hS0 ?_
      case hy44 => (intro w' hw'; skip; go_simp; try with_reducible rfl)
      simp only [List.getElem_toArray, List.getElem_cons_zero, List.getElem_cons_succ, Act.put, List.setIfInBounds_toArray, List.set_cons_zero, List.set_cons_succ]
      refine rgn.one (i := 12) _ rfl (by kernel_rfl) (by rfl) ?_
      try simp only [List.getElem_toArray, List.getElem_cons_zero, List.getElem_cons_succ, Act.put, List.setIfInBounds_toArray, List.set_cons_zero, List.set_cons_succ]
      have hth : V13.there Y.heap.size 0 7 := dt.there_cells gT13 (by decide)
      refine wp_store_mid 38 _ _ (by rfl) Y.heap.size 0 #[.int .i64 t.k, .int .i64 t.ln, .int .i64 t.co, .int .i64 t.fr, .int .i64 t.to, .string t.tx, .string t.va] (by rfl) (by rfl) hth infoTk9 (dt.one_cells (cs := [.int .i64 t.k, .int .i64 t.ln, .int .i64 t.co, .int .i64 t.fr, .int .i64 t.to, .string t.tx, .string t.va]) (by rfl)) ?_
      obtain ⟨Y2, hY2⟩ : ∃ Y2, Y2 = V13.setCells Y.heap.size 0 (#[.int .i64 t.k, .int .i64 t.ln, .int .i64 t.co, .int .i64 t.fr, .int .i64 t.to, .string t.tx, .string t.va] : Array Value).toList := ⟨_, rfl⟩
      have bY2 : Below X.heap.size X Y2 := by rw [hY2]; exact dt.below_setCells _ _ _ _ hS0 (by omega)
      have gY2 : Y2.heap[Y.heap.size]? = some (.cells #[.int .i64 t.k, .int .i64 t.ln, .int .i64 t.co, .int .i64 t.fr, .int .i64 t.to, .string t.tx, .string t.va] 38 (0, 0)) := by rw [hY2]; exact (dt.setCells_at [.int .i64 t.k, .int .i64 t.ln, .int .i64 t.co, .int .i64 t.fr, .int .i64 t.to, .string t.tx, .string t.va] 0 V13 _ gT13).trans (by kernel_rfl)
      have qY2 : Y.heap.size < Y2.heap.size := (Array.getElem?_eq_some_iff.1 gY2).1
      rw [← hY2]
      clear hY2 hth
      refine ⟨bY2, ?_⟩
      clear hS0
      have hS0 := bY2
      try simp only [List.getElem_toArray, List.getElem_cons_zero, List.getElem_cons_succ, Act.put, List.setIfInBounds_toArray, List.set_cons_zero, List.set_cons_succ]
      refine wpAnyH_take (i := 13) (v := ?v45) rfl (by kernel_rfl) (by kernel_rfl) (by kernel_rfl) (fun _ _ _ h => h) (Or.inl ⟨by rfl, ?hy45⟩) hS0 ?_
      case hy45 => (intro w' hw'; skip; go_simp; try with_reducible rfl)
      simp only [List.getElem_toArray, List.getElem_cons_zero, List.getElem_cons_succ, Act.put, List.setIfInBounds_toArray, List.set_cons_zero, List.set_cons_succ]
      refine wpAnyH_done (by kernel_rfl) ?_ _; refine NoPanic.normal ?_
      have k0 : Y2.cell? ⟨Y.heap.size, 0, none⟩ = some (.int .i64 t.k) := (dt.cell_cells gY2 0).trans rfl
      have k4 : Y2.cell? ⟨Y.heap.size, 4, none⟩ = some (.int .i64 t.to) := (dt.cell_cells gY2 4).trans rfl
      have gF := (bY2.block (w3.heap.size + 1) (by omega)).trans gX
      have f0 : Y2.cell? ⟨w3.heap.size + 1, 0, none⟩ = some (.int .i64 K) := (dt.cell_cells gF 0).trans rfl
      have f1 : Y2.cell? ⟨w3.heap.size + 1, 1, none⟩ = some (.slice (some ⟨b, 0, none⟩) 1 1) := (dt.cell_cells gF 1).trans rfl
      have r0 := (bY2.cell (p := ⟨b, 0, none⟩) (show b < X.heap.size by omega)).trans p0
      have r1 := (bY2.cell (p := ⟨b, 1, none⟩) (show b < X.heap.size by omega)).trans p1
      have BY := hide (bw3.trans ((bX.trans (bY2.mono bX.size)).mono bw3.size))
      have HK := hide (unhide HS).2.2.2
      have hm0 : ¬ ((m : Int) < 0) := by omega
      by_cases h0 : t.k = 0
      · obtain rfl : K = 70 := (unhide HK).1 (.inl h0)
        rw [h0] at k0
        go_wp2_with fail
        go_ret
        exact ⟨rfl, unhide BY⟩
      by_cases h1 : t.k = 1
      · obtain rfl : K = 70 := (unhide HK).1 (.inr h1)
        rw [h1] at k0
        go_wp2_with fail
        go_ret
        exact ⟨rfl, unhide BY⟩
      have h0b : (t.k == 0) = false := by simpa using h0
      have h1b : (t.k == 1) = false := by simpa using h1
      have hUp2 := hide ((unhide hUp) Y2 t.to (unhide HS).2.2.1)
      have HST := hide ((unhide HK).2 h0 h1 (mem.bytesZ tl))
      clear h0 h1
      go_wp2_with fail
      refine (unhide hUp2).mono ?_
      rintro e5 w5 ⟨rfl, b5⟩
      have hall : ((chs (mem.bytesZ s)).take t.to).all mem.scB = true := by
        rw [List.all_eq_true]
        exact fun x hx => (mem.scB_iff x).2 (lx.chs_sc (mem.bytesZ_byt s) x (List.mem_of_mem_take hx))
      have hSb : mem.bytesZ (mem.encS ((chs (mem.bytesZ s)).take t.to)) = ((chs (mem.bytesZ s)).take t.to).flatMap mem.putB := by
        unfold mem.encS
        rw [if_pos hall]
        exact mem.bytesZ_str _ (flat_byt9 _ hall)
      have hSs : (mem.encS ((chs (mem.bytesZ s)).take t.to)).size ≤ 1048576 := up_size s t.to hs hSb
      obtain ⟨S, hS⟩ : ∃ S, S = mem.encS ((chs (mem.bytesZ s)).take t.to) := ⟨_, rfl⟩
      rw [← hS] at hSb hSs ⊢
      clear hS hall hUp2
      obtain ⟨cap6, W6, hc6, hrow6, b6⟩ := conv_bytes9 (S ++ (⟨#[10]⟩ : ByteArray) ++ tl) w5
      have hz6 : mem.bytesZ (S ++ (⟨#[10]⟩ : ByteArray) ++ tl) = behind (chs (mem.bytesZ s)) t.to (mem.bytesZ tl) := by
        rw [bytesZ_app9, bytesZ_app9, hSb]
        unfold behind
        rw [List.append_assoc]
        rfl
      have hsz6 : (S ++ (⟨#[10]⟩ : ByteArray) ++ tl).size = S.size + 1 + tl.size := by rw [size_app, size_app]; rfl
      have hby6 := mem.bytesZ_byt (S ++ (⟨#[10]⟩ : ByteArray) ++ tl)
      rw [hz6] at hrow6 hby6
      rw [hsz6] at hrow6
      have hP6 := hide (parse_ok _ _ cap6 (behind (chs (mem.bytesZ s)) t.to (mem.bytesZ tl)) d W6 hrow6 (by omega) hby6 hd)
      rw [hsz6] at hc6
      have s5 := b5.size
      have s6 := b6.size
      clear hz6 hsz6 hby6 hrow6 hSb
      go_wp2_with fail
      refine (unhide hP6).mono ?_
      rintro e7 w7 ⟨sl7, fs7, rfl, hpp7, b7⟩
      have hpp8 : ParPost (docG (behind (chs (mem.bytesZ s)) t.to (mem.bytesZ tl)) d) W6.heap.size w7 sl7 fs7 := hpp7
      obtain ⟨d1, d2, d3⟩ := unhide HST
      unfold ParPost at hpp8
      rw [d1] at hpp8
      obtain ⟨rfl, hfl7⟩ := hpp8
      unfold FltAt at hfl7
      rw [d2, d3, if_neg hK0] at hfl7
      obtain ⟨c7, z1, z2, rfl, z4, z5⟩ := hfl7
      have b57 := b5.trans ((b6.trans (b7.mono b6.size)).mono b5.size)
      have s7 := b57.size
      obtain ⟨X7, hX7⟩ : ∃ X7, X7 = (w7.alloc (.cells #[.slice none 0 0] 25)).alloc (.cells #[.int .i64 K, .slice (some ⟨c7, 0, none⟩) 1 1, .slice none 0 0] 30) := ⟨_, rfl⟩
      have bX7 : Below w7.heap.size w7 X7 := by rw [hX7]; exact two_alloc _ _ _
      have gX7 := (show X7.heap[w7.heap.size]? = _ ∧ X7.heap[w7.heap.size + 1]? = _ from by rw [hX7]; exact two_at _ _ _ _ _).2
      have zX7 : w7.heap.size + 2 ≤ X7.heap.size := by rw [hX7]; simp
      have b5X := b57.trans (bX7.mono b57.size)
      have gF7 := (b5X.block (w3.heap.size + 1) (by have := bY2.size; omega)).trans gF
      have u0 := (b5X.cell (p := ⟨b, 0, none⟩) (show b < Y2.heap.size by have := bY2.size; omega)).trans r0
      have u1 := (b5X.cell (p := ⟨b, 1, none⟩) (show b < Y2.heap.size by have := bY2.size; omega)).trans r1
      have v0 := (bX7.cell (p := ⟨c7, 0, none⟩) z2).trans z4
      have v1 := (bX7.cell (p := ⟨c7, 1, none⟩) z2).trans z5
      clear HST hpp7 hP6 hc6 d1 d2 d3 f0 f1 r0 r1 k0 k4
      go_wp2_with fail
      rw [← hX7]
      clear hX7
      have BZ := hide ((unhide BY).trans (b5X.mono (unhide BY).size))
      clear hS0 b5X bX7 b57
      have hS0 : Below X7.heap.size X7 { X7 with drawn := X7.drawn + 1 } := (Below.refl _ _).drew
      have lF : w3.heap.size + 1 < X7.heap.size := (Array.getElem?_eq_some_iff.1 gF7).1
      have lB : b < X7.heap.size := World.block_lt_of_cell? X7 _ u0
      have lC : c7 < X7.heap.size := World.block_lt_of_cell? X7 _ v0
      have lG : w7.heap.size + 1 < X7.heap.size := by omega
      have G0 : X7.cell? ⟨w7.heap.size + 1, 0, none⟩ = some (.int .i64 K) := (dt.cell_cells gX7 0).trans rfl
      have G1 : X7.cell? ⟨w7.heap.size + 1, 1, none⟩ = some (.slice (some ⟨c7, 0, none⟩) 1 1) := (dt.cell_cells gX7 1).trans rfl
      have G2 : X7.cell? ⟨w7.heap.size + 1, 2, none⟩ = some (.slice none 0 0) := (dt.cell_cells gX7 2).trans rfl
      have F0 : X7.cell? ⟨w3.heap.size + 1, 0, none⟩ = some (.int .i64 K) := (dt.cell_cells gF7 0).trans rfl
      have F1 : X7.cell? ⟨w3.heap.size + 1, 1, none⟩ = some (.slice (some ⟨b, 0, none⟩) 1 1) := (dt.cell_cells gF7 1).trans rfl
      refine wp_region_noPanic ?_
      refine wp_region_held (S := fun w' => Below X7.heap.size X7 w') mixed ?_
      refine wpAnyH_take (i := 0) (v := ?v46) rfl (by kernel_rfl) (by kernel_rfl) (by kernel_rfl) (fun _ _ _ h => h) (Or.inl ⟨by rfl, ?hy46⟩) hS0 ?_
      case hy46 => (intro w' hw'; have q0 := (hw'.cell (p := ⟨w7.heap.size + 1, 0, none⟩) lG).trans G0; have q1 := (hw'.cell (p := ⟨w7.heap.size + 1, 1, none⟩) lG).trans G1; have q2 := (hw'.cell (p := ⟨w7.heap.size + 1, 2, none⟩) lG).trans G2; go_simp; try with_reducible rfl)
      simp only [List.getElem_toArray, List.getElem_cons_zero, List.getElem_cons_succ, Act.put, List.setIfInBounds_toArray, List.set_cons_zero, List.set_cons_succ]
      refine wpAnyH_take (i := 1) (v := ?v47) rfl (by kernel_rfl) (by kernel_rfl) (by kernel_rfl) (fun _ _ _ h => h) (Or.inl ⟨by rfl, ?hy47⟩) hS0 ?_
      case hy47 => (intro w' hw'; skip; go_simp; try with_reducible rfl)
      simp only [List.getElem_toArray, List.getElem_cons_zero, List.getElem_cons_succ, Act.put, List.setIfInBounds_toArray, List.set_cons_zero, List.set_cons_succ]
      refine wpAnyH_take (i := 2) (v := ?v48) rfl (by kernel_rfl) (by kernel_rfl) (by kernel_rfl) (fun _ _ _ h => h) (Or.inl ⟨by rfl, ?hy48⟩) hS0 ?_
      case hy48 => (intro w' hw'; have q0 := (hw'.cell (p := ⟨w3.heap.size + 1, 0, none⟩) lF).trans F0; go_simp; try with_reducible rfl)
      simp only [List.getElem_toArray, List.getElem_cons_zero, List.getElem_cons_succ, Act.put, List.setIfInBounds_toArray, List.set_cons_zero, List.set_cons_succ]
      refine wpAnyH_take (i := 3) (v := ?v49) rfl (by kernel_rfl) (by kernel_rfl) (by kernel_rfl) (fun _ _ _ h => h) (Or.inl ⟨by rfl, ?hy49⟩) hS0 ?_
      case hy49 => (intro w' hw'; skip; go_simp; try with_reducible rfl)
      simp only [List.getElem_toArray, List.getElem_cons_zero, List.getElem_cons_succ, Act.put, List.setIfInBounds_toArray, List.set_cons_zero, List.set_cons_succ]
      refine wpAnyH_take (i := 4) (v := ?v50) rfl (by kernel_rfl) (by kernel_rfl) (by kernel_rfl) (fun _ _ _ h => h) (Or.inl ⟨by rfl, ?hy50⟩) hS0 ?_
      case hy50 => (intro w' hw'; have q0 := (hw'.cell (p := ⟨w3.heap.size + 1, 1, none⟩) lF).trans F1; go_simp; try with_reducible rfl)
      simp only [List.getElem_toArray, List.getElem_cons_zero, List.getElem_cons_succ, Act.put, List.setIfInBounds_toArray, List.set_cons_zero, List.set_cons_succ]
      refine wpAnyH_take (i := 5) (v := ?v51) rfl (by kernel_rfl) (by kernel_rfl) (by kernel_rfl) (fun _ _ _ h => h) (Or.inl ⟨by rfl, ?hy51⟩) hS0 ?_
      case hy51 => (intro w' hw'; skip; go_simp; try with_reducible rfl)
      simp only [List.getElem_toArray, List.getElem_cons_zero, List.getElem_cons_succ, Act.put, List.setIfInBounds_toArray, List.set_cons_zero, List.set_cons_succ]
      refine wpAnyH_take (i := 6) (v := ?v52) rfl (by kernel_rfl) (by kernel_rfl) (by kernel_rfl) (fun _ _ _ h => h) (Or.inl ⟨by rfl, ?hy52⟩) hS0 ?_
      case hy52 => (intro w' hw'; have q0 := (hw'.cell (p := ⟨b, 0, none⟩) lB).trans u0; have q1 := (hw'.cell (p := ⟨b, 1, none⟩) lB).trans u1; go_simp; try with_reducible rfl)
      simp only [List.getElem_toArray, List.getElem_cons_zero, List.getElem_cons_succ, Act.put, List.setIfInBounds_toArray, List.set_cons_zero, List.set_cons_succ]
      refine rgn.one (i := 7) _ rfl (by kernel_rfl) (by rfl) ?_
      try simp only [List.getElem_toArray, List.getElem_cons_zero, List.getElem_cons_succ, Act.put, List.setIfInBounds_toArray, List.set_cons_zero, List.set_cons_succ]
      refine rgn.call_wp _ _ _ _ rfl Tryz.func10 (by kernel_rfl) (by kernel_rfl) #[.agg #[.int .i64 K, .slice (some ⟨c7, 0, none⟩) 1 1, .slice none 0 0], .int .i64 K, .agg #[.int .i64 t.ln, .int .i64 t.co]] (by first | kernel_rfl | (simp only [List.map_toArray, List.map_cons, List.map_nil]; rfl)) ?_
      refine (fails_ok K c7 t.ln t.co _ ((hS0.cell (p := ⟨c7, 0, none⟩) lC).trans v0) ((hS0.cell (p := ⟨c7, 1, none⟩) lC).trans v1) (Nat.lt_of_lt_of_le lC hS0.size)).mono ?_
      rintro e9 w9 ⟨rfl, b9⟩
      have hS9 := hS0.trans (b9.mono hS0.size)
      refine ⟨_, rfl, hS9, ?_⟩
      clear hS0
      have hS0 := hS9
      try simp only [List.getElem_toArray, List.getElem_cons_zero, List.getElem_cons_succ, Act.put, List.setIfInBounds_toArray, List.set_cons_zero, List.set_cons_succ]
      refine wpAnyH_take (i := 8) (v := ?v53) rfl (by kernel_rfl) (by kernel_rfl) (by kernel_rfl) (fun _ _ _ h => h) (Or.inl ⟨by rfl, ?hy53⟩) hS0 ?_
      case hy53 => (intro w' hw'; skip; go_simp; try with_reducible rfl)
      simp only [List.getElem_toArray, List.getElem_cons_zero, List.getElem_cons_succ, Act.put, List.setIfInBounds_toArray, List.set_cons_zero, List.set_cons_succ]
      refine wpAnyH_done (by kernel_rfl) ?_ _; refine NoPanic.normal ?_
      go_wp2_with fail
      go_ret
      exact ⟨rfl, (unhide BZ).trans (hS9.mono (unhide BZ).size)⟩
end Go.Proofs.YtmhelpocddndjaaGreat.cu
