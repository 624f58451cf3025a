import Derived.Test.YtcebeajjpcbgcaaGreatQne17
import Derived.Lib.SlBytesConst
set_option linter.unusedVariables false
set_option linter.unusedSimpArgs false
namespace Go.Proofs.YtcebeajjpcbgcaaGreat.cu
open Go.ChangeShapes Go.WideShapes Go.ChangeAt Go.RowKit
open ints (hide unhide)
open dt (Dt Kp RowAt Ow Grow OwIn)
open mem (Row)
open lx (toks chs cln)
theorem doc1_cells {w : World} {lo : Nat} {sl : Value} {G : List Nat} (h : Grow 53 9 w lo [defD 1 nQ em false [varD nv nInt nW true (litD 2 n1 false .nil .nil 1 19) [] 1 9] [] [selD 1 nb na em [fldD nx (litD 1 nv false .nil .nil 1 28) 1 26] [] [] 1 22] 1 1] sl G) :
  ∃ p c pv cv ps cs', sl = .slice (some ⟨p, 0, none⟩) 1 c ∧ p < w.heap.size ∧ pv < w.heap.size ∧ ps < w.heap.size ∧ w.cell? ⟨p, 1, none⟩ = some (.string nQ) ∧ w.cell? ⟨p, 3, none⟩ = some (.bool false) ∧ w.cell? ⟨p, 4, none⟩ = some (.slice (some ⟨pv, 0, none⟩) 1 cv) ∧ w.cell? ⟨p, 6, none⟩ = some (.slice (some ⟨ps, 0, none⟩) 1 cs') ∧ w.cell? ⟨pv, 2, none⟩ = some (.string nW) ∧ w.cell? ⟨ps, 1, none⟩ = some (.string nb) := by
 obtain ⟨a, n, c, F, rfl, hs⟩ := Sh.of h
 obtain ⟨p, cs, G1, rfl, rfl, hr, how⟩ := one_row hs
 unfold defD at how
 obtain ⟨d1, rfl, w1⟩ := val_row how
 obtain ⟨d2, rfl, w2⟩ := val_row w1
 obtain ⟨d3, rfl, w3⟩ := val_row w2
 obtain ⟨d4, rfl, w4⟩ := val_row w3
 obtain ⟨pv, cv, d5, csv, Gv, Fv, rfl, hrv, hov, w5⟩ := lst_row w4
 obtain ⟨a2, c2, d6, F2, rfl, w6⟩ := lst_nil w5
 obtain ⟨ps, cps, d7, css, Gs, Fs, rfl, hrs, hos, w7⟩ := lst_row w6
 unfold varD at hov
 obtain ⟨v1, rfl, y1⟩ := val_row hov
 obtain ⟨v2', rfl, y2⟩ := val_row y1
 obtain ⟨v3, rfl, y3⟩ := val_row y2
 unfold selD at hos
 obtain ⟨q1, rfl, z1⟩ := val_row hos
 obtain ⟨q2, rfl, z2⟩ := val_row z1
 have e1 := hr 1 _ rfl
 have e3 := hr 3 _ rfl
 have e4 := hr 4 _ rfl
 have e6 := hr 6 _ rfl
 have v2 := hrv 2 _ rfl
 have s1 := hrs 1 _ rfl
 simp only [Nat.zero_add] at e1 e3 e4 e6 v2 s1
 exact ⟨p, c, pv, cv, ps, cps, rfl, World.block_lt_of_cell? w _ e1, World.block_lt_of_cell? w _ v2, World.block_lt_of_cell? w _ s1, e1, e3, e4, e6, v2, s1⟩
theorem row_new9 (W : World) (zs : List Int) (t : TypeId) (fr : Nat × Nat) : Row .u8 (W.alloc (.cells (zs.map (Value.int .u8)).toArray t fr)) (some ⟨W.heap.size, 0, none⟩) zs.length zs.length zs := by
 refine ⟨rfl, Nat.le_refl _, (fun e => by cases e), .inr ⟨W.heap.size, 0, rfl, by simp, fun i hi => ?_⟩⟩
 have e : (W.alloc (.cells (zs.map (Value.int .u8)).toArray t fr)).cell? ⟨W.heap.size, 0 + i, none⟩ = (zs.map (Value.int .u8)).toArray[0 + i]? := World.cell?_alloc_mark _ _ _ _ _
 rw [e]
 simp [List.getD, hi]
theorem parse1_ok (W : World) (N : Nat) (hN : N = W.heap.size) : Calls Tryz.prog 9 #[.slice (some ⟨N, 0, none⟩) 31 31, .int .i64 3] (W.alloc (.cells #[Value.int .u8 113, Value.int .u8 117, Value.int .u8 101, Value.int .u8 114, Value.int .u8 121, Value.int .u8 32, Value.int .u8 81, Value.int .u8 40, Value.int .u8 36, Value.int .u8 118, Value.int .u8 58, Value.int .u8 91, Value.int .u8 73, Value.int .u8 110, Value.int .u8 116, Value.int .u8 33, Value.int .u8 93, Value.int .u8 61, Value.int .u8 49, Value.int .u8 41, Value.int .u8 123, Value.int .u8 98, Value.int .u8 58, Value.int .u8 97, Value.int .u8 40, Value.int .u8 120, Value.int .u8 58, Value.int .u8 36, Value.int .u8 118, Value.int .u8 41, Value.int .u8 125] 5 (31, 32))) fun e w' => ∃ p c pv cv ps cs', e = .returned (.tuple #[.agg #[.slice (some ⟨p, 0, none⟩) 1 c], .agg #[.int .i64 0, .slice none 0 0, .slice none 0 0]]) ∧ p < w'.heap.size ∧ pv < w'.heap.size ∧ ps < w'.heap.size ∧ w'.cell? ⟨p, 1, none⟩ = some (.string nQ) ∧ w'.cell? ⟨p, 3, none⟩ = some (.bool false) ∧ w'.cell? ⟨p, 4, none⟩ = some (.slice (some ⟨pv, 0, none⟩) 1 cv) ∧ w'.cell? ⟨p, 6, none⟩ = some (.slice (some ⟨ps, 0, none⟩) 1 cs') ∧ w'.cell? ⟨pv, 2, none⟩ = some (.string nW) ∧ w'.cell? ⟨ps, 1, none⟩ = some (.string nb) ∧ Below W.heap.size W w' := by
 subst hN
 have hb : Below W.heap.size W (W.alloc (.cells #[Value.int .u8 113, Value.int .u8 117, Value.int .u8 101, Value.int .u8 114, Value.int .u8 121, Value.int .u8 32, Value.int .u8 81, Value.int .u8 40, Value.int .u8 36, Value.int .u8 118, Value.int .u8 58, Value.int .u8 91, Value.int .u8 73, Value.int .u8 110, Value.int .u8 116, Value.int .u8 33, Value.int .u8 93, Value.int .u8 61, Value.int .u8 49, Value.int .u8 41, Value.int .u8 123, Value.int .u8 98, Value.int .u8 58, Value.int .u8 97, Value.int .u8 40, Value.int .u8 120, Value.int .u8 58, Value.int .u8 36, Value.int .u8 118, Value.int .u8 41, Value.int .u8 125] 5 (31, 32))) := (Below.refl _ _).alloc (Nat.le_refl _) _
 refine (parse_ok (some ⟨W.heap.size, 0, none⟩) 31 31 (mem.bytesZ src1) 3 _ (row_new9 W (mem.bytesZ src1) 5 (31, 32)) (by decide) (mem.bytesZ_byt _) (by rfl)).mono ?_
 rintro e w2 ⟨sl, fs, rfl, hpp, b2⟩
 have hd : docS (newG (mem.bytesZ src1) 3) = docG (mem.bytesZ src1) 3 := rfl
 rw [hd] at hpp
 unfold ParPost at hpp
 rw [doc1] at hpp
 obtain ⟨⟨G, hgr⟩, rfl⟩ := hpp
 obtain ⟨p, c, pv, cv, ps, cps, rfl, l1, l2, l3, q1, q3, q4, q6, qv, qs⟩ := doc1_cells hgr
 exact ⟨p, c, pv, cv, ps, cps, rfl, l1, l2, l3, q1, q3, q4, q6, qv, qs, hb.trans (b2.mono hb.size)⟩
theorem parse2_ok (W : World) (N : Nat) (hN : N = W.heap.size) : Calls Tryz.prog 9 #[.slice (some ⟨N, 0, none⟩) 4 4, .int .i64 3] (W.alloc (.cells #[Value.int .u8 123, Value.int .u8 97, Value.int .u8 125, Value.int .u8 125] 5 (4, 5))) fun e w' => ∃ b, e = .returned (.tuple #[.agg #[.slice none 0 0], .agg #[.int .i64 70, .slice (some ⟨b, 0, none⟩) 1 1, .slice none 0 0]]) ∧ W.heap.size ≤ b ∧ b < w'.heap.size ∧ w'.cell? ⟨b, 0, none⟩ = some (.int .i64 1) ∧ w'.cell? ⟨b, 1, none⟩ = some (.int .i64 4) ∧ Below W.heap.size W w' := by
 subst hN
 have hb : Below W.heap.size W (W.alloc (.cells #[Value.int .u8 123, Value.int .u8 97, Value.int .u8 125, Value.int .u8 125] 5 (4, 5))) := (Below.refl _ _).alloc (Nat.le_refl _) _
 refine (parse_ok (some ⟨W.heap.size, 0, none⟩) 4 4 (mem.bytesZ src2) 3 _ (row_new9 W (mem.bytesZ src2) 5 (4, 5)) (by decide) (mem.bytesZ_byt _) (by rfl)).mono ?_
 rintro e w2 ⟨sl, fs, rfl, hpp, b2⟩
 have hd : docS (newG (mem.bytesZ src2) 3) = docG (mem.bytesZ src2) 3 := rfl
 rw [hd] at hpp
 unfold ParPost at hpp
 rw [doc2] at hpp
 obtain ⟨rfl, hfl⟩ := hpp
 obtain ⟨e1, e2, e3⟩ := doc2k
 unfold FltAt at hfl
 rw [if_neg (by rw [e1]; decide), e1, e2, e3] at hfl
 obtain ⟨b, h1, h2, rfl, h4, h5⟩ := hfl
 exact ⟨b, rfl, Nat.le_trans hb.size h1, h2, h4, h5, hb.trans (b2.mono hb.size)⟩
set_option maxHeartbeats 4000000 in
set_option maxRecDepth 10000 in
theorem parses_ok (w : World) : Calls Tryz.prog 7 #[] w fun e w' => e = .returned (.bool true) ∧ Below w.heap.size w w' := by
 have kc := fun (w : World) (C : Array Value) (n c : Nat) => Lib.run_convert_bytes_const (P := Tryz.prog) w 22 5 C n c Tryz.underlying22 Tryz.underlying5
 go_enter Tryz.func7, Tryz.ntmps7
 go_wp2_with fail
 refine (parse1_ok w w.heap.size rfl).mono ?_
 rintro e w2 ⟨p, c, pv, cv, ps, cps, rfl, l1, l2, l3, q1, q3, q4, q6, qv, qs, bw2⟩
 obtain ⟨X, hX⟩ : ∃ X, X = (w2.alloc (.cells #[.slice (some ⟨p, 0, none⟩) 1 c] 34)).alloc (.cells #[.int .i64 0, .slice none 0 0, .slice none 0 0] 39) := ⟨_, rfl⟩
 have bX : Below w2.heap.size w2 X := by rw [hX]; exact two_alloc _ _ _
 have hat := (show X.heap[w2.heap.size]? = _ ∧ X.heap[w2.heap.size + 1]? = _ from by rw [hX]; exact two_at _ _ _ _ _)
 have zX : w2.heap.size + 2 ≤ X.heap.size := by rw [hX]; simp
 have bw2s := bw2.size
 have BW := bw2.trans (bX.mono bw2.size)
 have T := fun o o' (b i : Nat) (v : Value) (hb : b < w2.heap.size) (h : w2.cell? ⟨b, i, none⟩ = some v) => ((two_alloc w2 o o').cell (p := ⟨b, i, none⟩) hb).trans h
 have r1 := fun o o' => T o o' _ _ _ l1 q1
 have r3 := fun o o' => T o o' _ _ _ l1 q3
 have r4 := fun o o' => T o o' _ _ _ l1 q4
 have r6 := fun o o' => T o o' _ _ _ l1 q6
 have rv := fun o o' => T o o' _ _ _ l2 qv
 have rs := fun o o' => T o o' _ _ _ l3 qs
 unfold nQ at r1
 unfold nW at rv
 unfold nb at rs
 have HX := hide (And.intro hX (And.intro bX (And.intro hat (And.intro zX BW))))
 have kc1 := fun (o o' : Obj) (C : Array Value) (n c : Nat) => by simpa using kc ((w2.alloc o).alloc o') C n c
 clear T q1 q3 q4 q6 qv qs bw2 hX bX hat zX BW
 go_wp2_with fail
 obtain ⟨hX, bX, hat, zX, BW⟩ := unhide HX
 have zE : w2.heap.size + 1 + 1 = X.heap.size := by rw [hX]; simp
 rw [← hX]
 refine (parse2_ok X _ zE).mono ?_
 rintro e w4 ⟨b, rfl, lb0, lb, c0, c1, b4⟩
 have hD := (b4.block w2.heap.size (by omega)).trans hat.1
 have hF := (b4.block (w2.heap.size + 1) (by omega)).trans hat.2
 have HT1 := hide (show w4.there w2.heap.size 0 1 from dt.there_cells hD (by simp))
 obtain ⟨W6, e6⟩ : ∃ W6, W6 = w4.setCells w2.heap.size 0 (#[.slice none 0 0] : Array Value).toList := ⟨_, rfl⟩
 have hD6 : W6.heap[w2.heap.size]? = some (.cells #[.slice none 0 0] 34 (0, 0)) := by rw [e6]; exact (dt.setCells_at [.slice none 0 0] 0 w4 _ hD).trans (by kernel_rfl)
 have hF6 : W6.heap[w2.heap.size + 1]? = some (.cells #[.int .i64 0, .slice none 0 0, .slice none 0 0] 39 (0, 0)) := by rw [e6]; exact (dt.heap_setCells w2.heap.size _ (by omega) _ 0 w4).trans hF
 have HT2 := hide (show W6.there (w2.heap.size + 1) 0 3 from dt.there_cells hF6 (by decide))
 obtain ⟨W7, e7⟩ : ∃ W7, W7 = W6.setCells (w2.heap.size + 1) 0 (#[.int .i64 70, .slice (some ⟨b, 0, none⟩) 1 1, .slice none 0 0] : Array Value).toList := ⟨_, rfl⟩
 have hD7 : W7.heap[w2.heap.size]? = some (.cells #[.slice none 0 0] 34 (0, 0)) := by rw [e7]; exact (dt.heap_setCells (w2.heap.size + 1) _ (by omega) _ 0 W6).trans hD6
 have hF7 : W7.heap[w2.heap.size + 1]? = some (.cells #[.int .i64 70, .slice (some ⟨b, 0, none⟩) 1 1, .slice none 0 0] 39 (0, 0)) := by rw [e7]; exact (dt.setCells_at [.int .i64 70, .slice (some ⟨b, 0, none⟩) 1 1, .slice none 0 0] 0 W6 _ hF6).trans (by kernel_rfl)
 have hb7 : W7.heap[b]? = w4.heap[b]? := by rw [e7, e6]; exact (dt.heap_setCells (w2.heap.size + 1) b (by omega) _ 0 _).trans (dt.heap_setCells w2.heap.size b (by omega) _ 0 w4)
 have C0 := (dt.cell_blk hb7 0).trans c0
 have C1 := (dt.cell_blk hb7 1).trans c1
 have z7 : W7.heap.size = w4.heap.size := by rw [e7, e6, dt.size_setCells, dt.size_setCells]
 have BW7 : Below w.heap.size w W7 := by
  rw [e7, e6]
  have h0 := BW.trans (b4.mono BW.size)
  have hw := BW.size
  exact dt.below_setCells _ _ _ _ (dt.below_setCells _ _ _ _ h0 (by have := bw2s; omega)) (by have := bw2s; omega)
 have lb7 : b < W7.heap.size := by omega
 have d0 : W7.cell? ⟨w2.heap.size, 0, none⟩ = some (.slice none 0 0) := (dt.cell_cells hD7 0).trans rfl
 have f0 : W7.cell? ⟨w2.heap.size + 1, 0, none⟩ = some (.int .i64 70) := (dt.cell_cells hF7 0).trans rfl
 have f1 : W7.cell? ⟨w2.heap.size + 1, 1, none⟩ = some (.slice (some ⟨b, 0, none⟩) 1 1) := (dt.cell_cells hF7 1).trans rfl
 have f2 : W7.cell? ⟨w2.heap.size + 1, 2, none⟩ = some (.slice none 0 0) := (dt.cell_cells hF7 2).trans rfl
 have HFa := hide (fails_ok 70 b 1 4 W7 C0 C1 lb7)
 have E6 := hide e6
 have E7 := hide e7
 have HB := hide BW7
 clear hD hF hD6 hF6 hD7 hF7 hb7 C0 C1 z7 BW7 lb7 e6 e7 c0 c1 b4 hat bX BW HX hX zE kc kc1 r1 r3 r4 r6 rv rs zX lb lb0 bw2s
 go_wp2_with (first
  | (refine wpList_store_mid (by rfl) 34 _ _ (by rfl) w2.heap.size 0 #[.slice none 0 0] (by rfl) (by rfl) (unhide HT1) infoDoc (dt.one_cells (cs := [.slice none 0 0]) (by rfl)) ?_; rw [← unhide E6])
  | (refine wpList_store_mid (by rfl) 39 _ _ (by rfl) (w2.heap.size + 1) 0 #[.int .i64 70, .slice (some ⟨b, 0, none⟩) 1 1, .slice none 0 0] (by rfl) (by rfl) (unhide HT2) infoFl (dt.one_cells (cs := [.int .i64 70, .slice (some ⟨b, 0, none⟩) 1 1, .slice none 0 0]) (by rfl)) ?_; rw [← unhide E7]))
 refine (unhide HFa).mono ?_
 rintro e w8 ⟨rfl, b8⟩
 go_wp2_with fail
 go_ret
 exact ⟨rfl, (unhide HB).trans (b8.mono (unhide HB).size)⟩
end Go.Proofs.YtcebeajjpcbgcaaGreat.cu
namespace Go.Proofs.YtcebeajjpcbgcaaGreat.rgn
variable {P : Program}
theorem call_wp {o : Oper} {a : Act} {w : World} {K : Act → World → Prop} {Q : Exit → Act → World → Prop} (f : FuncId) (fn : Func) (args : Array Operand) (tys : Array TypeId) (ho : o.op = .call { callee := .value (.func f), args := args, argTypes := tys })
  (hf : P.funcs[f]? = some fn) (hname : (fn.name == "runtime.NumGoroutine") = false) (hb : fn.body.isNone = false) (vs : Array Value) (hv : args.map a.eval = vs)
  (hc : Calls P f vs w fun e w' => ∃ v, e = .returned v ∧ K (a.put o.dst v) w') : o.wp P a w K Q := by
 have h1 : fn.name ≠ "runtime.NumGoroutine" := by simpa using hname
 have hrun : (execOp a.eval o).run P w = .ok (.enter f vs) w := by
  unfold execOp
  simp only [ho]
  obtain ⟨c, hc'⟩ : ∃ c, fn.body = some c := by cases h : fn.body <;> simp_all
  simp [resolve, hv, Deferred.ofValue, invoke, callFunc, hf, h1, hc', Act.eval]
 unfold Oper.wp
 rw [hrun, Oper.upon_enter]
 refine hc.mono ?_
 rintro e w' ⟨v, rfl, hk⟩
 exact hk
end Go.Proofs.YtcebeajjpcbgcaaGreat.rgn
