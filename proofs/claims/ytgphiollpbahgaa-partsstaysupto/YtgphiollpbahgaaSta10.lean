import Derived.Test.YtgphiollpbahgaaSta6
import Derived.Test.YtgphiollpbahgaaSta9
import Derived.Test.YtgphiollpbahgaaSta1
import Derived.Lib.SlBytesConst
import Derived.Test.YtgphiollpbahgaaSta5
namespace Go.Proofs.Ytgphiollpbahgaa.cu
open Go.ChangeShapes Go.WideShapes Go.ChangeAt Go.RowKit
open ints (hide unhide)
open dt (Dt Kp RowAt Ow Grow)
open mem (Row)
set_option linter.unusedVariables false
set_option linter.unusedSimpArgs false
def readLG (l : List Int) (ct : Bool) (d : Int) : Option Dt × Cu :=
  if (litF ct (lx.toks l).length (newG l d)).1.isSome then (if (litF ct (lx.toks l).length (newG l d)).2.finB then (litF ct (lx.toks l).length (newG l d)).1 else none, (litF ct (lx.toks l).length (newG l d)).2.fin) else (none, (litF ct (lx.toks l).length (newG l d)).2)
set_option maxRecDepth 4000 in
set_option maxHeartbeats 2000000 in
theorem readLitG_ok (a : Option Addr) (n c : Nat) (l : List Int) (ct : Bool) (d : Int) (w : World) (h : Row .u8 w a n c l) (hn : n ≤ 1099511627776) (hz : mem.Byt l) (hd : (Lit.int .i64 d).wf = true) :
    Calls Try.prog 6 #[.slice a n c, .bool ct, .int .i64 d] w fun e w' => ∃ cs F fs, e = .returned (.tuple #[.agg cs.toArray, .agg fs.toArray]) ∧ LitPost ((readLG l ct d).1.getD zeroD) w w' cs F ∧ FltAt w.heap.size w' (readLG l ct d).2 fs ∧ Below w.heap.size w w' := by
  have hN := hide (fun W (bb : Below w.heap.size w W) => newG_ok a n c l d W (h.below bb) hn hz hd)
  have hok := newG_ok' l d
  have hlen : (newG l d).ts.length ≤ 1099511627777 := by
    have := toks_len l hz
    show (lx.toks l).length ≤ _
    rw [h.len] at this
    omega
  have hT := hide (litF_ok ct (lx.toks l).length (newG l d) hok hlen (Nat.le_add_right _ _))
  have hg := hide (litF_goes ct (lx.toks l).length (newG l d) hok).1
  unfold readLG
  obtain ⟨U, hU⟩ : ∃ U, U = litF ct (lx.toks l).length (newG l d) := ⟨_, rfl⟩
  unfold LitAt at hT
  rw [← hU] at hT hg ⊢
  obtain ⟨c0, hc0⟩ : ∃ c0, c0 = newG l d := ⟨_, rfl⟩
  rw [← hc0] at hN hT hg
  clear h hU hok hlen hc0
  obtain ⟨r, C⟩ := U
  go_enter Try.func6, Try.ntmps6
  go_wp2_with fail
  have bW0 : Below w.heap.size w ((w.alloc (.cells #[Value.int .i64 0, .string { data := #[] }, .bool false, .slice none 0 0, .slice none 0 0, .int .i64 0, .int .i64 0] 30)).alloc (.cells #[Value.int .i64 0, .slice none 0 0, .slice none 0 0] 35)) := ((Below.refl _ _).alloc (Nat.le_refl _) _).alloc (by simp) _
  have hR1 : ((w.alloc (.cells #[Value.int .i64 0, .string { data := #[] }, .bool false, .slice none 0 0, .slice none 0 0, .int .i64 0, .int .i64 0] 30)).alloc (.cells #[Value.int .i64 0, .slice none 0 0, .slice none 0 0] 35)).heap[w.heap.size]? = some (.cells #[Value.int .i64 0, .string { data := #[] }, .bool false, .slice none 0 0, .slice none 0 0, .int .i64 0, .int .i64 0] 30 (0, 0)) := (Below.heap_alloc _ _ w.heap.size (by simp)).trans (heap_alloc_new w _)
  have hR2 : ((w.alloc (.cells #[Value.int .i64 0, .string { data := #[] }, .bool false, .slice none 0 0, .slice none 0 0, .int .i64 0, .int .i64 0] 30)).alloc (.cells #[Value.int .i64 0, .slice none 0 0, .slice none 0 0] 35)).heap[w.heap.size + 1]? = some (.cells #[Value.int .i64 0, .slice none 0 0, .slice none 0 0] 35 (0, 0)) := by
    have := heap_alloc_new (w.alloc (.cells #[Value.int .i64 0, .string { data := #[] }, .bool false, .slice none 0 0, .slice none 0 0, .int .i64 0, .int .i64 0] 30)) (.cells #[Value.int .i64 0, .slice none 0 0, .slice none 0 0] 35)
    simpa using this
  have hz0 : w.heap.size + 1 < ((w.alloc (.cells #[Value.int .i64 0, .string { data := #[] }, .bool false, .slice none 0 0, .slice none 0 0, .int .i64 0, .int .i64 0] 30)).alloc (.cells #[Value.int .i64 0, .slice none 0 0, .slice none 0 0] 35)).heap.size := by simp
  obtain ⟨W0, hW0⟩ : ∃ W0, W0 = (w.alloc (.cells #[Value.int .i64 0, .string { data := #[] }, .bool false, .slice none 0 0, .slice none 0 0, .int .i64 0, .int .i64 0] 30)).alloc (.cells #[Value.int .i64 0, .slice none 0 0, .slice none 0 0] 35) := ⟨_, rfl⟩
  rw [← hW0] at bW0 hR1 hR2 hz0 ⊢
  clear hW0
  refine ((unhide hN) W0 bW0).mono ?_
  rintro e w1 ⟨B, p, rfl, hB, hp0, hc1, b1⟩
  have hTB := hide ((unhide hT) B p)
  have hend := hide (fun W (hc : CurAt W B p C) => end_ok B p C W hc)
  have htold := hide (fun W (D : Cu) (hc : CurAt W B p D) => told_ok B p D W hc)
  clear hN hT
  unfold ptr at hTB hend htold ⊢
  go_wp2_with fail
  refine ((unhide hTB) w1 hc1).mono ?_
  rintro e w2 ⟨cs, F, rfl, hpo, hc2, hk2⟩
  obtain ⟨kk, tt, bl, ai, ni, ci, af, nf, cf, ln, co, rfl⟩ := hpo.shape
  have HP := hide hpo
  have hrF : ∀ b ∈ F, W0.heap.size ≤ b ∧ b < w2.heap.size := fun b hb => ⟨Nat.le_trans b1.size (hpo.rng b hb).1, (hpo.rng b hb).2⟩
  clear hpo
  have hB1 := hc1.lt
  have b02 : Below W0.heap.size W0 w2 := b1.trans (hk2.below hB b1.size)
  have HC2 := hide hc2
  clear hTB hc1 hc2 hk2 b1
  have bA2 := hide (fun o => show Below w2.heap.size w2 (w2.alloc o) from (Below.refl _ _).alloc (Nat.le_refl _) _)
  cases r with
  | none =>
    go_wp2_with fail
    have bT := b02.alloc b02.size (.cells #[.int .i64 kk, .string tt, .bool bl, .slice ai ni ci, .slice af nf cf, .int .i64 ln, .int .i64 co] 30)
    refine ((unhide htold) _ C ((unhide HC2).below ((unhide bA2) _))).mono ?_
    rintro e w5 ⟨fs, rfl, hflt, b5⟩
    have b05 : Below W0.heap.size W0 w5 := bT.trans (b5.mono bT.size)
    have hne12 : w.heap.size ≠ w.heap.size + 1 := by omega
    have HT1 := hide (show w5.there w.heap.size 0 7 from dt.there_cells ((b05.block w.heap.size (by omega)).trans hR1) (by decide))
    have HT2 := hide (show w5.there (w.heap.size + 1) 0 fs.length from by rw [hflt.three.1]; exact dt.there_cells ((b05.block (w.heap.size + 1) hz0).trans hR2) (by decide))
    have HX0 := res2 hne12 [.int .i64 0, .string ⟨#[]⟩, .bool false, .slice none 0 0, .slice none 0 0, .int .i64 0, .int .i64 0] fs (unhide HT1) (unhide HT2)
    obtain ⟨W6, e6⟩ : ∃ W6, W6 = w5.setCells w.heap.size 0 (#[.int .i64 0, .string ⟨#[]⟩, .bool false, .slice none 0 0, .slice none 0 0, .int .i64 0, .int .i64 0] : Array Value).toList := ⟨_, rfl⟩
    have HX := hide (show W6.there (w.heap.size + 1) 0 _ ∧ (W6.setCells (w.heap.size + 1) 0 fs).rangeAt w.heap.size 0 [.int .i64 0, .string ⟨#[]⟩, .bool false, .slice none 0 0, .slice none 0 0, .int .i64 0, .int .i64 0] ∧ (W6.setCells (w.heap.size + 1) 0 fs).rangeAt (w.heap.size + 1) 0 fs from by rw [e6]; exact HX0)
    have E6 := hide e6
    clear HX0 e6
    have HI := hide (show (Try.prog.info? 35).map (·.size) = some fs.length from by rw [hflt.three.1]; exact infoFl)
    have HO := hide (dt.one_cells hflt.three.2)
    have HF := hide hflt
    have hbw := hide (bW0.trans (b05.mono bW0.size))
    have hlo := hide (show w.heap.size + 1 < _ ∧ w.heap.size < _ from And.intro (Nat.lt_of_lt_of_le hz0 bT.size) (Nat.lt_of_lt_of_le (Nat.lt_of_succ_lt hz0) bT.size))
    clear b05 b5 htold hflt
    go_wp2_with (first
      | (refine wpList_store_mid (by rfl) 30 _ _ (by rfl) w.heap.size 0 #[.int .i64 0, .string ⟨#[]⟩, .bool false, .slice none 0 0, .slice none 0 0, .int .i64 0, .int .i64 0] (by rfl) (by rfl) (unhide HT1) infoLt (dt.one_cells (cs := [.int .i64 0, .string ⟨#[]⟩, .bool false, .slice none 0 0, .slice none 0 0, .int .i64 0, .int .i64 0]) (by rfl)) ?_; rw [← unhide E6])
      | refine wpList_store_mid (by rfl) 35 _ _ (by rfl) (w.heap.size + 1) 0 fs.toArray (by rfl) (by rfl) (by have := (unhide HX).1; simpa using this) (by have := unhide HI; simpa using this) (unhide HO) ?_)
    refine bodyPost_ret (result_rows2 rfl _ _ w.heap.size 0 [.int .i64 0, .string ⟨#[]⟩, .bool false, .slice none 0 0, .slice none 0 0, .int .i64 0, .int .i64 0] _ rfl (unhide HX).2.1 Try.underlying30 rfl infoLt (w.heap.size + 1) 0 fs _ rfl (unhide HX).2.2 Try.underlying35 rfl (unhide HI)) rfl ?_
    have e6 := unhide E6
    subst e6
    refine ⟨_, [], _, rfl, ⟨leaf_shape 0 em false 0 0, leaf_ow _ 0 em false 0 0, List.nodup_nil, by simp⟩, ?_, dt.below_setCells _ _ _ _ (dt.below_setCells _ _ _ _ (unhide hbw) (Nat.le_refl _)) (Nat.le_add_right _ 1)⟩
    exact (((unhide HF).out (unhide hlo).2 _ _).out (unhide hlo).1 _ _).mono (Nat.le_of_lt (unhide hlo).2)
  | some it =>
    cases hF : C.finB
    · rw [hF] at hend
      go_wp2_with fail
      refine ((unhide hend) _ ((unhide HC2).below ((unhide bA2) _))).mono ?_
      rintro e w3 ⟨rfl, hc3, hk3⟩
      have bT : Below W0.heap.size W0 w3 := (b02.alloc b02.size _).trans (hk3.below hB (Nat.le_trans b02.size ((unhide bA2) _).size))
      go_wp2_with fail
      refine ((unhide htold) _ C.fin hc3).mono ?_
      rintro e w5 ⟨fs, rfl, hflt, b5⟩
      have b05 : Below W0.heap.size W0 w5 := bT.trans (b5.mono bT.size)
      have hne12 : w.heap.size ≠ w.heap.size + 1 := by omega
      have HT1 := hide (show w5.there w.heap.size 0 7 from dt.there_cells ((b05.block w.heap.size (by omega)).trans hR1) (by decide))
      have HT2 := hide (show w5.there (w.heap.size + 1) 0 fs.length from by rw [hflt.three.1]; exact dt.there_cells ((b05.block (w.heap.size + 1) hz0).trans hR2) (by decide))
      have HX0 := res2 hne12 [.int .i64 0, .string ⟨#[]⟩, .bool false, .slice none 0 0, .slice none 0 0, .int .i64 0, .int .i64 0] fs (unhide HT1) (unhide HT2)
      obtain ⟨W6, e6⟩ : ∃ W6, W6 = w5.setCells w.heap.size 0 (#[.int .i64 0, .string ⟨#[]⟩, .bool false, .slice none 0 0, .slice none 0 0, .int .i64 0, .int .i64 0] : Array Value).toList := ⟨_, rfl⟩
      have HX := hide (show W6.there (w.heap.size + 1) 0 _ ∧ (W6.setCells (w.heap.size + 1) 0 fs).rangeAt w.heap.size 0 [.int .i64 0, .string ⟨#[]⟩, .bool false, .slice none 0 0, .slice none 0 0, .int .i64 0, .int .i64 0] ∧ (W6.setCells (w.heap.size + 1) 0 fs).rangeAt (w.heap.size + 1) 0 fs from by rw [e6]; exact HX0)
      have E6 := hide e6
      clear HX0 e6
      have HI := hide (show (Try.prog.info? 35).map (·.size) = some fs.length from by rw [hflt.three.1]; exact infoFl)
      have HO := hide (dt.one_cells hflt.three.2)
      have HF := hide hflt
      have hbw := hide (bW0.trans (b05.mono bW0.size))
      have hlo := hide (show w.heap.size + 1 < _ ∧ w.heap.size < _ from And.intro (Nat.lt_of_lt_of_le hz0 bT.size) (Nat.lt_of_lt_of_le (Nat.lt_of_succ_lt hz0) bT.size))
      clear b05 b5 htold hflt
      go_wp2_with (first
        | (refine wpList_store_mid (by rfl) 30 _ _ (by rfl) w.heap.size 0 #[.int .i64 0, .string ⟨#[]⟩, .bool false, .slice none 0 0, .slice none 0 0, .int .i64 0, .int .i64 0] (by rfl) (by rfl) (unhide HT1) infoLt (dt.one_cells (cs := [.int .i64 0, .string ⟨#[]⟩, .bool false, .slice none 0 0, .slice none 0 0, .int .i64 0, .int .i64 0]) (by rfl)) ?_; rw [← unhide E6])
        | refine wpList_store_mid (by rfl) 35 _ _ (by rfl) (w.heap.size + 1) 0 fs.toArray (by rfl) (by rfl) (by have := (unhide HX).1; simpa using this) (by have := unhide HI; simpa using this) (unhide HO) ?_)
      refine bodyPost_ret (result_rows2 rfl _ _ w.heap.size 0 [.int .i64 0, .string ⟨#[]⟩, .bool false, .slice none 0 0, .slice none 0 0, .int .i64 0, .int .i64 0] _ rfl (unhide HX).2.1 Try.underlying30 rfl infoLt (w.heap.size + 1) 0 fs _ rfl (unhide HX).2.2 Try.underlying35 rfl (unhide HI)) rfl ?_
      have e6 := unhide E6
      subst e6
      refine ⟨_, [], _, rfl, ⟨leaf_shape 0 em false 0 0, leaf_ow _ 0 em false 0 0, List.nodup_nil, by simp⟩, ?_, dt.below_setCells _ _ _ _ (dt.below_setCells _ _ _ _ (unhide hbw) (Nat.le_refl _)) (Nat.le_add_right _ 1)⟩
      exact (((unhide HF).out (unhide hlo).2 _ _).out (unhide hlo).1 _ _).mono (Nat.le_of_lt (unhide hlo).2)
    · rw [hF] at hend
      go_wp2_with fail
      refine ((unhide hend) _ ((unhide HC2).below ((unhide bA2) _))).mono ?_
      rintro e w3 ⟨rfl, hc3, hk3⟩
      have hI3 := (hk3.block w2.heap.size (by simp) (by have := (unhide HC2).lt; omega)).trans (heap_alloc_new w2 _)
      have b03 : Below W0.heap.size W0 w3 := (b02.alloc b02.size _).trans (hk3.below hB (Nat.le_trans b02.size ((unhide bA2) _).size))
      have i0 : w3.cell? ⟨w2.heap.size, 0, none⟩ = some (.int .i64 kk) := (dt.cell_cells hI3 0).trans rfl
      have i1 : w3.cell? ⟨w2.heap.size, 1, none⟩ = some (.string tt) := (dt.cell_cells hI3 1).trans rfl
      have i2 : w3.cell? ⟨w2.heap.size, 2, none⟩ = some (.bool bl) := (dt.cell_cells hI3 2).trans rfl
      have i3 : w3.cell? ⟨w2.heap.size, 3, none⟩ = some (.slice ai ni ci) := (dt.cell_cells hI3 3).trans rfl
      have i4 : w3.cell? ⟨w2.heap.size, 4, none⟩ = some (.slice af nf cf) := (dt.cell_cells hI3 4).trans rfl
      have i5 : w3.cell? ⟨w2.heap.size, 5, none⟩ = some (.int .i64 ln) := (dt.cell_cells hI3 5).trans rfl
      have i6 : w3.cell? ⟨w2.heap.size, 6, none⟩ = some (.int .i64 co) := (dt.cell_cells hI3 6).trans rfl
      have HW3 := hide (show Ow w3 (it) [.int .i64 kk, .string tt, .bool bl, .slice ai ni ci, .slice af nf cf, .int .i64 ln, .int .i64 co] F from ow_kp (ow_below (unhide HP).own ((unhide bA2) _) (fun b hb => (hrF b hb).2)) hk3 (Nat.lt_of_lt_of_le (Nat.lt_succ_self B) (Nat.le_refl _)) (fun b hb => ⟨by have h1 := (unhide HP).rng b hb; have h2 := hB1; omega, by have := (hrF b hb).2; simp; omega⟩))
      have hz23 := hide (show w2.heap.size ≤ w3.heap.size from by have := hk3.size; simp at this; omega)
      have hne12 : w.heap.size ≠ w.heap.size + 1 := by omega
      have HT1 := hide (show w3.there w.heap.size 0 7 from dt.there_cells ((b03.block w.heap.size (by omega)).trans hR1) (by decide))
      have HT2 := hide (show w3.there (w.heap.size + 1) 0 3 from dt.there_cells ((b03.block (w.heap.size + 1) hz0).trans hR2) (by decide))
      have HX0 := res2 hne12 [.int .i64 kk, .string tt, .bool bl, .slice ai ni ci, .slice af nf cf, .int .i64 ln, .int .i64 co] [.int .i64 0, .slice none 0 0, .slice none 0 0] (unhide HT1) (unhide HT2)
      obtain ⟨W6, e6⟩ : ∃ W6, W6 = w3.setCells w.heap.size 0 (#[.int .i64 kk, .string tt, .bool bl, .slice ai ni ci, .slice af nf cf, .int .i64 ln, .int .i64 co] : Array Value).toList := ⟨_, rfl⟩
      have HX := hide (show W6.there (w.heap.size + 1) 0 _ ∧ (W6.setCells (w.heap.size + 1) 0 [.int .i64 0, .slice none 0 0, .slice none 0 0]).rangeAt w.heap.size 0 [.int .i64 kk, .string tt, .bool bl, .slice ai ni ci, .slice af nf cf, .int .i64 ln, .int .i64 co] ∧ (W6.setCells (w.heap.size + 1) 0 [.int .i64 0, .slice none 0 0, .slice none 0 0]).rangeAt (w.heap.size + 1) 0 [.int .i64 0, .slice none 0 0, .slice none 0 0] from by rw [e6]; exact HX0)
      have E6 := hide e6
      clear HX0 e6
      have hfin := hide (show C.fin = C ∧ C.kd = 0 from ⟨by unfold Cu.fin; rw [hF]; rfl, (of_decide_eq_true hF).1⟩)
      have hbw := hide (bW0.trans (b03.mono bW0.size))
      clear hI3 b03 hk3 hc3 hend htold b02 bA2
      go_wp2_with (first
        | (refine wpList_store_mid (by rfl) 30 _ _ (by rfl) w.heap.size 0 #[.int .i64 kk, .string tt, .bool bl, .slice ai ni ci, .slice af nf cf, .int .i64 ln, .int .i64 co] (by rfl) (by rfl) (unhide HT1) infoLt (dt.one_cells (cs := [.int .i64 kk, .string tt, .bool bl, .slice ai ni ci, .slice af nf cf, .int .i64 ln, .int .i64 co]) (by rfl)) ?_; rw [← unhide E6])
        | refine wpList_store_mid (by rfl) 35 _ _ (by rfl) (w.heap.size + 1) 0 #[.int .i64 0, .slice none 0 0, .slice none 0 0] (by rfl) (by rfl) (unhide HX).1 infoFl (dt.one_cells (cs := [.int .i64 0, .slice none 0 0, .slice none 0 0]) (by rfl)) ?_)
      refine bodyPost_ret (result_rows2 rfl _ _ w.heap.size 0 [.int .i64 kk, .string tt, .bool bl, .slice ai ni ci, .slice af nf cf, .int .i64 ln, .int .i64 co] _ rfl (unhide HX).2.1 Try.underlying30 rfl infoLt (w.heap.size + 1) 0 [.int .i64 0, .slice none 0 0, .slice none 0 0] _ rfl (unhide HX).2.2 Try.underlying35 rfl infoFl) rfl ?_
      have e6 := unhide E6
      subst e6
      refine ⟨_, F, _, rfl, ⟨⟨kk, tt, bl, ai, ni, ci, af, nf, cf, ln, co, rfl⟩, ow_out (ow_out (unhide HW3) (fun hm => by have := (hrF _ hm).1; omega) _ _) (fun hm => by have := (hrF _ hm).1; omega) _ _, (unhide HP).nodup, fun b hb => ⟨by have := (hrF b hb).1; have := bW0.size; omega, by rw [dt.size_setCells, dt.size_setCells]; have := (hrF b hb).2; have := unhide hz23; omega⟩⟩, ?_, dt.below_setCells _ _ _ _ (dt.below_setCells _ _ _ _ (unhide hbw) (Nat.le_refl _)) (Nat.le_add_right _ 1)⟩
      unfold FltAt
      show (if C.fin.kd = 0 then _ else _)
      rw [(unhide hfin).1, if_pos (unhide hfin).2]
end Go.Proofs.Ytgphiollpbahgaa.cu
namespace Go.Proofs.Ytgphiollpbahgaa.lx
open mem (pfx digB digs digAt isAt bWhole bPart bPoint bMark pfxFirst pfxR posT enB prB)
open cu (Tk)
set_option linter.unusedVariables false
set_option linter.unusedSimpArgs false
/-- what stands behind a token makes no difference: l and l' agree up to T, and a line feed stands there in l' -/
structure Loc (l l' : List Int) (T : Nat) : Prop where
  tk : l'.take T = l.take T
  le : T ≤ l.length
  nl : cAt l' T = 10
section
variable {l l' : List Int} {T : Nat} (H : Loc l l' T)
include H
theorem Loc.lt : T < l'.length := cAt_lt H.nl (by decide)
theorem Loc.get {i : Nat} (hi : i < T) : l'[i]? = l[i]? := by
  have h1 : (l'.take T)[i]? = (l.take T)[i]? := by rw [H.tk]
  rwa [List.getElem?_take, List.getElem?_take, if_pos hi, if_pos hi] at h1
theorem Loc.getD {i : Nat} (hi : i < T) : l'.getD i 0 = l.getD i 0 := by
  rw [List.getD_eq_getElem?_getD, List.getD_eq_getElem?_getD, H.get hi]
theorem Loc.at_ {i : Nat} (hi : i < T) : cAt l' i = cAt l i := by
  have := H.lt
  have := H.le
  rw [cAt_in (by omega), cAt_in (by omega), H.getD hi]
theorem ign_loc : ∀ (n : Nat) (b : Bool) (i : Nat), T ≤ i + n → ign l b i < T → ign l' b i = ign l b i
  | 0, b, i, h, h2 => by have := (ign_le l b i).1; omega
  | n + 1, b, i, h, h2 => by
    have hi : i < T := Nat.lt_of_le_of_lt (ign_le l b i).1 h2
    have hc := H.at_ hi
    cases b with
    | false =>
      rw [ign_f l i] at h2 ⊢
      rw [ign_f l' i, hc]
      split
      · rename_i h3; rw [if_pos h3] at h2; exact ign_loc n false (i + 1) (by omega) h2
      · rename_i h3; rw [if_neg h3] at h2
        split
        · rename_i h4; rw [if_pos h4] at h2; exact ign_loc n true (i + 1) (by omega) h2
        · rfl
    | true =>
      rw [ign_t l i] at h2 ⊢
      rw [ign_t l' i, hc]
      split
      · rename_i h3; rw [if_pos h3] at h2; exact ign_loc n false (i + 1) (by omega) h2
      · rename_i h3; rw [if_neg h3] at h2
        split
        · rename_i h4; rw [if_pos h4] at h2; exact ign_loc n true (i + 1) (by omega) h2
        · rfl
theorem nam_loc : ∀ (n : Nat) (i : Nat), T + 1 ≤ i + n → nam l i ≤ T → nam l' i = nam l i
  | 0, i, h, h2 => by have := (nam_le l i).1; omega
  | n + 1, i, h, h2 => by
    have hi : i ≤ T := Nat.le_trans (nam_le l i).1 h2
    by_cases e : i = T
    · subst e
      have h3 : nam l i = i := Nat.le_antisymm h2 (nam_le l i).1
      rw [h3, nam_eq l' i, H.nl]
      rfl
    · have hc := H.at_ (i := i) (by omega)
      rw [nam_eq l i] at h2 ⊢
      rw [nam_eq l' i, hc]
      split
      · rename_i h3; rw [if_pos h3] at h2; exact nam_loc n (i + 1) (by omega) h2
      · rfl
omit H in
theorem digAt_c (l : List Int) (p : Nat) : digAt l p = digB (cAt l p) := by
  unfold digAt cAt
  by_cases h : p < l.length
  · simp [h]
  · simp [h, digB]
omit H in
theorem isAt_c (l : List Int) (p : Nat) (c : Int) (hc : c ≠ -1) : isAt l p c = decide (cAt l p = c) := by
  unfold isAt cAt
  by_cases h : p < l.length
  · simp [h, BEq.beq]
  · simp [h]; exact fun e => hc e.symm
omit H in
theorem digs_eq (l : List Int) (p : Nat) : digs l p = if digAt l p then digs l (p + 1) else p := by
  cases h : digAt l p
  · rw [mem.digs_no h]; rfl
  · rw [mem.digs_yes h]; rfl
theorem digs_loc : ∀ (n : Nat) (i : Nat), T + 1 ≤ i + n → digs l i ≤ T → digs l' i = digs l i
  | 0, i, h, h2 => by have := (mem.digs_le l i).1; omega
  | n + 1, i, h, h2 => by
    have hi : i ≤ T := Nat.le_trans (mem.digs_le l i).1 h2
    by_cases e : i = T
    · subst e
      have h3 : digs l i = i := Nat.le_antisymm h2 (mem.digs_le l i).1
      rw [h3, digs_eq l' i, digAt_c, H.nl]
      rfl
    · have hc := H.at_ (i := i) (by omega)
      rw [digs_eq l i] at h2 ⊢
      rw [digs_eq l' i, digAt_c, digAt_c, hc]
      rw [digAt_c] at h2
      split
      · rename_i h3; rw [if_pos h3] at h2; exact digs_loc n (i + 1) (by omega) h2
      · rfl
theorem pfxR_loc {e : Nat} (he : (pfxR l e).1 ≤ T) (h46 : cAt l (pfxR l e).1 ≠ 46) (hnr : nrB (cAt l (pfxR l e).1) = false) : pfxR l' e = pfxR l e := by
  have hge : ∀ g, g ≤ (bPart l g (bMark l g)).1 := fun g => bPart_ge l g _ (by unfold bMark; split; omega; split <;> omega)
  have hpp : e ≤ bPoint l e := by unfold bPoint; split <;> omega
  have hb := bPart_ge l e (bPoint l e) hpp
  have hR : (bPart l e (bPoint l e)).1 ≤ (pfxR l e).1 := by
    unfold pfxR
    split
    · exact hge _
    · exact Nat.le_refl _
  have heT : e ≤ T := by omega
  have h46b : ∀ p, isAt l p 46 = decide (cAt l p = 46) := fun p => isAt_c l p 46 (by decide)
  have h46c : ∀ p, isAt l' p 46 = decide (cAt l' p = 46) := fun p => isAt_c l' p 46 (by decide)
  -- the point
  have hpt : bPoint l' e = bPoint l e := by
    unfold bPoint
    rw [h46b, h46c]
    by_cases h1 : e < T
    · rw [H.at_ h1]
    · have h2 : e = T := by omega
      have h3 : (pfxR l e).1 = e := by omega
      rw [h3] at h46
      rw [h2, H.nl, ← h2]
      simp [h46]
  -- the fraction
  have hfr : bPart l' e (bPoint l e) = bPart l e (bPoint l e) ∧ (bPart l e (bPoint l e)).1 = (bPart l e (bPoint l e)).2 := by
    by_cases h1 : bPoint l e = e
    · unfold bPart
      rw [if_pos h1, if_pos h1]
      exact ⟨rfl, rfl⟩
    · by_cases h2 : digs l (bPoint l e) = bPoint l e
      · exfalso
        have h3 : bPart l e (bPoint l e) = (e, digs l (bPoint l e)) := by unfold bPart; rw [if_neg h1, if_pos h2]
        have h4 : pfxR l e = (e, digs l (bPoint l e)) := by
          unfold pfxR
          rw [h3]
          simp only
          rw [if_neg (by rw [h2]; exact fun e' => h1 e'.symm)]
        rw [h4] at h46
        apply h46
        unfold bPoint at h1
        cases h5 : isAt l e 46
        · rw [h5] at h1; exact absurd rfl h1
        · rw [h46b] at h5; simpa using h5
      · have h3 : bPart l e (bPoint l e) = (digs l (bPoint l e), digs l (bPoint l e)) := by unfold bPart; rw [if_neg h1, if_neg h2]
        rw [h3] at hR
        have h4 := digs_loc H (T + 1) (bPoint l e) (by omega) (by simp only at hR; omega)
        refine ⟨?_, by rw [h3]⟩
        rw [h3]
        unfold bPart
        rw [if_neg h1, h4, if_neg h2]
  obtain ⟨g, hg⟩ : ∃ g, g = (bPart l e (bPoint l e)).1 := ⟨_, rfl⟩
  have hRe : pfxR l e = bPart l g (bMark l g) := by unfold pfxR; rw [if_pos hfr.2, ← hg]
  have hRe' : pfxR l' e = bPart l' g (bMark l' g) := by unfold pfxR; rw [hpt, hfr.1, if_pos hfr.2, ← hg]
  rw [← hg] at hR
  have he1 : ∀ p, isAt l p 101 = decide (cAt l p = 101) := fun p => isAt_c l p 101 (by decide)
  have he2 : ∀ p, isAt l p 69 = decide (cAt l p = 69) := fun p => isAt_c l p 69 (by decide)
  have he1' : ∀ p, isAt l' p 101 = decide (cAt l' p = 101) := fun p => isAt_c l' p 101 (by decide)
  have he2' : ∀ p, isAt l' p 69 = decide (cAt l' p = 69) := fun p => isAt_c l' p 69 (by decide)
  rw [hRe', hRe]
  by_cases hm : isAt l g 101 = false ∧ isAt l g 69 = false
  · have hm' : isAt l' g 101 = false ∧ isAt l' g 69 = false := by
      by_cases h1 : g < T
      · rw [he1', he2', H.at_ h1, ← he1, ← he2]; exact hm
      · have h2 : g = T := by omega
        rw [he1', he2', h2, H.nl]
        decide
    have e1 : bMark l g = g := by unfold bMark; rw [if_pos hm]
    have e2 : bMark l' g = g := by unfold bMark; rw [if_pos hm']
    rw [e1, e2]
    unfold bPart
    rw [if_pos rfl, if_pos rfl]
  · have hc : cAt l g = 101 ∨ cAt l g = 69 := by
      rw [he1, he2] at hm
      simp only [decide_eq_false_iff_not] at hm
      by_cases h : cAt l g = 101
      · exact .inl h
      · exact .inr (Classical.not_not.1 (fun h' => hm ⟨h, h'⟩))
    have hgn : nrB (cAt l g) = true := by rcases hc with h | h <;> rw [h] <;> decide
    have hne : g ≠ (pfxR l e).1 := fun e' => by rw [← e', hgn] at hnr; cases hnr
    have hgT : g < T := by omega
    have hk : bMark l g = g + 1 ∨ bMark l g = g + 2 := by unfold bMark; rw [if_neg hm]; split; exact .inr rfl; exact .inl rfl
    have hkg : bMark l g ≠ g := by omega
    by_cases hd : digs l (bMark l g) = bMark l g
    · exfalso
      have : bPart l g (bMark l g) = (g, digs l (bMark l g)) := by unfold bPart; rw [if_neg hkg, if_pos hd]
      rw [hRe, this] at hne
      exact hne rfl
    · have h3 : bPart l g (bMark l g) = (digs l (bMark l g), digs l (bMark l g)) := by unfold bPart; rw [if_neg hkg, if_neg hd]
      rw [hRe, h3] at he
      simp only at he
      have h5 := (mem.digs_le l (bMark l g)).1
      have hg1 : g + 1 < T := by omega
      have hs1 : ∀ c : Int, c ≠ -1 → isAt l' (g + 1) c = isAt l (g + 1) c := fun c hc => by rw [isAt_c _ _ _ hc, isAt_c _ _ _ hc, H.at_ hg1]
      have hmk : bMark l' g = bMark l g := by
        unfold bMark
        rw [he1', he2', H.at_ hgT, ← he1, ← he2, hs1 43 (by decide), hs1 45 (by decide)]
      have h4 := digs_loc H (T + 1) (bMark l g) (by omega) he
      rw [hmk, h3]
      unfold bPart
      rw [if_neg hkg, h4, if_neg hd]
theorem pfx_loc {p : Nat} (hf : (pfx l p).2.2 ≠ 0) (ht : (pfx l p).1 ≤ T) (h46 : cAt l (pfx l p).1 ≠ 46) (hnr : nrB (cAt l (pfx l p).1) = false) : pfx l' p = pfx l p := by
  have hw : ¬ bWhole l (pfxFirst l p) = pfxFirst l p := fun e => hf (by unfold pfx; rw [if_pos e])
  have hpx : pfx l p = ((pfxR l (bWhole l (pfxFirst l p))).1, (pfxR l (bWhole l (pfxFirst l p))).2, if (pfxR l (bWhole l (pfxFirst l p))).1 > bWhole l (pfxFirst l p) then 2 else 1) := by unfold pfx; rw [if_neg hw]
  rw [hpx] at ht h46 hnr
  simp only at ht h46 hnr
  have hge : ∀ g, g ≤ (bPart l g (bMark l g)).1 := fun g => bPart_ge l g _ (by unfold bMark; split; omega; split <;> omega)
  have hR : bWhole l (pfxFirst l p) ≤ (pfxR l (bWhole l (pfxFirst l p))).1 := by
    have hpp : ∀ e, e ≤ bPoint l e := fun e => by unfold bPoint; split <;> omega
    have hb := fun e => bPart_ge l e (bPoint l e) (hpp e)
    unfold pfxR
    split
    · exact Nat.le_trans (hb _) (hge _)
    · exact hb _
  have hwl : pfxFirst l p ≤ bWhole l (pfxFirst l p) := by
    unfold bWhole
    split
    · omega
    · exact (mem.digs_le l _).1
  have hfp : p ≤ pfxFirst l p := by unfold pfxFirst; split <;> omega
  have hpT : p < T := by omega
  have hfT : pfxFirst l p < T := by omega
  have hfi : pfxFirst l' p = pfxFirst l p := by unfold pfxFirst; rw [isAt_c _ _ _ (by decide), isAt_c _ _ _ (by decide), H.at_ hpT]
  have hwe : bWhole l' (pfxFirst l p) = bWhole l (pfxFirst l p) := by
    unfold bWhole
    rw [isAt_c _ _ _ (by decide), isAt_c _ _ _ (by decide), H.at_ hfT]
    split
    · rfl
    · rename_i h0
      refine digs_loc H (T + 1) _ (by omega) ?_
      have : bWhole l (pfxFirst l p) = digs l (pfxFirst l p) := by unfold bWhole; rw [isAt_c _ _ _ (by decide), if_neg h0]
      omega
  have hre := pfxR_loc H ht h46 hnr
  rw [hpx]
  unfold pfx
  rw [hfi, hwe, if_neg hw, hre]
theorem num_loc {i : Nat} (hk : (num l i).1 ≠ 1) (ht : (num l i).2 ≤ T) : num l' i = num l i := by
  have hc : ¬ (cAt l (pfx l i).1 = 46 ∨ nrB (cAt l (pfx l i).1) = true) := fun e => hk (by unfold num; rw [if_pos e])
  have h46 : cAt l (pfx l i).1 ≠ 46 := fun e => hc (.inl e)
  have hnr : nrB (cAt l (pfx l i).1) = false := by
    cases h : nrB (cAt l (pfx l i).1)
    · rfl
    · exact absurd (.inr h) hc
  have hf : (pfx l i).2.2 = 1 ∨ (pfx l i).2.2 = 2 := by
    by_cases h1 : (pfx l i).2.2 = 1
    · exact .inl h1
    · by_cases h2 : (pfx l i).2.2 = 2
      · exact .inr h2
      · exact absurd (by unfold num; rw [if_neg hc, if_neg h1, if_neg h2]) hk
  have ht2 : (pfx l i).1 ≤ T := by
    unfold num at ht
    rw [if_neg hc] at ht
    rcases hf with h | h
    · rw [if_pos h] at ht; exact ht
    · rw [if_neg (by rw [h]; decide), if_pos h] at ht; exact ht
  have he := pfx_loc H (by rcases hf with h | h <;> rw [h] <;> decide) ht2 h46 hnr
  have hc' : ¬ (cAt l' (pfx l i).1 = 46 ∨ nrB (cAt l' (pfx l i).1) = true) := by
    by_cases h1 : (pfx l i).1 < T
    · rw [H.at_ h1]; exact hc
    · have h2 : (pfx l i).1 = T := by omega
      rw [h2, H.nl]
      decide
  unfold num
  rw [he, if_neg hc, if_neg hc']
theorem insZ_loc {p i : Nat} (hi : i ≤ T) : insZ l' p i = insZ l p i := by
  unfold insZ
  have e : ∀ m : List Int, (m.drop p).take (i - p) = ((m.take T).drop p).take (i - p) := fun m => by
    rw [List.drop_take, List.take_take, Nat.min_eq_left (by omega)]
  rw [e l', e l, H.tk]
theorem tq_loc {i : Nat} (hi : i + 2 < T) : tq l' i = tq l i := by
  unfold tq
  rw [H.at_ (by omega), H.at_ (by omega), H.at_ hi]
theorem endB_loc : ∀ (k j i : Nat), endB l k j = some i → i + 3 ≤ T → ∀ k', i < j + k' → endB l' k' j = some i
  | 0, j, i, h, _, _, _ => by cases h
  | k + 1, j, i, h, hT, k', hk' => by
    have hle := endB_le l _ _ _ h
    cases k' with
    | zero => omega
    | succ k' =>
      unfold endB at h ⊢
      rw [tq_loc H (by omega)]
      split at h
      · rename_i ht; rw [if_pos ht]; exact h
      rename_i ht; rw [if_neg ht]
      have hji : j < i := by
        rcases Nat.lt_or_ge j i with h1 | h1
        · exact h1
        · exfalso
          have : j = i := by omega
          rw [this] at ht
          exact ht hle.2
      rw [H.at_ (by omega), tq_loc H (by omega)]
      split at h
      · rename_i h2; rw [if_pos h2]; exact endB_loc k _ i h hT k' (by omega)
      rename_i h2; rw [if_neg h2]
      split at h
      · cases h
      · rename_i h3; rw [if_neg h3]; exact endB_loc k _ i h hT k' (by omega)
theorem endQ_loc : ∀ (k j i : Nat), endQ l k j = some i → i + 1 ≤ T → ∀ k', i < j + k' → endQ l' k' j = some i
  | 0, j, i, h, _, _, _ => by cases h
  | k + 1, j, i, h, hT, k', hk' => by
    have hle := endQ_le l _ _ _ h
    cases k' with
    | zero => omega
    | succ k' =>
      unfold endQ at h ⊢
      rw [H.at_ (by omega)]
      split at h
      · rename_i ht; rw [if_pos ht]; exact h
      rename_i ht; rw [if_neg ht]
      have hji : j < i := by
        rcases Nat.lt_or_ge j i with h1 | h1
        · exact h1
        · exfalso
          have : j = i := by omega
          rw [this] at ht
          exact ht hle.2
      rw [H.at_ (i := j + 1) (by omega)]
      split at h
      · rename_i h2
        rw [if_pos h2]
        split at h
        · cases h
        · rename_i h3; rw [if_neg h3]; exact endQ_loc k _ i h hT k' (by omega)
      rename_i h2; rw [if_neg h2]
      split at h
      · cases h
      · rename_i h3; rw [if_neg h3]; exact endQ_loc k _ i h hT k' (by omega)
theorem rdG_loc {cl cl' : Bool} {F : Nat} (hF : F ≤ l.length) (h0 : (rdG l cl F).1 ≠ 0) (h1 : (rdG l cl F).1 ≠ 1) (ht : (rdG l cl F).2.1 ≤ T) : rdG l' cl' F = rdG l cl F := by
  have hle := rdG_le l cl F hF
  have hFT : F < T := by rcases hle.2.2 with h | h | h; exact absurd h h0; exact absurd h h1; omega
  have hc := H.at_ hFT
  have hlt := H.lt
  have hn0 : ¬ (F = l.length ∧ cl = true) := fun e => h0 (by unfold rdG; rw [if_pos e])
  have hn0' : ¬ (F = l'.length ∧ cl' = true) := fun e => by omega
  unfold rdG at h0 h1 ht ⊢
  rw [if_neg hn0] at h0 h1 ht ⊢
  rw [if_neg hn0', hc]
  split
  · rename_i h46
    rw [if_pos h46] at h0 h1 ht
    by_cases hd : cAt l (F + 1) = 46 ∧ cAt l (F + 2) = 46
    · rw [if_pos hd] at ht
      simp only at ht
      rw [if_pos hd, H.at_ (by omega), H.at_ (by omega), if_pos hd]
    · rw [if_neg hd] at h1; exact absurd rfl h1
  rename_i h46
  rw [if_neg h46] at h0 h1 ht
  split
  · rfl
  rename_i hpu
  rw [if_neg hpu] at h0 h1 ht
  split
  · rename_i hns
    rw [if_pos hns] at ht
    simp only at ht
    rw [nam_loc H (T + 1) (F + 1) (by omega) ht]
  rename_i hns
  rw [if_neg hns] at h0 h1 ht
  split
  · rename_i hnu
    rw [if_pos hnu] at h1 ht
    simp only at h1 ht
    rw [num_loc H h1 ht]
  rename_i hnu
  rw [if_neg hnu] at h0 h1 ht
  by_cases htq : tq l F = true
  · rw [if_pos htq] at h1 ht
    have h3 := tq_len l F htq
    have key : ∃ i, endB l (l.length + 2) (F + 3) = some i := by
      unfold blc at h1
      cases e : endB l (l.length + 2) (F + 3) with
      | none => rw [e] at h1; exact absurd rfl h1
      | some i => exact ⟨i, rfl⟩
    obtain ⟨i, hi⟩ := key
    have hib := endB_le l _ _ _ hi
    have hto : (blc sv.bS l F).2.1 = i + 3 := by unfold blc; rw [hi]; rfl
    rw [hto] at ht
    have htq' : tq l' F = true := by rw [tq_loc H (by omega)]; exact htq
    rw [if_pos htq', if_pos htq]
    have he := endB_loc H _ _ _ hi ht (l'.length + 2) (by omega)
    unfold blc
    rw [he, hi]
    simp only [blcR]
    rw [insZ_loc H (by omega)]
  · rw [if_neg htq] at h0 h1 ht
    by_cases h34 : cAt l F = 34
    · rw [if_pos h34] at h1 ht
      have key : ∃ i r, endQ l (l.length + 2) (F + 1) = some i ∧ quo (insZ l (F + 1) i) = some r := by
        unfold qtd at h1
        cases e : endQ l (l.length + 2) (F + 1) with
        | none => rw [e] at h1; exact absurd rfl h1
        | some i =>
          rw [e] at h1
          simp only [qtdR] at h1
          cases e2 : quo (insZ l (F + 1) i) with
          | none => rw [e2] at h1; exact absurd rfl h1
          | some r => exact ⟨i, r, rfl, e2⟩
      obtain ⟨i, r, hi, hr⟩ := key
      have hib := endQ_le l _ _ _ hi
      have hto : (qtd l F).2.1 = i + 1 := by unfold qtd; rw [hi]; simp only [qtdR, hr]
      rw [hto] at ht
      have htq' : ¬ tq l' F = true := by
        intro e
        unfold tq at e htq
        have e := of_decide_eq_true e
        have h1' : cAt l (F + 1) = 34 := by rw [← H.at_ (by omega)]; exact e.2.1
        have hiF : i = F + 1 := by
          unfold endQ at hi
          rw [if_pos h1'] at hi
          exact (Option.some.inj hi).symm
        have h2' : cAt l' (F + 2) = 34 := e.2.2
        by_cases hT2 : F + 2 < T
        · rw [H.at_ hT2] at h2'
          exact htq (by simp [h34, h1', h2'])
        · have : F + 2 = T := by omega
          rw [this, H.nl] at h2'
          exact absurd h2' (by decide)
      rw [if_neg htq', if_neg htq, if_pos h34, if_pos h34]
      have he := endQ_loc H _ _ _ hi ht (l'.length + 2) (by omega)
      unfold qtd
      rw [he, hi]
      simp only [qtdR]
      rw [insZ_loc H (by omega)]
    · rw [if_neg h34] at h1; exact absurd rfl h1
theorem posT_loc : ∀ (k : Nat), k < T → posT l' k = posT l k
  | 0, _ => rfl
  | k + 1, hk => by
    have ih := posT_loc k (by omega)
    have h1 := H.lt
    have h2 := H.le
    have he : enB l' k = enB l k := by
      unfold enB prB
      rw [H.getD (by omega), H.getD (by omega)]
      simp [show k + 1 < l.length by omega, show k + 1 < l'.length by omega]
    simp only [posT, he, ih]
theorem tkG_loc {cl cl' : Bool} {i : Nat} (hi : i ≤ l.length) (h0 : (tkG l cl i).k ≠ 0) (h1 : (tkG l cl i).k ≠ 1) (ht : (tkG l cl i).to ≤ T) : tkG l' cl' i = tkG l cl i := by
  have hF := (ign_le l false i).2 hi
  have hle := rdG_le l cl (ign l false i) hF
  have hFT : ign l false i < T := by
    rcases hle.2.2 with h | h | h
    · exact absurd h h0
    · exact absurd h h1
    · exact Nat.lt_of_lt_of_le h ht
  have hg := ign_loc H T false i (by omega) hFT
  have hr := rdG_loc H (cl' := cl') hF h0 h1 ht
  unfold tkG
  rw [hg, hr, posT_loc H _ hFT]
  congr 1
  have e : ∀ m : List Int, m.take (rdG l cl (ign l false i)).2.1 = (m.take T).take (rdG l cl (ign l false i)).2.1 := fun m => by
    rw [List.take_take, Nat.min_eq_left (show (rdG l cl (ign l false i)).2.1 ≤ T from ht)]
  rw [e l', e l, H.tk]
/-- the tokens up to the one that ends at T or ahead of it -/
theorem tks_loc {cl cl' : Bool} : ∀ (m i : Nat) (t : Tk), i ≤ l.length → i ≤ T → (tksG l cl i)[m]? = some t → t.k ≠ 0 → t.k ≠ 1 → t.to ≤ T → (∀ q, q ≤ m → (tksG l' cl' i)[q]? = (tksG l cl i)[q]?) ∧ i < t.to
  | m, i, t, hi, hiT, hm, h0, h1, ht => by
    have hlt := H.lt
    have hle := tkG_le l cl i hi
    by_cases he : (tkG l cl i).k = 0 ∨ (tkG l cl i).k = 1
    · exfalso
      rw [tksG_end he] at hm
      cases m with
      | zero => simp at hm; subst hm; rcases he with e | e; exact h0 e; exact h1 e
      | succ m => simp at hm
    · have e0 : (tkG l cl i).k ≠ 0 := fun e => he (.inl e)
      have e1 : (tkG l cl i).k ≠ 1 := fun e => he (.inr e)
      have hgo := tksG_go hi he
      have hit : i < (tkG l cl i).to := by rcases hle.2.2 with h | h | h; exact absurd h e0; exact absurd h e1; exact h
      cases m with
      | zero =>
        rw [hgo] at hm
        simp at hm
        subst hm
        have hk := tkG_loc H (cl' := cl') hi e0 e1 ht
        refine ⟨fun q hq => ?_, hit⟩
        obtain rfl : q = 0 := by omega
        rw [hgo, tksG_go (l := l') (cl := cl') (by omega) (by rw [hk]; exact he), hk]
        rfl
      | succ m =>
        rw [hgo] at hm
        simp at hm
        have hrec := fun hT2 => tks_loc (cl := cl) (cl' := cl') m (tkG l cl i).to t hle.2.1 hT2 hm h0 h1 ht
        have htoT : (tkG l cl i).to ≤ T := by
          -- a later token ends further on
          have key : ∀ (m i : Nat) (t : Tk), i ≤ l.length → (tksG l cl i)[m]? = some t → t.k ≠ 0 → t.k ≠ 1 → i < t.to := by
            intro m
            induction m with
            | zero =>
              intro i t hi hm h0 h1
              have hle := tkG_le l cl i hi
              have h00 : (tksG l cl i)[0]? = some (tkG l cl i) := by
                by_cases he : (tkG l cl i).k = 0 ∨ (tkG l cl i).k = 1
                · rw [tksG_end he]; rfl
                · rw [tksG_go hi he]; rfl
              rw [h00] at hm
              obtain rfl := Option.some.inj hm
              rcases hle.2.2 with h | h | h
              · exact absurd h h0
              · exact absurd h h1
              · exact h
            | succ m ih =>
              intro i t hi hm h0 h1
              have hle := tkG_le l cl i hi
              by_cases he : (tkG l cl i).k = 0 ∨ (tkG l cl i).k = 1
              · rw [tksG_end he] at hm; simp at hm
              · rw [tksG_go hi he] at hm
                have := ih _ t hle.2.1 (by simpa using hm) h0 h1
                rcases hle.2.2 with h | h | h
                · exact absurd (.inl h) he
                · exact absurd (.inr h) he
                · omega
          have := key m (tkG l cl i).to t hle.2.1 hm h0 h1
          omega
        obtain ⟨hr1, hr2⟩ := hrec htoT
        have hk := tkG_loc H (cl' := cl') hi e0 e1 htoT
        refine ⟨fun q hq => ?_, by omega⟩
        rw [hgo, tksG_go (l := l') (cl := cl') (by omega) (by rw [hk]; exact he), hk]
        cases q with
        | zero => rfl
        | succ q =>
          simp only [List.getElem?_cons_succ]
          exact hr1 q (by omega)
end
end Go.Proofs.Ytgphiollpbahgaa.lx
namespace Go.Proofs.Ytgphiollpbahgaa.cu
open dt (Dt)
open mem (decF decZ putB scB Byt posT enB)
open lx (toks chs cln tksG tkG)
set_option linter.unusedVariables false
set_option linter.unusedSimpArgs false
theorem decF_app : ∀ (zs : List Int) (f : Nat) (r : List Int), zs.all scB = true → decF (zs.length + f) (zs.flatMap putB ++ r) = (zs ++ (decF f r).1, (zs.flatMap putB).length + (decF f r).2)
  | [], f, r, _ => by simp
  | c :: zs, f, r, h => by
    rw [List.all_cons, Bool.and_eq_true] at h
    have hc := (mem.scB_iff c).1 h.1
    have ho := mem.one_put c hc (zs.flatMap putB ++ r)
    have hn : 0 < (putB c).length := by unfold putB; split <;> (try split) <;> (try split) <;> simp
    rw [List.flatMap_cons, List.append_assoc, List.length_cons, show zs.length + 1 + f = (zs.length + f) + 1 by omega, mem.decF_go _ _ (by rw [ho]; simp only; omega), ho]
    simp only
    rw [show (putB c ++ (zs.flatMap putB ++ r)).drop (putB c).length = zs.flatMap putB ++ r by simp, decF_app zs f r h.2]
    simp
    omega
theorem decF_fuel : ∀ (f g : Nat) (l : List Int), l.length ≤ f → l.length ≤ g → decF f l = decF g l
  | 0, g, l, hf, hg => by
    have : l = [] := List.eq_nil_of_length_eq_zero (by omega)
    subst this
    rw [mem.decF_end _ _ (by decide), mem.decF_end _ _ (by decide)]
  | f + 1, 0, l, hf, hg => by
    have : l = [] := List.eq_nil_of_length_eq_zero (by omega)
    subst this
    rw [mem.decF_end _ _ (by decide), mem.decF_end _ _ (by decide)]
  | f + 1, g + 1, l, hf, hg => by
    by_cases h : (mem.oneL l).2 = 0
    · rw [mem.decF_end _ _ h, mem.decF_end _ _ h]
    · have := mem.oneL_le l
      rw [mem.decF_go _ _ h, mem.decF_go _ _ h, decF_fuel f g _ (by simp; omega) (by simp; omega)]
/-- a source's beginning, a line feed, and anything behind -/
def behind (l : List Int) (T : Nat) (tl : List Int) : List Int := (l.take T).flatMap putB ++ 10 :: tl
theorem chs_behind {l : List Int} (hl : ∀ x ∈ l, mem.scP x) (T : Nat) (tl : List Int) : chs (behind l T tl) = l.take T ++ 10 :: (decZ tl).1 := by
  have h1 : (l.take T ++ [10]).all scB = true := by
    rw [List.all_eq_true]
    intro x hx
    rw [mem.scB_iff]
    rcases List.mem_append.1 hx with h | h
    · exact hl x (List.mem_of_mem_take h)
    · simp at h; subst h; unfold mem.scP; omega
  have hp : putB 10 = [10] := mem.putB_1 (by omega)
  have e : behind l T tl = (l.take T ++ [10]).flatMap putB ++ tl := by
    unfold behind
    rw [List.flatMap_append]
    simp [hp]
  unfold chs decZ
  have hlen : (l.take T ++ [10]).length ≤ ((l.take T ++ [10]).flatMap putB).length := mem.flat_ge _
  rw [e, decF_fuel _ ((l.take T ++ [10]).length + ((l.take T ++ [10]).flatMap putB ++ tl).length) _ (Nat.le_refl _) (by omega), decF_app _ _ _ h1]
  simp only
  rw [decF_fuel _ tl.length tl (by rw [List.length_append]; omega) (Nat.le_refl _)]
  simp
theorem loc_behind {l : List Int} (hl : ∀ x ∈ l, mem.scP x) {T : Nat} (hT : T ≤ l.length) (tl : List Int) : lx.Loc l (chs (behind l T tl)) T := by
  rw [chs_behind hl]
  have h1 : (l.take T).length = T := by simp; omega
  refine ⟨?_, hT, ?_⟩
  · rw [List.take_append_of_le_length (by omega), List.take_of_length_le (by omega)]
  · rw [lx.cAt_in (by simp; omega), List.getD_eq_getElem?_getD, List.getElem?_append_right (by omega), h1, Nat.sub_self]
    rfl
theorem fin_ix (c : Cu) : c.fin.ix = c.ix ∧ c.fin.ts = c.ts := by
  unfold Cu.fin Cu.stop
  split
  · exact ⟨rfl, rfl⟩
  · split <;> exact ⟨rfl, rfl⟩
theorem readLG_ix (z : List Int) (ct : Bool) (d : Int) : (readLG z ct d).2.ix = (litF ct (toks z).length (newG z d)).2.ix ∧ Stp (newG z d) (readLG z ct d).2 ∧ Kd (readLG z ct d).2 := by
  have hg := (litF_goes ct (toks z).length (newG z d) (newG_ok' z d)).1
  have hk := litF_kd ct (toks z).length (newG z d) (.inl rfl)
  unfold readLG
  split
  · exact ⟨(fin_ix _).1, hg.trans (fin_stp hg.ok), fin_kd hk⟩
  · exact ⟨rfl, hg, hk⟩
/-- the fault stays -/
theorem stays (z : List Int) (hz : Byt z) (tl : List Int) (ct : Bool) (d : Int) (h0 : (readLG z ct d).2.tok.k ≠ 0) (h1 : (readLG z ct d).2.tok.k ≠ 1) :
    (readLG (behind (chs z) (readLG z ct d).2.tok.to tl) ct d).2.kd = (readLG z ct d).2.kd ∧ (readLG (behind (chs z) (readLG z ct d).2.tok.to tl) ct d).2.tok = (readLG z ct d).2.tok := by
  obtain ⟨hix, hst, _⟩ := readLG_ix z ct d
  obtain ⟨t, ht⟩ : ∃ t, t = (readLG z ct d).2.tok := ⟨_, rfl⟩
  obtain ⟨m, hm⟩ : ∃ m, m = (readLG z ct d).2.ix := ⟨_, rfl⟩
  have hget : (toks z)[m]? = some t := by
    have := (readLG z ct d).2.get hst.ok.lt
    rw [hst.ts, ← hm, ← ht] at this
    exact this
  rw [← ht] at h0 h1
  rw [← ht]
  have hto : t.to ≤ (chs z).length := by
    -- a token ends within the source
    have key : ∀ (q i : Nat) (t : Tk), i ≤ (chs z).length → (tksG (chs z) (cln z) i)[q]? = some t → t.to ≤ (chs z).length := by
      intro q
      induction q with
      | zero =>
        intro i t hi hq
        have hle := lx.tkG_le (chs z) (cln z) i hi
        by_cases he : (tkG (chs z) (cln z) i).k = 0 ∨ (tkG (chs z) (cln z) i).k = 1
        · rw [lx.tksG_end he] at hq; simp at hq; subst hq; exact hle.2.1
        · rw [lx.tksG_go hi he] at hq; simp at hq; subst hq; exact hle.2.1
      | succ q ih =>
        intro i t hi hq
        have hle := lx.tkG_le (chs z) (cln z) i hi
        by_cases he : (tkG (chs z) (cln z) i).k = 0 ∨ (tkG (chs z) (cln z) i).k = 1
        · rw [lx.tksG_end he] at hq; simp at hq
        · rw [lx.tksG_go hi he] at hq
          exact ih _ t hle.2.1 (by simpa using hq)
    exact key m 0 t (Nat.zero_le _) hget
  have H := loc_behind (lx.chs_sc hz) hto tl
  obtain ⟨z', hz'⟩ : ∃ z', z' = behind (chs z) t.to tl := ⟨_, rfl⟩
  rw [← hz'] at H ⊢
  have hloc := (lx.tks_loc H (cl := cln z) (cl' := cln z') m 0 t (Nat.zero_le _) (Nat.zero_le _) hget h0 h1 (Nat.le_refl _)).1
  have hS : Sim m (newG z d) (newG z' d) := ⟨rfl, rfl, rfl, rfl, hloc⟩
  obtain ⟨e1, e2⟩ := litF_near ct (toks z).length (toks z').length (newG z d) (newG z' d) (newG_ok' z d) (newG_ok' z' d) hS (Nat.le_add_right _ _) (Nat.le_add_right _ _) (by rw [← hix, ← hm]; exact Nat.le_refl _)
  have hlm : (litF ct (toks z).length (newG z d)).2.ix ≤ m := by rw [← hix, ← hm]; exact Nat.le_refl _
  have hR : Sim m (readLG z ct d).2 (readLG z' ct d).2 := by
    unfold readLG
    rw [e1]
    split
    · exact e2.fin hlm
    · exact e2
  exact ⟨hR.kd, by rw [hR.tok (by rw [← hm]; exact Nat.le_refl _), ht]⟩
/-- places tell tokens apart -/
theorem posT_up (l : List Int) : ∀ (k j : Nat), j < k → (posT l j).1 < (posT l k).1 ∨ ((posT l j).1 = (posT l k).1 ∧ (posT l j).2 < (posT l k).2)
  | 0, j, h => by omega
  | k + 1, j, h => by
    simp only [posT]
    by_cases e : j = k
    · subst e
      cases enB l j
      · right; simp; omega
      · left; simp; omega
    · have := posT_up l k j (by omega)
      cases enB l k
      · simp; omega
      · left; simp; omega
theorem posT_inj (l : List Int) {j k : Nat} (h : posT l j = posT l k) : j = k := by
  rcases Nat.lt_trichotomy j k with h1 | h1 | h1
  · have := posT_up l k j h1; rw [h] at this; omega
  · exact h1
  · have := posT_up l j k h1; rw [h] at this; omega
theorem tks_fr (l : List Int) (cl : Bool) : ∀ (q i : Nat) (t : Tk), i ≤ l.length → (tksG l cl i)[q]? = some t → i ≤ t.fr ∧ (t.ln, t.co) = posT l t.fr
  | 0, i, t, hi, h => by
    have h0 : (tksG l cl i)[0]? = some (tkG l cl i) := by
      by_cases he : (tkG l cl i).k = 0 ∨ (tkG l cl i).k = 1
      · rw [lx.tksG_end he]; rfl
      · rw [lx.tksG_go hi he]; rfl
    rw [h0] at h
    obtain rfl := Option.some.inj h
    exact ⟨(lx.ign_le l false i).1, rfl⟩
  | q + 1, i, t, hi, h => by
    have hle := lx.tkG_le l cl i hi
    by_cases he : (tkG l cl i).k = 0 ∨ (tkG l cl i).k = 1
    · rw [lx.tksG_end he] at h; simp at h
    · rw [lx.tksG_go hi he] at h
      have := tks_fr l cl q _ t hle.2.1 (by simpa using h)
      have hit : i < (tkG l cl i).to := by rcases hle.2.2 with h | h | h; exact absurd (.inl h) he; exact absurd (.inr h) he; exact h
      exact ⟨by omega, this.2⟩
theorem tks_fr_lt (l : List Int) (cl : Bool) : ∀ (q m i : Nat) (t u : Tk), i ≤ l.length → q < m → (tksG l cl i)[q]? = some t → (tksG l cl i)[m]? = some u → t.fr < u.fr
  | q, 0, i, t, u, hi, hqm, h, h' => by omega
  | q, m + 1, i, t, u, hi, hqm, h, h' => by
    have hle := lx.tkG_le l cl i hi
    by_cases he : (tkG l cl i).k = 0 ∨ (tkG l cl i).k = 1
    · rw [lx.tksG_end he] at h'; simp at h'
    · have hgo := lx.tksG_go hi he
      rw [hgo] at h h'
      cases q with
      | zero =>
        simp at h
        subst h
        have h2 := tks_fr l cl m _ u hle.2.1 (by simpa using h')
        have hr := lx.rdG_le l cl (lx.ign l false i) ((lx.ign_le l false i).2 hi)
        have : (tkG l cl i).fr < (tkG l cl i).to := by
          rcases hr.2.2 with h | h | h
          · exact absurd (.inl h) he
          · exact absurd (.inr h) he
          · exact h
        omega
      | succ q => exact tks_fr_lt l cl q m _ t u hle.2.1 (by omega) (by simpa using h) (by simpa using h')
theorem toks_at (z : List Int) {q m : Nat} {t u : Tk} (h : (toks z)[q]? = some t) (h' : (toks z)[m]? = some u) (e : t.ln = u.ln ∧ t.co = u.co) : q = m := by
  have h1 := (tks_fr _ _ q 0 t (Nat.zero_le _) h).2
  have h2 := (tks_fr _ _ m 0 u (Nat.zero_le _) h').2
  have h3 : t.fr = u.fr := posT_inj (chs z) (by rw [← h1, ← h2, e.1, e.2])
  rcases Nat.lt_trichotomy q m with h4 | h4 | h4
  · have := tks_fr_lt _ _ q m 0 t u (Nat.zero_le _) h4 h h'; omega
  · exact h4
  · have := tks_fr_lt _ _ m q 0 u t (Nat.zero_le _) h4 h' h; omega
end Go.Proofs.Ytgphiollpbahgaa.cu
namespace Go.Proofs.Ytgphiollpbahgaa.cu
open Go.ChangeShapes Go.WideShapes Go.ChangeAt Go.RowKit
open ints (hide unhide)
open dt (Dt Kp RowAt Ow Grow OwIn)
open mem (Row)
open lx (toks chs cln)
set_option linter.unusedVariables false
set_option linter.unusedSimpArgs false
/-- up to the token at a place -/
def upW (ts : List Tk) (x y : Int) : Option Tk := ts.find? (fun t => decide (t.ln = x ∧ t.co = y ∧ t.k ≠ 0 ∧ t.k ≠ 1))
def upR (z : List Int) (x y : Int) : Array Value := match upW (toks z) x y with
  | none => #[.string ⟨#[]⟩, .bool false]
  | some t => #[.string (mem.encS ((chs z).take t.to)), .bool true]
theorem row_head {k : IntKind} {w : World} {a : Option Addr} {n c : Nat} {l : List Int} (h : Row k w a n c l) {j : Nat} (hj : j ≤ l.length) : Row k w a j c (l.take j) := by
  have hl := h.len
  have hle := h.le
  refine ⟨by simp; omega, by omega, h.nil, ?_⟩
  rcases h.at_ with h0 | ⟨b, off, e, hb, hc⟩
  · exact .inl (by omega)
  · refine .inr ⟨b, off, e, hb, fun i hi => ?_⟩
    rw [hc i (by omega)]
    simp [List.getD, hi]
theorem tok_to (z : List Int) (hz : mem.Byt z) (q : Nat) (t : Tk) (h : (toks z)[q]? = some t) : t.to ≤ (chs z).length := by
  have key : ∀ (q i : Nat) (t : Tk), i ≤ (chs z).length → (lx.tksG (chs z) (cln z) i)[q]? = some t → t.to ≤ (chs z).length := by
    intro q
    induction q with
    | zero =>
      intro i t hi hq
      have hle := lx.tkG_le (chs z) (cln z) i hi
      by_cases he : (lx.tkG (chs z) (cln z) i).k = 0 ∨ (lx.tkG (chs z) (cln z) i).k = 1
      · rw [lx.tksG_end he] at hq; simp at hq; subst hq; exact hle.2.1
      · rw [lx.tksG_go hi he] at hq; simp at hq; subst hq; exact hle.2.1
    | succ q ih =>
      intro i t hi hq
      have hle := lx.tkG_le (chs z) (cln z) i hi
      by_cases he : (lx.tkG (chs z) (cln z) i).k = 0 ∨ (lx.tkG (chs z) (cln z) i).k = 1
      · rw [lx.tksG_end he] at hq; simp at hq
      · rw [lx.tksG_go hi he] at hq
        exact ih _ t hle.2.1 (by simpa using hq)
  exact key q 0 t (Nat.zero_le _) h
set_option maxHeartbeats 8000000 in
set_option maxRecDepth 4000 in
theorem upTo_ok (a : Option Addr) (n c : Nat) (z : List Int) (x y : Int) (w : World) (h : Row .u8 w a n c z) (hz : mem.Byt z) (hn : n ≤ 1048576) :
    Calls Try.prog 9 #[.slice a n c, .agg #[.int .i64 x, .int .i64 y]] w fun e w' => e = .returned (.tuple (upR z x y)) ∧ Below w.heap.size w w' := by
  have hT := hide (fun W (bb : Below w.heap.size w W) => lx.tokensG_ok a n c z W (h.below bb) (by omega) hz)
  have hD := hide (fun W (bb : Below w.heap.size w W) => mem.decode_bytes a n c z W (h.below bb) hz (by omega))
  go_enter Try.func9, Try.ntmps9
  go_wp2_with fail
  have bA : Below w.heap.size w (w.alloc (.cells #[Value.int .i64 x, .int .i64 y] 28)) := (Below.refl _ _).alloc (Nat.le_refl _) _
  refine ((unhide hT) _ bA).mono ?_
  rintro e w1 ⟨p, cap, rfl, hp1, hp2, hrows, b1⟩
  have hA1 := (b1.block w.heap.size (by simp)).trans (heap_alloc_new w _)
  have bw1 := bA.trans (b1.mono bA.size)
  have s1 := b1.size
  have HR := hide hrows
  clear hT b1 bA hrows
  go_wp2_with fail
  refine ((unhide hD) w1 bw1).mono ?_
  rintro e w2 ⟨v, rfl, hown, b2⟩
  have s2 := b2.size
  simp only [World.alloc] at s1
  have hA2 := (b2.block w.heap.size (by simp at s1; omega)).trans hA1
  have bw2 := bw1.trans (b2.mono bw1.size)
  obtain ⟨a1, c1, rfl, hrow⟩ := mem.own_row hown
  have HR2 := hide (fun i t (ht : (toks z)[i]? = some t) => ((unhide HR) i t ht).below b2)
  have hp3 : p < w2.heap.size := by omega
  have htl := toks_len z hz
  rw [h.len] at htl
  have hcl : (mem.decZ z).1.length ≤ n := by have := Nat.le_trans (mem.decZ_len z hz) (mem.decZ_le z hz); rw [h.len] at this; exact this
  clear hD hown HR hA1 bw1 b2 h
  go_wp2_with fail
  go_loopw [9] (fun i wr => ∃ k : Nat, k ≤ (toks z).length ∧ i = .int .i64 k ∧ Hid (∀ j t, j < k → (toks z)[j]? = some t → ¬ (t.ln = x ∧ t.co = y ∧ t.k ≠ 0 ∧ t.k ≠ 1)) ∧ Below w2.heap.size w2 wr) (fun i _ => (toks z).length - (intOf i).toNat)
  case atStart => exact ⟨0, Nat.zero_le _, rfl, hide (fun j t hj => by omega), Below.refl _ _⟩
  case round =>
    obtain ⟨k, hk, rfl, hno, hb⟩ := hrel
    by_cases hlt : k < (toks z).length
    · have ki : (k : Int) < ((toks z).length : Int) := by omega
      have hget := List.getElem?_eq_getElem hlt
      have hrow7 := (unhide HR2) k _ hget
      obtain ⟨t, htk⟩ : ∃ t, t = (toks z)[k] := ⟨_, rfl⟩
      rw [← htk] at hget hrow7
      clear htk
      have hto := hide (tok_to z hz k t hget)
      unfold Tk.cells at hrow7
      have hc := fun (q : Nat) (u : Value) hu => (hb.cell (p := ⟨p, k * 7 + q, none⟩) hp3).trans (hrow7 q u hu)
      have m0 : wr.cell? ⟨p, k * 7, none⟩ = some (.int .i64 t.k) := hc 0 _ rfl
      have m1 : wr.cell? ⟨p, k * 7 + 1, none⟩ = some (.int .i64 t.ln) := hc 1 _ rfl
      have m2 : wr.cell? ⟨p, k * 7 + 2, none⟩ = some (.int .i64 t.co) := hc 2 _ rfl
      have m4 : wr.cell? ⟨p, k * 7 + 4, none⟩ = some (.int .i64 t.to) := hc 4 _ rfl
      have hA := (hb.block w.heap.size (by simp at s1; omega)).trans hA2
      have x0 : wr.cell? ⟨w.heap.size, 0, none⟩ = some (.int .i64 x) := (dt.cell_cells hA 0).trans rfl
      have x1 : wr.cell? ⟨w.heap.size, 1, none⟩ = some (.int .i64 y) := (dt.cell_cells hA 1).trans rfl
      have hq1 : p < wr.heap.size := Nat.lt_of_lt_of_le hp3 hb.size
      have hq0 : w.heap.size < wr.heap.size := by have := hb.size; simp at s1; omega
      clear hc hrow7 hA
      have hS0 : Below wr.heap.size wr { wr with drawn := wr.drawn + 1 } := (Below.refl _ _).drew
      by_cases hpos : t.ln = x ∧ t.co = y
      · obtain ⟨rfl, rfl⟩ := hpos
        by_cases h0 : t.k = 0
        · have hNo := hide h0
          have hk0 : (t.k != 0) = false := by simpa using h0
          clear h0
          go_wp2_with fail
          refine wp_region_noPanic ?_
          refine wp_region_held (S := fun w' => Below wr.heap.size wr w') mixed ?_
          refine wpAnyH_take (i := 0) (v := ?v1) rfl (by kernel_rfl) (by kernel_rfl) (by kernel_rfl) (fun _ _ _ h => h) (Or.inl ⟨by rfl, ?hy1⟩) hS0 ?_
          case hy1 => (intro w' hw'; skip; go_simp; try with_reducible rfl)
          simp only [List.getElem_toArray, List.getElem_cons_zero, List.getElem_cons_succ, Act.put, List.setIfInBounds_toArray, List.set_cons_zero, List.set_cons_succ]
          refine wpAnyH_take (i := 1) (v := ?v2) rfl (by kernel_rfl) (by kernel_rfl) (by kernel_rfl) (fun _ _ _ h => h) (Or.inl ⟨by rfl, ?hy2⟩) hS0 ?_
          case hy2 => (intro w' hw'; skip; go_simp; try with_reducible rfl)
          simp only [List.getElem_toArray, List.getElem_cons_zero, List.getElem_cons_succ, Act.put, List.setIfInBounds_toArray, List.set_cons_zero, List.set_cons_succ]
          refine wpAnyH_take (i := 2) (v := ?v3) rfl (by kernel_rfl) (by kernel_rfl) (by kernel_rfl) (fun _ _ _ h => h) (Or.inl ⟨by rfl, ?hy3⟩) hS0 ?_
          case hy3 => (intro w' hw'; skip; go_simp; try with_reducible rfl)
          simp only [List.getElem_toArray, List.getElem_cons_zero, List.getElem_cons_succ, Act.put, List.setIfInBounds_toArray, List.set_cons_zero, List.set_cons_succ]
          refine wpAnyH_take (i := 3) (v := ?v4) rfl (by kernel_rfl) (by kernel_rfl) (by kernel_rfl) (fun _ _ _ h => h) (Or.inl ⟨by rfl, ?hy4⟩) hS0 ?_
          case hy4 => (intro w' hw'; skip; go_simp; try with_reducible rfl)
          simp only [List.getElem_toArray, List.getElem_cons_zero, List.getElem_cons_succ, Act.put, List.setIfInBounds_toArray, List.set_cons_zero, List.set_cons_succ]
          refine wpAnyH_take (i := 4) (v := ?v5) rfl (by kernel_rfl) (by kernel_rfl) (by kernel_rfl) (fun _ _ _ h => h) (Or.inl ⟨by rfl, ?hy5⟩) hS0 ?_
          case hy5 => (intro w' hw'; have m1' := (hw'.cell (p := ⟨p, k * 7 + 1, none⟩) hq1).trans m1; have m2' := (hw'.cell (p := ⟨p, k * 7 + 2, none⟩) hq1).trans m2; go_simp; try with_reducible rfl)
          simp only [List.getElem_toArray, List.getElem_cons_zero, List.getElem_cons_succ, Act.put, List.setIfInBounds_toArray, List.set_cons_zero, List.set_cons_succ]
          refine wpAnyH_take (i := 5) (v := ?v6) rfl (by kernel_rfl) (by kernel_rfl) (by kernel_rfl) (fun _ _ _ h => h) (Or.inl ⟨by rfl, ?hy6⟩) hS0 ?_
          case hy6 => (intro w' hw'; have x0' := (hw'.cell (p := ⟨w.heap.size, 0, none⟩) hq0).trans x0; have x1' := (hw'.cell (p := ⟨w.heap.size, 1, none⟩) hq0).trans x1; go_simp; try with_reducible rfl)
          simp only [List.getElem_toArray, List.getElem_cons_zero, List.getElem_cons_succ, Act.put, List.setIfInBounds_toArray, List.set_cons_zero, List.set_cons_succ]
          refine wpAnyH_take (i := 6) (v := ?v7) rfl (by kernel_rfl) (by kernel_rfl) (by kernel_rfl) (fun _ _ _ h => h) (Or.inl ⟨by rfl, ?hy7⟩) hS0 ?_
          case hy7 => (intro w' hw'; skip; go_simp; try with_reducible rfl)
          simp only [List.getElem_toArray, List.getElem_cons_zero, List.getElem_cons_succ, Act.put, List.setIfInBounds_toArray, List.set_cons_zero, List.set_cons_succ]
          refine wpAnyH_take (i := 7) (v := ?v8) rfl (by kernel_rfl) (by kernel_rfl) (by kernel_rfl) (fun _ _ _ h => h) (Or.inl ⟨by rfl, ?hy8⟩) hS0 ?_
          case hy8 => (intro w' hw'; skip; go_simp; try with_reducible rfl)
          simp only [List.getElem_toArray, List.getElem_cons_zero, List.getElem_cons_succ, Act.put, List.setIfInBounds_toArray, List.set_cons_zero, List.set_cons_succ]
          refine wpAnyH_take (i := 8) (v := ?v9) rfl (by kernel_rfl) (by kernel_rfl) (by kernel_rfl) (fun _ _ _ h => h) (Or.inl ⟨by rfl, ?hy9⟩) hS0 ?_
          case hy9 => (intro w' hw'; skip; go_simp; try with_reducible rfl)
          simp only [List.getElem_toArray, List.getElem_cons_zero, List.getElem_cons_succ, Act.put, List.setIfInBounds_toArray, List.set_cons_zero, List.set_cons_succ]
          refine wpAnyH_take (i := 9) (v := ?v10) rfl (by kernel_rfl) (by kernel_rfl) (by kernel_rfl) (fun _ _ _ h => h) (Or.inl ⟨by rfl, ?hy10⟩) hS0 ?_
          case hy10 => (intro w' hw'; skip; go_simp; try with_reducible rfl)
          simp only [List.getElem_toArray, List.getElem_cons_zero, List.getElem_cons_succ, Act.put, List.setIfInBounds_toArray, List.set_cons_zero, List.set_cons_succ]
          refine wpAnyH_take (i := 10) (v := ?v11) rfl (by kernel_rfl) (by kernel_rfl) (by kernel_rfl) (fun _ _ _ h => h) (Or.inl ⟨by rfl, ?hy11⟩) hS0 ?_
          case hy11 => (intro w' hw'; skip; go_simp; try with_reducible rfl)
          simp only [List.getElem_toArray, List.getElem_cons_zero, List.getElem_cons_succ, Act.put, List.setIfInBounds_toArray, List.set_cons_zero, List.set_cons_succ]
          refine wpAnyH_take (i := 11) (v := ?v12) rfl (by kernel_rfl) (by kernel_rfl) (by kernel_rfl) (fun _ _ _ h => h) (Or.inl ⟨by rfl, ?hy12⟩) hS0 ?_
          case hy12 => (intro w' hw'; skip; go_simp; try with_reducible rfl)
          simp only [List.getElem_toArray, List.getElem_cons_zero, List.getElem_cons_succ, Act.put, List.setIfInBounds_toArray, List.set_cons_zero, List.set_cons_succ]
          refine wpAnyH_take (i := 12) (v := ?v13) rfl (by kernel_rfl) (by kernel_rfl) (by kernel_rfl) (fun _ _ _ h => h) (Or.inl ⟨by rfl, ?hy13⟩) hS0 ?_
          case hy13 => (intro w' hw'; have m0' := (hw'.cell (p := ⟨p, k * 7, none⟩) hq1).trans m0; go_simp; try with_reducible rfl)
          simp only [List.getElem_toArray, List.getElem_cons_zero, List.getElem_cons_succ, Act.put, List.setIfInBounds_toArray, List.set_cons_zero, List.set_cons_succ]
          refine wpAnyH_take (i := 13) (v := ?v14) rfl (by kernel_rfl) (by kernel_rfl) (by kernel_rfl) (fun _ _ _ h => h) (Or.inl ⟨by rfl, ?hy14⟩) hS0 ?_
          case hy14 => (intro w' hw'; skip; go_simp; try with_reducible rfl)
          simp only [List.getElem_toArray, List.getElem_cons_zero, List.getElem_cons_succ, Act.put, List.setIfInBounds_toArray, List.set_cons_zero, List.set_cons_succ]
          refine wpAnyH_take (i := 14) (v := ?v15) rfl (by kernel_rfl) (by kernel_rfl) (by kernel_rfl) (fun _ _ _ h => h) (Or.inl ⟨by rfl, ?hy15⟩) hS0 ?_
          case hy15 => (intro w' hw'; skip; go_simp; try with_reducible rfl)
          simp only [List.getElem_toArray, List.getElem_cons_zero, List.getElem_cons_succ, Act.put, List.setIfInBounds_toArray, List.set_cons_zero, List.set_cons_succ]
          refine wpAnyH_take (i := 15) (v := ?v16) rfl (by kernel_rfl) (by kernel_rfl) (by kernel_rfl) (fun _ _ _ h => h) (Or.inl ⟨by rfl, ?hy16⟩) hS0 ?_
          case hy16 => (intro w' hw'; skip; go_simp; try with_reducible rfl)
          simp only [List.getElem_toArray, List.getElem_cons_zero, List.getElem_cons_succ, Act.put, List.setIfInBounds_toArray, List.set_cons_zero, List.set_cons_succ]
          refine wpAnyH_take (i := 16) (v := undef) rfl (by kernel_rfl) (by kernel_rfl) (by kernel_rfl) (fun _ _ _ h => h) (Or.inr ⟨by rfl, rfl⟩) hS0 ?_
          simp only [List.getElem_toArray, List.getElem_cons_zero, List.getElem_cons_succ, Act.put, List.setIfInBounds_toArray, List.set_cons_zero, List.set_cons_succ]
          refine wpAnyH_take (i := 17) (v := undef) rfl (by kernel_rfl) (by kernel_rfl) (by kernel_rfl) (fun _ _ _ h => h) (Or.inr ⟨by rfl, rfl⟩) hS0 ?_
          simp only [List.getElem_toArray, List.getElem_cons_zero, List.getElem_cons_succ, Act.put, List.setIfInBounds_toArray, List.set_cons_zero, List.set_cons_succ]
          refine wpAnyH_take (i := 18) (v := undef) rfl (by kernel_rfl) (by kernel_rfl) (by kernel_rfl) (fun _ _ _ h => h) (Or.inr ⟨by rfl, rfl⟩) hS0 ?_
          simp only [List.getElem_toArray, List.getElem_cons_zero, List.getElem_cons_succ, Act.put, List.setIfInBounds_toArray, List.set_cons_zero, List.set_cons_succ]
          refine wpAnyH_take (i := 19) (v := undef) rfl (by kernel_rfl) (by kernel_rfl) (by kernel_rfl) (fun _ _ _ h => h) (Or.inr ⟨by rfl, rfl⟩) hS0 ?_
          simp only [List.getElem_toArray, List.getElem_cons_zero, List.getElem_cons_succ, Act.put, List.setIfInBounds_toArray, List.set_cons_zero, List.set_cons_succ]
          refine wpAnyH_take (i := 20) (v := undef) rfl (by kernel_rfl) (by kernel_rfl) (by kernel_rfl) (fun _ _ _ h => h) (Or.inr ⟨by rfl, rfl⟩) hS0 ?_
          simp only [List.getElem_toArray, List.getElem_cons_zero, List.getElem_cons_succ, Act.put, List.setIfInBounds_toArray, List.set_cons_zero, List.set_cons_succ]
          refine wpAnyH_take (i := 21) (v := undef) rfl (by kernel_rfl) (by kernel_rfl) (by kernel_rfl) (fun _ _ _ h => h) (Or.inr ⟨by rfl, rfl⟩) hS0 ?_
          simp only [List.getElem_toArray, List.getElem_cons_zero, List.getElem_cons_succ, Act.put, List.setIfInBounds_toArray, List.set_cons_zero, List.set_cons_succ]
          refine wpAnyH_take (i := 22) (v := ?v17) rfl (by kernel_rfl) (by kernel_rfl) (by kernel_rfl) (fun _ _ _ h => h) (Or.inl ⟨by rfl, ?hy17⟩) hS0 ?_
          case hy17 => (intro w' hw'; skip; go_simp; try with_reducible rfl)
          simp only [List.getElem_toArray, List.getElem_cons_zero, List.getElem_cons_succ, Act.put, List.setIfInBounds_toArray, List.set_cons_zero, List.set_cons_succ]
          refine wpAnyH_take (i := 23) (v := ?v18) rfl (by kernel_rfl) (by kernel_rfl) (by kernel_rfl) (fun _ _ _ h => h) (Or.inl ⟨by rfl, ?hy18⟩) hS0 ?_
          case hy18 => (intro w' hw'; skip; go_simp; try with_reducible rfl)
          simp only [List.getElem_toArray, List.getElem_cons_zero, List.getElem_cons_succ, Act.put, List.setIfInBounds_toArray, List.set_cons_zero, List.set_cons_succ]
          refine wpAnyH_take (i := 24) (v := undef) rfl (by kernel_rfl) (by kernel_rfl) (by kernel_rfl) (fun _ _ _ h => h) (Or.inr ⟨by rfl, rfl⟩) hS0 ?_
          simp only [List.getElem_toArray, List.getElem_cons_zero, List.getElem_cons_succ, Act.put, List.setIfInBounds_toArray, List.set_cons_zero, List.set_cons_succ]
          refine wpAnyH_take (i := 25) (v := undef) rfl (by kernel_rfl) (by kernel_rfl) (by kernel_rfl) (fun _ _ _ h => h) (Or.inr ⟨by rfl, rfl⟩) hS0 ?_
          simp only [List.getElem_toArray, List.getElem_cons_zero, List.getElem_cons_succ, Act.put, List.setIfInBounds_toArray, List.set_cons_zero, List.set_cons_succ]
          refine wpAnyH_take (i := 26) (v := undef) rfl (by kernel_rfl) (by kernel_rfl) (by kernel_rfl) (fun _ _ _ h => h) (Or.inr ⟨by rfl, rfl⟩) hS0 ?_
          simp only [List.getElem_toArray, List.getElem_cons_zero, List.getElem_cons_succ, Act.put, List.setIfInBounds_toArray, List.set_cons_zero, List.set_cons_succ]
          refine wpAnyH_take (i := 27) (v := undef) rfl (by kernel_rfl) (by kernel_rfl) (by kernel_rfl) (fun _ _ _ h => h) (Or.inr ⟨by rfl, rfl⟩) hS0 ?_
          simp only [List.getElem_toArray, List.getElem_cons_zero, List.getElem_cons_succ, Act.put, List.setIfInBounds_toArray, List.set_cons_zero, List.set_cons_succ]
          refine wpAnyH_take (i := 28) (v := undef) rfl (by kernel_rfl) (by kernel_rfl) (by kernel_rfl) (fun _ _ _ h => h) (Or.inr ⟨by rfl, rfl⟩) hS0 ?_
          simp only [List.getElem_toArray, List.getElem_cons_zero, List.getElem_cons_succ, Act.put, List.setIfInBounds_toArray, List.set_cons_zero, List.set_cons_succ]
          refine wpAnyH_take (i := 29) (v := undef) rfl (by kernel_rfl) (by kernel_rfl) (by kernel_rfl) (fun _ _ _ h => h) (Or.inr ⟨by rfl, rfl⟩) hS0 ?_
          simp only [List.getElem_toArray, List.getElem_cons_zero, List.getElem_cons_succ, Act.put, List.setIfInBounds_toArray, List.set_cons_zero, List.set_cons_succ]
          refine wpAnyH_take (i := 30) (v := undef) rfl (by kernel_rfl) (by kernel_rfl) (by kernel_rfl) (fun _ _ _ h => h) (Or.inr ⟨by rfl, rfl⟩) hS0 ?_
          simp only [List.getElem_toArray, List.getElem_cons_zero, List.getElem_cons_succ, Act.put, List.setIfInBounds_toArray, List.set_cons_zero, List.set_cons_succ]
          refine wpAnyH_take (i := 31) (v := undef) rfl (by kernel_rfl) (by kernel_rfl) (by kernel_rfl) (fun _ _ _ h => h) (Or.inr ⟨by rfl, rfl⟩) hS0 ?_
          simp only [List.getElem_toArray, List.getElem_cons_zero, List.getElem_cons_succ, Act.put, List.setIfInBounds_toArray, List.set_cons_zero, List.set_cons_succ]
          refine wpAnyH_take (i := 32) (v := ?v19) rfl (by kernel_rfl) (by kernel_rfl) (by kernel_rfl) (fun _ _ _ h => h) (Or.inl ⟨by rfl, ?hy19⟩) hS0 ?_
          case hy19 => (intro w' hw'; skip; go_simp; try with_reducible rfl)
          simp only [List.getElem_toArray, List.getElem_cons_zero, List.getElem_cons_succ, Act.put, List.setIfInBounds_toArray, List.set_cons_zero, List.set_cons_succ]
          refine wpAnyH_take (i := 33) (v := ?v20) rfl (by kernel_rfl) (by kernel_rfl) (by kernel_rfl) (fun _ _ _ h => h) (Or.inl ⟨by rfl, ?hy20⟩) hS0 ?_
          case hy20 => (intro w' hw'; skip; go_simp; try with_reducible rfl)
          simp only [List.getElem_toArray, List.getElem_cons_zero, List.getElem_cons_succ, Act.put, List.setIfInBounds_toArray, List.set_cons_zero, List.set_cons_succ]
          refine wpAnyH_take (i := 34) (v := undef) rfl (by kernel_rfl) (by kernel_rfl) (by kernel_rfl) (fun _ _ _ h => h) (Or.inr ⟨by rfl, rfl⟩) hS0 ?_
          simp only [List.getElem_toArray, List.getElem_cons_zero, List.getElem_cons_succ, Act.put, List.setIfInBounds_toArray, List.set_cons_zero, List.set_cons_succ]
          refine wpAnyH_take (i := 35) (v := undef) rfl (by kernel_rfl) (by kernel_rfl) (by kernel_rfl) (fun _ _ _ h => h) (Or.inr ⟨by rfl, rfl⟩) hS0 ?_
          simp only [List.getElem_toArray, List.getElem_cons_zero, List.getElem_cons_succ, Act.put, List.setIfInBounds_toArray, List.set_cons_zero, List.set_cons_succ]
          refine wpAnyH_take (i := 36) (v := undef) rfl (by kernel_rfl) (by kernel_rfl) (by kernel_rfl) (fun _ _ _ h => h) (Or.inr ⟨by rfl, rfl⟩) hS0 ?_
          simp only [List.getElem_toArray, List.getElem_cons_zero, List.getElem_cons_succ, Act.put, List.setIfInBounds_toArray, List.set_cons_zero, List.set_cons_succ]
          refine wpAnyH_take (i := 37) (v := undef) rfl (by kernel_rfl) (by kernel_rfl) (by kernel_rfl) (fun _ _ _ h => h) (Or.inr ⟨by rfl, rfl⟩) hS0 ?_
          simp only [List.getElem_toArray, List.getElem_cons_zero, List.getElem_cons_succ, Act.put, List.setIfInBounds_toArray, List.set_cons_zero, List.set_cons_succ]
          refine wpAnyH_take (i := 38) (v := undef) rfl (by kernel_rfl) (by kernel_rfl) (by kernel_rfl) (fun _ _ _ h => h) (Or.inr ⟨by rfl, rfl⟩) hS0 ?_
          simp only [List.getElem_toArray, List.getElem_cons_zero, List.getElem_cons_succ, Act.put, List.setIfInBounds_toArray, List.set_cons_zero, List.set_cons_succ]
          refine wpAnyH_take (i := 39) (v := undef) rfl (by kernel_rfl) (by kernel_rfl) (by kernel_rfl) (fun _ _ _ h => h) (Or.inr ⟨by rfl, rfl⟩) hS0 ?_
          simp only [List.getElem_toArray, List.getElem_cons_zero, List.getElem_cons_succ, Act.put, List.setIfInBounds_toArray, List.set_cons_zero, List.set_cons_succ]
          refine wpAnyH_take (i := 40) (v := ?v21) rfl (by kernel_rfl) (by kernel_rfl) (by kernel_rfl) (fun _ _ _ h => h) (Or.inl ⟨by rfl, ?hy21⟩) hS0 ?_
          case hy21 => (intro w' hw'; skip; go_simp; try with_reducible rfl)
          simp only [List.getElem_toArray, List.getElem_cons_zero, List.getElem_cons_succ, Act.put, List.setIfInBounds_toArray, List.set_cons_zero, List.set_cons_succ]
          refine wpAnyH_done (by kernel_rfl) ?_ _; refine NoPanic.normal ?_
          go_wp2_with fail
          go_roundw
          case rel =>
            refine ⟨k + 1, by omega, by go_num, hide (fun j u hj hu => ?_), hb.trans (hS0.mono hb.size)⟩
            by_cases e : j = k
            · subst e
              rw [hget] at hu
              obtain rfl := Option.some.inj hu
              exact fun e => e.2.2.1 (unhide hNo)
            · exact unhide hno j u (by omega) hu
          case measure => first | (simp [intOf]; omega) | simp [intOf]
        · by_cases h1 : t.k = 1
          · have hNo := hide h1
            have hk0 : (t.k != 0) = true := by simpa using h0
            have hk1 : (t.k != 1) = false := by simpa using h1
            clear h0 h1
            go_wp2_with fail
            refine wp_region_noPanic ?_
            refine wp_region_held (S := fun w' => Below wr.heap.size wr w') mixed ?_
            refine wpAnyH_take (i := 0) (v := ?v22) rfl (by kernel_rfl) (by kernel_rfl) (by kernel_rfl) (fun _ _ _ h => h) (Or.inl ⟨by rfl, ?hy22⟩) hS0 ?_
            case hy22 => (intro w' hw'; skip; go_simp; try with_reducible rfl)
            simp only [List.getElem_toArray, List.getElem_cons_zero, List.getElem_cons_succ, Act.put, List.setIfInBounds_toArray, List.set_cons_zero, List.set_cons_succ]
            refine wpAnyH_take (i := 1) (v := ?v23) rfl (by kernel_rfl) (by kernel_rfl) (by kernel_rfl) (fun _ _ _ h => h) (Or.inl ⟨by rfl, ?hy23⟩) hS0 ?_
            case hy23 => (intro w' hw'; skip; go_simp; try with_reducible rfl)
            simp only [List.getElem_toArray, List.getElem_cons_zero, List.getElem_cons_succ, Act.put, List.setIfInBounds_toArray, List.set_cons_zero, List.set_cons_succ]
            refine wpAnyH_take (i := 2) (v := ?v24) rfl (by kernel_rfl) (by kernel_rfl) (by kernel_rfl) (fun _ _ _ h => h) (Or.inl ⟨by rfl, ?hy24⟩) hS0 ?_
            case hy24 => (intro w' hw'; skip; go_simp; try with_reducible rfl)
            simp only [List.getElem_toArray, List.getElem_cons_zero, List.getElem_cons_succ, Act.put, List.setIfInBounds_toArray, List.set_cons_zero, List.set_cons_succ]
            refine wpAnyH_take (i := 3) (v := ?v25) rfl (by kernel_rfl) (by kernel_rfl) (by kernel_rfl) (fun _ _ _ h => h) (Or.inl ⟨by rfl, ?hy25⟩) hS0 ?_
            case hy25 => (intro w' hw'; skip; go_simp; try with_reducible rfl)
            simp only [List.getElem_toArray, List.getElem_cons_zero, List.getElem_cons_succ, Act.put, List.setIfInBounds_toArray, List.set_cons_zero, List.set_cons_succ]
            refine wpAnyH_take (i := 4) (v := ?v26) rfl (by kernel_rfl) (by kernel_rfl) (by kernel_rfl) (fun _ _ _ h => h) (Or.inl ⟨by rfl, ?hy26⟩) hS0 ?_
            case hy26 => (intro w' hw'; have m1' := (hw'.cell (p := ⟨p, k * 7 + 1, none⟩) hq1).trans m1; have m2' := (hw'.cell (p := ⟨p, k * 7 + 2, none⟩) hq1).trans m2; go_simp; try with_reducible rfl)
            simp only [List.getElem_toArray, List.getElem_cons_zero, List.getElem_cons_succ, Act.put, List.setIfInBounds_toArray, List.set_cons_zero, List.set_cons_succ]
            refine wpAnyH_take (i := 5) (v := ?v27) rfl (by kernel_rfl) (by kernel_rfl) (by kernel_rfl) (fun _ _ _ h => h) (Or.inl ⟨by rfl, ?hy27⟩) hS0 ?_
            case hy27 => (intro w' hw'; have x0' := (hw'.cell (p := ⟨w.heap.size, 0, none⟩) hq0).trans x0; have x1' := (hw'.cell (p := ⟨w.heap.size, 1, none⟩) hq0).trans x1; go_simp; try with_reducible rfl)
            simp only [List.getElem_toArray, List.getElem_cons_zero, List.getElem_cons_succ, Act.put, List.setIfInBounds_toArray, List.set_cons_zero, List.set_cons_succ]
            refine wpAnyH_take (i := 6) (v := ?v28) rfl (by kernel_rfl) (by kernel_rfl) (by kernel_rfl) (fun _ _ _ h => h) (Or.inl ⟨by rfl, ?hy28⟩) hS0 ?_
            case hy28 => (intro w' hw'; skip; go_simp; try with_reducible rfl)
            simp only [List.getElem_toArray, List.getElem_cons_zero, List.getElem_cons_succ, Act.put, List.setIfInBounds_toArray, List.set_cons_zero, List.set_cons_succ]
            refine wpAnyH_take (i := 7) (v := ?v29) rfl (by kernel_rfl) (by kernel_rfl) (by kernel_rfl) (fun _ _ _ h => h) (Or.inl ⟨by rfl, ?hy29⟩) hS0 ?_
            case hy29 => (intro w' hw'; skip; go_simp; try with_reducible rfl)
            simp only [List.getElem_toArray, List.getElem_cons_zero, List.getElem_cons_succ, Act.put, List.setIfInBounds_toArray, List.set_cons_zero, List.set_cons_succ]
            refine wpAnyH_take (i := 8) (v := ?v30) rfl (by kernel_rfl) (by kernel_rfl) (by kernel_rfl) (fun _ _ _ h => h) (Or.inl ⟨by rfl, ?hy30⟩) hS0 ?_
            case hy30 => (intro w' hw'; skip; go_simp; try with_reducible rfl)
            simp only [List.getElem_toArray, List.getElem_cons_zero, List.getElem_cons_succ, Act.put, List.setIfInBounds_toArray, List.set_cons_zero, List.set_cons_succ]
            refine wpAnyH_take (i := 9) (v := ?v31) rfl (by kernel_rfl) (by kernel_rfl) (by kernel_rfl) (fun _ _ _ h => h) (Or.inl ⟨by rfl, ?hy31⟩) hS0 ?_
            case hy31 => (intro w' hw'; skip; go_simp; try with_reducible rfl)
            simp only [List.getElem_toArray, List.getElem_cons_zero, List.getElem_cons_succ, Act.put, List.setIfInBounds_toArray, List.set_cons_zero, List.set_cons_succ]
            refine wpAnyH_take (i := 10) (v := ?v32) rfl (by kernel_rfl) (by kernel_rfl) (by kernel_rfl) (fun _ _ _ h => h) (Or.inl ⟨by rfl, ?hy32⟩) hS0 ?_
            case hy32 => (intro w' hw'; skip; go_simp; try with_reducible rfl)
            simp only [List.getElem_toArray, List.getElem_cons_zero, List.getElem_cons_succ, Act.put, List.setIfInBounds_toArray, List.set_cons_zero, List.set_cons_succ]
            refine wpAnyH_take (i := 11) (v := ?v33) rfl (by kernel_rfl) (by kernel_rfl) (by kernel_rfl) (fun _ _ _ h => h) (Or.inl ⟨by rfl, ?hy33⟩) hS0 ?_
            case hy33 => (intro w' hw'; skip; go_simp; try with_reducible rfl)
            simp only [List.getElem_toArray, List.getElem_cons_zero, List.getElem_cons_succ, Act.put, List.setIfInBounds_toArray, List.set_cons_zero, List.set_cons_succ]
            refine wpAnyH_take (i := 12) (v := ?v34) rfl (by kernel_rfl) (by kernel_rfl) (by kernel_rfl) (fun _ _ _ h => h) (Or.inl ⟨by rfl, ?hy34⟩) hS0 ?_
            case hy34 => (intro w' hw'; have m0' := (hw'.cell (p := ⟨p, k * 7, none⟩) hq1).trans m0; go_simp; try with_reducible rfl)
            simp only [List.getElem_toArray, List.getElem_cons_zero, List.getElem_cons_succ, Act.put, List.setIfInBounds_toArray, List.set_cons_zero, List.set_cons_succ]
            refine wpAnyH_take (i := 13) (v := ?v35) rfl (by kernel_rfl) (by kernel_rfl) (by kernel_rfl) (fun _ _ _ h => h) (Or.inl ⟨by rfl, ?hy35⟩) hS0 ?_
            case hy35 => (intro w' hw'; skip; go_simp; try with_reducible rfl)
            simp only [List.getElem_toArray, List.getElem_cons_zero, List.getElem_cons_succ, Act.put, List.setIfInBounds_toArray, List.set_cons_zero, List.set_cons_succ]
            refine wpAnyH_take (i := 14) (v := ?v36) rfl (by kernel_rfl) (by kernel_rfl) (by kernel_rfl) (fun _ _ _ h => h) (Or.inl ⟨by rfl, ?hy36⟩) hS0 ?_
            case hy36 => (intro w' hw'; skip; go_simp; try with_reducible rfl)
            simp only [List.getElem_toArray, List.getElem_cons_zero, List.getElem_cons_succ, Act.put, List.setIfInBounds_toArray, List.set_cons_zero, List.set_cons_succ]
            refine wpAnyH_take (i := 15) (v := ?v37) rfl (by kernel_rfl) (by kernel_rfl) (by kernel_rfl) (fun _ _ _ h => h) (Or.inl ⟨by rfl, ?hy37⟩) hS0 ?_
            case hy37 => (intro w' hw'; skip; go_simp; try with_reducible rfl)
            simp only [List.getElem_toArray, List.getElem_cons_zero, List.getElem_cons_succ, Act.put, List.setIfInBounds_toArray, List.set_cons_zero, List.set_cons_succ]
            refine wpAnyH_take (i := 16) (v := ?v38) rfl (by kernel_rfl) (by kernel_rfl) (by kernel_rfl) (fun _ _ _ h => h) (Or.inl ⟨by rfl, ?hy38⟩) hS0 ?_
            case hy38 => (intro w' hw'; skip; go_simp; try with_reducible rfl)
            simp only [List.getElem_toArray, List.getElem_cons_zero, List.getElem_cons_succ, Act.put, List.setIfInBounds_toArray, List.set_cons_zero, List.set_cons_succ]
            refine wpAnyH_take (i := 17) (v := ?v39) rfl (by kernel_rfl) (by kernel_rfl) (by kernel_rfl) (fun _ _ _ h => h) (Or.inl ⟨by rfl, ?hy39⟩) hS0 ?_
            case hy39 => (intro w' hw'; skip; go_simp; try with_reducible rfl)
            simp only [List.getElem_toArray, List.getElem_cons_zero, List.getElem_cons_succ, Act.put, List.setIfInBounds_toArray, List.set_cons_zero, List.set_cons_succ]
            refine wpAnyH_take (i := 18) (v := ?v40) rfl (by kernel_rfl) (by kernel_rfl) (by kernel_rfl) (fun _ _ _ h => h) (Or.inl ⟨by rfl, ?hy40⟩) hS0 ?_
            case hy40 => (intro w' hw'; skip; go_simp; try with_reducible rfl)
            simp only [List.getElem_toArray, List.getElem_cons_zero, List.getElem_cons_succ, Act.put, List.setIfInBounds_toArray, List.set_cons_zero, List.set_cons_succ]
            refine wpAnyH_take (i := 19) (v := ?v41) rfl (by kernel_rfl) (by kernel_rfl) (by kernel_rfl) (fun _ _ _ h => h) (Or.inl ⟨by rfl, ?hy41⟩) hS0 ?_
            case hy41 => (intro w' hw'; skip; go_simp; try with_reducible rfl)
            simp only [List.getElem_toArray, List.getElem_cons_zero, List.getElem_cons_succ, Act.put, List.setIfInBounds_toArray, List.set_cons_zero, List.set_cons_succ]
            refine wpAnyH_take (i := 20) (v := ?v42) rfl (by kernel_rfl) (by kernel_rfl) (by kernel_rfl) (fun _ _ _ h => h) (Or.inl ⟨by rfl, ?hy42⟩) hS0 ?_
            case hy42 => (intro w' hw'; have m0' := (hw'.cell (p := ⟨p, k * 7, none⟩) hq1).trans m0; go_simp; try with_reducible rfl)
            simp only [List.getElem_toArray, List.getElem_cons_zero, List.getElem_cons_succ, Act.put, List.setIfInBounds_toArray, List.set_cons_zero, List.set_cons_succ]
            refine wpAnyH_take (i := 21) (v := ?v43) rfl (by kernel_rfl) (by kernel_rfl) (by kernel_rfl) (fun _ _ _ h => h) (Or.inl ⟨by rfl, ?hy43⟩) hS0 ?_
            case hy43 => (intro w' hw'; skip; go_simp; try with_reducible rfl)
            simp only [List.getElem_toArray, List.getElem_cons_zero, List.getElem_cons_succ, Act.put, List.setIfInBounds_toArray, List.set_cons_zero, List.set_cons_succ]
            refine wpAnyH_take (i := 22) (v := ?v44) rfl (by kernel_rfl) (by kernel_rfl) (by kernel_rfl) (fun _ _ _ h => h) (Or.inl ⟨by rfl, ?hy44⟩) hS0 ?_
            case hy44 => (intro w' hw'; skip; go_simp; try with_reducible rfl)
            simp only [List.getElem_toArray, List.getElem_cons_zero, List.getElem_cons_succ, Act.put, List.setIfInBounds_toArray, List.set_cons_zero, List.set_cons_succ]
            refine wpAnyH_take (i := 23) (v := ?v45) rfl (by kernel_rfl) (by kernel_rfl) (by kernel_rfl) (fun _ _ _ h => h) (Or.inl ⟨by rfl, ?hy45⟩) hS0 ?_
            case hy45 => (intro w' hw'; skip; go_simp; try with_reducible rfl)
            simp only [List.getElem_toArray, List.getElem_cons_zero, List.getElem_cons_succ, Act.put, List.setIfInBounds_toArray, List.set_cons_zero, List.set_cons_succ]
            refine wpAnyH_take (i := 24) (v := undef) rfl (by kernel_rfl) (by kernel_rfl) (by kernel_rfl) (fun _ _ _ h => h) (Or.inr ⟨by rfl, rfl⟩) hS0 ?_
            simp only [List.getElem_toArray, List.getElem_cons_zero, List.getElem_cons_succ, Act.put, List.setIfInBounds_toArray, List.set_cons_zero, List.set_cons_succ]
            refine wpAnyH_take (i := 25) (v := undef) rfl (by kernel_rfl) (by kernel_rfl) (by kernel_rfl) (fun _ _ _ h => h) (Or.inr ⟨by rfl, rfl⟩) hS0 ?_
            simp only [List.getElem_toArray, List.getElem_cons_zero, List.getElem_cons_succ, Act.put, List.setIfInBounds_toArray, List.set_cons_zero, List.set_cons_succ]
            refine wpAnyH_take (i := 26) (v := undef) rfl (by kernel_rfl) (by kernel_rfl) (by kernel_rfl) (fun _ _ _ h => h) (Or.inr ⟨by rfl, rfl⟩) hS0 ?_
            simp only [List.getElem_toArray, List.getElem_cons_zero, List.getElem_cons_succ, Act.put, List.setIfInBounds_toArray, List.set_cons_zero, List.set_cons_succ]
            refine wpAnyH_take (i := 27) (v := undef) rfl (by kernel_rfl) (by kernel_rfl) (by kernel_rfl) (fun _ _ _ h => h) (Or.inr ⟨by rfl, rfl⟩) hS0 ?_
            simp only [List.getElem_toArray, List.getElem_cons_zero, List.getElem_cons_succ, Act.put, List.setIfInBounds_toArray, List.set_cons_zero, List.set_cons_succ]
            refine wpAnyH_take (i := 28) (v := undef) rfl (by kernel_rfl) (by kernel_rfl) (by kernel_rfl) (fun _ _ _ h => h) (Or.inr ⟨by rfl, rfl⟩) hS0 ?_
            simp only [List.getElem_toArray, List.getElem_cons_zero, List.getElem_cons_succ, Act.put, List.setIfInBounds_toArray, List.set_cons_zero, List.set_cons_succ]
            refine wpAnyH_take (i := 29) (v := undef) rfl (by kernel_rfl) (by kernel_rfl) (by kernel_rfl) (fun _ _ _ h => h) (Or.inr ⟨by rfl, rfl⟩) hS0 ?_
            simp only [List.getElem_toArray, List.getElem_cons_zero, List.getElem_cons_succ, Act.put, List.setIfInBounds_toArray, List.set_cons_zero, List.set_cons_succ]
            refine wpAnyH_take (i := 30) (v := undef) rfl (by kernel_rfl) (by kernel_rfl) (by kernel_rfl) (fun _ _ _ h => h) (Or.inr ⟨by rfl, rfl⟩) hS0 ?_
            simp only [List.getElem_toArray, List.getElem_cons_zero, List.getElem_cons_succ, Act.put, List.setIfInBounds_toArray, List.set_cons_zero, List.set_cons_succ]
            refine wpAnyH_take (i := 31) (v := undef) rfl (by kernel_rfl) (by kernel_rfl) (by kernel_rfl) (fun _ _ _ h => h) (Or.inr ⟨by rfl, rfl⟩) hS0 ?_
            simp only [List.getElem_toArray, List.getElem_cons_zero, List.getElem_cons_succ, Act.put, List.setIfInBounds_toArray, List.set_cons_zero, List.set_cons_succ]
            refine wpAnyH_take (i := 32) (v := ?v46) rfl (by kernel_rfl) (by kernel_rfl) (by kernel_rfl) (fun _ _ _ h => h) (Or.inl ⟨by rfl, ?hy46⟩) hS0 ?_
            case hy46 => (intro w' hw'; skip; go_simp; try with_reducible rfl)
            simp only [List.getElem_toArray, List.getElem_cons_zero, List.getElem_cons_succ, Act.put, List.setIfInBounds_toArray, List.set_cons_zero, List.set_cons_succ]
            refine wpAnyH_take (i := 33) (v := ?v47) rfl (by kernel_rfl) (by kernel_rfl) (by kernel_rfl) (fun _ _ _ h => h) (Or.inl ⟨by rfl, ?hy47⟩) hS0 ?_
            case hy47 => (intro w' hw'; skip; go_simp; try with_reducible rfl)
            simp only [List.getElem_toArray, List.getElem_cons_zero, List.getElem_cons_succ, Act.put, List.setIfInBounds_toArray, List.set_cons_zero, List.set_cons_succ]
            refine wpAnyH_take (i := 34) (v := undef) rfl (by kernel_rfl) (by kernel_rfl) (by kernel_rfl) (fun _ _ _ h => h) (Or.inr ⟨by rfl, rfl⟩) hS0 ?_
            simp only [List.getElem_toArray, List.getElem_cons_zero, List.getElem_cons_succ, Act.put, List.setIfInBounds_toArray, List.set_cons_zero, List.set_cons_succ]
            refine wpAnyH_take (i := 35) (v := undef) rfl (by kernel_rfl) (by kernel_rfl) (by kernel_rfl) (fun _ _ _ h => h) (Or.inr ⟨by rfl, rfl⟩) hS0 ?_
            simp only [List.getElem_toArray, List.getElem_cons_zero, List.getElem_cons_succ, Act.put, List.setIfInBounds_toArray, List.set_cons_zero, List.set_cons_succ]
            refine wpAnyH_take (i := 36) (v := undef) rfl (by kernel_rfl) (by kernel_rfl) (by kernel_rfl) (fun _ _ _ h => h) (Or.inr ⟨by rfl, rfl⟩) hS0 ?_
            simp only [List.getElem_toArray, List.getElem_cons_zero, List.getElem_cons_succ, Act.put, List.setIfInBounds_toArray, List.set_cons_zero, List.set_cons_succ]
            refine wpAnyH_take (i := 37) (v := undef) rfl (by kernel_rfl) (by kernel_rfl) (by kernel_rfl) (fun _ _ _ h => h) (Or.inr ⟨by rfl, rfl⟩) hS0 ?_
            simp only [List.getElem_toArray, List.getElem_cons_zero, List.getElem_cons_succ, Act.put, List.setIfInBounds_toArray, List.set_cons_zero, List.set_cons_succ]
            refine wpAnyH_take (i := 38) (v := undef) rfl (by kernel_rfl) (by kernel_rfl) (by kernel_rfl) (fun _ _ _ h => h) (Or.inr ⟨by rfl, rfl⟩) hS0 ?_
            simp only [List.getElem_toArray, List.getElem_cons_zero, List.getElem_cons_succ, Act.put, List.setIfInBounds_toArray, List.set_cons_zero, List.set_cons_succ]
            refine wpAnyH_take (i := 39) (v := undef) rfl (by kernel_rfl) (by kernel_rfl) (by kernel_rfl) (fun _ _ _ h => h) (Or.inr ⟨by rfl, rfl⟩) hS0 ?_
            simp only [List.getElem_toArray, List.getElem_cons_zero, List.getElem_cons_succ, Act.put, List.setIfInBounds_toArray, List.set_cons_zero, List.set_cons_succ]
            refine wpAnyH_take (i := 40) (v := ?v48) rfl (by kernel_rfl) (by kernel_rfl) (by kernel_rfl) (fun _ _ _ h => h) (Or.inl ⟨by rfl, ?hy48⟩) hS0 ?_
            case hy48 => (intro w' hw'; skip; go_simp; try with_reducible rfl)
            simp only [List.getElem_toArray, List.getElem_cons_zero, List.getElem_cons_succ, Act.put, List.setIfInBounds_toArray, List.set_cons_zero, List.set_cons_succ]
            refine wpAnyH_done (by kernel_rfl) ?_ _; refine NoPanic.normal ?_
            go_wp2_with fail
            go_roundw
            case rel =>
              refine ⟨k + 1, by omega, by go_num, hide (fun j u hj hu => ?_), hb.trans (hS0.mono hb.size)⟩
              by_cases e : j = k
              · subst e
                rw [hget] at hu
                obtain rfl := Option.some.inj hu
                exact fun e => e.2.2.2 (unhide hNo)
              · exact unhide hno j u (by omega) hu
            case measure => first | (simp [intOf]; omega) | simp [intOf]
          · have hup := hide (show upW (toks z) t.ln t.co = some t from by
              unfold upW
              rw [List.find?_eq_some_iff_getElem]
              refine ⟨by simp [h0, h1], k, hlt, ?_, fun j hj => ?_⟩
              · rw [List.getElem?_eq_getElem hlt] at hget; exact Option.some.inj hget
              · have := unhide hno j _ hj (List.getElem?_eq_getElem (Nat.lt_trans hj hlt))
                simp only [Bool.not_eq_true', decide_eq_false_iff_not]
                exact this)
            have hk0 : (t.k != 0) = true := by simpa using h0
            have hk1 : (t.k != 1) = true := by simpa using h1
            have hto2 := unhide hto
            have hle1 : (t.to : Int) ≤ ((mem.decZ z).1.length : Int) := by have : t.to ≤ (mem.decZ z).1.length := hto2; omega
            have hge1 : (0 : Int) ≤ (t.to : Int) := by omega
            have hrw := hide (row_head hrow (j := t.to) hto2)
            have hcc := hrow.le
            clear h0 h1
            go_wp2_with fail
            refine wp_region_noPanic ?_
            refine wp_region_held (S := fun w' => Below wr.heap.size wr w') mixed ?_
            refine wpAnyH_take (i := 0) (v := ?v49) rfl (by kernel_rfl) (by kernel_rfl) (by kernel_rfl) (fun _ _ _ h => h) (Or.inl ⟨by rfl, ?hy49⟩) hS0 ?_
            case hy49 => (intro w' hw'; skip; go_simp; try with_reducible rfl)
            simp only [List.getElem_toArray, List.getElem_cons_zero, List.getElem_cons_succ, Act.put, List.setIfInBounds_toArray, List.set_cons_zero, List.set_cons_succ]
            refine wpAnyH_take (i := 1) (v := ?v50) rfl (by kernel_rfl) (by kernel_rfl) (by kernel_rfl) (fun _ _ _ h => h) (Or.inl ⟨by rfl, ?hy50⟩) hS0 ?_
            case hy50 => (intro w' hw'; skip; go_simp; try with_reducible rfl)
            simp only [List.getElem_toArray, List.getElem_cons_zero, List.getElem_cons_succ, Act.put, List.setIfInBounds_toArray, List.set_cons_zero, List.set_cons_succ]
            refine wpAnyH_take (i := 2) (v := ?v51) rfl (by kernel_rfl) (by kernel_rfl) (by kernel_rfl) (fun _ _ _ h => h) (Or.inl ⟨by rfl, ?hy51⟩) hS0 ?_
            case hy51 => (intro w' hw'; skip; go_simp; try with_reducible rfl)
            simp only [List.getElem_toArray, List.getElem_cons_zero, List.getElem_cons_succ, Act.put, List.setIfInBounds_toArray, List.set_cons_zero, List.set_cons_succ]
            refine wpAnyH_take (i := 3) (v := ?v52) rfl (by kernel_rfl) (by kernel_rfl) (by kernel_rfl) (fun _ _ _ h => h) (Or.inl ⟨by rfl, ?hy52⟩) hS0 ?_
            case hy52 => (intro w' hw'; skip; go_simp; try with_reducible rfl)
            simp only [List.getElem_toArray, List.getElem_cons_zero, List.getElem_cons_succ, Act.put, List.setIfInBounds_toArray, List.set_cons_zero, List.set_cons_succ]
            refine wpAnyH_take (i := 4) (v := ?v53) rfl (by kernel_rfl) (by kernel_rfl) (by kernel_rfl) (fun _ _ _ h => h) (Or.inl ⟨by rfl, ?hy53⟩) hS0 ?_
            case hy53 => (intro w' hw'; have m1' := (hw'.cell (p := ⟨p, k * 7 + 1, none⟩) hq1).trans m1; have m2' := (hw'.cell (p := ⟨p, k * 7 + 2, none⟩) hq1).trans m2; go_simp; try with_reducible rfl)
            simp only [List.getElem_toArray, List.getElem_cons_zero, List.getElem_cons_succ, Act.put, List.setIfInBounds_toArray, List.set_cons_zero, List.set_cons_succ]
            refine wpAnyH_take (i := 5) (v := ?v54) rfl (by kernel_rfl) (by kernel_rfl) (by kernel_rfl) (fun _ _ _ h => h) (Or.inl ⟨by rfl, ?hy54⟩) hS0 ?_
            case hy54 => (intro w' hw'; have x0' := (hw'.cell (p := ⟨w.heap.size, 0, none⟩) hq0).trans x0; have x1' := (hw'.cell (p := ⟨w.heap.size, 1, none⟩) hq0).trans x1; go_simp; try with_reducible rfl)
            simp only [List.getElem_toArray, List.getElem_cons_zero, List.getElem_cons_succ, Act.put, List.setIfInBounds_toArray, List.set_cons_zero, List.set_cons_succ]
            refine wpAnyH_take (i := 6) (v := ?v55) rfl (by kernel_rfl) (by kernel_rfl) (by kernel_rfl) (fun _ _ _ h => h) (Or.inl ⟨by rfl, ?hy55⟩) hS0 ?_
            case hy55 => (intro w' hw'; skip; go_simp; try with_reducible rfl)
            simp only [List.getElem_toArray, List.getElem_cons_zero, List.getElem_cons_succ, Act.put, List.setIfInBounds_toArray, List.set_cons_zero, List.set_cons_succ]
            refine wpAnyH_take (i := 7) (v := ?v56) rfl (by kernel_rfl) (by kernel_rfl) (by kernel_rfl) (fun _ _ _ h => h) (Or.inl ⟨by rfl, ?hy56⟩) hS0 ?_
            case hy56 => (intro w' hw'; skip; go_simp; try with_reducible rfl)
            simp only [List.getElem_toArray, List.getElem_cons_zero, List.getElem_cons_succ, Act.put, List.setIfInBounds_toArray, List.set_cons_zero, List.set_cons_succ]
            refine wpAnyH_take (i := 8) (v := ?v57) rfl (by kernel_rfl) (by kernel_rfl) (by kernel_rfl) (fun _ _ _ h => h) (Or.inl ⟨by rfl, ?hy57⟩) hS0 ?_
            case hy57 => (intro w' hw'; skip; go_simp; try with_reducible rfl)
            simp only [List.getElem_toArray, List.getElem_cons_zero, List.getElem_cons_succ, Act.put, List.setIfInBounds_toArray, List.set_cons_zero, List.set_cons_succ]
            refine wpAnyH_take (i := 9) (v := ?v58) rfl (by kernel_rfl) (by kernel_rfl) (by kernel_rfl) (fun _ _ _ h => h) (Or.inl ⟨by rfl, ?hy58⟩) hS0 ?_
            case hy58 => (intro w' hw'; skip; go_simp; try with_reducible rfl)
            simp only [List.getElem_toArray, List.getElem_cons_zero, List.getElem_cons_succ, Act.put, List.setIfInBounds_toArray, List.set_cons_zero, List.set_cons_succ]
            refine wpAnyH_take (i := 10) (v := ?v59) rfl (by kernel_rfl) (by kernel_rfl) (by kernel_rfl) (fun _ _ _ h => h) (Or.inl ⟨by rfl, ?hy59⟩) hS0 ?_
            case hy59 => (intro w' hw'; skip; go_simp; try with_reducible rfl)
            simp only [List.getElem_toArray, List.getElem_cons_zero, List.getElem_cons_succ, Act.put, List.setIfInBounds_toArray, List.set_cons_zero, List.set_cons_succ]
            refine wpAnyH_take (i := 11) (v := ?v60) rfl (by kernel_rfl) (by kernel_rfl) (by kernel_rfl) (fun _ _ _ h => h) (Or.inl ⟨by rfl, ?hy60⟩) hS0 ?_
            case hy60 => (intro w' hw'; skip; go_simp; try with_reducible rfl)
            simp only [List.getElem_toArray, List.getElem_cons_zero, List.getElem_cons_succ, Act.put, List.setIfInBounds_toArray, List.set_cons_zero, List.set_cons_succ]
            refine wpAnyH_take (i := 12) (v := ?v61) rfl (by kernel_rfl) (by kernel_rfl) (by kernel_rfl) (fun _ _ _ h => h) (Or.inl ⟨by rfl, ?hy61⟩) hS0 ?_
            case hy61 => (intro w' hw'; have m0' := (hw'.cell (p := ⟨p, k * 7, none⟩) hq1).trans m0; go_simp; try with_reducible rfl)
            simp only [List.getElem_toArray, List.getElem_cons_zero, List.getElem_cons_succ, Act.put, List.setIfInBounds_toArray, List.set_cons_zero, List.set_cons_succ]
            refine wpAnyH_take (i := 13) (v := ?v62) rfl (by kernel_rfl) (by kernel_rfl) (by kernel_rfl) (fun _ _ _ h => h) (Or.inl ⟨by rfl, ?hy62⟩) hS0 ?_
            case hy62 => (intro w' hw'; skip; go_simp; try with_reducible rfl)
            simp only [List.getElem_toArray, List.getElem_cons_zero, List.getElem_cons_succ, Act.put, List.setIfInBounds_toArray, List.set_cons_zero, List.set_cons_succ]
            refine wpAnyH_take (i := 14) (v := ?v63) rfl (by kernel_rfl) (by kernel_rfl) (by kernel_rfl) (fun _ _ _ h => h) (Or.inl ⟨by rfl, ?hy63⟩) hS0 ?_
            case hy63 => (intro w' hw'; skip; go_simp; try with_reducible rfl)
            simp only [List.getElem_toArray, List.getElem_cons_zero, List.getElem_cons_succ, Act.put, List.setIfInBounds_toArray, List.set_cons_zero, List.set_cons_succ]
            refine wpAnyH_take (i := 15) (v := ?v64) rfl (by kernel_rfl) (by kernel_rfl) (by kernel_rfl) (fun _ _ _ h => h) (Or.inl ⟨by rfl, ?hy64⟩) hS0 ?_
            case hy64 => (intro w' hw'; skip; go_simp; try with_reducible rfl)
            simp only [List.getElem_toArray, List.getElem_cons_zero, List.getElem_cons_succ, Act.put, List.setIfInBounds_toArray, List.set_cons_zero, List.set_cons_succ]
            refine wpAnyH_take (i := 16) (v := ?v65) rfl (by kernel_rfl) (by kernel_rfl) (by kernel_rfl) (fun _ _ _ h => h) (Or.inl ⟨by rfl, ?hy65⟩) hS0 ?_
            case hy65 => (intro w' hw'; skip; go_simp; try with_reducible rfl)
            simp only [List.getElem_toArray, List.getElem_cons_zero, List.getElem_cons_succ, Act.put, List.setIfInBounds_toArray, List.set_cons_zero, List.set_cons_succ]
            refine wpAnyH_take (i := 17) (v := ?v66) rfl (by kernel_rfl) (by kernel_rfl) (by kernel_rfl) (fun _ _ _ h => h) (Or.inl ⟨by rfl, ?hy66⟩) hS0 ?_
            case hy66 => (intro w' hw'; skip; go_simp; try with_reducible rfl)
            simp only [List.getElem_toArray, List.getElem_cons_zero, List.getElem_cons_succ, Act.put, List.setIfInBounds_toArray, List.set_cons_zero, List.set_cons_succ]
            refine wpAnyH_take (i := 18) (v := ?v67) rfl (by kernel_rfl) (by kernel_rfl) (by kernel_rfl) (fun _ _ _ h => h) (Or.inl ⟨by rfl, ?hy67⟩) hS0 ?_
            case hy67 => (intro w' hw'; skip; go_simp; try with_reducible rfl)
            simp only [List.getElem_toArray, List.getElem_cons_zero, List.getElem_cons_succ, Act.put, List.setIfInBounds_toArray, List.set_cons_zero, List.set_cons_succ]
            refine wpAnyH_take (i := 19) (v := ?v68) rfl (by kernel_rfl) (by kernel_rfl) (by kernel_rfl) (fun _ _ _ h => h) (Or.inl ⟨by rfl, ?hy68⟩) hS0 ?_
            case hy68 => (intro w' hw'; skip; go_simp; try with_reducible rfl)
            simp only [List.getElem_toArray, List.getElem_cons_zero, List.getElem_cons_succ, Act.put, List.setIfInBounds_toArray, List.set_cons_zero, List.set_cons_succ]
            refine wpAnyH_take (i := 20) (v := ?v69) rfl (by kernel_rfl) (by kernel_rfl) (by kernel_rfl) (fun _ _ _ h => h) (Or.inl ⟨by rfl, ?hy69⟩) hS0 ?_
            case hy69 => (intro w' hw'; have m0' := (hw'.cell (p := ⟨p, k * 7, none⟩) hq1).trans m0; go_simp; try with_reducible rfl)
            simp only [List.getElem_toArray, List.getElem_cons_zero, List.getElem_cons_succ, Act.put, List.setIfInBounds_toArray, List.set_cons_zero, List.set_cons_succ]
            refine wpAnyH_take (i := 21) (v := ?v70) rfl (by kernel_rfl) (by kernel_rfl) (by kernel_rfl) (fun _ _ _ h => h) (Or.inl ⟨by rfl, ?hy70⟩) hS0 ?_
            case hy70 => (intro w' hw'; skip; go_simp; try with_reducible rfl)
            simp only [List.getElem_toArray, List.getElem_cons_zero, List.getElem_cons_succ, Act.put, List.setIfInBounds_toArray, List.set_cons_zero, List.set_cons_succ]
            refine wpAnyH_take (i := 22) (v := ?v71) rfl (by kernel_rfl) (by kernel_rfl) (by kernel_rfl) (fun _ _ _ h => h) (Or.inl ⟨by rfl, ?hy71⟩) hS0 ?_
            case hy71 => (intro w' hw'; skip; go_simp; try with_reducible rfl)
            simp only [List.getElem_toArray, List.getElem_cons_zero, List.getElem_cons_succ, Act.put, List.setIfInBounds_toArray, List.set_cons_zero, List.set_cons_succ]
            refine wpAnyH_take (i := 23) (v := ?v72) rfl (by kernel_rfl) (by kernel_rfl) (by kernel_rfl) (fun _ _ _ h => h) (Or.inl ⟨by rfl, ?hy72⟩) hS0 ?_
            case hy72 => (intro w' hw'; skip; go_simp; try with_reducible rfl)
            simp only [List.getElem_toArray, List.getElem_cons_zero, List.getElem_cons_succ, Act.put, List.setIfInBounds_toArray, List.set_cons_zero, List.set_cons_succ]
            refine wpAnyH_take (i := 24) (v := ?v73) rfl (by kernel_rfl) (by kernel_rfl) (by kernel_rfl) (fun _ _ _ h => h) (Or.inl ⟨by rfl, ?hy73⟩) hS0 ?_
            case hy73 => (intro w' hw'; skip; go_simp; try with_reducible rfl)
            simp only [List.getElem_toArray, List.getElem_cons_zero, List.getElem_cons_succ, Act.put, List.setIfInBounds_toArray, List.set_cons_zero, List.set_cons_succ]
            refine wpAnyH_take (i := 25) (v := ?v74) rfl (by kernel_rfl) (by kernel_rfl) (by kernel_rfl) (fun _ _ _ h => h) (Or.inl ⟨by rfl, ?hy74⟩) hS0 ?_
            case hy74 => (intro w' hw'; skip; go_simp; try with_reducible rfl)
            simp only [List.getElem_toArray, List.getElem_cons_zero, List.getElem_cons_succ, Act.put, List.setIfInBounds_toArray, List.set_cons_zero, List.set_cons_succ]
            refine wpAnyH_take (i := 26) (v := ?v75) rfl (by kernel_rfl) (by kernel_rfl) (by kernel_rfl) (fun _ _ _ h => h) (Or.inl ⟨by rfl, ?hy75⟩) hS0 ?_
            case hy75 => (intro w' hw'; skip; go_simp; try with_reducible rfl)
            simp only [List.getElem_toArray, List.getElem_cons_zero, List.getElem_cons_succ, Act.put, List.setIfInBounds_toArray, List.set_cons_zero, List.set_cons_succ]
            refine wpAnyH_take (i := 27) (v := ?v76) rfl (by kernel_rfl) (by kernel_rfl) (by kernel_rfl) (fun _ _ _ h => h) (Or.inl ⟨by rfl, ?hy76⟩) hS0 ?_
            case hy76 => (intro w' hw'; skip; go_simp; try with_reducible rfl)
            simp only [List.getElem_toArray, List.getElem_cons_zero, List.getElem_cons_succ, Act.put, List.setIfInBounds_toArray, List.set_cons_zero, List.set_cons_succ]
            refine wpAnyH_take (i := 28) (v := ?v77) rfl (by kernel_rfl) (by kernel_rfl) (by kernel_rfl) (fun _ _ _ h => h) (Or.inl ⟨by rfl, ?hy77⟩) hS0 ?_
            case hy77 => (intro w' hw'; have m4' := (hw'.cell (p := ⟨p, k * 7 + 4, none⟩) hq1).trans m4; go_simp; try with_reducible rfl)
            simp only [List.getElem_toArray, List.getElem_cons_zero, List.getElem_cons_succ, Act.put, List.setIfInBounds_toArray, List.set_cons_zero, List.set_cons_succ]
            refine wpAnyH_take (i := 29) (v := ?v78) rfl (by kernel_rfl) (by kernel_rfl) (by kernel_rfl) (fun _ _ _ h => h) (Or.inl ⟨by rfl, ?hy78⟩) hS0 ?_
            case hy78 => (intro w' hw'; skip; go_simp; try with_reducible rfl)
            simp only [List.getElem_toArray, List.getElem_cons_zero, List.getElem_cons_succ, Act.put, List.setIfInBounds_toArray, List.set_cons_zero, List.set_cons_succ]
            refine wpAnyH_take (i := 30) (v := ?v79) rfl (by kernel_rfl) (by kernel_rfl) (by kernel_rfl) (fun _ _ _ h => h) (Or.inl ⟨by rfl, ?hy79⟩) hS0 ?_
            case hy79 => (intro w' hw'; skip; go_simp; try with_reducible rfl)
            simp only [List.getElem_toArray, List.getElem_cons_zero, List.getElem_cons_succ, Act.put, List.setIfInBounds_toArray, List.set_cons_zero, List.set_cons_succ]
            refine wpAnyH_take (i := 31) (v := ?v80) rfl (by kernel_rfl) (by kernel_rfl) (by kernel_rfl) (fun _ _ _ h => h) (Or.inl ⟨by rfl, ?hy80⟩) hS0 ?_
            case hy80 => (intro w' hw'; skip; go_simp; try with_reducible rfl)
            simp only [List.getElem_toArray, List.getElem_cons_zero, List.getElem_cons_succ, Act.put, List.setIfInBounds_toArray, List.set_cons_zero, List.set_cons_succ]
            refine wpAnyH_take (i := 32) (v := ?v81) rfl (by kernel_rfl) (by kernel_rfl) (by kernel_rfl) (fun _ _ _ h => h) (Or.inl ⟨by rfl, ?hy81⟩) hS0 ?_
            case hy81 => (intro w' hw'; skip; go_simp; try with_reducible rfl)
            simp only [List.getElem_toArray, List.getElem_cons_zero, List.getElem_cons_succ, Act.put, List.setIfInBounds_toArray, List.set_cons_zero, List.set_cons_succ]
            refine wpAnyH_take (i := 33) (v := ?v82) rfl (by kernel_rfl) (by kernel_rfl) (by kernel_rfl) (fun _ _ _ h => h) (Or.inl ⟨by rfl, ?hy82⟩) hS0 ?_
            case hy82 => (intro w' hw'; skip; go_simp; try with_reducible rfl)
            simp only [List.getElem_toArray, List.getElem_cons_zero, List.getElem_cons_succ, Act.put, List.setIfInBounds_toArray, List.set_cons_zero, List.set_cons_succ]
            refine wpAnyH_take (i := 34) (v := ?v83) rfl (by kernel_rfl) (by kernel_rfl) (by kernel_rfl) (fun _ _ _ h => h) (Or.inl ⟨by rfl, ?hy83⟩) hS0 ?_
            case hy83 => (intro w' hw'; skip; go_simp; try with_reducible rfl)
            simp only [List.getElem_toArray, List.getElem_cons_zero, List.getElem_cons_succ, Act.put, List.setIfInBounds_toArray, List.set_cons_zero, List.set_cons_succ]
            refine wpAnyH_take (i := 35) (v := ?v84) rfl (by kernel_rfl) (by kernel_rfl) (by kernel_rfl) (fun _ _ _ h => h) (Or.inl ⟨by rfl, ?hy84⟩) hS0 ?_
            case hy84 => (intro w' hw'; skip; go_simp; try with_reducible rfl)
            simp only [List.getElem_toArray, List.getElem_cons_zero, List.getElem_cons_succ, Act.put, List.setIfInBounds_toArray, List.set_cons_zero, List.set_cons_succ]
            refine wpAnyH_take (i := 36) (v := ?v85) rfl (by kernel_rfl) (by kernel_rfl) (by kernel_rfl) (fun _ _ _ h => h) (Or.inl ⟨by rfl, ?hy85⟩) hS0 ?_
            case hy85 => (intro w' hw'; skip; go_simp; try with_reducible rfl)
            simp only [List.getElem_toArray, List.getElem_cons_zero, List.getElem_cons_succ, Act.put, List.setIfInBounds_toArray, List.set_cons_zero, List.set_cons_succ]
            refine wpAnyH_take (i := 37) (v := ?v86) rfl (by kernel_rfl) (by kernel_rfl) (by kernel_rfl) (fun _ _ _ h => h) (Or.inl ⟨by rfl, ?hy86⟩) hS0 ?_
            case hy86 => (intro w' hw'; skip; go_simp; try with_reducible rfl)
            simp only [List.getElem_toArray, List.getElem_cons_zero, List.getElem_cons_succ, Act.put, List.setIfInBounds_toArray, List.set_cons_zero, List.set_cons_succ]
            refine wpAnyH_take (i := 38) (v := ?v87) rfl (by kernel_rfl) (by kernel_rfl) (by kernel_rfl) (fun _ _ _ h => h) (Or.inl ⟨by rfl, ?hy87⟩) hS0 ?_
            case hy87 => (intro w' hw'; have m4' := (hw'.cell (p := ⟨p, k * 7 + 4, none⟩) hq1).trans m4; go_simp; try with_reducible rfl)
            simp only [List.getElem_toArray, List.getElem_cons_zero, List.getElem_cons_succ, Act.put, List.setIfInBounds_toArray, List.set_cons_zero, List.set_cons_succ]
            refine wpAnyH_take (i := 39) (v := ?v88) rfl (by kernel_rfl) (by kernel_rfl) (by kernel_rfl) (fun _ _ _ h => h) (Or.inl ⟨by rfl, ?hy88⟩) hS0 ?_
            case hy88 => (intro w' hw'; skip; go_simp; try with_reducible rfl)
            simp only [List.getElem_toArray, List.getElem_cons_zero, List.getElem_cons_succ, Act.put, List.setIfInBounds_toArray, List.set_cons_zero, List.set_cons_succ]
            refine wpAnyH_take (i := 40) (v := ?v89) rfl (by kernel_rfl) (by kernel_rfl) (by kernel_rfl) (fun _ _ _ h => h) (Or.inl ⟨by rfl, ?hy89⟩) hS0 ?_
            case hy89 => (intro w' hw'; skip; go_simp; try with_reducible rfl)
            simp only [List.getElem_toArray, List.getElem_cons_zero, List.getElem_cons_succ, Act.put, List.setIfInBounds_toArray, List.set_cons_zero, List.set_cons_succ]
            refine wpAnyH_done (by kernel_rfl) ?_ _; refine NoPanic.normal ?_
            go_wp2_with fail
            have bD := hb.trans (hS0.mono hb.size)
            refine (mem.encode_any a1 t.to c1 ((chs z).take t.to) _ ((unhide hrw).below bD) (by omega)).mono ?_
            rintro e w5 ⟨rfl, b5⟩
            have hall : ((chs z).take t.to).all mem.scB = true := by
              rw [List.all_eq_true]
              exact fun q hq => (mem.scB_iff q).2 (lx.chs_sc hz q (List.mem_of_mem_take hq))
            rw [hall]
            go_wp2_with fail
            trace_state
            go_ret2
            have bw := bw2.trans (bD.mono bw2.size)
            refine ⟨?_, bw.trans (b5.mono bw.size)⟩
            unfold upR
            rw [unhide hup]
            rfl
      · have hNo := hide hpos
        by_cases hl : t.ln = x
        · have hy : (t.co == y) = false := by simp; exact fun e => hpos ⟨hl, e⟩
          have hl2 : (t.ln == x) = true := by simpa using hl
          clear hpos hl
          go_wp2_with fail
          refine wp_region_noPanic ?_
          refine wp_region_held (S := fun w' => Below wr.heap.size wr w') mixed ?_
          refine wpAnyH_take (i := 0) (v := ?v90) rfl (by kernel_rfl) (by kernel_rfl) (by kernel_rfl) (fun _ _ _ h => h) (Or.inl ⟨by rfl, ?hy90⟩) hS0 ?_
          case hy90 => (intro w' hw'; skip; go_simp; try with_reducible rfl)
          simp only [List.getElem_toArray, List.getElem_cons_zero, List.getElem_cons_succ, Act.put, List.setIfInBounds_toArray, List.set_cons_zero, List.set_cons_succ]
          refine wpAnyH_take (i := 1) (v := ?v91) rfl (by kernel_rfl) (by kernel_rfl) (by kernel_rfl) (fun _ _ _ h => h) (Or.inl ⟨by rfl, ?hy91⟩) hS0 ?_
          case hy91 => (intro w' hw'; skip; go_simp; try with_reducible rfl)
          simp only [List.getElem_toArray, List.getElem_cons_zero, List.getElem_cons_succ, Act.put, List.setIfInBounds_toArray, List.set_cons_zero, List.set_cons_succ]
          refine wpAnyH_take (i := 2) (v := ?v92) rfl (by kernel_rfl) (by kernel_rfl) (by kernel_rfl) (fun _ _ _ h => h) (Or.inl ⟨by rfl, ?hy92⟩) hS0 ?_
          case hy92 => (intro w' hw'; skip; go_simp; try with_reducible rfl)
          simp only [List.getElem_toArray, List.getElem_cons_zero, List.getElem_cons_succ, Act.put, List.setIfInBounds_toArray, List.set_cons_zero, List.set_cons_succ]
          refine wpAnyH_take (i := 3) (v := ?v93) rfl (by kernel_rfl) (by kernel_rfl) (by kernel_rfl) (fun _ _ _ h => h) (Or.inl ⟨by rfl, ?hy93⟩) hS0 ?_
          case hy93 => (intro w' hw'; skip; go_simp; try with_reducible rfl)
          simp only [List.getElem_toArray, List.getElem_cons_zero, List.getElem_cons_succ, Act.put, List.setIfInBounds_toArray, List.set_cons_zero, List.set_cons_succ]
          refine wpAnyH_take (i := 4) (v := ?v94) rfl (by kernel_rfl) (by kernel_rfl) (by kernel_rfl) (fun _ _ _ h => h) (Or.inl ⟨by rfl, ?hy94⟩) hS0 ?_
          case hy94 => (intro w' hw'; have m1' := (hw'.cell (p := ⟨p, k * 7 + 1, none⟩) hq1).trans m1; have m2' := (hw'.cell (p := ⟨p, k * 7 + 2, none⟩) hq1).trans m2; go_simp; try with_reducible rfl)
          simp only [List.getElem_toArray, List.getElem_cons_zero, List.getElem_cons_succ, Act.put, List.setIfInBounds_toArray, List.set_cons_zero, List.set_cons_succ]
          refine wpAnyH_take (i := 5) (v := ?v95) rfl (by kernel_rfl) (by kernel_rfl) (by kernel_rfl) (fun _ _ _ h => h) (Or.inl ⟨by rfl, ?hy95⟩) hS0 ?_
          case hy95 => (intro w' hw'; have x0' := (hw'.cell (p := ⟨w.heap.size, 0, none⟩) hq0).trans x0; have x1' := (hw'.cell (p := ⟨w.heap.size, 1, none⟩) hq0).trans x1; go_simp; try with_reducible rfl)
          simp only [List.getElem_toArray, List.getElem_cons_zero, List.getElem_cons_succ, Act.put, List.setIfInBounds_toArray, List.set_cons_zero, List.set_cons_succ]
          refine wpAnyH_take (i := 6) (v := ?v96) rfl (by kernel_rfl) (by kernel_rfl) (by kernel_rfl) (fun _ _ _ h => h) (Or.inl ⟨by rfl, ?hy96⟩) hS0 ?_
          case hy96 => (intro w' hw'; skip; go_simp; try with_reducible rfl)
          simp only [List.getElem_toArray, List.getElem_cons_zero, List.getElem_cons_succ, Act.put, List.setIfInBounds_toArray, List.set_cons_zero, List.set_cons_succ]
          refine wpAnyH_take (i := 7) (v := ?v97) rfl (by kernel_rfl) (by kernel_rfl) (by kernel_rfl) (fun _ _ _ h => h) (Or.inl ⟨by rfl, ?hy97⟩) hS0 ?_
          case hy97 => (intro w' hw'; skip; go_simp; try with_reducible rfl)
          simp only [List.getElem_toArray, List.getElem_cons_zero, List.getElem_cons_succ, Act.put, List.setIfInBounds_toArray, List.set_cons_zero, List.set_cons_succ]
          refine wpAnyH_take (i := 8) (v := undef) rfl (by kernel_rfl) (by kernel_rfl) (by kernel_rfl) (fun _ _ _ h => h) (Or.inr ⟨by rfl, rfl⟩) hS0 ?_
          simp only [List.getElem_toArray, List.getElem_cons_zero, List.getElem_cons_succ, Act.put, List.setIfInBounds_toArray, List.set_cons_zero, List.set_cons_succ]
          refine wpAnyH_take (i := 9) (v := undef) rfl (by kernel_rfl) (by kernel_rfl) (by kernel_rfl) (fun _ _ _ h => h) (Or.inr ⟨by rfl, rfl⟩) hS0 ?_
          simp only [List.getElem_toArray, List.getElem_cons_zero, List.getElem_cons_succ, Act.put, List.setIfInBounds_toArray, List.set_cons_zero, List.set_cons_succ]
          refine wpAnyH_take (i := 10) (v := undef) rfl (by kernel_rfl) (by kernel_rfl) (by kernel_rfl) (fun _ _ _ h => h) (Or.inr ⟨by rfl, rfl⟩) hS0 ?_
          simp only [List.getElem_toArray, List.getElem_cons_zero, List.getElem_cons_succ, Act.put, List.setIfInBounds_toArray, List.set_cons_zero, List.set_cons_succ]
          refine wpAnyH_take (i := 11) (v := undef) rfl (by kernel_rfl) (by kernel_rfl) (by kernel_rfl) (fun _ _ _ h => h) (Or.inr ⟨by rfl, rfl⟩) hS0 ?_
          simp only [List.getElem_toArray, List.getElem_cons_zero, List.getElem_cons_succ, Act.put, List.setIfInBounds_toArray, List.set_cons_zero, List.set_cons_succ]
          refine wpAnyH_take (i := 12) (v := undef) rfl (by kernel_rfl) (by kernel_rfl) (by kernel_rfl) (fun _ _ _ h => h) (Or.inr ⟨by rfl, rfl⟩) hS0 ?_
          simp only [List.getElem_toArray, List.getElem_cons_zero, List.getElem_cons_succ, Act.put, List.setIfInBounds_toArray, List.set_cons_zero, List.set_cons_succ]
          refine wpAnyH_take (i := 13) (v := undef) rfl (by kernel_rfl) (by kernel_rfl) (by kernel_rfl) (fun _ _ _ h => h) (Or.inr ⟨by rfl, rfl⟩) hS0 ?_
          simp only [List.getElem_toArray, List.getElem_cons_zero, List.getElem_cons_succ, Act.put, List.setIfInBounds_toArray, List.set_cons_zero, List.set_cons_succ]
          refine wpAnyH_take (i := 14) (v := ?v98) rfl (by kernel_rfl) (by kernel_rfl) (by kernel_rfl) (fun _ _ _ h => h) (Or.inl ⟨by rfl, ?hy98⟩) hS0 ?_
          case hy98 => (intro w' hw'; skip; go_simp; try with_reducible rfl)
          simp only [List.getElem_toArray, List.getElem_cons_zero, List.getElem_cons_succ, Act.put, List.setIfInBounds_toArray, List.set_cons_zero, List.set_cons_succ]
          refine wpAnyH_take (i := 15) (v := ?v99) rfl (by kernel_rfl) (by kernel_rfl) (by kernel_rfl) (fun _ _ _ h => h) (Or.inl ⟨by rfl, ?hy99⟩) hS0 ?_
          case hy99 => (intro w' hw'; skip; go_simp; try with_reducible rfl)
          simp only [List.getElem_toArray, List.getElem_cons_zero, List.getElem_cons_succ, Act.put, List.setIfInBounds_toArray, List.set_cons_zero, List.set_cons_succ]
          refine wpAnyH_take (i := 16) (v := undef) rfl (by kernel_rfl) (by kernel_rfl) (by kernel_rfl) (fun _ _ _ h => h) (Or.inr ⟨by rfl, rfl⟩) hS0 ?_
          simp only [List.getElem_toArray, List.getElem_cons_zero, List.getElem_cons_succ, Act.put, List.setIfInBounds_toArray, List.set_cons_zero, List.set_cons_succ]
          refine wpAnyH_take (i := 17) (v := undef) rfl (by kernel_rfl) (by kernel_rfl) (by kernel_rfl) (fun _ _ _ h => h) (Or.inr ⟨by rfl, rfl⟩) hS0 ?_
          simp only [List.getElem_toArray, List.getElem_cons_zero, List.getElem_cons_succ, Act.put, List.setIfInBounds_toArray, List.set_cons_zero, List.set_cons_succ]
          refine wpAnyH_take (i := 18) (v := undef) rfl (by kernel_rfl) (by kernel_rfl) (by kernel_rfl) (fun _ _ _ h => h) (Or.inr ⟨by rfl, rfl⟩) hS0 ?_
          simp only [List.getElem_toArray, List.getElem_cons_zero, List.getElem_cons_succ, Act.put, List.setIfInBounds_toArray, List.set_cons_zero, List.set_cons_succ]
          refine wpAnyH_take (i := 19) (v := undef) rfl (by kernel_rfl) (by kernel_rfl) (by kernel_rfl) (fun _ _ _ h => h) (Or.inr ⟨by rfl, rfl⟩) hS0 ?_
          simp only [List.getElem_toArray, List.getElem_cons_zero, List.getElem_cons_succ, Act.put, List.setIfInBounds_toArray, List.set_cons_zero, List.set_cons_succ]
          refine wpAnyH_take (i := 20) (v := undef) rfl (by kernel_rfl) (by kernel_rfl) (by kernel_rfl) (fun _ _ _ h => h) (Or.inr ⟨by rfl, rfl⟩) hS0 ?_
          simp only [List.getElem_toArray, List.getElem_cons_zero, List.getElem_cons_succ, Act.put, List.setIfInBounds_toArray, List.set_cons_zero, List.set_cons_succ]
          refine wpAnyH_take (i := 21) (v := undef) rfl (by kernel_rfl) (by kernel_rfl) (by kernel_rfl) (fun _ _ _ h => h) (Or.inr ⟨by rfl, rfl⟩) hS0 ?_
          simp only [List.getElem_toArray, List.getElem_cons_zero, List.getElem_cons_succ, Act.put, List.setIfInBounds_toArray, List.set_cons_zero, List.set_cons_succ]
          refine wpAnyH_take (i := 22) (v := ?v100) rfl (by kernel_rfl) (by kernel_rfl) (by kernel_rfl) (fun _ _ _ h => h) (Or.inl ⟨by rfl, ?hy100⟩) hS0 ?_
          case hy100 => (intro w' hw'; skip; go_simp; try with_reducible rfl)
          simp only [List.getElem_toArray, List.getElem_cons_zero, List.getElem_cons_succ, Act.put, List.setIfInBounds_toArray, List.set_cons_zero, List.set_cons_succ]
          refine wpAnyH_take (i := 23) (v := ?v101) rfl (by kernel_rfl) (by kernel_rfl) (by kernel_rfl) (fun _ _ _ h => h) (Or.inl ⟨by rfl, ?hy101⟩) hS0 ?_
          case hy101 => (intro w' hw'; skip; go_simp; try with_reducible rfl)
          simp only [List.getElem_toArray, List.getElem_cons_zero, List.getElem_cons_succ, Act.put, List.setIfInBounds_toArray, List.set_cons_zero, List.set_cons_succ]
          refine wpAnyH_take (i := 24) (v := undef) rfl (by kernel_rfl) (by kernel_rfl) (by kernel_rfl) (fun _ _ _ h => h) (Or.inr ⟨by rfl, rfl⟩) hS0 ?_
          simp only [List.getElem_toArray, List.getElem_cons_zero, List.getElem_cons_succ, Act.put, List.setIfInBounds_toArray, List.set_cons_zero, List.set_cons_succ]
          refine wpAnyH_take (i := 25) (v := undef) rfl (by kernel_rfl) (by kernel_rfl) (by kernel_rfl) (fun _ _ _ h => h) (Or.inr ⟨by rfl, rfl⟩) hS0 ?_
          simp only [List.getElem_toArray, List.getElem_cons_zero, List.getElem_cons_succ, Act.put, List.setIfInBounds_toArray, List.set_cons_zero, List.set_cons_succ]
          refine wpAnyH_take (i := 26) (v := undef) rfl (by kernel_rfl) (by kernel_rfl) (by kernel_rfl) (fun _ _ _ h => h) (Or.inr ⟨by rfl, rfl⟩) hS0 ?_
          simp only [List.getElem_toArray, List.getElem_cons_zero, List.getElem_cons_succ, Act.put, List.setIfInBounds_toArray, List.set_cons_zero, List.set_cons_succ]
          refine wpAnyH_take (i := 27) (v := undef) rfl (by kernel_rfl) (by kernel_rfl) (by kernel_rfl) (fun _ _ _ h => h) (Or.inr ⟨by rfl, rfl⟩) hS0 ?_
          simp only [List.getElem_toArray, List.getElem_cons_zero, List.getElem_cons_succ, Act.put, List.setIfInBounds_toArray, List.set_cons_zero, List.set_cons_succ]
          refine wpAnyH_take (i := 28) (v := undef) rfl (by kernel_rfl) (by kernel_rfl) (by kernel_rfl) (fun _ _ _ h => h) (Or.inr ⟨by rfl, rfl⟩) hS0 ?_
          simp only [List.getElem_toArray, List.getElem_cons_zero, List.getElem_cons_succ, Act.put, List.setIfInBounds_toArray, List.set_cons_zero, List.set_cons_succ]
          refine wpAnyH_take (i := 29) (v := undef) rfl (by kernel_rfl) (by kernel_rfl) (by kernel_rfl) (fun _ _ _ h => h) (Or.inr ⟨by rfl, rfl⟩) hS0 ?_
          simp only [List.getElem_toArray, List.getElem_cons_zero, List.getElem_cons_succ, Act.put, List.setIfInBounds_toArray, List.set_cons_zero, List.set_cons_succ]
          refine wpAnyH_take (i := 30) (v := undef) rfl (by kernel_rfl) (by kernel_rfl) (by kernel_rfl) (fun _ _ _ h => h) (Or.inr ⟨by rfl, rfl⟩) hS0 ?_
          simp only [List.getElem_toArray, List.getElem_cons_zero, List.getElem_cons_succ, Act.put, List.setIfInBounds_toArray, List.set_cons_zero, List.set_cons_succ]
          refine wpAnyH_take (i := 31) (v := undef) rfl (by kernel_rfl) (by kernel_rfl) (by kernel_rfl) (fun _ _ _ h => h) (Or.inr ⟨by rfl, rfl⟩) hS0 ?_
          simp only [List.getElem_toArray, List.getElem_cons_zero, List.getElem_cons_succ, Act.put, List.setIfInBounds_toArray, List.set_cons_zero, List.set_cons_succ]
          refine wpAnyH_take (i := 32) (v := ?v102) rfl (by kernel_rfl) (by kernel_rfl) (by kernel_rfl) (fun _ _ _ h => h) (Or.inl ⟨by rfl, ?hy102⟩) hS0 ?_
          case hy102 => (intro w' hw'; skip; go_simp; try with_reducible rfl)
          simp only [List.getElem_toArray, List.getElem_cons_zero, List.getElem_cons_succ, Act.put, List.setIfInBounds_toArray, List.set_cons_zero, List.set_cons_succ]
          refine wpAnyH_take (i := 33) (v := ?v103) rfl (by kernel_rfl) (by kernel_rfl) (by kernel_rfl) (fun _ _ _ h => h) (Or.inl ⟨by rfl, ?hy103⟩) hS0 ?_
          case hy103 => (intro w' hw'; skip; go_simp; try with_reducible rfl)
          simp only [List.getElem_toArray, List.getElem_cons_zero, List.getElem_cons_succ, Act.put, List.setIfInBounds_toArray, List.set_cons_zero, List.set_cons_succ]
          refine wpAnyH_take (i := 34) (v := undef) rfl (by kernel_rfl) (by kernel_rfl) (by kernel_rfl) (fun _ _ _ h => h) (Or.inr ⟨by rfl, rfl⟩) hS0 ?_
          simp only [List.getElem_toArray, List.getElem_cons_zero, List.getElem_cons_succ, Act.put, List.setIfInBounds_toArray, List.set_cons_zero, List.set_cons_succ]
          refine wpAnyH_take (i := 35) (v := undef) rfl (by kernel_rfl) (by kernel_rfl) (by kernel_rfl) (fun _ _ _ h => h) (Or.inr ⟨by rfl, rfl⟩) hS0 ?_
          simp only [List.getElem_toArray, List.getElem_cons_zero, List.getElem_cons_succ, Act.put, List.setIfInBounds_toArray, List.set_cons_zero, List.set_cons_succ]
          refine wpAnyH_take (i := 36) (v := undef) rfl (by kernel_rfl) (by kernel_rfl) (by kernel_rfl) (fun _ _ _ h => h) (Or.inr ⟨by rfl, rfl⟩) hS0 ?_
          simp only [List.getElem_toArray, List.getElem_cons_zero, List.getElem_cons_succ, Act.put, List.setIfInBounds_toArray, List.set_cons_zero, List.set_cons_succ]
          refine wpAnyH_take (i := 37) (v := undef) rfl (by kernel_rfl) (by kernel_rfl) (by kernel_rfl) (fun _ _ _ h => h) (Or.inr ⟨by rfl, rfl⟩) hS0 ?_
          simp only [List.getElem_toArray, List.getElem_cons_zero, List.getElem_cons_succ, Act.put, List.setIfInBounds_toArray, List.set_cons_zero, List.set_cons_succ]
          refine wpAnyH_take (i := 38) (v := undef) rfl (by kernel_rfl) (by kernel_rfl) (by kernel_rfl) (fun _ _ _ h => h) (Or.inr ⟨by rfl, rfl⟩) hS0 ?_
          simp only [List.getElem_toArray, List.getElem_cons_zero, List.getElem_cons_succ, Act.put, List.setIfInBounds_toArray, List.set_cons_zero, List.set_cons_succ]
          refine wpAnyH_take (i := 39) (v := undef) rfl (by kernel_rfl) (by kernel_rfl) (by kernel_rfl) (fun _ _ _ h => h) (Or.inr ⟨by rfl, rfl⟩) hS0 ?_
          simp only [List.getElem_toArray, List.getElem_cons_zero, List.getElem_cons_succ, Act.put, List.setIfInBounds_toArray, List.set_cons_zero, List.set_cons_succ]
          refine wpAnyH_take (i := 40) (v := ?v104) rfl (by kernel_rfl) (by kernel_rfl) (by kernel_rfl) (fun _ _ _ h => h) (Or.inl ⟨by rfl, ?hy104⟩) hS0 ?_
          case hy104 => (intro w' hw'; skip; go_simp; try with_reducible rfl)
          simp only [List.getElem_toArray, List.getElem_cons_zero, List.getElem_cons_succ, Act.put, List.setIfInBounds_toArray, List.set_cons_zero, List.set_cons_succ]
          refine wpAnyH_done (by kernel_rfl) ?_ _; refine NoPanic.normal ?_
          go_wp2_with fail
          go_roundw
          case rel =>
            refine ⟨k + 1, by omega, by go_num, hide (fun j u hj hu => ?_), hb.trans (hS0.mono hb.size)⟩
            by_cases e : j = k
            · subst e
              rw [hget] at hu
              obtain rfl := Option.some.inj hu
              exact fun e => (unhide hNo) ⟨e.1, e.2.1⟩
            · exact unhide hno j u (by omega) hu
          case measure => first | (simp [intOf]; omega) | simp [intOf]
        · have hl2 : (t.ln == x) = false := by simpa using hl
          clear hpos hl
          go_wp2_with fail
          refine wp_region_noPanic ?_
          refine wp_region_held (S := fun w' => Below wr.heap.size wr w') mixed ?_
          refine wpAnyH_take (i := 0) (v := ?v105) rfl (by kernel_rfl) (by kernel_rfl) (by kernel_rfl) (fun _ _ _ h => h) (Or.inl ⟨by rfl, ?hy105⟩) hS0 ?_
          case hy105 => (intro w' hw'; skip; go_simp; try with_reducible rfl)
          simp only [List.getElem_toArray, List.getElem_cons_zero, List.getElem_cons_succ, Act.put, List.setIfInBounds_toArray, List.set_cons_zero, List.set_cons_succ]
          refine wpAnyH_take (i := 1) (v := ?v106) rfl (by kernel_rfl) (by kernel_rfl) (by kernel_rfl) (fun _ _ _ h => h) (Or.inl ⟨by rfl, ?hy106⟩) hS0 ?_
          case hy106 => (intro w' hw'; skip; go_simp; try with_reducible rfl)
          simp only [List.getElem_toArray, List.getElem_cons_zero, List.getElem_cons_succ, Act.put, List.setIfInBounds_toArray, List.set_cons_zero, List.set_cons_succ]
          refine wpAnyH_take (i := 2) (v := ?v107) rfl (by kernel_rfl) (by kernel_rfl) (by kernel_rfl) (fun _ _ _ h => h) (Or.inl ⟨by rfl, ?hy107⟩) hS0 ?_
          case hy107 => (intro w' hw'; skip; go_simp; try with_reducible rfl)
          simp only [List.getElem_toArray, List.getElem_cons_zero, List.getElem_cons_succ, Act.put, List.setIfInBounds_toArray, List.set_cons_zero, List.set_cons_succ]
          refine wpAnyH_take (i := 3) (v := ?v108) rfl (by kernel_rfl) (by kernel_rfl) (by kernel_rfl) (fun _ _ _ h => h) (Or.inl ⟨by rfl, ?hy108⟩) hS0 ?_
          case hy108 => (intro w' hw'; skip; go_simp; try with_reducible rfl)
          simp only [List.getElem_toArray, List.getElem_cons_zero, List.getElem_cons_succ, Act.put, List.setIfInBounds_toArray, List.set_cons_zero, List.set_cons_succ]
          refine wpAnyH_take (i := 4) (v := ?v109) rfl (by kernel_rfl) (by kernel_rfl) (by kernel_rfl) (fun _ _ _ h => h) (Or.inl ⟨by rfl, ?hy109⟩) hS0 ?_
          case hy109 => (intro w' hw'; have m1' := (hw'.cell (p := ⟨p, k * 7 + 1, none⟩) hq1).trans m1; have m2' := (hw'.cell (p := ⟨p, k * 7 + 2, none⟩) hq1).trans m2; go_simp; try with_reducible rfl)
          simp only [List.getElem_toArray, List.getElem_cons_zero, List.getElem_cons_succ, Act.put, List.setIfInBounds_toArray, List.set_cons_zero, List.set_cons_succ]
          refine wpAnyH_take (i := 5) (v := ?v110) rfl (by kernel_rfl) (by kernel_rfl) (by kernel_rfl) (fun _ _ _ h => h) (Or.inl ⟨by rfl, ?hy110⟩) hS0 ?_
          case hy110 => (intro w' hw'; have x0' := (hw'.cell (p := ⟨w.heap.size, 0, none⟩) hq0).trans x0; have x1' := (hw'.cell (p := ⟨w.heap.size, 1, none⟩) hq0).trans x1; go_simp; try with_reducible rfl)
          simp only [List.getElem_toArray, List.getElem_cons_zero, List.getElem_cons_succ, Act.put, List.setIfInBounds_toArray, List.set_cons_zero, List.set_cons_succ]
          refine wpAnyH_take (i := 6) (v := ?v111) rfl (by kernel_rfl) (by kernel_rfl) (by kernel_rfl) (fun _ _ _ h => h) (Or.inl ⟨by rfl, ?hy111⟩) hS0 ?_
          case hy111 => (intro w' hw'; skip; go_simp; try with_reducible rfl)
          simp only [List.getElem_toArray, List.getElem_cons_zero, List.getElem_cons_succ, Act.put, List.setIfInBounds_toArray, List.set_cons_zero, List.set_cons_succ]
          refine wpAnyH_take (i := 7) (v := ?v112) rfl (by kernel_rfl) (by kernel_rfl) (by kernel_rfl) (fun _ _ _ h => h) (Or.inl ⟨by rfl, ?hy112⟩) hS0 ?_
          case hy112 => (intro w' hw'; skip; go_simp; try with_reducible rfl)
          simp only [List.getElem_toArray, List.getElem_cons_zero, List.getElem_cons_succ, Act.put, List.setIfInBounds_toArray, List.set_cons_zero, List.set_cons_succ]
          refine wpAnyH_take (i := 8) (v := undef) rfl (by kernel_rfl) (by kernel_rfl) (by kernel_rfl) (fun _ _ _ h => h) (Or.inr ⟨by rfl, rfl⟩) hS0 ?_
          simp only [List.getElem_toArray, List.getElem_cons_zero, List.getElem_cons_succ, Act.put, List.setIfInBounds_toArray, List.set_cons_zero, List.set_cons_succ]
          refine wpAnyH_take (i := 9) (v := undef) rfl (by kernel_rfl) (by kernel_rfl) (by kernel_rfl) (fun _ _ _ h => h) (Or.inr ⟨by rfl, rfl⟩) hS0 ?_
          simp only [List.getElem_toArray, List.getElem_cons_zero, List.getElem_cons_succ, Act.put, List.setIfInBounds_toArray, List.set_cons_zero, List.set_cons_succ]
          refine wpAnyH_take (i := 10) (v := undef) rfl (by kernel_rfl) (by kernel_rfl) (by kernel_rfl) (fun _ _ _ h => h) (Or.inr ⟨by rfl, rfl⟩) hS0 ?_
          simp only [List.getElem_toArray, List.getElem_cons_zero, List.getElem_cons_succ, Act.put, List.setIfInBounds_toArray, List.set_cons_zero, List.set_cons_succ]
          refine wpAnyH_take (i := 11) (v := undef) rfl (by kernel_rfl) (by kernel_rfl) (by kernel_rfl) (fun _ _ _ h => h) (Or.inr ⟨by rfl, rfl⟩) hS0 ?_
          simp only [List.getElem_toArray, List.getElem_cons_zero, List.getElem_cons_succ, Act.put, List.setIfInBounds_toArray, List.set_cons_zero, List.set_cons_succ]
          refine wpAnyH_take (i := 12) (v := undef) rfl (by kernel_rfl) (by kernel_rfl) (by kernel_rfl) (fun _ _ _ h => h) (Or.inr ⟨by rfl, rfl⟩) hS0 ?_
          simp only [List.getElem_toArray, List.getElem_cons_zero, List.getElem_cons_succ, Act.put, List.setIfInBounds_toArray, List.set_cons_zero, List.set_cons_succ]
          refine wpAnyH_take (i := 13) (v := undef) rfl (by kernel_rfl) (by kernel_rfl) (by kernel_rfl) (fun _ _ _ h => h) (Or.inr ⟨by rfl, rfl⟩) hS0 ?_
          simp only [List.getElem_toArray, List.getElem_cons_zero, List.getElem_cons_succ, Act.put, List.setIfInBounds_toArray, List.set_cons_zero, List.set_cons_succ]
          refine wpAnyH_take (i := 14) (v := ?v113) rfl (by kernel_rfl) (by kernel_rfl) (by kernel_rfl) (fun _ _ _ h => h) (Or.inl ⟨by rfl, ?hy113⟩) hS0 ?_
          case hy113 => (intro w' hw'; skip; go_simp; try with_reducible rfl)
          simp only [List.getElem_toArray, List.getElem_cons_zero, List.getElem_cons_succ, Act.put, List.setIfInBounds_toArray, List.set_cons_zero, List.set_cons_succ]
          refine wpAnyH_take (i := 15) (v := ?v114) rfl (by kernel_rfl) (by kernel_rfl) (by kernel_rfl) (fun _ _ _ h => h) (Or.inl ⟨by rfl, ?hy114⟩) hS0 ?_
          case hy114 => (intro w' hw'; skip; go_simp; try with_reducible rfl)
          simp only [List.getElem_toArray, List.getElem_cons_zero, List.getElem_cons_succ, Act.put, List.setIfInBounds_toArray, List.set_cons_zero, List.set_cons_succ]
          refine wpAnyH_take (i := 16) (v := undef) rfl (by kernel_rfl) (by kernel_rfl) (by kernel_rfl) (fun _ _ _ h => h) (Or.inr ⟨by rfl, rfl⟩) hS0 ?_
          simp only [List.getElem_toArray, List.getElem_cons_zero, List.getElem_cons_succ, Act.put, List.setIfInBounds_toArray, List.set_cons_zero, List.set_cons_succ]
          refine wpAnyH_take (i := 17) (v := undef) rfl (by kernel_rfl) (by kernel_rfl) (by kernel_rfl) (fun _ _ _ h => h) (Or.inr ⟨by rfl, rfl⟩) hS0 ?_
          simp only [List.getElem_toArray, List.getElem_cons_zero, List.getElem_cons_succ, Act.put, List.setIfInBounds_toArray, List.set_cons_zero, List.set_cons_succ]
          refine wpAnyH_take (i := 18) (v := undef) rfl (by kernel_rfl) (by kernel_rfl) (by kernel_rfl) (fun _ _ _ h => h) (Or.inr ⟨by rfl, rfl⟩) hS0 ?_
          simp only [List.getElem_toArray, List.getElem_cons_zero, List.getElem_cons_succ, Act.put, List.setIfInBounds_toArray, List.set_cons_zero, List.set_cons_succ]
          refine wpAnyH_take (i := 19) (v := undef) rfl (by kernel_rfl) (by kernel_rfl) (by kernel_rfl) (fun _ _ _ h => h) (Or.inr ⟨by rfl, rfl⟩) hS0 ?_
          simp only [List.getElem_toArray, List.getElem_cons_zero, List.getElem_cons_succ, Act.put, List.setIfInBounds_toArray, List.set_cons_zero, List.set_cons_succ]
          refine wpAnyH_take (i := 20) (v := undef) rfl (by kernel_rfl) (by kernel_rfl) (by kernel_rfl) (fun _ _ _ h => h) (Or.inr ⟨by rfl, rfl⟩) hS0 ?_
          simp only [List.getElem_toArray, List.getElem_cons_zero, List.getElem_cons_succ, Act.put, List.setIfInBounds_toArray, List.set_cons_zero, List.set_cons_succ]
          refine wpAnyH_take (i := 21) (v := undef) rfl (by kernel_rfl) (by kernel_rfl) (by kernel_rfl) (fun _ _ _ h => h) (Or.inr ⟨by rfl, rfl⟩) hS0 ?_
          simp only [List.getElem_toArray, List.getElem_cons_zero, List.getElem_cons_succ, Act.put, List.setIfInBounds_toArray, List.set_cons_zero, List.set_cons_succ]
          refine wpAnyH_take (i := 22) (v := ?v115) rfl (by kernel_rfl) (by kernel_rfl) (by kernel_rfl) (fun _ _ _ h => h) (Or.inl ⟨by rfl, ?hy115⟩) hS0 ?_
          case hy115 => (intro w' hw'; skip; go_simp; try with_reducible rfl)
          simp only [List.getElem_toArray, List.getElem_cons_zero, List.getElem_cons_succ, Act.put, List.setIfInBounds_toArray, List.set_cons_zero, List.set_cons_succ]
          refine wpAnyH_take (i := 23) (v := ?v116) rfl (by kernel_rfl) (by kernel_rfl) (by kernel_rfl) (fun _ _ _ h => h) (Or.inl ⟨by rfl, ?hy116⟩) hS0 ?_
          case hy116 => (intro w' hw'; skip; go_simp; try with_reducible rfl)
          simp only [List.getElem_toArray, List.getElem_cons_zero, List.getElem_cons_succ, Act.put, List.setIfInBounds_toArray, List.set_cons_zero, List.set_cons_succ]
          refine wpAnyH_take (i := 24) (v := undef) rfl (by kernel_rfl) (by kernel_rfl) (by kernel_rfl) (fun _ _ _ h => h) (Or.inr ⟨by rfl, rfl⟩) hS0 ?_
          simp only [List.getElem_toArray, List.getElem_cons_zero, List.getElem_cons_succ, Act.put, List.setIfInBounds_toArray, List.set_cons_zero, List.set_cons_succ]
          refine wpAnyH_take (i := 25) (v := undef) rfl (by kernel_rfl) (by kernel_rfl) (by kernel_rfl) (fun _ _ _ h => h) (Or.inr ⟨by rfl, rfl⟩) hS0 ?_
          simp only [List.getElem_toArray, List.getElem_cons_zero, List.getElem_cons_succ, Act.put, List.setIfInBounds_toArray, List.set_cons_zero, List.set_cons_succ]
          refine wpAnyH_take (i := 26) (v := undef) rfl (by kernel_rfl) (by kernel_rfl) (by kernel_rfl) (fun _ _ _ h => h) (Or.inr ⟨by rfl, rfl⟩) hS0 ?_
          simp only [List.getElem_toArray, List.getElem_cons_zero, List.getElem_cons_succ, Act.put, List.setIfInBounds_toArray, List.set_cons_zero, List.set_cons_succ]
          refine wpAnyH_take (i := 27) (v := undef) rfl (by kernel_rfl) (by kernel_rfl) (by kernel_rfl) (fun _ _ _ h => h) (Or.inr ⟨by rfl, rfl⟩) hS0 ?_
          simp only [List.getElem_toArray, List.getElem_cons_zero, List.getElem_cons_succ, Act.put, List.setIfInBounds_toArray, List.set_cons_zero, List.set_cons_succ]
          refine wpAnyH_take (i := 28) (v := undef) rfl (by kernel_rfl) (by kernel_rfl) (by kernel_rfl) (fun _ _ _ h => h) (Or.inr ⟨by rfl, rfl⟩) hS0 ?_
          simp only [List.getElem_toArray, List.getElem_cons_zero, List.getElem_cons_succ, Act.put, List.setIfInBounds_toArray, List.set_cons_zero, List.set_cons_succ]
          refine wpAnyH_take (i := 29) (v := undef) rfl (by kernel_rfl) (by kernel_rfl) (by kernel_rfl) (fun _ _ _ h => h) (Or.inr ⟨by rfl, rfl⟩) hS0 ?_
          simp only [List.getElem_toArray, List.getElem_cons_zero, List.getElem_cons_succ, Act.put, List.setIfInBounds_toArray, List.set_cons_zero, List.set_cons_succ]
          refine wpAnyH_take (i := 30) (v := undef) rfl (by kernel_rfl) (by kernel_rfl) (by kernel_rfl) (fun _ _ _ h => h) (Or.inr ⟨by rfl, rfl⟩) hS0 ?_
          simp only [List.getElem_toArray, List.getElem_cons_zero, List.getElem_cons_succ, Act.put, List.setIfInBounds_toArray, List.set_cons_zero, List.set_cons_succ]
          refine wpAnyH_take (i := 31) (v := undef) rfl (by kernel_rfl) (by kernel_rfl) (by kernel_rfl) (fun _ _ _ h => h) (Or.inr ⟨by rfl, rfl⟩) hS0 ?_
          simp only [List.getElem_toArray, List.getElem_cons_zero, List.getElem_cons_succ, Act.put, List.setIfInBounds_toArray, List.set_cons_zero, List.set_cons_succ]
          refine wpAnyH_take (i := 32) (v := ?v117) rfl (by kernel_rfl) (by kernel_rfl) (by kernel_rfl) (fun _ _ _ h => h) (Or.inl ⟨by rfl, ?hy117⟩) hS0 ?_
          case hy117 => (intro w' hw'; skip; go_simp; try with_reducible rfl)
          simp only [List.getElem_toArray, List.getElem_cons_zero, List.getElem_cons_succ, Act.put, List.setIfInBounds_toArray, List.set_cons_zero, List.set_cons_succ]
          refine wpAnyH_take (i := 33) (v := ?v118) rfl (by kernel_rfl) (by kernel_rfl) (by kernel_rfl) (fun _ _ _ h => h) (Or.inl ⟨by rfl, ?hy118⟩) hS0 ?_
          case hy118 => (intro w' hw'; skip; go_simp; try with_reducible rfl)
          simp only [List.getElem_toArray, List.getElem_cons_zero, List.getElem_cons_succ, Act.put, List.setIfInBounds_toArray, List.set_cons_zero, List.set_cons_succ]
          refine wpAnyH_take (i := 34) (v := undef) rfl (by kernel_rfl) (by kernel_rfl) (by kernel_rfl) (fun _ _ _ h => h) (Or.inr ⟨by rfl, rfl⟩) hS0 ?_
          simp only [List.getElem_toArray, List.getElem_cons_zero, List.getElem_cons_succ, Act.put, List.setIfInBounds_toArray, List.set_cons_zero, List.set_cons_succ]
          refine wpAnyH_take (i := 35) (v := undef) rfl (by kernel_rfl) (by kernel_rfl) (by kernel_rfl) (fun _ _ _ h => h) (Or.inr ⟨by rfl, rfl⟩) hS0 ?_
          simp only [List.getElem_toArray, List.getElem_cons_zero, List.getElem_cons_succ, Act.put, List.setIfInBounds_toArray, List.set_cons_zero, List.set_cons_succ]
          refine wpAnyH_take (i := 36) (v := undef) rfl (by kernel_rfl) (by kernel_rfl) (by kernel_rfl) (fun _ _ _ h => h) (Or.inr ⟨by rfl, rfl⟩) hS0 ?_
          simp only [List.getElem_toArray, List.getElem_cons_zero, List.getElem_cons_succ, Act.put, List.setIfInBounds_toArray, List.set_cons_zero, List.set_cons_succ]
          refine wpAnyH_take (i := 37) (v := undef) rfl (by kernel_rfl) (by kernel_rfl) (by kernel_rfl) (fun _ _ _ h => h) (Or.inr ⟨by rfl, rfl⟩) hS0 ?_
          simp only [List.getElem_toArray, List.getElem_cons_zero, List.getElem_cons_succ, Act.put, List.setIfInBounds_toArray, List.set_cons_zero, List.set_cons_succ]
          refine wpAnyH_take (i := 38) (v := undef) rfl (by kernel_rfl) (by kernel_rfl) (by kernel_rfl) (fun _ _ _ h => h) (Or.inr ⟨by rfl, rfl⟩) hS0 ?_
          simp only [List.getElem_toArray, List.getElem_cons_zero, List.getElem_cons_succ, Act.put, List.setIfInBounds_toArray, List.set_cons_zero, List.set_cons_succ]
          refine wpAnyH_take (i := 39) (v := undef) rfl (by kernel_rfl) (by kernel_rfl) (by kernel_rfl) (fun _ _ _ h => h) (Or.inr ⟨by rfl, rfl⟩) hS0 ?_
          simp only [List.getElem_toArray, List.getElem_cons_zero, List.getElem_cons_succ, Act.put, List.setIfInBounds_toArray, List.set_cons_zero, List.set_cons_succ]
          refine wpAnyH_take (i := 40) (v := ?v119) rfl (by kernel_rfl) (by kernel_rfl) (by kernel_rfl) (fun _ _ _ h => h) (Or.inl ⟨by rfl, ?hy119⟩) hS0 ?_
          case hy119 => (intro w' hw'; skip; go_simp; try with_reducible rfl)
          simp only [List.getElem_toArray, List.getElem_cons_zero, List.getElem_cons_succ, Act.put, List.setIfInBounds_toArray, List.set_cons_zero, List.set_cons_succ]
          refine wpAnyH_done (by kernel_rfl) ?_ _; refine NoPanic.normal ?_
          go_wp2_with fail
          go_roundw
          case rel =>
            refine ⟨k + 1, by omega, by go_num, hide (fun j u hj hu => ?_), hb.trans (hS0.mono hb.size)⟩
            by_cases e : j = k
            · subst e
              rw [hget] at hu
              obtain rfl := Option.some.inj hu
              exact fun e => (unhide hNo) ⟨e.1, e.2.1⟩
            · exact unhide hno j u (by omega) hu
          case measure => first | (simp [intOf]; omega) | simp [intOf]
    · obtain rfl : k = (toks z).length := by omega
      have hup := hide (show upW (toks z) x y = none from by
        unfold upW
        rw [List.find?_eq_none]
        intro t ht e
        obtain ⟨j, hj, rfl⟩ := List.mem_iff_getElem.1 ht
        exact unhide hno j _ hj (List.getElem?_eq_getElem hj) (of_decide_eq_true e))
      have ki : ¬ ((toks z).length : Int) < ((toks z).length : Int) := by omega
      go_wp2_with fail
      go_ret2
      refine ⟨?_, bw2.trans (hb.mono bw2.size)⟩
      unfold upR
      rw [unhide hup]
      rfl
end Go.Proofs.Ytgphiollpbahgaa.cu
namespace Go.Proofs.Ytgphiollpbahgaa.cu
open Go.ChangeShapes Go.WideShapes Go.ChangeAt Go.RowKit
open ints (hide unhide)
open dt (Dt Kp RowAt Ow)
set_option linter.unusedVariables false
set_option linter.unusedSimpArgs false
def sA : List Int := [91, 49, 44, 32, 123, 97, 58, 32, 36, 98, 125, 93]
def sB : List Int := [91, 91, 73, 110, 116, 33, 93, 93, 33]
def dA : Dt := litD 8 em false (Dt.of [litD 2 ⟨#[49]⟩ false .nil .nil 1 2, litD 9 em false .nil (Dt.of [fldD ⟨#[97]⟩ (litD 1 ⟨#[98]⟩ false .nil .nil 1 9) 1 6]) 1 5]) .nil 1 1
theorem fx1 : (readL sA false 2).1 = some dA := by kernel_rfl
theorem fx2 : (readL sA false 2).2.kd = 0 := by kernel_rfl
theorem fx3 : (readL sA true 2).2.kd = 70 ∧ (readL sA true 2).2.tok.ln = 1 ∧ (readL sA true 2).2.tok.co = 9 ∧ (readL sA true 2).1.isSome = false := by
  refine ⟨?_, ?_, ?_, ?_⟩ <;> kernel_rfl
theorem fx4 : (readT sB 2).1 = some (⟨#[73, 110, 116]⟩, ⟨#[33, 93, 93, 33]⟩) := by kernel_rfl
theorem fx5 : (readT sB 2).2.kd = 0 := by kernel_rfl
theorem sA_plain : lx.Plain sA := by unfold lx.Plain; decide
theorem sB_plain : lx.Plain sB := by unfold lx.Plain; decide
/-- a row of bytes that has just been laid -/
theorem row_new (w : World) (l : List Int) (t : TypeId) (fr : Nat × Nat) : mem.Row .u8 (w.alloc (.cells (l.map (Value.int .u8)).toArray t fr)) (some ⟨w.heap.size, 0, none⟩) l.length l.length l := by
  refine ⟨rfl, Nat.le_refl _, (fun e => by cases e), ?_⟩
  refine .inr ⟨w.heap.size, 0, rfl, by simp, fun i hi => ?_⟩
  rw [dt.cell_cells (heap_alloc_new w _)]
  simp [hi]
/-- what is read of the first fixed source -/
theorem dA_cells {w : World} {cs : List Value} {F : List Nat} (hs : LShape cs) (h : Ow w dA cs F) : ∃ p1 c1 p2 c2 af nf cf ln co, cs = [.int .i64 8, .string em, .bool false, .slice (some ⟨p1, 0, none⟩) 2 c1, .slice af nf cf, .int .i64 ln, .int .i64 co] ∧ p1 ∈ F ∧ p2 ∈ F ∧
    w.cell? ⟨p1, 1, none⟩ = some (.string ⟨#[49]⟩) ∧ w.cell? ⟨p1, 7, none⟩ = some (.int .i64 9) ∧ w.cell? ⟨p1, 11, none⟩ = some (.slice (some ⟨p2, 0, none⟩) 1 c2) ∧ w.cell? ⟨p2, 1, none⟩ = some (.int .i64 1) := by
  obtain ⟨k, tx, bl, ai, ni, ci, af, nf, cf, ln, co, rfl⟩ := hs
  unfold dA litD at h
  unfold Ow at h
  obtain ⟨ds, e, -, h⟩ := h
  obtain ⟨e1, rfl⟩ := List.cons.inj e
  simp only [Value.int.injEq, true_and] at e1
  subst e1
  unfold Ow at h
  obtain ⟨ds, e, -, h⟩ := h
  obtain ⟨e1, rfl⟩ := List.cons.inj e
  simp only [Value.string.injEq, true_and] at e1
  subst e1
  unfold Ow at h
  obtain ⟨ds, e, -, h⟩ := h
  obtain ⟨e1, rfl⟩ := List.cons.inj e
  simp only [Value.bool.injEq, true_and] at e1
  subst e1
  unfold Ow at h
  obtain ⟨a, n, c, ds, F1, F2, e, hn, hc, ha, h4, h5, rfl⟩ := h
  obtain ⟨e1, rfl⟩ := List.cons.inj e
  simp only [Value.slice.injEq] at e1
  obtain ⟨rfl, rfl, rfl⟩ := e1
  clear h5 ha hc hn
  rcases h4 with ⟨-, e, -⟩ | ⟨p1, G1, rfl, rfl, h4⟩
  · cases e
  obtain ⟨l1, l2⟩ := dt.OwIn.get _ 7 p1 0 ni G1 h4
  obtain rfl : ni = 2 := l1.symm
  obtain ⟨r0, g0, s0, s0l, o0, -⟩ := l2 0 _ rfl
  obtain ⟨r1, g1, s1, s1l, o1, sub1⟩ := l2 1 _ rfl
  unfold Ow at o0
  obtain ⟨ds0, rfl, -, o0⟩ := o0
  unfold Ow at o0
  obtain ⟨ds1, rfl, -, o0⟩ := o0
  unfold Ow at o1
  obtain ⟨es0, rfl, -, o1⟩ := o1
  unfold Ow at o1
  obtain ⟨es1, rfl, -, o1⟩ := o1
  unfold Ow at o1
  obtain ⟨es2, rfl, -, o1⟩ := o1
  unfold Ow at o1
  obtain ⟨b1, m1, k1, es3, H1, H2, rfl, -, -, -, -, o1, rfl⟩ := o1
  unfold Ow at o1
  obtain ⟨b2, m2, k2, es4, H3, H4, rfl, -, -, -, o2, o3, rfl⟩ := o1
  rcases o2 with ⟨-, e, -⟩ | ⟨p2, G2, rfl, rfl, o2⟩
  · cases e
  obtain ⟨m1', m2'⟩ := dt.OwIn.get _ 10 p2 0 m2 G2 o2
  obtain rfl : m2 = 1 := m1'.symm
  obtain ⟨f0, g2, s2, s2l, o4, -⟩ := m2' 0 _ rfl
  unfold fldD at o4
  unfold Ow at o4
  obtain ⟨fs0, rfl, -, o4⟩ := o4
  unfold app at o4
  unfold Ow at o4
  obtain ⟨fs1, rfl, -, o4⟩ := o4
  refine ⟨p1, ci, p2, k2, af, nf, cf, ln, co, rfl, by simp, ?_, ?_, ?_, ?_, ?_⟩
  · have := sub1 p2 (by simp); simp [this]
  · have := s0 1 _ rfl; simpa using this
  · have := s1 0 _ rfl; simpa using this
  · have := s1 4 _ rfl; simpa using this
  · have := s2 1 _ rfl; simpa using this
end Go.Proofs.Ytgphiollpbahgaa.cu
namespace Go.Proofs.Ytgphiollpbahgaa.cu
open Go.ChangeShapes Go.WideShapes Go.ChangeAt Go.RowKit
open ints (hide unhide)
open dt (Dt Kp RowAt Ow)
set_option linter.unusedVariables false
set_option linter.unusedSimpArgs false
theorem litA_ok (ct : Bool) (W : World) (N : Nat) (hN : N = W.heap.size) : Calls Try.prog 6 #[.slice (some ⟨N, 0, none⟩) 12 12, .bool ct, .int .i64 2] (W.alloc (.cells #[Value.int .u8 91, Value.int .u8 49, Value.int .u8 44, Value.int .u8 32, Value.int .u8 123, Value.int .u8 97, Value.int .u8 58, Value.int .u8 32, Value.int .u8 36, Value.int .u8 98, Value.int .u8 125, Value.int .u8 93] 5 (12, 13))) fun e w' => ∃ cs F fs, e = .returned (.tuple #[.agg cs.toArray, .agg fs.toArray]) ∧ LitPost ((readL sA ct 2).1.getD zeroD) (W.alloc (.cells #[Value.int .u8 91, Value.int .u8 49, Value.int .u8 44, Value.int .u8 32, Value.int .u8 123, Value.int .u8 97, Value.int .u8 58, Value.int .u8 32, Value.int .u8 36, Value.int .u8 98, Value.int .u8 125, Value.int .u8 93] 5 (12, 13))) w' cs F ∧ FltAt (W.alloc (.cells #[Value.int .u8 91, Value.int .u8 49, Value.int .u8 44, Value.int .u8 32, Value.int .u8 123, Value.int .u8 97, Value.int .u8 58, Value.int .u8 32, Value.int .u8 36, Value.int .u8 98, Value.int .u8 125, Value.int .u8 93] 5 (12, 13))).heap.size w' (readL sA ct 2).2 fs ∧ Below (W.alloc (.cells #[Value.int .u8 91, Value.int .u8 49, Value.int .u8 44, Value.int .u8 32, Value.int .u8 123, Value.int .u8 97, Value.int .u8 58, Value.int .u8 32, Value.int .u8 36, Value.int .u8 98, Value.int .u8 125, Value.int .u8 93] 5 (12, 13))).heap.size (W.alloc (.cells #[Value.int .u8 91, Value.int .u8 49, Value.int .u8 44, Value.int .u8 32, Value.int .u8 123, Value.int .u8 97, Value.int .u8 58, Value.int .u8 32, Value.int .u8 36, Value.int .u8 98, Value.int .u8 125, Value.int .u8 93] 5 (12, 13))) w' := by
  subst hN
  exact readLit_ok (some ⟨W.heap.size, 0, none⟩) 12 12 sA ct 2 (W.alloc (.cells #[Value.int .u8 91, Value.int .u8 49, Value.int .u8 44, Value.int .u8 32, Value.int .u8 123, Value.int .u8 97, Value.int .u8 58, Value.int .u8 32, Value.int .u8 36, Value.int .u8 98, Value.int .u8 125, Value.int .u8 93] 5 (12, 13))) (row_new W sA 5 (12, 13)) (by decide) sA_plain (by rfl)
theorem typB_ok (W : World) (N : Nat) (hN : N = W.heap.size) : Calls Try.prog 10 #[.slice (some ⟨N, 0, none⟩) 9 9, .int .i64 2] (W.alloc (.cells #[Value.int .u8 91, Value.int .u8 91, Value.int .u8 73, Value.int .u8 110, Value.int .u8 116, Value.int .u8 33, Value.int .u8 93, Value.int .u8 93, Value.int .u8 33] 5 (9, 10))) fun e w' => e = .returned (.tuple #[.agg #[Value.string ⟨#[73, 110, 116]⟩, .string ⟨#[33, 93, 93, 33]⟩], .agg #[Value.int .i64 0, .slice none 0 0, .slice none 0 0]]) ∧ Below (W.alloc (.cells #[Value.int .u8 91, Value.int .u8 91, Value.int .u8 73, Value.int .u8 110, Value.int .u8 116, Value.int .u8 33, Value.int .u8 93, Value.int .u8 93, Value.int .u8 33] 5 (9, 10))).heap.size (W.alloc (.cells #[Value.int .u8 91, Value.int .u8 91, Value.int .u8 73, Value.int .u8 110, Value.int .u8 116, Value.int .u8 33, Value.int .u8 93, Value.int .u8 93, Value.int .u8 33] 5 (9, 10))) w' := by
  subst hN
  have h := readType_ok (some ⟨W.heap.size, 0, none⟩) 9 9 sB 2 (W.alloc (.cells #[Value.int .u8 91, Value.int .u8 91, Value.int .u8 73, Value.int .u8 110, Value.int .u8 116, Value.int .u8 33, Value.int .u8 93, Value.int .u8 93, Value.int .u8 33] 5 (9, 10))) (row_new W sB 5 (9, 10)) (by decide) sB_plain (by rfl)
  refine h.mono ?_
  rintro e w2 ⟨fs, rfl, hfl, b2⟩
  rw [fx4]
  unfold FltAt at hfl
  rw [if_pos fx5] at hfl
  subst hfl
  exact ⟨rfl, b2⟩
/-- the first fixed answers, in plain words -/
theorem litA1 (W : World) (N : Nat) (hN : N = W.heap.size) : Calls Try.prog 6 #[.slice (some ⟨N, 0, none⟩) 12 12, .bool false, .int .i64 2] (W.alloc (.cells #[Value.int .u8 91, Value.int .u8 49, Value.int .u8 44, Value.int .u8 32, Value.int .u8 123, Value.int .u8 97, Value.int .u8 58, Value.int .u8 32, Value.int .u8 36, Value.int .u8 98, Value.int .u8 125, Value.int .u8 93] 5 (12, 13))) fun e w' => ∃ p1 c1 p2 c2 af nf cf ln co, e = .returned (.tuple #[.agg #[Value.int .i64 8, .string em, .bool false, .slice (some ⟨p1, 0, none⟩) 2 c1, .slice af nf cf, .int .i64 ln, .int .i64 co], .agg #[Value.int .i64 0, .slice none 0 0, .slice none 0 0]]) ∧ p1 < w'.heap.size ∧ p2 < w'.heap.size ∧
    w'.cell? ⟨p1, 1, none⟩ = some (.string ⟨#[49]⟩) ∧ w'.cell? ⟨p1, 7, none⟩ = some (.int .i64 9) ∧ w'.cell? ⟨p1, 11, none⟩ = some (.slice (some ⟨p2, 0, none⟩) 1 c2) ∧ w'.cell? ⟨p2, 1, none⟩ = some (.int .i64 1) ∧ Below (W.alloc (.cells #[Value.int .u8 91, Value.int .u8 49, Value.int .u8 44, Value.int .u8 32, Value.int .u8 123, Value.int .u8 97, Value.int .u8 58, Value.int .u8 32, Value.int .u8 36, Value.int .u8 98, Value.int .u8 125, Value.int .u8 93] 5 (12, 13))).heap.size (W.alloc (.cells #[Value.int .u8 91, Value.int .u8 49, Value.int .u8 44, Value.int .u8 32, Value.int .u8 123, Value.int .u8 97, Value.int .u8 58, Value.int .u8 32, Value.int .u8 36, Value.int .u8 98, Value.int .u8 125, Value.int .u8 93] 5 (12, 13))) w' := by
  refine (litA_ok false W N hN).mono ?_
  rintro e w1 ⟨cs, F, fs, rfl, hpo, hfl, b1⟩
  rw [fx1] at hpo
  obtain ⟨p1, c1, p2, c2, af, nf, cf, ln, co, rfl, hp1, hp2, z1, z2, z3, z4⟩ := dA_cells hpo.shape hpo.own
  unfold FltAt at hfl
  rw [if_pos fx2] at hfl
  subst hfl
  exact ⟨p1, c1, p2, c2, af, nf, cf, ln, co, rfl, (hpo.rng p1 hp1).2, (hpo.rng p2 hp2).2, z1, z2, z3, z4, b1⟩
theorem litA2 (W : World) (N : Nat) (hN : N = W.heap.size) : Calls Try.prog 6 #[.slice (some ⟨N, 0, none⟩) 12 12, .bool true, .int .i64 2] (W.alloc (.cells #[Value.int .u8 91, Value.int .u8 49, Value.int .u8 44, Value.int .u8 32, Value.int .u8 123, Value.int .u8 97, Value.int .u8 58, Value.int .u8 32, Value.int .u8 36, Value.int .u8 98, Value.int .u8 125, Value.int .u8 93] 5 (12, 13))) fun e w' => ∃ b k tx bl ai ni ci af nf cf ln co, e = .returned (.tuple #[.agg #[.int .i64 k, .string tx, .bool bl, .slice ai ni ci, .slice af nf cf, .int .i64 ln, .int .i64 co], .agg #[.int .i64 70, .slice (some ⟨b, 0, none⟩) 1 1, .slice none 0 0]]) ∧ b < w'.heap.size ∧ w'.cell? ⟨b, 1, none⟩ = some (.int .i64 9) ∧ Below (W.alloc (.cells #[Value.int .u8 91, Value.int .u8 49, Value.int .u8 44, Value.int .u8 32, Value.int .u8 123, Value.int .u8 97, Value.int .u8 58, Value.int .u8 32, Value.int .u8 36, Value.int .u8 98, Value.int .u8 125, Value.int .u8 93] 5 (12, 13))).heap.size (W.alloc (.cells #[Value.int .u8 91, Value.int .u8 49, Value.int .u8 44, Value.int .u8 32, Value.int .u8 123, Value.int .u8 97, Value.int .u8 58, Value.int .u8 32, Value.int .u8 36, Value.int .u8 98, Value.int .u8 125, Value.int .u8 93] 5 (12, 13))) w' := by
  refine (litA_ok true W N hN).mono ?_
  rintro e w1 ⟨cs, F, fs, rfl, hpo, hfl, b1⟩
  obtain ⟨k, tx, bl, ai, ni, ci, af, nf, cf, ln, co, rfl⟩ := hpo.shape
  unfold FltAt at hfl
  rw [if_neg (by rw [fx3.1]; decide), fx3.1, fx3.2.1, fx3.2.2.1] at hfl
  obtain ⟨b, h1, h2, rfl, h4, h5⟩ := hfl
  exact ⟨b, k, tx, bl, ai, ni, ci, af, nf, cf, ln, co, rfl, h2, h5, b1⟩
set_option maxRecDepth 10000 in
set_option maxHeartbeats 4000000 in
theorem fixed_ok (w : World) : Calls Try.prog 5 #[] w fun e w' => e = .returned (.bool true) ∧ Below w.heap.size w w' := by
  have kc := fun (w : World) (C : Array Value) (n c : Nat) => Lib.run_convert_bytes_const (P := Try.prog) w 22 5 C n c Try.underlying22 Try.underlying5
  go_enter Try.func5, Try.ntmps5
  go_wp2_with fail
  refine (litA1 w w.heap.size rfl).mono ?_
  rintro e w1 ⟨p1, c1, p2, c2, af, nf, cf, ln, co, rfl, hq1, hq2, z1, z2, z3, z4, b1⟩
  have bw1 : Below w.heap.size w w1 := ((Below.refl _ _).alloc (Nat.le_refl _) _).trans (b1.mono (by simp))
  clear b1
  have kc1 := fun (o o' : Obj) (C : Array Value) (n c : Nat) => by simpa using kc ((w1.alloc o).alloc o') C n c
  go_wp2_with fail
  have hX1 : ((w1.alloc (.cells #[Value.int .i64 8, .string em, .bool false, .slice (some ⟨p1, 0, none⟩) 2 c1, .slice af nf cf, .int .i64 ln, .int .i64 co] 30)).alloc (.cells #[Value.int .i64 0, .slice none 0 0, .slice none 0 0] 35)).heap[w1.heap.size]? = some (.cells #[Value.int .i64 8, .string em, .bool false, .slice (some ⟨p1, 0, none⟩) 2 c1, .slice af nf cf, .int .i64 ln, .int .i64 co] 30 (0, 0)) := (Below.heap_alloc _ _ w1.heap.size (by simp)).trans (heap_alloc_new w1 _)
  have hX2 : ((w1.alloc (.cells #[Value.int .i64 8, .string em, .bool false, .slice (some ⟨p1, 0, none⟩) 2 c1, .slice af nf cf, .int .i64 ln, .int .i64 co] 30)).alloc (.cells #[Value.int .i64 0, .slice none 0 0, .slice none 0 0] 35)).heap[w1.heap.size + 1]? = some (.cells #[Value.int .i64 0, .slice none 0 0, .slice none 0 0] 35 (0, 0)) := by
    have := heap_alloc_new (w1.alloc (.cells #[Value.int .i64 8, .string em, .bool false, .slice (some ⟨p1, 0, none⟩) 2 c1, .slice af nf cf, .int .i64 ln, .int .i64 co] 30)) (.cells #[Value.int .i64 0, .slice none 0 0, .slice none 0 0] 35)
    simpa using this
  have hX0 : w1.heap.size + 1 + 1 = ((w1.alloc (.cells #[Value.int .i64 8, .string em, .bool false, .slice (some ⟨p1, 0, none⟩) 2 c1, .slice af nf cf, .int .i64 ln, .int .i64 co] 30)).alloc (.cells #[Value.int .i64 0, .slice none 0 0, .slice none 0 0] 35)).heap.size := by simp
  have bX : Below w1.heap.size w1 ((w1.alloc (.cells #[Value.int .i64 8, .string em, .bool false, .slice (some ⟨p1, 0, none⟩) 2 c1, .slice af nf cf, .int .i64 ln, .int .i64 co] 30)).alloc (.cells #[Value.int .i64 0, .slice none 0 0, .slice none 0 0] 35)) := ((Below.refl _ _).alloc (Nat.le_refl _) _).alloc (by simp) _
  obtain ⟨X1, e1⟩ : ∃ X1, X1 = (w1.alloc (.cells #[Value.int .i64 8, .string em, .bool false, .slice (some ⟨p1, 0, none⟩) 2 c1, .slice af nf cf, .int .i64 ln, .int .i64 co] 30)).alloc (.cells #[Value.int .i64 0, .slice none 0 0, .slice none 0 0] 35) := ⟨_, rfl⟩
  rw [← e1] at hX1 hX2 hX0 bX ⊢
  clear e1 kc1
  refine (typB_ok X1 _ hX0).mono ?_
  rintro e w2 ⟨rfl, b2⟩
  have b12 : Below X1.heap.size X1 w2 := ((Below.refl _ _).alloc (Nat.le_refl _) _).trans (b2.mono (by simp))
  have kc2 := fun (o o' : Obj) (C : Array Value) (n c : Nat) => by simpa using kc ((w2.alloc o).alloc o') C n c
  have hX0' : w1.heap.size + 1 < X1.heap.size := by omega
  have hX0h := hide hX0
  clear hX0 b2
  go_wp2_with fail
  have hY1 : ((w2.alloc (.cells #[Value.string ⟨#[73, 110, 116]⟩, .string ⟨#[33, 93, 93, 33]⟩] 48)).alloc (.cells #[Value.int .i64 0, .slice none 0 0, .slice none 0 0] 35)).heap[w2.heap.size]? = some (.cells #[Value.string ⟨#[73, 110, 116]⟩, .string ⟨#[33, 93, 93, 33]⟩] 48 (0, 0)) := (Below.heap_alloc _ _ w2.heap.size (by simp)).trans (heap_alloc_new w2 _)
  have hY2 : ((w2.alloc (.cells #[Value.string ⟨#[73, 110, 116]⟩, .string ⟨#[33, 93, 93, 33]⟩] 48)).alloc (.cells #[Value.int .i64 0, .slice none 0 0, .slice none 0 0] 35)).heap[w2.heap.size + 1]? = some (.cells #[Value.int .i64 0, .slice none 0 0, .slice none 0 0] 35 (0, 0)) := by
    have := heap_alloc_new (w2.alloc (.cells #[Value.string ⟨#[73, 110, 116]⟩, .string ⟨#[33, 93, 93, 33]⟩] 48)) (.cells #[Value.int .i64 0, .slice none 0 0, .slice none 0 0] 35)
    simpa using this
  have hY0 : w2.heap.size + 1 + 1 = ((w2.alloc (.cells #[Value.string ⟨#[73, 110, 116]⟩, .string ⟨#[33, 93, 93, 33]⟩] 48)).alloc (.cells #[Value.int .i64 0, .slice none 0 0, .slice none 0 0] 35)).heap.size := by simp
  have bY : Below w2.heap.size w2 ((w2.alloc (.cells #[Value.string ⟨#[73, 110, 116]⟩, .string ⟨#[33, 93, 93, 33]⟩] 48)).alloc (.cells #[Value.int .i64 0, .slice none 0 0, .slice none 0 0] 35)) := ((Below.refl _ _).alloc (Nat.le_refl _) _).alloc (by simp) _
  obtain ⟨Y1, e1⟩ : ∃ Y1, Y1 = (w2.alloc (.cells #[Value.string ⟨#[73, 110, 116]⟩, .string ⟨#[33, 93, 93, 33]⟩] 48)).alloc (.cells #[Value.int .i64 0, .slice none 0 0, .slice none 0 0] 35) := ⟨_, rfl⟩
  rw [← e1] at hY1 hY2 hY0 bY ⊢
  clear e1 kc2 kc
  refine (litA2 Y1 _ hY0).mono ?_
  rintro e w3 ⟨b, k3, tx3, bl3, ai3, ni3, ci3, af3, nf3, cf3, ln3, co3, rfl, hb3, z5, b3⟩
  have b23 : Below Y1.heap.size Y1 w3 := ((Below.refl _ _).alloc (Nat.le_refl _) _).trans (b3.mono (by simp))
  have hY0' : w2.heap.size + 1 < Y1.heap.size := by omega
  have hY0h := hide hY0
  clear hY0 b3
  -- every block stands
  have g1 : ∀ (b' : Nat), b' < w1.heap.size → ∀ o o', ((w3.alloc o).alloc o').heap[b']? = w1.heap[b']? := fun b' h' o o' => by
    have s1 : w1.heap.size ≤ X1.heap.size := by omega
    have s2 := b12.size
    have s3 : w2.heap.size ≤ Y1.heap.size := by omega
    have s4 := b23.size
    rw [Below.heap_alloc (w3.alloc o) o' b' (by simp; omega), Below.heap_alloc w3 o b' (by omega), b23.block b' (by omega), bY.block b' (by omega), b12.block b' (by omega), bX.block b' h']
  have g2 : ∀ (b' : Nat), b' < X1.heap.size → ∀ o o', ((w3.alloc o).alloc o').heap[b']? = X1.heap[b']? := fun b' h' o o' => by
    have s2 := b12.size
    have s3 : w2.heap.size ≤ Y1.heap.size := by omega
    have s4 := b23.size
    rw [Below.heap_alloc (w3.alloc o) o' b' (by simp; omega), Below.heap_alloc w3 o b' (by omega), b23.block b' (by omega), bY.block b' (by omega), b12.block b' (by omega)]
  have g3 : ∀ (b' : Nat), b' < Y1.heap.size → ∀ o o', ((w3.alloc o).alloc o').heap[b']? = Y1.heap[b']? := fun b' h' o o' => by
    have s4 := b23.size
    rw [Below.heap_alloc (w3.alloc o) o' b' (by simp; omega), Below.heap_alloc w3 o b' (by omega), b23.block b' (by omega)]
  have f0 : ∀ o o', ((w3.alloc o).alloc o').cell? ⟨w1.heap.size + 1, 0, none⟩ = some (.int .i64 0) := fun o o' => (dt.cell_cells ((g2 _ hX0' o o').trans hX2) 0).trans rfl
  have v0 : ∀ o o', ((w3.alloc o).alloc o').cell? ⟨w1.heap.size, 0, none⟩ = some (.int .i64 8) := fun o o' => (dt.cell_cells ((g2 _ (by omega) o o').trans hX1) 0).trans rfl
  have v3 : ∀ o o', ((w3.alloc o).alloc o').cell? ⟨w1.heap.size, 3, none⟩ = some (.slice (some ⟨p1, 0, none⟩) 2 c1) := fun o o' => (dt.cell_cells ((g2 _ (by omega) o o').trans hX1) 3).trans rfl
  have y1 : ∀ o o', ((w3.alloc o).alloc o').cell? ⟨p1, 1, none⟩ = some (.string ⟨#[49]⟩) := fun o o' => (dt.cell_blk (g1 p1 hq1 o o') 1).trans z1
  have y2 : ∀ o o', ((w3.alloc o).alloc o').cell? ⟨p1, 7, none⟩ = some (.int .i64 9) := fun o o' => (dt.cell_blk (g1 p1 hq1 o o') 7).trans z2
  have y3 : ∀ o o', ((w3.alloc o).alloc o').cell? ⟨p1, 11, none⟩ = some (.slice (some ⟨p2, 0, none⟩) 1 c2) := fun o o' => (dt.cell_blk (g1 p1 hq1 o o') 11).trans z3
  have y4 : ∀ o o', ((w3.alloc o).alloc o').cell? ⟨p2, 1, none⟩ = some (.int .i64 1) := fun o o' => (dt.cell_blk (g1 p2 hq2 o o') 1).trans z4
  have gk : ∀ o o', ((w3.alloc o).alloc o').cell? ⟨w2.heap.size + 1, 0, none⟩ = some (.int .i64 0) := fun o o' => (dt.cell_cells ((g3 _ hY0' o o').trans hY2) 0).trans rfl
  have r0 : ∀ o o', ((w3.alloc o).alloc o').cell? ⟨w2.heap.size, 0, none⟩ = some (.string ⟨#[73, 110, 116]⟩) := fun o o' => (dt.cell_cells ((g3 _ (by omega) o o').trans hY1) 0).trans rfl
  have r1 : ∀ o o', ((w3.alloc o).alloc o').cell? ⟨w2.heap.size, 1, none⟩ = some (.string ⟨#[33, 93, 93, 33]⟩) := fun o o' => (dt.cell_cells ((g3 _ (by omega) o o').trans hY1) 1).trans rfl
  have y5 : ∀ o o', ((w3.alloc o).alloc o').cell? ⟨b, 1, none⟩ = some (.int .i64 9) := fun o o' => ((((Below.refl w3.heap.size w3).alloc (Nat.le_refl _) o).alloc (by simp) o').cell (p := ⟨b, 1, none⟩) hb3).trans z5
  have hfin : Below w.heap.size w w3 := bw1.trans ((bX.trans ((b12.mono bX.size).trans ((bY.mono (Nat.le_trans bX.size b12.size)).trans (b23.mono (Nat.le_trans (Nat.le_trans bX.size b12.size) bY.size))))).mono bw1.size)
  have HF := hide hfin
  clear g1 g2 g3 z1 z2 z3 z4 z5 hX1 hX2 hY1 hY2 bX bY b12 b23 hfin bw1
  go_wp2_with fail
  go_ret
  exact ⟨rfl, ((unhide HF).alloc (unhide HF).size _).alloc (Nat.le_trans (unhide HF).size (by simp)) _⟩
end Go.Proofs.Ytgphiollpbahgaa.cu
namespace Go.Proofs.Ytgphiollpbahgaa.cu
open Go.ChangeShapes Go.WideShapes Go.ChangeAt Go.RowKit
set_option linter.unusedVariables false
theorem two_alloc (w : World) (o o' : Obj) : Below w.heap.size w ((w.alloc o).alloc o') := ((Below.refl _ _).alloc (Nat.le_refl _) o).alloc (by simp) o'
theorem two_at (w : World) (cs ds : Array Value) (t u : TypeId) : ((w.alloc (.cells cs t)).alloc (.cells ds u)).heap[w.heap.size]? = some (.cells cs t (0, 0)) ∧ ((w.alloc (.cells cs t)).alloc (.cells ds u)).heap[w.heap.size + 1]? = some (.cells ds u (0, 0)) := by
  refine ⟨(Below.heap_alloc _ _ w.heap.size (by simp)).trans (heap_alloc_new w _), ?_⟩
  have := heap_alloc_new (w.alloc (.cells cs t)) (.cells ds u)
  simpa using this
end Go.Proofs.Ytgphiollpbahgaa.cu
namespace Go.Proofs.Ytgphiollpbahgaa.cu
open Go.ChangeShapes Go.WideShapes Go.ChangeAt Go.RowKit
open ints (hide unhide)
open dt (Dt Kp RowAt Ow Grow OwIn)
open mem (Row)
open lx (toks chs cln)
set_option linter.unusedVariables false
set_option linter.unusedSimpArgs false
theorem bytesZ_app (a b : ByteArray) : mem.bytesZ (a ++ b) = mem.bytesZ a ++ mem.bytesZ b := by simp [mem.bytesZ]
theorem conv_bytes (s : ByteArray) (w : World) : ∃ cap W2, (convert 9 22 (.string s)).run Try.prog w = .ok (.slice (some ⟨w.heap.size, 0, none⟩) s.size cap) W2 ∧
    Row .u8 W2 (some ⟨w.heap.size, 0, none⟩) s.size cap (mem.bytesZ s) ∧ Below w.heap.size w W2 := by
  have h := run_bytes_of_string (P := Try.prog) w 9 22 5 s Try.underlying9 Try.underlying22 Try.underlying5
  refine ⟨_, _, h, ⟨mem.bytesZ_len s, grownCap_ge _ _ _ _, (fun e => by cases e), .inr ⟨w.heap.size, 0, rfl, by simp, fun i hi => ?_⟩⟩, (Below.refl _ _).drew.alloc (Nat.le_refl _) _⟩
  have e : (w.drew.alloc (.cells (bytesRow s (grownCap w s.size 0 5)) 5 ((bytesRow s (grownCap w s.size 0 5)).size, (bytesRow s (grownCap w s.size 0 5)).size + 1))).cell? ⟨w.drew.heap.size, 0 + i, none⟩ = (bytesRow s (grownCap w s.size 0 5))[0 + i]? := World.cell?_alloc_mark _ _ _ _ _
  refine e.trans ?_
  have hi' : i < s.data.size := hi
  unfold bytesRow mem.bytesZ
  rw [Nat.zero_add, Array.getElem?_append_left (by simpa using hi')]
  have e2 : (s.data.toList.map fun b => (b.toNat : Int)).getD i 0 = ((s.data[i]'hi').toNat : Int) := by simp [List.getD, Array.getElem?_eq_getElem hi']
  rw [e2, Array.getElem?_map, Array.getElem?_eq_getElem hi']
  rfl
theorem flat_byt : ∀ zs : List Int, zs.all mem.scB = true → mem.Byt (zs.flatMap mem.putB)
  | [], _ => by intro x hx; cases hx
  | c :: zs, h => by
    rw [List.all_cons, Bool.and_eq_true] at h
    intro x hx
    rw [List.flatMap_cons] at hx
    rcases List.mem_append.1 hx with h1 | h1
    · exact mem.putB_byt ((mem.scB_iff c).1 h.1) x h1
    · exact flat_byt zs h.2 x h1
/-- what upTo finds at the place of a cursor's token -/
theorem up_at (z : List Int) (ct : Bool) (d : Int) (hk : (readLG z ct d).2.kd ≠ 0) : ((upW (toks z) (readLG z ct d).2.tok.ln (readLG z ct d).2.tok.co = none) ∧ (readLG z ct d).2.kd = 70) ∨ (upW (toks z) (readLG z ct d).2.tok.ln (readLG z ct d).2.tok.co = some (readLG z ct d).2.tok ∧ (readLG z ct d).2.tok.k ≠ 0 ∧ (readLG z ct d).2.tok.k ≠ 1) := by
  obtain ⟨_, hst, hkd⟩ := readLG_ix z ct d
  obtain ⟨C, hC⟩ : ∃ C, C = (readLG z ct d).2 := ⟨_, rfl⟩
  rw [← hC] at hst hkd hk ⊢
  have hget : (toks z)[C.ix]? = some C.tok := by
    have := C.get hst.ok.lt
    rw [hst.ts] at this
    exact this
  cases hu : upW (toks z) C.tok.ln C.tok.co with
  | none =>
    left
    refine ⟨rfl, ?_⟩
    unfold upW at hu
    rw [List.find?_eq_none] at hu
    have := hu C.tok (List.mem_of_getElem? hget)
    rcases hkd with h | h | h
    · exact absurd h hk
    · exact h
    · exact absurd (by simp [h.2]) this
  | some u =>
    right
    unfold upW at hu
    have h1 := List.find?_some hu
    have h2 := List.mem_of_find?_eq_some hu
    simp only [decide_eq_true_eq] at h1
    obtain ⟨q, hq⟩ := List.getElem?_of_mem h2
    have h3 := toks_at z hq hget ⟨h1.1, h1.2.1⟩
    subst h3
    rw [hq] at hget
    obtain rfl := Option.some.inj hget
    exact ⟨rfl, h1.2.2.1, h1.2.2.2⟩
set_option maxHeartbeats 4000000 in
set_option maxRecDepth 4000 in
theorem law_stays (a : Option Addr) (n c : Nat) (z : List Int) (ct : Bool) (d : Int) (a2 : Option Addr) (n2 c2 : Nat) (tl : List Int) (w : World) (h : Row .u8 w a n c z) (hz : mem.Byt z) (hn : n ≤ 1048576) (h2 : Row .u8 w a2 n2 c2 tl) (hz2 : mem.Byt tl) (hn2 : n2 ≤ 1048576) (hd : (Lit.int .i64 d).wf = true) :
    Calls Try.prog 4 #[.agg #[.slice a n c, .bool ct, .int .i64 d], .slice a2 n2 c2] w fun e w' => e = .returned (.bool true) ∧ Below w.heap.size w w' := by
  have hFx := hide (fun W => fixed_ok W)
  have hL0 := hide (fun W (bb : Below w.heap.size w W) => readLitG_ok a n c z ct d W (h.below bb) (by omega) hz hd)
  have hU := hide (fun W (bb : Below w.heap.size w W) x y => upTo_ok a n c z x y W (h.below bb) hz hn)
  have hS2 := hide (fun W (bb : Below w.heap.size w W) => mem.row_string (P := Try.prog) (h2.below bb) 22 9 5 Try.underlying22 Try.underlying5 Try.underlying9)
  have hst := hide (stays z hz tl ct d)
  have hup := hide (up_at z ct d)
  have hkd := hide (readLG_ix z ct d).2.2
  have hcl : (chs z).length ≤ n := by have := Nat.le_trans (mem.decZ_len z hz) (mem.decZ_le z hz); rw [h.len] at this; exact this
  have htl := h2.len
  have bO := hide (fun o => show Below w.heap.size w (w.alloc o) from (Below.refl _ _).alloc (Nat.le_refl _) o)
  go_enter Try.func4, Try.ntmps4
  go_wp2_with fail
  go_region
  go_wp2_with fail
  refine ((unhide hFx) _).mono ?_
  rintro e w1 ⟨rfl, b1'⟩
  have b1 := ((unhide bO) _).drew.trans (b1'.mono ((unhide bO) _).size)
  clear hFx b1'
  go_wp2_with fail
  refine ((unhide hL0) w1 b1).mono ?_
  rintro e w2 ⟨cs, F, fs, rfl, hpo, hflt, b2⟩
  have b12 := b1.trans (b2.mono b1.size)
  obtain ⟨kk, tt, bl, ai, ni, ci, af, nf, cf, ln, co, rfl⟩ := hpo.shape
  clear hL0 hpo
  by_cases hk0 : (readLG z ct d).2.kd = 0
  · unfold FltAt at hflt
    rw [if_pos hk0] at hflt
    subst hflt
    have bA := hide (fun o => b12.alloc b12.size o)
    clear hst hup hkd
    go_wp2_with fail
    go_ret
    exact ⟨rfl, b12.trans ((two_alloc _ _ _).mono b12.size)⟩
  · have hup2 := (unhide hup) hk0
    unfold FltAt at hflt
    rw [if_neg hk0] at hflt
    obtain ⟨b, y1, y2, rfl, y4, y5⟩ := hflt
    obtain ⟨C, hC⟩ : ∃ C, C = (readLG z ct d).2 := ⟨_, rfl⟩
    rw [← hC] at hup2 y4 y5 hst hkd hk0 ⊢
    obtain ⟨K, hK⟩ : ∃ K, K = C.kd := ⟨_, rfl⟩
    have hK2 : K = 70 ∨ K = 71 := by
      rcases (unhide hkd) with h | h | h
      · exact absurd h hk0
      · exact .inl (hK.trans h)
      · exact .inr (hK.trans h.1)
    rw [← hK] at hup2 ⊢
    have HK := hide hK
    clear hK hk0 hup hkd hC
    have p0 : ∀ o o', ((w2.alloc o).alloc o').cell? ⟨b, 0, none⟩ = some (.int .i64 C.tok.ln) := fun o o' => ((two_alloc w2 o o').cell (p := ⟨b, 0, none⟩) y2).trans y4
    have p1 : ∀ o o', ((w2.alloc o).alloc o').cell? ⟨b, 1, none⟩ = some (.int .i64 C.tok.co) := fun o o' => ((two_alloc w2 o o').cell (p := ⟨b, 1, none⟩) y2).trans y5
    clear y1 y4 y5
    have bX0 := hide (fun o o' => b12.trans ((two_alloc w2 o o').mono b12.size))
    rcases hup2 with ⟨hu, rfl⟩ | ⟨hu, ht0, ht1⟩
    · clear hst
      go_wp2_with fail
      obtain ⟨X, hX⟩ : ∃ X, X = (w2.alloc (.cells #[.int .i64 kk, .string tt, .bool bl, .slice ai ni ci, .slice af nf cf, .int .i64 ln, .int .i64 co] 30)).alloc (.cells #[Value.int .i64 70, .slice (some ⟨b, 0, none⟩) 1 1, .slice none 0 0] 35) := ⟨_, rfl⟩
      have bX : Below w2.heap.size w2 X := by rw [hX]; exact two_alloc _ _ _
      have hXs : X.heap.size = w2.heap.size + 1 + 1 := by rw [hX]; simp
      have hX1 := (show X.heap[w2.heap.size]? = _ ∧ X.heap[w2.heap.size + 1]? = _ from by rw [hX]; exact two_at _ _ _ _ _)
      have q0 := p0 (.cells #[.int .i64 kk, .string tt, .bool bl, .slice ai ni ci, .slice af nf cf, .int .i64 ln, .int .i64 co] 30) (.cells #[Value.int .i64 70, .slice (some ⟨b, 0, none⟩) 1 1, .slice none 0 0] 35)
      have q1 := p1 (.cells #[.int .i64 kk, .string tt, .bool bl, .slice ai ni ci, .slice af nf cf, .int .i64 ln, .int .i64 co] 30) (.cells #[Value.int .i64 70, .slice (some ⟨b, 0, none⟩) 1 1, .slice none 0 0] 35)
      rw [← hX] at q0 q1 ⊢
      clear hX p0 p1
      have bwX := b12.trans (bX.mono b12.size)
      refine ((unhide hU) X bwX _ _).mono ?_
      rintro e w3 ⟨rfl, b3⟩
      have bw3 := bwX.trans (b3.mono bwX.size)
      have hbX : b < X.heap.size := Nat.lt_of_lt_of_le y2 bX.size
      have g2 := (b3.block (w2.heap.size + 1) (by omega)).trans hX1.2
      have r0 := (b3.cell (p := ⟨b, 0, none⟩) hbX).trans q0
      have r1 := (b3.cell (p := ⟨b, 1, none⟩) hbX).trans q1
      have hb3 := Nat.lt_of_lt_of_le hbX b3.size
      have s3 := b3.size
      unfold upR
      rw [hu]
      simp only
      clear hX1 q0 q1 hU
      have f0 : w3.cell? ⟨w2.heap.size + 1, 0, none⟩ = some (.int .i64 70) := (dt.cell_cells g2 0).trans rfl
      go_wp2_with fail
      go_ret
      exact ⟨rfl, bw3⟩
    · rcases hK2 with rfl | rfl
      · go_wp2_with fail
        obtain ⟨X, hX⟩ : ∃ X, X = (w2.alloc (.cells #[.int .i64 kk, .string tt, .bool bl, .slice ai ni ci, .slice af nf cf, .int .i64 ln, .int .i64 co] 30)).alloc (.cells #[Value.int .i64 70, .slice (some ⟨b, 0, none⟩) 1 1, .slice none 0 0] 35) := ⟨_, rfl⟩
        have bX : Below w2.heap.size w2 X := by rw [hX]; exact two_alloc _ _ _
        have hXs : X.heap.size = w2.heap.size + 1 + 1 := by rw [hX]; simp
        have hX1 := (show X.heap[w2.heap.size]? = _ ∧ X.heap[w2.heap.size + 1]? = _ from by rw [hX]; exact two_at _ _ _ _ _)
        have q0 := p0 (.cells #[.int .i64 kk, .string tt, .bool bl, .slice ai ni ci, .slice af nf cf, .int .i64 ln, .int .i64 co] 30) (.cells #[Value.int .i64 70, .slice (some ⟨b, 0, none⟩) 1 1, .slice none 0 0] 35)
        have q1 := p1 (.cells #[.int .i64 kk, .string tt, .bool bl, .slice ai ni ci, .slice af nf cf, .int .i64 ln, .int .i64 co] 30) (.cells #[Value.int .i64 70, .slice (some ⟨b, 0, none⟩) 1 1, .slice none 0 0] 35)
        rw [← hX] at q0 q1 ⊢
        clear hX p0 p1
        have bwX := b12.trans (bX.mono b12.size)
        refine ((unhide hU) X bwX _ _).mono ?_
        rintro e w3 ⟨rfl, b3⟩
        have bw3 := bwX.trans (b3.mono bwX.size)
        have hbX : b < X.heap.size := Nat.lt_of_lt_of_le y2 bX.size
        have g2 := (b3.block (w2.heap.size + 1) (by omega)).trans hX1.2
        have r0 := (b3.cell (p := ⟨b, 0, none⟩) hbX).trans q0
        have r1 := (b3.cell (p := ⟨b, 1, none⟩) hbX).trans q1
        have hb3 := Nat.lt_of_lt_of_le hbX b3.size
        have s3 := b3.size
        unfold upR
        rw [hu]
        simp only
        clear hX1 q0 q1 hU
        have hall : ((chs z).take C.tok.to).all mem.scB = true := by
          rw [List.all_eq_true]
          exact fun q hq => (mem.scB_iff q).2 (lx.chs_sc hz q (List.mem_of_mem_take hq))
        have hSb : mem.bytesZ (mem.encS ((chs z).take C.tok.to)) = ((chs z).take C.tok.to).flatMap mem.putB := by
          unfold mem.encS
          rw [if_pos hall]
          exact mem.bytesZ_str _ (flat_byt _ hall)
        obtain ⟨S, hS⟩ : ∃ S, S = mem.encS ((chs z).take C.tok.to) := ⟨_, rfl⟩
        rw [← hS] at hSb ⊢
        obtain ⟨TS, hTS⟩ : ∃ TS, TS = strOfNums tl := ⟨_, rfl⟩
        have hTb : mem.bytesZ TS = tl := by rw [hTS]; exact mem.bytesZ_str tl hz2
        have hc2 := (unhide hS2) w3 bw3
        rw [← hTS] at hc2
        clear hS hTS
        obtain ⟨cap, W4, hcv, hrow, b4⟩ := conv_bytes (S ++ (⟨#[10]⟩ : ByteArray) ++ TS) w3
        have hz4 : mem.bytesZ (S ++ (⟨#[10]⟩ : ByteArray) ++ TS) = behind (chs z) C.tok.to tl := by
          rw [bytesZ_app, bytesZ_app, hSb, hTb]
          unfold behind
          rw [List.append_assoc]
          rfl
        rw [hz4] at hrow
        have hSs : S.size ≤ 1048576 := by
          rw [← mem.bytesZ_len, hSb]
          have e := (mem.decF_flat z.length z hz).2.2.2
          have e2 := mem.decZ_le z hz
          rw [h.len] at e2
          have e3 : (chs z).flatMap mem.putB = ((chs z).take C.tok.to).flatMap mem.putB ++ ((chs z).drop C.tok.to).flatMap mem.putB := by rw [← List.flatMap_append, List.take_append_drop]
          have e4 : ((chs z).flatMap mem.putB).length = (mem.decZ z).2 := e
          rw [e3, List.length_append] at e4
          omega
        have hTs : TS.size ≤ 1048576 := by rw [← mem.bytesZ_len, hTb, htl]; exact hn2
        have hAs : (S ++ (⟨#[10]⟩ : ByteArray) ++ TS).size ≤ 2097153 := by
          rw [size_app, size_app]
          show S.size + 1 + TS.size ≤ _
          omega
        have hbz : mem.Byt (behind (chs z) C.tok.to tl) := by rw [← hz4]; exact mem.bytesZ_byt _
        have hsz : (S ++ (⟨#[10]⟩ : ByteArray) ++ TS).size = S.size + 1 + TS.size := by rw [size_app, size_app]; rfl
        rw [hsz] at hrow hAs
        have hL2 := hide (readLitG_ok _ _ cap (behind (chs z) C.tok.to tl) ct d W4 hrow (by omega) hbz hd)
        have HE := hide ((unhide hst) ht0 ht1)
        have HX := hide (And.intro hXs (And.intro s3 hb3))
        clear hall hSb hTb hz4 hrow hbz hst hAs hsz hu ht0 ht1 hXs s3 hb3 hbX y2
        go_wp2_with fail
        refine (unhide hL2).mono ?_
        rintro e w5 ⟨cs5, F5, fs5, rfl, hpo5, hflt5, b5⟩
        obtain ⟨kk5, tt5, bl5, ai5, ni5, ci5, af5, nf5, cf5, ln5, co5, rfl⟩ := hpo5.shape
        unfold FltAt at hflt5
        rw [if_neg (by rw [(unhide HE).1, ← unhide HK]; decide), (unhide HE).1, (unhide HE).2, ← unhide HK] at hflt5
        obtain ⟨b', y1', y2', rfl, y4', y5'⟩ := hflt5
        obtain ⟨hXs, s3, hb3⟩ := unhide HX
        clear hpo5 hL2 HE HX
        have b35 := b4.trans (b5.mono b4.size)
        have bw5 := bw3.trans (b35.mono bw3.size)
        have two : ∀ o o', Below w5.heap.size w5 ((w5.alloc o).alloc o') := fun o o' => two_alloc _ _ _
        have b3t := hide (fun o o' => b35.trans ((two o o').mono b35.size))
        have f0 : ∀ o o', ((w5.alloc o).alloc o').cell? ⟨w2.heap.size + 1, 0, none⟩ = some (.int .i64 70) := fun o o' => (dt.cell_cells ((((unhide b3t) o o').block _ (by omega)).trans g2) 0).trans rfl
        have f1 : ∀ o o', ((w5.alloc o).alloc o').cell? ⟨w2.heap.size + 1, 1, none⟩ = some (.slice (some ⟨b, 0, none⟩) 1 1) := fun o o' => (dt.cell_cells ((((unhide b3t) o o').block _ (by omega)).trans g2) 1).trans rfl
        have t0 : ∀ o o', ((w5.alloc o).alloc o').cell? ⟨b, 0, none⟩ = some (.int .i64 C.tok.ln) := fun o o' => (((unhide b3t) o o').cell (p := ⟨b, 0, none⟩) hb3).trans r0
        have t1 : ∀ o o', ((w5.alloc o).alloc o').cell? ⟨b, 1, none⟩ = some (.int .i64 C.tok.co) := fun o o' => (((unhide b3t) o o').cell (p := ⟨b, 1, none⟩) hb3).trans r1
        have t2 : ∀ o o', ((w5.alloc o).alloc o').cell? ⟨b', 0, none⟩ = some (.int .i64 C.tok.ln) := fun o o' => ((two o o').cell (p := ⟨b', 0, none⟩) y2').trans y4'
        have t3 : ∀ o o', ((w5.alloc o).alloc o').cell? ⟨b', 1, none⟩ = some (.int .i64 C.tok.co) := fun o o' => ((two o o').cell (p := ⟨b', 1, none⟩) y2').trans y5'
        have HBw := hide (fun o o' => bw5.trans ((two o o').mono bw5.size))
        clear two y1' y2' y4' y5' r0 r1 g2 hXs s3 hb3 hcv hc2
        go_wp2_with fail
        go_region
        go_wp2
        go_ret
        exact ⟨rfl, ((unhide HBw) _ _).drew⟩
      · go_wp2_with fail
        obtain ⟨X, hX⟩ : ∃ X, X = (w2.alloc (.cells #[.int .i64 kk, .string tt, .bool bl, .slice ai ni ci, .slice af nf cf, .int .i64 ln, .int .i64 co] 30)).alloc (.cells #[Value.int .i64 71, .slice (some ⟨b, 0, none⟩) 1 1, .slice none 0 0] 35) := ⟨_, rfl⟩
        have bX : Below w2.heap.size w2 X := by rw [hX]; exact two_alloc _ _ _
        have hXs : X.heap.size = w2.heap.size + 1 + 1 := by rw [hX]; simp
        have hX1 := (show X.heap[w2.heap.size]? = _ ∧ X.heap[w2.heap.size + 1]? = _ from by rw [hX]; exact two_at _ _ _ _ _)
        have q0 := p0 (.cells #[.int .i64 kk, .string tt, .bool bl, .slice ai ni ci, .slice af nf cf, .int .i64 ln, .int .i64 co] 30) (.cells #[Value.int .i64 71, .slice (some ⟨b, 0, none⟩) 1 1, .slice none 0 0] 35)
        have q1 := p1 (.cells #[.int .i64 kk, .string tt, .bool bl, .slice ai ni ci, .slice af nf cf, .int .i64 ln, .int .i64 co] 30) (.cells #[Value.int .i64 71, .slice (some ⟨b, 0, none⟩) 1 1, .slice none 0 0] 35)
        rw [← hX] at q0 q1 ⊢
        clear hX p0 p1
        have bwX := b12.trans (bX.mono b12.size)
        refine ((unhide hU) X bwX _ _).mono ?_
        rintro e w3 ⟨rfl, b3⟩
        have bw3 := bwX.trans (b3.mono bwX.size)
        have hbX : b < X.heap.size := Nat.lt_of_lt_of_le y2 bX.size
        have g2 := (b3.block (w2.heap.size + 1) (by omega)).trans hX1.2
        have r0 := (b3.cell (p := ⟨b, 0, none⟩) hbX).trans q0
        have r1 := (b3.cell (p := ⟨b, 1, none⟩) hbX).trans q1
        have hb3 := Nat.lt_of_lt_of_le hbX b3.size
        have s3 := b3.size
        unfold upR
        rw [hu]
        simp only
        clear hX1 q0 q1 hU
        have hall : ((chs z).take C.tok.to).all mem.scB = true := by
          rw [List.all_eq_true]
          exact fun q hq => (mem.scB_iff q).2 (lx.chs_sc hz q (List.mem_of_mem_take hq))
        have hSb : mem.bytesZ (mem.encS ((chs z).take C.tok.to)) = ((chs z).take C.tok.to).flatMap mem.putB := by
          unfold mem.encS
          rw [if_pos hall]
          exact mem.bytesZ_str _ (flat_byt _ hall)
        obtain ⟨S, hS⟩ : ∃ S, S = mem.encS ((chs z).take C.tok.to) := ⟨_, rfl⟩
        rw [← hS] at hSb ⊢
        obtain ⟨TS, hTS⟩ : ∃ TS, TS = strOfNums tl := ⟨_, rfl⟩
        have hTb : mem.bytesZ TS = tl := by rw [hTS]; exact mem.bytesZ_str tl hz2
        have hc2 := (unhide hS2) w3 bw3
        rw [← hTS] at hc2
        clear hS hTS
        obtain ⟨cap, W4, hcv, hrow, b4⟩ := conv_bytes (S ++ (⟨#[10]⟩ : ByteArray) ++ TS) w3
        have hz4 : mem.bytesZ (S ++ (⟨#[10]⟩ : ByteArray) ++ TS) = behind (chs z) C.tok.to tl := by
          rw [bytesZ_app, bytesZ_app, hSb, hTb]
          unfold behind
          rw [List.append_assoc]
          rfl
        rw [hz4] at hrow
        have hSs : S.size ≤ 1048576 := by
          rw [← mem.bytesZ_len, hSb]
          have e := (mem.decF_flat z.length z hz).2.2.2
          have e2 := mem.decZ_le z hz
          rw [h.len] at e2
          have e3 : (chs z).flatMap mem.putB = ((chs z).take C.tok.to).flatMap mem.putB ++ ((chs z).drop C.tok.to).flatMap mem.putB := by rw [← List.flatMap_append, List.take_append_drop]
          have e4 : ((chs z).flatMap mem.putB).length = (mem.decZ z).2 := e
          rw [e3, List.length_append] at e4
          omega
        have hTs : TS.size ≤ 1048576 := by rw [← mem.bytesZ_len, hTb, htl]; exact hn2
        have hAs : (S ++ (⟨#[10]⟩ : ByteArray) ++ TS).size ≤ 2097153 := by
          rw [size_app, size_app]
          show S.size + 1 + TS.size ≤ _
          omega
        have hbz : mem.Byt (behind (chs z) C.tok.to tl) := by rw [← hz4]; exact mem.bytesZ_byt _
        have hsz : (S ++ (⟨#[10]⟩ : ByteArray) ++ TS).size = S.size + 1 + TS.size := by rw [size_app, size_app]; rfl
        rw [hsz] at hrow hAs
        have hL2 := hide (readLitG_ok _ _ cap (behind (chs z) C.tok.to tl) ct d W4 hrow (by omega) hbz hd)
        have HE := hide ((unhide hst) ht0 ht1)
        have HX := hide (And.intro hXs (And.intro s3 hb3))
        clear hall hSb hTb hz4 hrow hbz hst hAs hsz hu ht0 ht1 hXs s3 hb3 hbX y2
        go_wp2_with fail
        refine (unhide hL2).mono ?_
        rintro e w5 ⟨cs5, F5, fs5, rfl, hpo5, hflt5, b5⟩
        obtain ⟨kk5, tt5, bl5, ai5, ni5, ci5, af5, nf5, cf5, ln5, co5, rfl⟩ := hpo5.shape
        unfold FltAt at hflt5
        rw [if_neg (by rw [(unhide HE).1, ← unhide HK]; decide), (unhide HE).1, (unhide HE).2, ← unhide HK] at hflt5
        obtain ⟨b', y1', y2', rfl, y4', y5'⟩ := hflt5
        obtain ⟨hXs, s3, hb3⟩ := unhide HX
        clear hpo5 hL2 HE HX
        have b35 := b4.trans (b5.mono b4.size)
        have bw5 := bw3.trans (b35.mono bw3.size)
        have two : ∀ o o', Below w5.heap.size w5 ((w5.alloc o).alloc o') := fun o o' => two_alloc _ _ _
        have b3t := hide (fun o o' => b35.trans ((two o o').mono b35.size))
        have f0 : ∀ o o', ((w5.alloc o).alloc o').cell? ⟨w2.heap.size + 1, 0, none⟩ = some (.int .i64 71) := fun o o' => (dt.cell_cells ((((unhide b3t) o o').block _ (by omega)).trans g2) 0).trans rfl
        have f1 : ∀ o o', ((w5.alloc o).alloc o').cell? ⟨w2.heap.size + 1, 1, none⟩ = some (.slice (some ⟨b, 0, none⟩) 1 1) := fun o o' => (dt.cell_cells ((((unhide b3t) o o').block _ (by omega)).trans g2) 1).trans rfl
        have t0 : ∀ o o', ((w5.alloc o).alloc o').cell? ⟨b, 0, none⟩ = some (.int .i64 C.tok.ln) := fun o o' => (((unhide b3t) o o').cell (p := ⟨b, 0, none⟩) hb3).trans r0
        have t1 : ∀ o o', ((w5.alloc o).alloc o').cell? ⟨b, 1, none⟩ = some (.int .i64 C.tok.co) := fun o o' => (((unhide b3t) o o').cell (p := ⟨b, 1, none⟩) hb3).trans r1
        have t2 : ∀ o o', ((w5.alloc o).alloc o').cell? ⟨b', 0, none⟩ = some (.int .i64 C.tok.ln) := fun o o' => ((two o o').cell (p := ⟨b', 0, none⟩) y2').trans y4'
        have t3 : ∀ o o', ((w5.alloc o).alloc o').cell? ⟨b', 1, none⟩ = some (.int .i64 C.tok.co) := fun o o' => ((two o o').cell (p := ⟨b', 1, none⟩) y2').trans y5'
        have HBw := hide (fun o o' => bw5.trans ((two o o').mono bw5.size))
        clear two y1' y2' y4' y5' r0 r1 g2 hXs s3 hb3 hcv hc2
        go_wp2_with fail
        go_region
        go_wp2
        go_ret
        exact ⟨rfl, ((unhide HBw) _ _).drew⟩
end Go.Proofs.Ytgphiollpbahgaa.cu
namespace Go.Proofs.Ytgphiollpbahgaa.mem
open Go.ChangeShapes Go.WideShapes Go.ChangeAt Go.RowKit
set_option linter.unusedVariables false
theorem bulk_agg {H : Type} {d : DataW H} {l : List (DataW H)} (h : d ∈ l) : Rows.uptoBulk d ≤ Rows.uptoBulk (.agg l) := by
  have := bulk_mem h
  simp only [Rows.uptoBulk]
  omega
theorem slice_form {H : Type} {enc : TypeId × Value → H} {P : Program} {w : World} {base : Nat} {held : Bool} {t q : TypeId} {k : IntKind} {fuel : Nat} {v : Value} {y : DataW H × List MemPlace}
    (ht : P.underlying t = some (.slice q)) (hq : P.underlying q = some (.int k)) (cq : P.cellsOf q = 1) (h : DataW.trod enc P w base (fun _ => true) held fuel t [v] = some y) : ∃ a n c, v = .slice a n c := by
  rcases open_ints ht hq cq h with ⟨hcs, _⟩ | ⟨x, l, c, zs, hcs, _⟩
  · simp at hcs
    exact ⟨_, _, _, hcs⟩
  · simp at hcs
    exact ⟨_, _, _, hcs⟩
theorem struct3 {H : Type} {enc : TypeId × Value → H} {w : World} {base : Nat} {held : Bool} {P : Program} {spare : Nat → Bool} {t : TypeId} {f0 f1 f2 : Field} {fuel : Nat} {cs : List Value} {x : DataW H × List MemPlace} (ht : P.underlying t = some (.struct #[f0, f1, f2])) (h : DataW.trod enc P w base spare held fuel t cs = some x) :
    ∃ x0 x1 x2 n, fuel = n + 1 ∧ x.1 = .agg [x0.1, x1.1, x2.1] ∧ cs.length = P.cellsOf t ∧
      DataW.trod enc P w base spare held n f0.type ((cs.drop f0.offset).take (P.cellsOf f0.type)) = some x0 ∧
      DataW.trod enc P w base spare held n f1.type ((cs.drop f1.offset).take (P.cellsOf f1.type)) = some x1 ∧
      DataW.trod enc P w base spare held n f2.type ((cs.drop f2.offset).take (P.cellsOf f2.type)) = some x2 := by
  obtain ⟨xs, n, hfu, hx, hl, hlen, hf⟩ := DataW.trod_struct ht h
  match xs, hlen with
  | [x0, x1, x2], _ => exact ⟨x0, x1, x2, n, hfu, by rw [hx]; rfl, hl, by simpa using hf 0 f0 rfl, by simpa using hf 1 f1 rfl, by simpa using hf 2 f2 rfl⟩
theorem list_three {α : Type} {l : List α} (h : l.length = 3) : ∃ x y z, l = [x, y, z] := by
  match l, h with
  | [x, y, z], _ => exact ⟨x, y, z, rfl⟩
set_option maxRecDepth 4000 in
theorem source_of {H : Type} {enc : TypeId × Value → H} {w : World} {base : Nat} {held : Bool} {fuel : Nat} {cs : List Value} {d : DataW H} {p : List MemPlace}
    (h : DataW.trod enc Try.prog w base (fun _ => true) held fuel 43 cs = some (d, p)) :
    ∃ a n c ct x zs, cs = [.slice a n c, .bool ct, .int .i64 x] ∧ Row .u8 w a n c zs ∧ (∀ z ∈ zs, (Lit.int .u8 z).wf = true) ∧ n ≤ Rows.uptoBulk d ∧ (Lit.int .i64 x).wf = true := by
  have ce0 : Try.prog.cellsOf 22 = 1 := by kernel_rfl
  have ce1 : Try.prog.cellsOf 4 = 1 := by kernel_rfl
  have ce2 : Try.prog.cellsOf 3 = 1 := by kernel_rfl
  have ce : Try.prog.cellsOf 43 = 3 := by kernel_rfl
  obtain ⟨x0, x1, x2, n, rfl, hx, hl, h0, h1, h2⟩ := struct3 Try.underlying43 h
  rw [ce] at hl
  obtain ⟨v0, v1, v2, rfl⟩ := list_three hl
  simp only [ce0, ce1, ce2, List.drop_zero, List.drop_succ_cons, List.take_succ_cons, List.take_zero] at h0 h1 h2
  obtain ⟨a, len, cap, rfl⟩ := slice_form Try.underlying22 Try.underlying5 (by kernel_rfl) h0
  obtain ⟨d0, p0⟩ := x0
  obtain ⟨zs, hrow, hwf, hb⟩ := row_of Try.underlying22 Try.underlying5 (by kernel_rfl) h0
  obtain ⟨b, hb1, _⟩ := DataW.trod_bool Try.underlying4 h1
  obtain ⟨x, hx1, _, hxw⟩ := DataW.trod_int Try.underlying3 h2
  simp at hb1 hx1
  subst hb1 hx1
  refine ⟨a, len, cap, b, x, zs, rfl, hrow, hwf, ?_, hxw⟩
  simp only at hx
  rw [hx]
  exact Nat.le_trans hb (bulk_agg (by simp))
end Go.Proofs.Ytgphiollpbahgaa.mem
