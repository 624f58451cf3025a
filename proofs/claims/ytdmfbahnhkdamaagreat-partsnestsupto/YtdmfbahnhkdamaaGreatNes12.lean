import Derived.Test.YtdmfbahnhkdamaaGreatNes5
import Derived.Test.YtdmfbahnhkdamaaGreatNes11
import Derived.Test.YtdmfbahnhkdamaaGreatNes6
import Derived.Test.YtdmfbahnhkdamaaGreatNes7
import Derived.Test.YtdmfbahnhkdamaaGreatNes8
namespace Go.Proofs.YtdmfbahnhkdamaaGreat.cu
open Go.ChangeShapes Go.WideShapes Go.ChangeAt Go.RowKit
open ints (hide unhide)
open dt (Dt Kp RowAt)
open mem (Row)
set_option linter.unusedVariables false
set_option linter.unusedSimpArgs false
def newG (z : List Int) (d : Int) : Cu := ⟨lx.toks z, 0, 0, mostS d, 0⟩
theorem tksG_more (l : List Int) (cl : Bool) : ∀ (f i : Nat), i ≤ l.length → l.length < f + i → ∀ j t, (lx.tksGF l cl f i)[j]? = some t → t.k = 0 ∨ t.k = 1 ∨ j + 1 < (lx.tksGF l cl f i).length
  | 0, i, hi, hf, j, t, h => by simp [lx.tksGF] at h
  | f + 1, i, hi, hf, j, t, h => by
    by_cases he : (lx.tkG l cl i).k = 0 ∨ (lx.tkG l cl i).k = 1
    · rw [lx.tksGF, if_pos he] at h
      cases j with
      | zero => simp at h; subst h; rcases he with e | e; exact .inl e; exact .inr (.inl e)
      | succ j => simp at h
    · rw [lx.tksGF, if_neg he] at h ⊢
      have h2 := lx.tkG_le l cl i hi
      have h3 : i < (lx.tkG l cl i).to := by
        rcases h2.2.2 with e | e | e
        · exact absurd (.inl e) he
        · exact absurd (.inr e) he
        · exact e
      cases j with
      | zero =>
        right; right
        cases f with
        | zero => omega
        | succ f =>
          rw [lx.tksGF]
          split <;> simp
      | succ j =>
        have := tksG_more l cl f (lx.tkG l cl i).to h2.2.1 (by omega) j t (by simpa using h)
        simpa using this
theorem tksGF_len (l : List Int) (cl : Bool) : ∀ (f i : Nat), i ≤ l.length → (lx.tksGF l cl f i).length ≤ l.length + 1 - i
  | 0, i, hi => by simp [lx.tksGF]
  | f + 1, i, hi => by
    by_cases he : (lx.tkG l cl i).k = 0 ∨ (lx.tkG l cl i).k = 1
    · rw [lx.tksGF, if_pos he]; simp; omega
    · rw [lx.tksGF, if_neg he]
      have h2 := lx.tkG_le l cl i hi
      have h3 : i < (lx.tkG l cl i).to := by
        rcases h2.2.2 with e | e | e
        · exact absurd (.inl e) he
        · exact absurd (.inr e) he
        · exact e
      have := tksGF_len l cl f (lx.tkG l cl i).to h2.2.1
      simp
      omega
theorem tksG_pos (l : List Int) (cl : Bool) (i : Nat) : 0 < (lx.tksG l cl i).length := by
  unfold lx.tksG
  rw [lx.tksGF]
  split <;> simp
theorem newG_ok' (z : List Int) (d : Int) : (newG z d).Ok :=
  ⟨tksG_pos _ _ 0, tksG_more (lx.chs z) (lx.cln z) ((lx.chs z).length + 1) 0 (Nat.zero_le _) (by omega), Nat.zero_le _, by unfold newG mostS; simp only; omega⟩
theorem toks_len (z : List Int) (hz : mem.Byt z) : (lx.toks z).length ≤ z.length + 1 := by
  have h1 := tksGF_len (lx.chs z) (lx.cln z) ((lx.chs z).length + 1) 0 (Nat.zero_le _)
  have h2 := Nat.le_trans (mem.decZ_len z hz) (mem.decZ_le z hz)
  show (lx.tksGF (lx.chs z) (lx.cln z) ((lx.chs z).length + 1) 0).length ≤ _
  have h3 : (lx.chs z).length ≤ z.length := h2
  omega
theorem newG_ok (a : Option Addr) (n c : Nat) (l : List Int) (d : Int) (w : World) (h : Row .u8 w a n c l) (hn : n ≤ 1099511627776) (hz : mem.Byt l) (hd : (Lit.int .i64 d).wf = true) :
    Calls Tryz.prog 7 #[.slice a n c, .int .i64 d] w fun e w' => ∃ B p, e = .returned (ptr B) ∧ w.heap.size ≤ B ∧ w.heap.size ≤ p ∧ CurAt w' B p (newG l d) ∧ Below w.heap.size w w' := by
  have hT := hide (fun W (bb : Below w.heap.size w W) => lx.tokensG_ok a n c l W (h.below bb) hn hz)
  have hok := hide (newG_ok' l d)
  have hlen := toks_len l hz
  rw [h.len] at hlen
  go_enter Tryz.func7, Tryz.ntmps7
  go_wp2_with fail
  refine ((unhide hT) w (Below.refl _ _)).mono ?_
  rintro e w1 ⟨p, cap, rfl, hp1, hp2, hrows, b1⟩
  have HR := hide hrows
  clear hT hrows
  go_wp2_with fail
  go_ret
  have hmo : (max 0 (min d 200)) = ((mostS d : Nat) : Int) := by unfold mostS; omega
  rw [hmo]
  have bX : ∀ o, Below w1.heap.size w1 (w1.alloc o) := fun o => (Below.refl _ _).alloc (Nat.le_refl _) _
  refine ⟨w1.heap.size, p, rfl, b1.size, hp1, ⟨unhide hok, ?_, cap, heap_alloc_new w1 _, by omega, ?_, fun i t ht => ((unhide HR) i t ht).below (bX _)⟩, b1.alloc b1.size _⟩
  · show (lx.toks l).length ≤ _
    omega
  · simp; omega
end Go.Proofs.YtdmfbahnhkdamaaGreat.cu
namespace Go.Proofs.YtdmfbahnhkdamaaGreat.cu
open Go.ChangeShapes Go.WideShapes Go.ChangeAt Go.RowKit
open ints (hide unhide)
open dt (Dt Kp RowAt Ow Grow)
open mem (Row)
set_option linter.unusedVariables false
set_option linter.unusedSimpArgs false
def readLG (l : List Int) (ct : Bool) (d : Int) : Option Dt × Cu :=
  if (litF ct (lx.toks l).length (newG l d)).1.isSome then (if (litF ct (lx.toks l).length (newG l d)).2.finB then (litF ct (lx.toks l).length (newG l d)).1 else none, (litF ct (lx.toks l).length (newG l d)).2.fin) else (none, (litF ct (lx.toks l).length (newG l d)).2)
set_option maxRecDepth 4000 in
set_option maxHeartbeats 2000000 in
theorem readLitG_ok (a : Option Addr) (n c : Nat) (l : List Int) (ct : Bool) (d : Int) (w : World) (h : Row .u8 w a n c l) (hn : n ≤ 1099511627776) (hz : mem.Byt l) (hd : (Lit.int .i64 d).wf = true) :
    Calls Tryz.prog 5 #[.slice a n c, .bool ct, .int .i64 d] w fun e w' => ∃ cs F fs, e = .returned (.tuple #[.agg cs.toArray, .agg fs.toArray]) ∧ LitPost ((readLG l ct d).1.getD zeroD) w w' cs F ∧ FltAt w.heap.size w' (readLG l ct d).2 fs ∧ Below w.heap.size w w' := by
  have hN := hide (fun W (bb : Below w.heap.size w W) => newG_ok a n c l d W (h.below bb) hn hz hd)
  have hok := newG_ok' l d
  have hlen : (newG l d).ts.length ≤ 1099511627777 := by
    have := toks_len l hz
    show (lx.toks l).length ≤ _
    rw [h.len] at this
    omega
  have hT := hide (litF_ok ct (lx.toks l).length (newG l d) hok hlen (Nat.le_add_right _ _))
  have hg := hide (litF_goes ct (lx.toks l).length (newG l d) hok).1
  unfold readLG
  obtain ⟨U, hU⟩ : ∃ U, U = litF ct (lx.toks l).length (newG l d) := ⟨_, rfl⟩
  unfold LitAt at hT
  rw [← hU] at hT hg ⊢
  obtain ⟨c0, hc0⟩ : ∃ c0, c0 = newG l d := ⟨_, rfl⟩
  rw [← hc0] at hN hT hg
  clear h hU hok hlen hc0
  obtain ⟨r, C⟩ := U
  go_enter Tryz.func5, Tryz.ntmps5
  go_wp2_with fail
  have bW0 : Below w.heap.size w ((w.alloc (.cells #[Value.int .i64 0, .string { data := #[] }, .bool false, .slice none 0 0, .slice none 0 0, .int .i64 0, .int .i64 0] 32)).alloc (.cells #[Value.int .i64 0, .slice none 0 0, .slice none 0 0] 37)) := ((Below.refl _ _).alloc (Nat.le_refl _) _).alloc (by simp) _
  have hR1 : ((w.alloc (.cells #[Value.int .i64 0, .string { data := #[] }, .bool false, .slice none 0 0, .slice none 0 0, .int .i64 0, .int .i64 0] 32)).alloc (.cells #[Value.int .i64 0, .slice none 0 0, .slice none 0 0] 37)).heap[w.heap.size]? = some (.cells #[Value.int .i64 0, .string { data := #[] }, .bool false, .slice none 0 0, .slice none 0 0, .int .i64 0, .int .i64 0] 32 (0, 0)) := (Below.heap_alloc _ _ w.heap.size (by simp)).trans (heap_alloc_new w _)
  have hR2 : ((w.alloc (.cells #[Value.int .i64 0, .string { data := #[] }, .bool false, .slice none 0 0, .slice none 0 0, .int .i64 0, .int .i64 0] 32)).alloc (.cells #[Value.int .i64 0, .slice none 0 0, .slice none 0 0] 37)).heap[w.heap.size + 1]? = some (.cells #[Value.int .i64 0, .slice none 0 0, .slice none 0 0] 37 (0, 0)) := by
    have := heap_alloc_new (w.alloc (.cells #[Value.int .i64 0, .string { data := #[] }, .bool false, .slice none 0 0, .slice none 0 0, .int .i64 0, .int .i64 0] 32)) (.cells #[Value.int .i64 0, .slice none 0 0, .slice none 0 0] 37)
    simpa using this
  have hz0 : w.heap.size + 1 < ((w.alloc (.cells #[Value.int .i64 0, .string { data := #[] }, .bool false, .slice none 0 0, .slice none 0 0, .int .i64 0, .int .i64 0] 32)).alloc (.cells #[Value.int .i64 0, .slice none 0 0, .slice none 0 0] 37)).heap.size := by simp
  obtain ⟨W0, hW0⟩ : ∃ W0, W0 = (w.alloc (.cells #[Value.int .i64 0, .string { data := #[] }, .bool false, .slice none 0 0, .slice none 0 0, .int .i64 0, .int .i64 0] 32)).alloc (.cells #[Value.int .i64 0, .slice none 0 0, .slice none 0 0] 37) := ⟨_, rfl⟩
  rw [← hW0] at bW0 hR1 hR2 hz0 ⊢
  clear hW0
  refine ((unhide hN) W0 bW0).mono ?_
  rintro e w1 ⟨B, p, rfl, hB, hp0, hc1, b1⟩
  have hTB := hide ((unhide hT) B p)
  have hend := hide (fun W (hc : CurAt W B p C) => end_ok B p C W hc)
  have htold := hide (fun W (D : Cu) (hc : CurAt W B p D) => told_ok B p D W hc)
  clear hN hT
  unfold ptr at hTB hend htold ⊢
  go_wp2_with fail
  refine ((unhide hTB) w1 hc1).mono ?_
  rintro e w2 ⟨cs, F, rfl, hpo, hc2, hk2⟩
  obtain ⟨kk, tt, bl, ai, ni, ci, af, nf, cf, ln, co, rfl⟩ := hpo.shape
  have HP := hide hpo
  have hrF : ∀ b ∈ F, W0.heap.size ≤ b ∧ b < w2.heap.size := fun b hb => ⟨Nat.le_trans b1.size (hpo.rng b hb).1, (hpo.rng b hb).2⟩
  clear hpo
  have hB1 := hc1.lt
  have b02 : Below W0.heap.size W0 w2 := b1.trans (hk2.below hB b1.size)
  have HC2 := hide hc2
  clear hTB hc1 hc2 hk2 b1
  have bA2 := hide (fun o => show Below w2.heap.size w2 (w2.alloc o) from (Below.refl _ _).alloc (Nat.le_refl _) _)
  cases r with
  | none =>
    go_wp2_with fail
    have bT := b02.alloc b02.size (.cells #[.int .i64 kk, .string tt, .bool bl, .slice ai ni ci, .slice af nf cf, .int .i64 ln, .int .i64 co] 32)
    refine ((unhide htold) _ C ((unhide HC2).below ((unhide bA2) _))).mono ?_
    rintro e w5 ⟨fs, rfl, hflt, b5⟩
    have b05 : Below W0.heap.size W0 w5 := bT.trans (b5.mono bT.size)
    have hne12 : w.heap.size ≠ w.heap.size + 1 := by omega
    have HT1 := hide (show w5.there w.heap.size 0 7 from dt.there_cells ((b05.block w.heap.size (by omega)).trans hR1) (by decide))
    have HT2 := hide (show w5.there (w.heap.size + 1) 0 fs.length from by rw [hflt.three.1]; exact dt.there_cells ((b05.block (w.heap.size + 1) hz0).trans hR2) (by decide))
    have HX0 := res2 hne12 [.int .i64 0, .string ⟨#[]⟩, .bool false, .slice none 0 0, .slice none 0 0, .int .i64 0, .int .i64 0] fs (unhide HT1) (unhide HT2)
    obtain ⟨W6, e6⟩ : ∃ W6, W6 = w5.setCells w.heap.size 0 (#[.int .i64 0, .string ⟨#[]⟩, .bool false, .slice none 0 0, .slice none 0 0, .int .i64 0, .int .i64 0] : Array Value).toList := ⟨_, rfl⟩
    have HX := hide (show W6.there (w.heap.size + 1) 0 _ ∧ (W6.setCells (w.heap.size + 1) 0 fs).rangeAt w.heap.size 0 [.int .i64 0, .string ⟨#[]⟩, .bool false, .slice none 0 0, .slice none 0 0, .int .i64 0, .int .i64 0] ∧ (W6.setCells (w.heap.size + 1) 0 fs).rangeAt (w.heap.size + 1) 0 fs from by rw [e6]; exact HX0)
    have E6 := hide e6
    clear HX0 e6
    have HI := hide (show (Tryz.prog.info? 37).map (·.size) = some fs.length from by rw [hflt.three.1]; exact infoFl)
    have HO := hide (dt.one_cells hflt.three.2)
    have HF := hide hflt
    have hbw := hide (bW0.trans (b05.mono bW0.size))
    have hlo := hide (show w.heap.size + 1 < _ ∧ w.heap.size < _ from And.intro (Nat.lt_of_lt_of_le hz0 bT.size) (Nat.lt_of_lt_of_le (Nat.lt_of_succ_lt hz0) bT.size))
    clear b05 b5 htold hflt
    go_wp2_with (first
      | (refine wpList_store_mid (by rfl) 32 _ _ (by rfl) w.heap.size 0 #[.int .i64 0, .string ⟨#[]⟩, .bool false, .slice none 0 0, .slice none 0 0, .int .i64 0, .int .i64 0] (by rfl) (by rfl) (unhide HT1) infoLt (dt.one_cells (cs := [.int .i64 0, .string ⟨#[]⟩, .bool false, .slice none 0 0, .slice none 0 0, .int .i64 0, .int .i64 0]) (by rfl)) ?_; rw [← unhide E6])
      | refine wpList_store_mid (by rfl) 37 _ _ (by rfl) (w.heap.size + 1) 0 fs.toArray (by rfl) (by rfl) (by have := (unhide HX).1; simpa using this) (by have := unhide HI; simpa using this) (unhide HO) ?_)
    refine bodyPost_ret (result_rows2 rfl _ _ w.heap.size 0 [.int .i64 0, .string ⟨#[]⟩, .bool false, .slice none 0 0, .slice none 0 0, .int .i64 0, .int .i64 0] _ rfl (unhide HX).2.1 Tryz.underlying32 rfl infoLt (w.heap.size + 1) 0 fs _ rfl (unhide HX).2.2 Tryz.underlying37 rfl (unhide HI)) rfl ?_
    have e6 := unhide E6
    subst e6
    refine ⟨_, [], _, rfl, ⟨leaf_shape 0 em false 0 0, leaf_ow _ 0 em false 0 0, List.nodup_nil, by simp⟩, ?_, dt.below_setCells _ _ _ _ (dt.below_setCells _ _ _ _ (unhide hbw) (Nat.le_refl _)) (Nat.le_add_right _ 1)⟩
    exact (((unhide HF).out (unhide hlo).2 _ _).out (unhide hlo).1 _ _).mono (Nat.le_of_lt (unhide hlo).2)
  | some it =>
    cases hF : C.finB
    · rw [hF] at hend
      go_wp2_with fail
      refine ((unhide hend) _ ((unhide HC2).below ((unhide bA2) _))).mono ?_
      rintro e w3 ⟨rfl, hc3, hk3⟩
      have bT : Below W0.heap.size W0 w3 := (b02.alloc b02.size _).trans (hk3.below hB (Nat.le_trans b02.size ((unhide bA2) _).size))
      go_wp2_with fail
      refine ((unhide htold) _ C.fin hc3).mono ?_
      rintro e w5 ⟨fs, rfl, hflt, b5⟩
      have b05 : Below W0.heap.size W0 w5 := bT.trans (b5.mono bT.size)
      have hne12 : w.heap.size ≠ w.heap.size + 1 := by omega
      have HT1 := hide (show w5.there w.heap.size 0 7 from dt.there_cells ((b05.block w.heap.size (by omega)).trans hR1) (by decide))
      have HT2 := hide (show w5.there (w.heap.size + 1) 0 fs.length from by rw [hflt.three.1]; exact dt.there_cells ((b05.block (w.heap.size + 1) hz0).trans hR2) (by decide))
      have HX0 := res2 hne12 [.int .i64 0, .string ⟨#[]⟩, .bool false, .slice none 0 0, .slice none 0 0, .int .i64 0, .int .i64 0] fs (unhide HT1) (unhide HT2)
      obtain ⟨W6, e6⟩ : ∃ W6, W6 = w5.setCells w.heap.size 0 (#[.int .i64 0, .string ⟨#[]⟩, .bool false, .slice none 0 0, .slice none 0 0, .int .i64 0, .int .i64 0] : Array Value).toList := ⟨_, rfl⟩
      have HX := hide (show W6.there (w.heap.size + 1) 0 _ ∧ (W6.setCells (w.heap.size + 1) 0 fs).rangeAt w.heap.size 0 [.int .i64 0, .string ⟨#[]⟩, .bool false, .slice none 0 0, .slice none 0 0, .int .i64 0, .int .i64 0] ∧ (W6.setCells (w.heap.size + 1) 0 fs).rangeAt (w.heap.size + 1) 0 fs from by rw [e6]; exact HX0)
      have E6 := hide e6
      clear HX0 e6
      have HI := hide (show (Tryz.prog.info? 37).map (·.size) = some fs.length from by rw [hflt.three.1]; exact infoFl)
      have HO := hide (dt.one_cells hflt.three.2)
      have HF := hide hflt
      have hbw := hide (bW0.trans (b05.mono bW0.size))
      have hlo := hide (show w.heap.size + 1 < _ ∧ w.heap.size < _ from And.intro (Nat.lt_of_lt_of_le hz0 bT.size) (Nat.lt_of_lt_of_le (Nat.lt_of_succ_lt hz0) bT.size))
      clear b05 b5 htold hflt
      go_wp2_with (first
        | (refine wpList_store_mid (by rfl) 32 _ _ (by rfl) w.heap.size 0 #[.int .i64 0, .string ⟨#[]⟩, .bool false, .slice none 0 0, .slice none 0 0, .int .i64 0, .int .i64 0] (by rfl) (by rfl) (unhide HT1) infoLt (dt.one_cells (cs := [.int .i64 0, .string ⟨#[]⟩, .bool false, .slice none 0 0, .slice none 0 0, .int .i64 0, .int .i64 0]) (by rfl)) ?_; rw [← unhide E6])
        | refine wpList_store_mid (by rfl) 37 _ _ (by rfl) (w.heap.size + 1) 0 fs.toArray (by rfl) (by rfl) (by have := (unhide HX).1; simpa using this) (by have := unhide HI; simpa using this) (unhide HO) ?_)
      refine bodyPost_ret (result_rows2 rfl _ _ w.heap.size 0 [.int .i64 0, .string ⟨#[]⟩, .bool false, .slice none 0 0, .slice none 0 0, .int .i64 0, .int .i64 0] _ rfl (unhide HX).2.1 Tryz.underlying32 rfl infoLt (w.heap.size + 1) 0 fs _ rfl (unhide HX).2.2 Tryz.underlying37 rfl (unhide HI)) rfl ?_
      have e6 := unhide E6
      subst e6
      refine ⟨_, [], _, rfl, ⟨leaf_shape 0 em false 0 0, leaf_ow _ 0 em false 0 0, List.nodup_nil, by simp⟩, ?_, dt.below_setCells _ _ _ _ (dt.below_setCells _ _ _ _ (unhide hbw) (Nat.le_refl _)) (Nat.le_add_right _ 1)⟩
      exact (((unhide HF).out (unhide hlo).2 _ _).out (unhide hlo).1 _ _).mono (Nat.le_of_lt (unhide hlo).2)
    · rw [hF] at hend
      go_wp2_with fail
      refine ((unhide hend) _ ((unhide HC2).below ((unhide bA2) _))).mono ?_
      rintro e w3 ⟨rfl, hc3, hk3⟩
      have hI3 := (hk3.block w2.heap.size (by simp) (by have := (unhide HC2).lt; omega)).trans (heap_alloc_new w2 _)
      have b03 : Below W0.heap.size W0 w3 := (b02.alloc b02.size _).trans (hk3.below hB (Nat.le_trans b02.size ((unhide bA2) _).size))
      have i0 : w3.cell? ⟨w2.heap.size, 0, none⟩ = some (.int .i64 kk) := (dt.cell_cells hI3 0).trans rfl
      have i1 : w3.cell? ⟨w2.heap.size, 1, none⟩ = some (.string tt) := (dt.cell_cells hI3 1).trans rfl
      have i2 : w3.cell? ⟨w2.heap.size, 2, none⟩ = some (.bool bl) := (dt.cell_cells hI3 2).trans rfl
      have i3 : w3.cell? ⟨w2.heap.size, 3, none⟩ = some (.slice ai ni ci) := (dt.cell_cells hI3 3).trans rfl
      have i4 : w3.cell? ⟨w2.heap.size, 4, none⟩ = some (.slice af nf cf) := (dt.cell_cells hI3 4).trans rfl
      have i5 : w3.cell? ⟨w2.heap.size, 5, none⟩ = some (.int .i64 ln) := (dt.cell_cells hI3 5).trans rfl
      have i6 : w3.cell? ⟨w2.heap.size, 6, none⟩ = some (.int .i64 co) := (dt.cell_cells hI3 6).trans rfl
      have HW3 := hide (show Ow w3 (it) [.int .i64 kk, .string tt, .bool bl, .slice ai ni ci, .slice af nf cf, .int .i64 ln, .int .i64 co] F from ow_kp (ow_below (unhide HP).own ((unhide bA2) _) (fun b hb => (hrF b hb).2)) hk3 (Nat.lt_of_lt_of_le (Nat.lt_succ_self B) (Nat.le_refl _)) (fun b hb => ⟨by have h1 := (unhide HP).rng b hb; have h2 := hB1; omega, by have := (hrF b hb).2; simp; omega⟩))
      have hz23 := hide (show w2.heap.size ≤ w3.heap.size from by have := hk3.size; simp at this; omega)
      have hne12 : w.heap.size ≠ w.heap.size + 1 := by omega
      have HT1 := hide (show w3.there w.heap.size 0 7 from dt.there_cells ((b03.block w.heap.size (by omega)).trans hR1) (by decide))
      have HT2 := hide (show w3.there (w.heap.size + 1) 0 3 from dt.there_cells ((b03.block (w.heap.size + 1) hz0).trans hR2) (by decide))
      have HX0 := res2 hne12 [.int .i64 kk, .string tt, .bool bl, .slice ai ni ci, .slice af nf cf, .int .i64 ln, .int .i64 co] [.int .i64 0, .slice none 0 0, .slice none 0 0] (unhide HT1) (unhide HT2)
      obtain ⟨W6, e6⟩ : ∃ W6, W6 = w3.setCells w.heap.size 0 (#[.int .i64 kk, .string tt, .bool bl, .slice ai ni ci, .slice af nf cf, .int .i64 ln, .int .i64 co] : Array Value).toList := ⟨_, rfl⟩
      have HX := hide (show W6.there (w.heap.size + 1) 0 _ ∧ (W6.setCells (w.heap.size + 1) 0 [.int .i64 0, .slice none 0 0, .slice none 0 0]).rangeAt w.heap.size 0 [.int .i64 kk, .string tt, .bool bl, .slice ai ni ci, .slice af nf cf, .int .i64 ln, .int .i64 co] ∧ (W6.setCells (w.heap.size + 1) 0 [.int .i64 0, .slice none 0 0, .slice none 0 0]).rangeAt (w.heap.size + 1) 0 [.int .i64 0, .slice none 0 0, .slice none 0 0] from by rw [e6]; exact HX0)
      have E6 := hide e6
      clear HX0 e6
      have hfin := hide (show C.fin = C ∧ C.kd = 0 from ⟨by unfold Cu.fin; rw [hF]; rfl, (of_decide_eq_true hF).1⟩)
      have hbw := hide (bW0.trans (b03.mono bW0.size))
      clear hI3 b03 hk3 hc3 hend htold b02 bA2
      go_wp2_with (first
        | (refine wpList_store_mid (by rfl) 32 _ _ (by rfl) w.heap.size 0 #[.int .i64 kk, .string tt, .bool bl, .slice ai ni ci, .slice af nf cf, .int .i64 ln, .int .i64 co] (by rfl) (by rfl) (unhide HT1) infoLt (dt.one_cells (cs := [.int .i64 kk, .string tt, .bool bl, .slice ai ni ci, .slice af nf cf, .int .i64 ln, .int .i64 co]) (by rfl)) ?_; rw [← unhide E6])
        | refine wpList_store_mid (by rfl) 37 _ _ (by rfl) (w.heap.size + 1) 0 #[.int .i64 0, .slice none 0 0, .slice none 0 0] (by rfl) (by rfl) (unhide HX).1 infoFl (dt.one_cells (cs := [.int .i64 0, .slice none 0 0, .slice none 0 0]) (by rfl)) ?_)
      refine bodyPost_ret (result_rows2 rfl _ _ w.heap.size 0 [.int .i64 kk, .string tt, .bool bl, .slice ai ni ci, .slice af nf cf, .int .i64 ln, .int .i64 co] _ rfl (unhide HX).2.1 Tryz.underlying32 rfl infoLt (w.heap.size + 1) 0 [.int .i64 0, .slice none 0 0, .slice none 0 0] _ rfl (unhide HX).2.2 Tryz.underlying37 rfl infoFl) rfl ?_
      have e6 := unhide E6
      subst e6
      refine ⟨_, F, _, rfl, ⟨⟨kk, tt, bl, ai, ni, ci, af, nf, cf, ln, co, rfl⟩, ow_out (ow_out (unhide HW3) (fun hm => by have := (hrF _ hm).1; omega) _ _) (fun hm => by have := (hrF _ hm).1; omega) _ _, (unhide HP).nodup, fun b hb => ⟨by have := (hrF b hb).1; have := bW0.size; omega, by rw [dt.size_setCells, dt.size_setCells]; have := (hrF b hb).2; have := unhide hz23; omega⟩⟩, ?_, dt.below_setCells _ _ _ _ (dt.below_setCells _ _ _ _ (unhide hbw) (Nat.le_refl _)) (Nat.le_add_right _ 1)⟩
      unfold FltAt
      show (if C.fin.kd = 0 then _ else _)
      rw [(unhide hfin).1, if_pos (unhide hfin).2]
end Go.Proofs.YtdmfbahnhkdamaaGreat.cu
namespace Go.Proofs.YtdmfbahnhkdamaaGreat.lx
open mem (pfx digB digs digAt isAt bWhole bPart bPoint bMark pfxFirst pfxR posT enB prB)
open cu (Tk)
set_option linter.unusedVariables false
set_option linter.unusedSimpArgs false
/-- what stands behind a token makes no difference: l and l' agree up to T, and a line feed stands there in l' -/
structure Loc (l l' : List Int) (T : Nat) : Prop where
  tk : l'.take T = l.take T
  le : T ≤ l.length
  nl : cAt l' T = 10
section
variable {l l' : List Int} {T : Nat} (H : Loc l l' T)
include H
theorem Loc.lt : T < l'.length := cAt_lt H.nl (by decide)
theorem Loc.get {i : Nat} (hi : i < T) : l'[i]? = l[i]? := by
  have h1 : (l'.take T)[i]? = (l.take T)[i]? := by rw [H.tk]
  rwa [List.getElem?_take, List.getElem?_take, if_pos hi, if_pos hi] at h1
theorem Loc.getD {i : Nat} (hi : i < T) : l'.getD i 0 = l.getD i 0 := by
  rw [List.getD_eq_getElem?_getD, List.getD_eq_getElem?_getD, H.get hi]
theorem Loc.at_ {i : Nat} (hi : i < T) : cAt l' i = cAt l i := by
  have := H.lt
  have := H.le
  rw [cAt_in (by omega), cAt_in (by omega), H.getD hi]
theorem ign_loc : ∀ (n : Nat) (b : Bool) (i : Nat), T ≤ i + n → ign l b i < T → ign l' b i = ign l b i
  | 0, b, i, h, h2 => by have := (ign_le l b i).1; omega
  | n + 1, b, i, h, h2 => by
    have hi : i < T := Nat.lt_of_le_of_lt (ign_le l b i).1 h2
    have hc := H.at_ hi
    cases b with
    | false =>
      rw [ign_f l i] at h2 ⊢
      rw [ign_f l' i, hc]
      split
      · rename_i h3; rw [if_pos h3] at h2; exact ign_loc n false (i + 1) (by omega) h2
      · rename_i h3; rw [if_neg h3] at h2
        split
        · rename_i h4; rw [if_pos h4] at h2; exact ign_loc n true (i + 1) (by omega) h2
        · rfl
    | true =>
      rw [ign_t l i] at h2 ⊢
      rw [ign_t l' i, hc]
      split
      · rename_i h3; rw [if_pos h3] at h2; exact ign_loc n false (i + 1) (by omega) h2
      · rename_i h3; rw [if_neg h3] at h2
        split
        · rename_i h4; rw [if_pos h4] at h2; exact ign_loc n true (i + 1) (by omega) h2
        · rfl
theorem nam_loc : ∀ (n : Nat) (i : Nat), T + 1 ≤ i + n → nam l i ≤ T → nam l' i = nam l i
  | 0, i, h, h2 => by have := (nam_le l i).1; omega
  | n + 1, i, h, h2 => by
    have hi : i ≤ T := Nat.le_trans (nam_le l i).1 h2
    by_cases e : i = T
    · subst e
      have h3 : nam l i = i := Nat.le_antisymm h2 (nam_le l i).1
      rw [h3, nam_eq l' i, H.nl]
      rfl
    · have hc := H.at_ (i := i) (by omega)
      rw [nam_eq l i] at h2 ⊢
      rw [nam_eq l' i, hc]
      split
      · rename_i h3; rw [if_pos h3] at h2; exact nam_loc n (i + 1) (by omega) h2
      · rfl
omit H in
theorem digAt_c (l : List Int) (p : Nat) : digAt l p = digB (cAt l p) := by
  unfold digAt cAt
  by_cases h : p < l.length
  · simp [h]
  · simp [h, digB]
omit H in
theorem isAt_c (l : List Int) (p : Nat) (c : Int) (hc : c ≠ -1) : isAt l p c = decide (cAt l p = c) := by
  unfold isAt cAt
  by_cases h : p < l.length
  · simp [h, BEq.beq]
  · simp [h]; exact fun e => hc e.symm
omit H in
theorem digs_eq (l : List Int) (p : Nat) : digs l p = if digAt l p then digs l (p + 1) else p := by
  cases h : digAt l p
  · rw [mem.digs_no h]; rfl
  · rw [mem.digs_yes h]; rfl
theorem digs_loc : ∀ (n : Nat) (i : Nat), T + 1 ≤ i + n → digs l i ≤ T → digs l' i = digs l i
  | 0, i, h, h2 => by have := (mem.digs_le l i).1; omega
  | n + 1, i, h, h2 => by
    have hi : i ≤ T := Nat.le_trans (mem.digs_le l i).1 h2
    by_cases e : i = T
    · subst e
      have h3 : digs l i = i := Nat.le_antisymm h2 (mem.digs_le l i).1
      rw [h3, digs_eq l' i, digAt_c, H.nl]
      rfl
    · have hc := H.at_ (i := i) (by omega)
      rw [digs_eq l i] at h2 ⊢
      rw [digs_eq l' i, digAt_c, digAt_c, hc]
      rw [digAt_c] at h2
      split
      · rename_i h3; rw [if_pos h3] at h2; exact digs_loc n (i + 1) (by omega) h2
      · rfl
theorem pfxR_loc {e : Nat} (he : (pfxR l e).1 ≤ T) (h46 : cAt l (pfxR l e).1 ≠ 46) (hnr : nrB (cAt l (pfxR l e).1) = false) : pfxR l' e = pfxR l e := by
  have hge : ∀ g, g ≤ (bPart l g (bMark l g)).1 := fun g => bPart_ge l g _ (by unfold bMark; split; omega; split <;> omega)
  have hpp : e ≤ bPoint l e := by unfold bPoint; split <;> omega
  have hb := bPart_ge l e (bPoint l e) hpp
  have hR : (bPart l e (bPoint l e)).1 ≤ (pfxR l e).1 := by
    unfold pfxR
    split
    · exact hge _
    · exact Nat.le_refl _
  have heT : e ≤ T := by omega
  have h46b : ∀ p, isAt l p 46 = decide (cAt l p = 46) := fun p => isAt_c l p 46 (by decide)
  have h46c : ∀ p, isAt l' p 46 = decide (cAt l' p = 46) := fun p => isAt_c l' p 46 (by decide)
  -- the point
  have hpt : bPoint l' e = bPoint l e := by
    unfold bPoint
    rw [h46b, h46c]
    by_cases h1 : e < T
    · rw [H.at_ h1]
    · have h2 : e = T := by omega
      have h3 : (pfxR l e).1 = e := by omega
      rw [h3] at h46
      rw [h2, H.nl, ← h2]
      simp [h46]
  -- the fraction
  have hfr : bPart l' e (bPoint l e) = bPart l e (bPoint l e) ∧ (bPart l e (bPoint l e)).1 = (bPart l e (bPoint l e)).2 := by
    by_cases h1 : bPoint l e = e
    · unfold bPart
      rw [if_pos h1, if_pos h1]
      exact ⟨rfl, rfl⟩
    · by_cases h2 : digs l (bPoint l e) = bPoint l e
      · exfalso
        have h3 : bPart l e (bPoint l e) = (e, digs l (bPoint l e)) := by unfold bPart; rw [if_neg h1, if_pos h2]
        have h4 : pfxR l e = (e, digs l (bPoint l e)) := by
          unfold pfxR
          rw [h3]
          simp only
          rw [if_neg (by rw [h2]; exact fun e' => h1 e'.symm)]
        rw [h4] at h46
        apply h46
        unfold bPoint at h1
        cases h5 : isAt l e 46
        · rw [h5] at h1; exact absurd rfl h1
        · rw [h46b] at h5; simpa using h5
      · have h3 : bPart l e (bPoint l e) = (digs l (bPoint l e), digs l (bPoint l e)) := by unfold bPart; rw [if_neg h1, if_neg h2]
        rw [h3] at hR
        have h4 := digs_loc H (T + 1) (bPoint l e) (by omega) (by simp only at hR; omega)
        refine ⟨?_, by rw [h3]⟩
        rw [h3]
        unfold bPart
        rw [if_neg h1, h4, if_neg h2]
  obtain ⟨g, hg⟩ : ∃ g, g = (bPart l e (bPoint l e)).1 := ⟨_, rfl⟩
  have hRe : pfxR l e = bPart l g (bMark l g) := by unfold pfxR; rw [if_pos hfr.2, ← hg]
  have hRe' : pfxR l' e = bPart l' g (bMark l' g) := by unfold pfxR; rw [hpt, hfr.1, if_pos hfr.2, ← hg]
  rw [← hg] at hR
  have he1 : ∀ p, isAt l p 101 = decide (cAt l p = 101) := fun p => isAt_c l p 101 (by decide)
  have he2 : ∀ p, isAt l p 69 = decide (cAt l p = 69) := fun p => isAt_c l p 69 (by decide)
  have he1' : ∀ p, isAt l' p 101 = decide (cAt l' p = 101) := fun p => isAt_c l' p 101 (by decide)
  have he2' : ∀ p, isAt l' p 69 = decide (cAt l' p = 69) := fun p => isAt_c l' p 69 (by decide)
  rw [hRe', hRe]
  by_cases hm : isAt l g 101 = false ∧ isAt l g 69 = false
  · have hm' : isAt l' g 101 = false ∧ isAt l' g 69 = false := by
      by_cases h1 : g < T
      · rw [he1', he2', H.at_ h1, ← he1, ← he2]; exact hm
      · have h2 : g = T := by omega
        rw [he1', he2', h2, H.nl]
        decide
    have e1 : bMark l g = g := by unfold bMark; rw [if_pos hm]
    have e2 : bMark l' g = g := by unfold bMark; rw [if_pos hm']
    rw [e1, e2]
    unfold bPart
    rw [if_pos rfl, if_pos rfl]
  · have hc : cAt l g = 101 ∨ cAt l g = 69 := by
      rw [he1, he2] at hm
      simp only [decide_eq_false_iff_not] at hm
      by_cases h : cAt l g = 101
      · exact .inl h
      · exact .inr (Classical.not_not.1 (fun h' => hm ⟨h, h'⟩))
    have hgn : nrB (cAt l g) = true := by rcases hc with h | h <;> rw [h] <;> decide
    have hne : g ≠ (pfxR l e).1 := fun e' => by rw [← e', hgn] at hnr; cases hnr
    have hgT : g < T := by omega
    have hk : bMark l g = g + 1 ∨ bMark l g = g + 2 := by unfold bMark; rw [if_neg hm]; split; exact .inr rfl; exact .inl rfl
    have hkg : bMark l g ≠ g := by omega
    by_cases hd : digs l (bMark l g) = bMark l g
    · exfalso
      have : bPart l g (bMark l g) = (g, digs l (bMark l g)) := by unfold bPart; rw [if_neg hkg, if_pos hd]
      rw [hRe, this] at hne
      exact hne rfl
    · have h3 : bPart l g (bMark l g) = (digs l (bMark l g), digs l (bMark l g)) := by unfold bPart; rw [if_neg hkg, if_neg hd]
      rw [hRe, h3] at he
      simp only at he
      have h5 := (mem.digs_le l (bMark l g)).1
      have hg1 : g + 1 < T := by omega
      have hs1 : ∀ c : Int, c ≠ -1 → isAt l' (g + 1) c = isAt l (g + 1) c := fun c hc => by rw [isAt_c _ _ _ hc, isAt_c _ _ _ hc, H.at_ hg1]
      have hmk : bMark l' g = bMark l g := by
        unfold bMark
        rw [he1', he2', H.at_ hgT, ← he1, ← he2, hs1 43 (by decide), hs1 45 (by decide)]
      have h4 := digs_loc H (T + 1) (bMark l g) (by omega) he
      rw [hmk, h3]
      unfold bPart
      rw [if_neg hkg, h4, if_neg hd]
theorem pfx_loc {p : Nat} (hf : (pfx l p).2.2 ≠ 0) (ht : (pfx l p).1 ≤ T) (h46 : cAt l (pfx l p).1 ≠ 46) (hnr : nrB (cAt l (pfx l p).1) = false) : pfx l' p = pfx l p := by
  have hw : ¬ bWhole l (pfxFirst l p) = pfxFirst l p := fun e => hf (by unfold pfx; rw [if_pos e])
  have hpx : pfx l p = ((pfxR l (bWhole l (pfxFirst l p))).1, (pfxR l (bWhole l (pfxFirst l p))).2, if (pfxR l (bWhole l (pfxFirst l p))).1 > bWhole l (pfxFirst l p) then 2 else 1) := by unfold pfx; rw [if_neg hw]
  rw [hpx] at ht h46 hnr
  simp only at ht h46 hnr
  have hge : ∀ g, g ≤ (bPart l g (bMark l g)).1 := fun g => bPart_ge l g _ (by unfold bMark; split; omega; split <;> omega)
  have hR : bWhole l (pfxFirst l p) ≤ (pfxR l (bWhole l (pfxFirst l p))).1 := by
    have hpp : ∀ e, e ≤ bPoint l e := fun e => by unfold bPoint; split <;> omega
    have hb := fun e => bPart_ge l e (bPoint l e) (hpp e)
    unfold pfxR
    split
    · exact Nat.le_trans (hb _) (hge _)
    · exact hb _
  have hwl : pfxFirst l p ≤ bWhole l (pfxFirst l p) := by
    unfold bWhole
    split
    · omega
    · exact (mem.digs_le l _).1
  have hfp : p ≤ pfxFirst l p := by unfold pfxFirst; split <;> omega
  have hpT : p < T := by omega
  have hfT : pfxFirst l p < T := by omega
  have hfi : pfxFirst l' p = pfxFirst l p := by unfold pfxFirst; rw [isAt_c _ _ _ (by decide), isAt_c _ _ _ (by decide), H.at_ hpT]
  have hwe : bWhole l' (pfxFirst l p) = bWhole l (pfxFirst l p) := by
    unfold bWhole
    rw [isAt_c _ _ _ (by decide), isAt_c _ _ _ (by decide), H.at_ hfT]
    split
    · rfl
    · rename_i h0
      refine digs_loc H (T + 1) _ (by omega) ?_
      have : bWhole l (pfxFirst l p) = digs l (pfxFirst l p) := by unfold bWhole; rw [isAt_c _ _ _ (by decide), if_neg h0]
      omega
  have hre := pfxR_loc H ht h46 hnr
  rw [hpx]
  unfold pfx
  rw [hfi, hwe, if_neg hw, hre]
theorem num_loc {i : Nat} (hk : (num l i).1 ≠ 1) (ht : (num l i).2 ≤ T) : num l' i = num l i := by
  have hc : ¬ (cAt l (pfx l i).1 = 46 ∨ nrB (cAt l (pfx l i).1) = true) := fun e => hk (by unfold num; rw [if_pos e])
  have h46 : cAt l (pfx l i).1 ≠ 46 := fun e => hc (.inl e)
  have hnr : nrB (cAt l (pfx l i).1) = false := by
    cases h : nrB (cAt l (pfx l i).1)
    · rfl
    · exact absurd (.inr h) hc
  have hf : (pfx l i).2.2 = 1 ∨ (pfx l i).2.2 = 2 := by
    by_cases h1 : (pfx l i).2.2 = 1
    · exact .inl h1
    · by_cases h2 : (pfx l i).2.2 = 2
      · exact .inr h2
      · exact absurd (by unfold num; rw [if_neg hc, if_neg h1, if_neg h2]) hk
  have ht2 : (pfx l i).1 ≤ T := by
    unfold num at ht
    rw [if_neg hc] at ht
    rcases hf with h | h
    · rw [if_pos h] at ht; exact ht
    · rw [if_neg (by rw [h]; decide), if_pos h] at ht; exact ht
  have he := pfx_loc H (by rcases hf with h | h <;> rw [h] <;> decide) ht2 h46 hnr
  have hc' : ¬ (cAt l' (pfx l i).1 = 46 ∨ nrB (cAt l' (pfx l i).1) = true) := by
    by_cases h1 : (pfx l i).1 < T
    · rw [H.at_ h1]; exact hc
    · have h2 : (pfx l i).1 = T := by omega
      rw [h2, H.nl]
      decide
  unfold num
  rw [he, if_neg hc, if_neg hc']
theorem insZ_loc {p i : Nat} (hi : i ≤ T) : insZ l' p i = insZ l p i := by
  unfold insZ
  have e : ∀ m : List Int, (m.drop p).take (i - p) = ((m.take T).drop p).take (i - p) := fun m => by
    rw [List.drop_take, List.take_take, Nat.min_eq_left (by omega)]
  rw [e l', e l, H.tk]
theorem tq_loc {i : Nat} (hi : i + 2 < T) : tq l' i = tq l i := by
  unfold tq
  rw [H.at_ (by omega), H.at_ (by omega), H.at_ hi]
theorem endB_loc : ∀ (k j i : Nat), endB l k j = some i → i + 3 ≤ T → ∀ k', i < j + k' → endB l' k' j = some i
  | 0, j, i, h, _, _, _ => by cases h
  | k + 1, j, i, h, hT, k', hk' => by
    have hle := endB_le l _ _ _ h
    cases k' with
    | zero => omega
    | succ k' =>
      unfold endB at h ⊢
      rw [tq_loc H (by omega)]
      split at h
      · rename_i ht; rw [if_pos ht]; exact h
      rename_i ht; rw [if_neg ht]
      have hji : j < i := by
        rcases Nat.lt_or_ge j i with h1 | h1
        · exact h1
        · exfalso
          have : j = i := by omega
          rw [this] at ht
          exact ht hle.2
      rw [H.at_ (by omega), tq_loc H (by omega)]
      split at h
      · rename_i h2; rw [if_pos h2]; exact endB_loc k _ i h hT k' (by omega)
      rename_i h2; rw [if_neg h2]
      split at h
      · cases h
      · rename_i h3; rw [if_neg h3]; exact endB_loc k _ i h hT k' (by omega)
theorem endQ_loc : ∀ (k j i : Nat), endQ l k j = some i → i + 1 ≤ T → ∀ k', i < j + k' → endQ l' k' j = some i
  | 0, j, i, h, _, _, _ => by cases h
  | k + 1, j, i, h, hT, k', hk' => by
    have hle := endQ_le l _ _ _ h
    cases k' with
    | zero => omega
    | succ k' =>
      unfold endQ at h ⊢
      rw [H.at_ (by omega)]
      split at h
      · rename_i ht; rw [if_pos ht]; exact h
      rename_i ht; rw [if_neg ht]
      have hji : j < i := by
        rcases Nat.lt_or_ge j i with h1 | h1
        · exact h1
        · exfalso
          have : j = i := by omega
          rw [this] at ht
          exact ht hle.2
      rw [H.at_ (i := j + 1) (by omega)]
      split at h
      · rename_i h2
        rw [if_pos h2]
        split at h
        · cases h
        · rename_i h3; rw [if_neg h3]; exact endQ_loc k _ i h hT k' (by omega)
      rename_i h2; rw [if_neg h2]
      split at h
      · cases h
      · rename_i h3; rw [if_neg h3]; exact endQ_loc k _ i h hT k' (by omega)
theorem rdG_loc {cl cl' : Bool} {F : Nat} (hF : F ≤ l.length) (h0 : (rdG l cl F).1 ≠ 0) (h1 : (rdG l cl F).1 ≠ 1) (ht : (rdG l cl F).2.1 ≤ T) : rdG l' cl' F = rdG l cl F := by
  have hle := rdG_le l cl F hF
  have hFT : F < T := by rcases hle.2.2 with h | h | h; exact absurd h h0; exact absurd h h1; omega
  have hc := H.at_ hFT
  have hlt := H.lt
  have hn0 : ¬ (F = l.length ∧ cl = true) := fun e => h0 (by unfold rdG; rw [if_pos e])
  have hn0' : ¬ (F = l'.length ∧ cl' = true) := fun e => by omega
  unfold rdG at h0 h1 ht ⊢
  rw [if_neg hn0] at h0 h1 ht ⊢
  rw [if_neg hn0', hc]
  split
  · rename_i h46
    rw [if_pos h46] at h0 h1 ht
    by_cases hd : cAt l (F + 1) = 46 ∧ cAt l (F + 2) = 46
    · rw [if_pos hd] at ht
      simp only at ht
      rw [if_pos hd, H.at_ (by omega), H.at_ (by omega), if_pos hd]
    · rw [if_neg hd] at h1; exact absurd rfl h1
  rename_i h46
  rw [if_neg h46] at h0 h1 ht
  split
  · rfl
  rename_i hpu
  rw [if_neg hpu] at h0 h1 ht
  split
  · rename_i hns
    rw [if_pos hns] at ht
    simp only at ht
    rw [nam_loc H (T + 1) (F + 1) (by omega) ht]
  rename_i hns
  rw [if_neg hns] at h0 h1 ht
  split
  · rename_i hnu
    rw [if_pos hnu] at h1 ht
    simp only at h1 ht
    rw [num_loc H h1 ht]
  rename_i hnu
  rw [if_neg hnu] at h0 h1 ht
  by_cases htq : tq l F = true
  · rw [if_pos htq] at h1 ht
    have h3 := tq_len l F htq
    have key : ∃ i, endB l (l.length + 2) (F + 3) = some i := by
      unfold blc at h1
      cases e : endB l (l.length + 2) (F + 3) with
      | none => rw [e] at h1; exact absurd rfl h1
      | some i => exact ⟨i, rfl⟩
    obtain ⟨i, hi⟩ := key
    have hib := endB_le l _ _ _ hi
    have hto : (blc sv.bS l F).2.1 = i + 3 := by unfold blc; rw [hi]; rfl
    rw [hto] at ht
    have htq' : tq l' F = true := by rw [tq_loc H (by omega)]; exact htq
    rw [if_pos htq', if_pos htq]
    have he := endB_loc H _ _ _ hi ht (l'.length + 2) (by omega)
    unfold blc
    rw [he, hi]
    simp only [blcR]
    rw [insZ_loc H (by omega)]
  · rw [if_neg htq] at h0 h1 ht
    by_cases h34 : cAt l F = 34
    · rw [if_pos h34] at h1 ht
      have key : ∃ i r, endQ l (l.length + 2) (F + 1) = some i ∧ quo (insZ l (F + 1) i) = some r := by
        unfold qtd at h1
        cases e : endQ l (l.length + 2) (F + 1) with
        | none => rw [e] at h1; exact absurd rfl h1
        | some i =>
          rw [e] at h1
          simp only [qtdR] at h1
          cases e2 : quo (insZ l (F + 1) i) with
          | none => rw [e2] at h1; exact absurd rfl h1
          | some r => exact ⟨i, r, rfl, e2⟩
      obtain ⟨i, r, hi, hr⟩ := key
      have hib := endQ_le l _ _ _ hi
      have hto : (qtd l F).2.1 = i + 1 := by unfold qtd; rw [hi]; simp only [qtdR, hr]
      rw [hto] at ht
      have htq' : ¬ tq l' F = true := by
        intro e
        unfold tq at e htq
        have e := of_decide_eq_true e
        have h1' : cAt l (F + 1) = 34 := by rw [← H.at_ (by omega)]; exact e.2.1
        have hiF : i = F + 1 := by
          unfold endQ at hi
          rw [if_pos h1'] at hi
          exact (Option.some.inj hi).symm
        have h2' : cAt l' (F + 2) = 34 := e.2.2
        by_cases hT2 : F + 2 < T
        · rw [H.at_ hT2] at h2'
          exact htq (by simp [h34, h1', h2'])
        · have : F + 2 = T := by omega
          rw [this, H.nl] at h2'
          exact absurd h2' (by decide)
      rw [if_neg htq', if_neg htq, if_pos h34, if_pos h34]
      have he := endQ_loc H _ _ _ hi ht (l'.length + 2) (by omega)
      unfold qtd
      rw [he, hi]
      simp only [qtdR]
      rw [insZ_loc H (by omega)]
    · rw [if_neg h34] at h1; exact absurd rfl h1
theorem posT_loc : ∀ (k : Nat), k < T → posT l' k = posT l k
  | 0, _ => rfl
  | k + 1, hk => by
    have ih := posT_loc k (by omega)
    have h1 := H.lt
    have h2 := H.le
    have he : enB l' k = enB l k := by
      unfold enB prB
      rw [H.getD (by omega), H.getD (by omega)]
      simp [show k + 1 < l.length by omega, show k + 1 < l'.length by omega]
    simp only [posT, he, ih]
theorem tkG_loc {cl cl' : Bool} {i : Nat} (hi : i ≤ l.length) (h0 : (tkG l cl i).k ≠ 0) (h1 : (tkG l cl i).k ≠ 1) (ht : (tkG l cl i).to ≤ T) : tkG l' cl' i = tkG l cl i := by
  have hF := (ign_le l false i).2 hi
  have hle := rdG_le l cl (ign l false i) hF
  have hFT : ign l false i < T := by
    rcases hle.2.2 with h | h | h
    · exact absurd h h0
    · exact absurd h h1
    · exact Nat.lt_of_lt_of_le h ht
  have hg := ign_loc H T false i (by omega) hFT
  have hr := rdG_loc H (cl' := cl') hF h0 h1 ht
  unfold tkG
  rw [hg, hr, posT_loc H _ hFT]
  congr 1
  have e : ∀ m : List Int, m.take (rdG l cl (ign l false i)).2.1 = (m.take T).take (rdG l cl (ign l false i)).2.1 := fun m => by
    rw [List.take_take, Nat.min_eq_left (show (rdG l cl (ign l false i)).2.1 ≤ T from ht)]
  rw [e l', e l, H.tk]
end
end Go.Proofs.YtdmfbahnhkdamaaGreat.lx
namespace Go.Proofs.YtdmfbahnhkdamaaGreat.cu
open dt (Dt)
open mem (decF decZ putB scB Byt posT enB)
open lx (toks chs cln tksG tkG)
set_option linter.unusedVariables false
set_option linter.unusedSimpArgs false
theorem decF_app : ∀ (zs : List Int) (f : Nat) (r : List Int), zs.all scB = true → decF (zs.length + f) (zs.flatMap putB ++ r) = (zs ++ (decF f r).1, (zs.flatMap putB).length + (decF f r).2)
  | [], f, r, _ => by simp
  | c :: zs, f, r, h => by
    rw [List.all_cons, Bool.and_eq_true] at h
    have hc := (mem.scB_iff c).1 h.1
    have ho := mem.one_put c hc (zs.flatMap putB ++ r)
    have hn : 0 < (putB c).length := by unfold putB; split <;> (try split) <;> (try split) <;> simp
    rw [List.flatMap_cons, List.append_assoc, List.length_cons, show zs.length + 1 + f = (zs.length + f) + 1 by omega, mem.decF_go _ _ (by rw [ho]; simp only; omega), ho]
    simp only
    rw [show (putB c ++ (zs.flatMap putB ++ r)).drop (putB c).length = zs.flatMap putB ++ r by simp, decF_app zs f r h.2]
    simp
    omega
theorem decF_fuel : ∀ (f g : Nat) (l : List Int), l.length ≤ f → l.length ≤ g → decF f l = decF g l
  | 0, g, l, hf, hg => by
    have : l = [] := List.eq_nil_of_length_eq_zero (by omega)
    subst this
    rw [mem.decF_end _ _ (by decide), mem.decF_end _ _ (by decide)]
  | f + 1, 0, l, hf, hg => by
    have : l = [] := List.eq_nil_of_length_eq_zero (by omega)
    subst this
    rw [mem.decF_end _ _ (by decide), mem.decF_end _ _ (by decide)]
  | f + 1, g + 1, l, hf, hg => by
    by_cases h : (mem.oneL l).2 = 0
    · rw [mem.decF_end _ _ h, mem.decF_end _ _ h]
    · have := mem.oneL_le l
      rw [mem.decF_go _ _ h, mem.decF_go _ _ h, decF_fuel f g _ (by simp; omega) (by simp; omega)]
/-- a source's beginning, a line feed, and anything behind -/
def behind (l : List Int) (T : Nat) (tl : List Int) : List Int := (l.take T).flatMap putB ++ 10 :: tl
end Go.Proofs.YtdmfbahnhkdamaaGreat.cu
namespace Go.Proofs.YtdmfbahnhkdamaaGreat.cu
open dt (Dt Kp RowAt Ow Grow)
open mem (decF decZ putB scB Byt posT enB)
open lx (toks chs cln tksG tkG)
set_option linter.unusedVariables false
set_option linter.unusedSimpArgs false
/- a document that is not read has a fault -/
end Go.Proofs.YtdmfbahnhkdamaaGreat.cu
namespace Go.Proofs.YtdmfbahnhkdamaaGreat.cu
open dt (Dt Kp RowAt Ow Grow)
set_option linter.unusedVariables false
set_option linter.unusedSimpArgs false
section
variable {M b : Nat}
end
end Go.Proofs.YtdmfbahnhkdamaaGreat.cu
namespace Go.Proofs.YtdmfbahnhkdamaaGreat.cu
open Go.ChangeShapes Go.WideShapes Go.ChangeAt Go.RowKit
open ints (hide unhide)
open dt (Dt Kp RowAt Ow Grow OwIn)
open mem (Row)
set_option linter.unusedVariables false
set_option linter.unusedSimpArgs false
/-- a literal's cells -/
theorem lit_cells {w : World} {k : Int} {tx : ByteArray} {bl : Bool} {its fls : List Dt} {ln co : Int} {cs : List Value} {F : List Nat} (h : Ow w (litD k tx bl (Dt.of its) (Dt.of fls) ln co) cs F) :
    ∃ ai ni ci af nf cf, cs = [.int .i64 k, .string tx, .bool bl, .slice ai ni ci, .slice af nf cf, .int .i64 ln, .int .i64 co] ∧ ni = its.length ∧ nf = fls.length ∧ ni ≤ ci ∧ nf ≤ cf ∧ ci ≤ maxLen ∧ cf ≤ maxLen ∧
      (∀ i e, its[i]? = some e → ∃ p ds G, ai = some ⟨p, 0, none⟩ ∧ p ∈ F ∧ RowAt w p (i * 7) ds ∧ ds.length = 7 ∧ Ow w e ds G ∧ ∀ b ∈ G, b ∈ F) ∧
      (∀ i e, fls[i]? = some e → ∃ p ds G, af = some ⟨p, 0, none⟩ ∧ p ∈ F ∧ RowAt w p (i * 10) ds ∧ ds.length = 10 ∧ Ow w e ds G ∧ ∀ b ∈ G, b ∈ F) := by
  unfold litD at h
  unfold Ow at h
  obtain ⟨d1, rfl, _, h⟩ := h
  unfold Ow at h
  obtain ⟨d2, rfl, _, h⟩ := h
  unfold Ow at h
  obtain ⟨d3, rfl, _, h⟩ := h
  unfold Ow at h
  obtain ⟨ai, ni, ci, d4, F1, F2, rfl, i1, i2, i3, i4, h, rfl⟩ := h
  unfold Ow at h
  obtain ⟨af, nf, cf, d5, F3, F4, rfl, j1, j2, j3, j4, h, rfl⟩ := h
  unfold Ow at h
  obtain ⟨d6, rfl, _, h⟩ := h
  unfold Ow at h
  obtain ⟨d7, rfl, _, h⟩ := h
  unfold Ow at h
  obtain ⟨rfl, rfl⟩ := h
  have key : ∀ (l : List Dt) (k : Nat) (a : Option Addr) (n : Nat) (G0 : List Nat), ((a = none ∧ Dt.of l = .nil ∧ n = 0 ∧ G0 = []) ∨ ∃ p G, a = some ⟨p, 0, none⟩ ∧ G0 = p :: G ∧ OwIn w (Dt.of l) k p 0 n G) → n = l.length ∧ ∀ i e, l[i]? = some e → ∃ p ds G, a = some ⟨p, 0, none⟩ ∧ p ∈ G0 ∧ RowAt w p (i * k) ds ∧ ds.length = k ∧ Ow w e ds G ∧ ∀ b ∈ G, b ∈ G0 := by
    intro l k a n G0 h
    rcases h with ⟨_, h2, h3, _⟩ | ⟨p, G, rfl, rfl, h⟩
    · cases l with
      | nil => exact ⟨h3, fun i e he => by simp at he⟩
      | cons d l => unfold Dt.of at h2; cases h2
    · obtain ⟨h1, h2⟩ := OwIn.get l k p 0 n G h
      refine ⟨h1.symm, fun i e he => ?_⟩
      obtain ⟨ds, Gi, g1, g2, g3, g4⟩ := h2 i e he
      exact ⟨p, ds, Gi, rfl, by simp, by simpa using g1, g2, g3, fun b hb => by simp [g4 b hb]⟩
  obtain ⟨e1, e2⟩ := key its 7 ai ni F1 i4
  obtain ⟨e3, e4⟩ := key fls 10 af nf F3 j4
  refine ⟨ai, ni, ci, af, nf, cf, rfl, e1, e3, i1, j1, i2, j2, fun i e he => ?_, fun i e he => ?_⟩
  · obtain ⟨p, ds, G, g1, g2, g3, g4, g5, g6⟩ := e2 i e he
    exact ⟨p, ds, G, g1, by simp [g2], g3, g4, g5, fun b hb => by simp [g6 b hb]⟩
  · obtain ⟨p, ds, G, g1, g2, g3, g4, g5, g6⟩ := e4 i e he
    exact ⟨p, ds, G, g1, by simp [g2], g3, g4, g5, fun b hb => by simp [g6 b hb]⟩
end Go.Proofs.YtdmfbahnhkdamaaGreat.cu
namespace Go.Proofs.YtdmfbahnhkdamaaGreat.cu
open Go.ChangeShapes Go.WideShapes Go.ChangeAt Go.RowKit
open ints (hide unhide)
open dt (Dt Kp RowAt Ow Grow OwIn)
open mem (Row)
set_option linter.unusedVariables false
set_option linter.unusedSimpArgs false
/-- a field's cells -/
theorem fld_cells {w : World} {nm : ByteArray} {k : Int} {tx : ByteArray} {bl : Bool} {its fls : Dt} {ln co x y : Int} {cs : List Value} {F : List Nat} (h : Ow w (fldD nm (litD k tx bl its fls ln co) x y) cs F) :
    ∃ ai ni ci af nf cf, cs = [.string nm, .int .i64 k, .string tx, .bool bl, .slice ai ni ci, .slice af nf cf, .int .i64 ln, .int .i64 co, .int .i64 x, .int .i64 y] ∧ Ow w (litD k tx bl its fls ln co) [.int .i64 k, .string tx, .bool bl, .slice ai ni ci, .slice af nf cf, .int .i64 ln, .int .i64 co] F := by
  unfold fldD litD at h
  simp only [app] at h
  unfold Ow at h
  obtain ⟨d0, rfl, _, h⟩ := h
  unfold Ow at h
  obtain ⟨d1, rfl, a1, h⟩ := h
  unfold Ow at h
  obtain ⟨d2, rfl, a2, h⟩ := h
  unfold Ow at h
  obtain ⟨d3, rfl, a3, h⟩ := h
  unfold Ow at h
  obtain ⟨ai, ni, ci, d4, F1, F2, rfl, i1, i2, i3, i4, h, rfl⟩ := h
  unfold Ow at h
  obtain ⟨af, nf, cf, d5, F3, F4, rfl, j1, j2, j3, j4, h, rfl⟩ := h
  unfold Ow at h
  obtain ⟨d6, rfl, a6, h⟩ := h
  unfold Ow at h
  obtain ⟨d7, rfl, a7, h⟩ := h
  unfold Ow at h
  obtain ⟨d8, rfl, a8, h⟩ := h
  unfold Ow at h
  obtain ⟨d9, rfl, a9, h⟩ := h
  unfold Ow at h
  obtain ⟨rfl, rfl⟩ := h
  refine ⟨ai, ni, ci, af, nf, cf, rfl, ?_⟩
  unfold litD Ow
  refine ⟨_, rfl, a1, ?_⟩
  unfold Ow
  refine ⟨_, rfl, a2, ?_⟩
  unfold Ow
  refine ⟨_, rfl, a3, ?_⟩
  unfold Ow
  refine ⟨ai, ni, ci, _, F1, F3 ++ [], rfl, i1, i2, i3, i4, ?_, rfl⟩
  unfold Ow
  refine ⟨af, nf, cf, _, F3, [], rfl, j1, j2, j3, j4, ?_, rfl⟩
  unfold Ow
  refine ⟨_, rfl, a6, ?_⟩
  unfold Ow
  refine ⟨_, rfl, a7, ?_⟩
  unfold Ow
  exact ⟨rfl, rfl⟩
/-- what the loops keep -/
structure FvI (w wr : World) (vc : Array Value) : Prop where
  bel : Below w.heap.size w wr
  v : wr.heap[w.heap.size]? = some (.cells vc 32 (0, 0))
  r : wr.heap[w.heap.size + 1]? = some (.cells #[.int .i64 0, .int .i64 0] 30 (0, 0))
end Go.Proofs.YtdmfbahnhkdamaaGreat.cu
namespace Go.Proofs.YtdmfbahnhkdamaaGreat.cu
open Go.ChangeShapes Go.WideShapes Go.ChangeAt Go.RowKit
open ints (hide unhide)
open dt (Dt Kp RowAt Ow Grow OwIn)
open mem (Row)
set_option linter.unusedVariables false
set_option linter.unusedSimpArgs false
/-- the same literal, but for places where they are not asked for -/
def EqL (pl : Bool) : Nat → Dt → Dt → Prop
  | 0, _, _ => False
  | f + 1, d, e => ∃ k tx bl its its' fls fls' ln co ln' co', d = litD k tx bl (Dt.of its) (Dt.of fls) ln co ∧ e = litD k tx bl (Dt.of its') (Dt.of fls') ln' co' ∧ (pl = true → ln = ln' ∧ co = co') ∧
      its.length = its'.length ∧ fls.length = fls'.length ∧ (∀ (i : Nat) x y, its[i]? = some x → its'[i]? = some y → EqL pl f x y) ∧
      (∀ (i : Nat) x y, fls[i]? = some x → fls'[i]? = some y → ∃ nm v v' a b a' b', x = fldD nm v a b ∧ y = fldD nm v' a' b' ∧ (pl = true → a = a' ∧ b = b') ∧ EqL pl f v v')
theorem EqL.left {pl : Bool} : ∀ {f : Nat} {d e : Dt}, EqL pl f d e → ∃ k tx bl its fls ln co, d = litD k tx bl its fls ln co
  | 0, d, e, h => h.elim
  | f + 1, d, e, ⟨k, tx, bl, its, its', fls, fls', ln, co, ln', co', h, _⟩ => ⟨k, tx, bl, _, _, ln, co, h⟩
theorem EqL.right {pl : Bool} : ∀ {f : Nat} {d e : Dt}, EqL pl f d e → ∃ k tx bl its fls ln co, e = litD k tx bl its fls ln co
  | 0, d, e, h => h.elim
  | f + 1, d, e, ⟨k, tx, bl, its, its', fls, fls', ln, co, ln', co', _, h, _⟩ => ⟨k, tx, bl, _, _, ln', co', h⟩
theorem lit_shape {w : World} {k : Int} {tx : ByteArray} {bl : Bool} {its fls : Dt} {ln co : Int} {cs : List Value} {F : List Nat} (h : Ow w (litD k tx bl its fls ln co) cs F) : LShape cs := by
  unfold litD at h
  unfold Ow at h
  obtain ⟨d1, rfl, _, h⟩ := h
  unfold Ow at h
  obtain ⟨d2, rfl, _, h⟩ := h
  unfold Ow at h
  obtain ⟨d3, rfl, _, h⟩ := h
  unfold Ow at h
  obtain ⟨ai, ni, ci, d4, F1, F2, rfl, i1, i2, i3, i4, h, rfl⟩ := h
  unfold Ow at h
  obtain ⟨af, nf, cf, d5, F3, F4, rfl, j1, j2, j3, j4, h, rfl⟩ := h
  unfold Ow at h
  obtain ⟨d6, rfl, _, h⟩ := h
  unfold Ow at h
  obtain ⟨d7, rfl, _, h⟩ := h
  unfold Ow at h
  obtain ⟨rfl, rfl⟩ := h
  exact ⟨_, _, _, _, _, _, _, _, _, _, _, rfl⟩
def SmAt (pl : Bool) (d e : Dt) : Prop := ∀ (w : World) (cs ds : List Value) (F G : List Nat), Ow w d cs F → Ow w e ds G → (∀ b ∈ F, b < w.heap.size) → (∀ b ∈ G, b < w.heap.size) → Calls Tryz.prog 6 #[.agg cs.toArray, .agg ds.toArray, .bool pl] w fun e w' => e = .returned (.bool true) ∧ Below w.heap.size w w'
structure SmI (w wr : World) (vc uc : Array Value) : Prop where
  bel : Below w.heap.size w wr
  v : wr.heap[w.heap.size]? = some (.cells vc 32 (0, 0))
  u : wr.heap[w.heap.size + 1]? = some (.cells uc 32 (0, 0))
theorem SmI.more {w wr wn : World} {vc uc : Array Value} (h : SmI w wr vc uc) (hb : Below wr.heap.size wr wn) : SmI w wn vc uc := by
  have h1 : w.heap.size < wr.heap.size := by
    rcases Nat.lt_or_ge w.heap.size wr.heap.size with g | g
    · exact g
    · have := h.v; rw [Array.getElem?_eq_none g] at this; cases this
  have h2 : w.heap.size + 1 < wr.heap.size := by
    rcases Nat.lt_or_ge (w.heap.size + 1) wr.heap.size with g | g
    · exact g
    · have := h.u; rw [Array.getElem?_eq_none g] at this; cases this
  exact ⟨h.bel.trans (hb.mono h.bel.size), (hb.block _ h1).trans h.v, (hb.block _ h2).trans h.u⟩
end Go.Proofs.YtdmfbahnhkdamaaGreat.cu
