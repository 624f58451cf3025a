import Derived.Test.YtfegalieiiaopabCw6
namespace Go.Proofs.Ytfegalieiiaopab.cu
open Go.ChangeShapes Go.WideShapes Go.ChangeAt Go.RowKit
open ints (hide unhide)
open dt (Dt Kp RowAt Ow Grow)
open mem (Row)
set_option linter.unusedVariables false
set_option linter.unusedSimpArgs false
theorem litF_dead (ct : Bool) : ∀ (f : Nat) (c : Cu), c.kd ≠ 0 → (litF ct f c).1 = none
  | 0, c, h => rfl
  | f + 1, c, h => by
    show (litS (litF ct f) ct c).1 = none
    unfold litS
    rw [if_pos h]
theorem dead_stop {c : Cu} (k : Int) (h : c.kd ≠ 0) : c.stop k = c := if_neg h
theorem name_dead (ct : Bool) (f : Nat) (c : Cu) (h : (litF ct f (c.name.want bCol)).1.isSome = true) : c.isN = true := by
  cases hN : c.isN
  · exfalso
    have h1 : c.name = c.stop 70 := by unfold Cu.name; rw [hN]; rfl
    have h2 : (c.stop 70).kd ≠ 0 := by
      unfold Cu.stop
      split
      · show (70 : Int) ≠ 0; decide
      · assumption
    have h3 : (c.stop 70).want bCol = c.stop 70 := by
      unfold Cu.want
      have : (c.stop 70).isP bCol = false := by unfold Cu.isP; simp [h2]
      rw [this]
      exact dead_stop 70 h2
    rw [h1, h3, litF_dead ct f _ h2] at h
    cases h
  · rfl
theorem litF_ok (ct : Bool) : ∀ (f : Nat) (c : Cu), c.Ok → c.ts.length ≤ 1099511627777 → c.ts.length ≤ f + c.ix → LitAt (litF ct f) ct c
  | 0, c, hc, hl, hf => by have := hc.lt; omega
  | f + 1, c, hc, hl, hf =>
    lit_ok (litF ct f) ct c hc
      (list_ok (litF ct f) ct c hc hl (litF_goes ct f) (fun cc h1 h2 h3 => litF_ok ct f cc h1 (by rw [h2]; exact hl) (by rw [h2]; omega)))
      (obj_ok (litF ct f) ct c hc hl (litF_goes ct f) (fun cc h1 h2 h3 => field_ok _ ct cc (arg_ok (litF ct f) ct cc h1
        (by
          have s1 := name_stp h1
          have s2 := want_stp s1.ok bCol
          have s := s1.trans s2
          exact litF_ok ct f (cc.name.want bCol) s.ok (by rw [s.ts, h2]; exact hl) (by rw [s.ts, h2]; have := s.ix; omega))
        (name_dead ct f cc))))
def readL (l : List Int) (ct : Bool) (d : Int) : Option Dt × Cu :=
  if (litF ct (lx.tks l 0).length (newS l d)).1.isSome then (if (litF ct (lx.tks l 0).length (newS l d)).2.finB then (litF ct (lx.tks l 0).length (newS l d)).1 else none, (litF ct (lx.tks l 0).length (newS l d)).2.fin) else (none, (litF ct (lx.tks l 0).length (newS l d)).2)
set_option maxRecDepth 4000 in
set_option maxHeartbeats 2000000 in
theorem readLit_ok (a : Option Addr) (n c : Nat) (l : List Int) (ct : Bool) (d : Int) (w : World) (h : Row .u8 w a n c l) (hn : n ≤ 1099511627776) (hp : lx.Plain l) (hd : (Lit.int .i64 d).wf = true) :
    Calls Try.prog 6 #[.slice a n c, .bool ct, .int .i64 d] w fun e w' => ∃ cs F fs, e = .returned (.tuple #[.agg cs.toArray, .agg fs.toArray]) ∧ LitPost ((readL l ct d).1.getD zeroD) w w' cs F ∧ FltAt w.heap.size w' (readL l ct d).2 fs ∧ Below w.heap.size w w' := by
  have hN := hide (fun W (bb : Below w.heap.size w W) => new_ok a n c l d W (h.below bb) hn hp hd)
  have hok := newS_ok l d
  have hlen : (newS l d).ts.length ≤ 1099511627777 := by
    have := tksF_len l (l.length + 1) 0 (Nat.zero_le _)
    show (lx.tksF l (l.length + 1) 0).length ≤ _
    rw [h.len] at this ⊢
    omega
  have hT := hide (litF_ok ct (lx.tks l 0).length (newS l d) hok hlen (Nat.le_add_right _ _))
  have hg := hide (litF_goes ct (lx.tks l 0).length (newS l d) hok).1
  unfold readL
  obtain ⟨U, hU⟩ : ∃ U, U = litF ct (lx.tks l 0).length (newS l d) := ⟨_, rfl⟩
  unfold LitAt at hT
  rw [← hU] at hT hg ⊢
  obtain ⟨c0, hc0⟩ : ∃ c0, c0 = newS l d := ⟨_, rfl⟩
  rw [← hc0] at hN hT hg
  clear h hU hok hlen hc0
  obtain ⟨r, C⟩ := U
  go_enter Try.func6, Try.ntmps6
  go_wp2_with fail
  have bW0 : Below w.heap.size w ((w.alloc (.cells #[Value.int .i64 0, .string { data := #[] }, .bool false, .slice none 0 0, .slice none 0 0, .int .i64 0, .int .i64 0] 32)).alloc (.cells #[Value.int .i64 0, .slice none 0 0, .slice none 0 0] 37)) := ((Below.refl _ _).alloc (Nat.le_refl _) _).alloc (by simp) _
  have hR1 : ((w.alloc (.cells #[Value.int .i64 0, .string { data := #[] }, .bool false, .slice none 0 0, .slice none 0 0, .int .i64 0, .int .i64 0] 32)).alloc (.cells #[Value.int .i64 0, .slice none 0 0, .slice none 0 0] 37)).heap[w.heap.size]? = some (.cells #[Value.int .i64 0, .string { data := #[] }, .bool false, .slice none 0 0, .slice none 0 0, .int .i64 0, .int .i64 0] 32 (0, 0)) := (Below.heap_alloc _ _ w.heap.size (by simp)).trans (heap_alloc_new w _)
  have hR2 : ((w.alloc (.cells #[Value.int .i64 0, .string { data := #[] }, .bool false, .slice none 0 0, .slice none 0 0, .int .i64 0, .int .i64 0] 32)).alloc (.cells #[Value.int .i64 0, .slice none 0 0, .slice none 0 0] 37)).heap[w.heap.size + 1]? = some (.cells #[Value.int .i64 0, .slice none 0 0, .slice none 0 0] 37 (0, 0)) := by
    have := heap_alloc_new (w.alloc (.cells #[Value.int .i64 0, .string { data := #[] }, .bool false, .slice none 0 0, .slice none 0 0, .int .i64 0, .int .i64 0] 32)) (.cells #[Value.int .i64 0, .slice none 0 0, .slice none 0 0] 37)
    simpa using this
  have hz0 : w.heap.size + 1 < ((w.alloc (.cells #[Value.int .i64 0, .string { data := #[] }, .bool false, .slice none 0 0, .slice none 0 0, .int .i64 0, .int .i64 0] 32)).alloc (.cells #[Value.int .i64 0, .slice none 0 0, .slice none 0 0] 37)).heap.size := by simp
  obtain ⟨W0, hW0⟩ : ∃ W0, W0 = (w.alloc (.cells #[Value.int .i64 0, .string { data := #[] }, .bool false, .slice none 0 0, .slice none 0 0, .int .i64 0, .int .i64 0] 32)).alloc (.cells #[Value.int .i64 0, .slice none 0 0, .slice none 0 0] 37) := ⟨_, rfl⟩
  rw [← hW0] at bW0 hR1 hR2 hz0 ⊢
  clear hW0
  refine ((unhide hN) W0 bW0).mono ?_
  rintro e w1 ⟨B, p, rfl, hB, hp0, hc1, b1⟩
  have hTB := hide ((unhide hT) B p)
  have hend := hide (fun W (hc : CurAt W B p C) => end_ok B p C W hc)
  have htold := hide (fun W (D : Cu) (hc : CurAt W B p D) => told_ok B p D W hc)
  clear hN hT
  unfold ptr at hTB hend htold ⊢
  go_wp2_with fail
  refine ((unhide hTB) w1 hc1).mono ?_
  rintro e w2 ⟨cs, F, rfl, hpo, hc2, hk2⟩
  obtain ⟨kk, tt, bl, ai, ni, ci, af, nf, cf, ln, co, rfl⟩ := hpo.shape
  have HP := hide hpo
  have hrF : ∀ b ∈ F, W0.heap.size ≤ b ∧ b < w2.heap.size := fun b hb => ⟨Nat.le_trans b1.size (hpo.rng b hb).1, (hpo.rng b hb).2⟩
  clear hpo
  have hB1 := hc1.lt
  have b02 : Below W0.heap.size W0 w2 := b1.trans (hk2.below hB b1.size)
  have HC2 := hide hc2
  clear hTB hc1 hc2 hk2 b1
  have bA2 := hide (fun o => show Below w2.heap.size w2 (w2.alloc o) from (Below.refl _ _).alloc (Nat.le_refl _) _)
  cases r with
  | none =>
    go_wp2_with fail
    have bT := b02.alloc b02.size (.cells #[.int .i64 kk, .string tt, .bool bl, .slice ai ni ci, .slice af nf cf, .int .i64 ln, .int .i64 co] 32)
    refine ((unhide htold) _ C ((unhide HC2).below ((unhide bA2) _))).mono ?_
    rintro e w5 ⟨fs, rfl, hflt, b5⟩
    have b05 : Below W0.heap.size W0 w5 := bT.trans (b5.mono bT.size)
    have hne12 : w.heap.size ≠ w.heap.size + 1 := by omega
    have HT1 := hide (show w5.there w.heap.size 0 7 from dt.there_cells ((b05.block w.heap.size (by omega)).trans hR1) (by decide))
    have HT2 := hide (show w5.there (w.heap.size + 1) 0 fs.length from by rw [hflt.three.1]; exact dt.there_cells ((b05.block (w.heap.size + 1) hz0).trans hR2) (by decide))
    have HX0 := res2 hne12 [.int .i64 0, .string ⟨#[]⟩, .bool false, .slice none 0 0, .slice none 0 0, .int .i64 0, .int .i64 0] fs (unhide HT1) (unhide HT2)
    obtain ⟨W6, e6⟩ : ∃ W6, W6 = w5.setCells w.heap.size 0 (#[.int .i64 0, .string ⟨#[]⟩, .bool false, .slice none 0 0, .slice none 0 0, .int .i64 0, .int .i64 0] : Array Value).toList := ⟨_, rfl⟩
    have HX := hide (show W6.there (w.heap.size + 1) 0 _ ∧ (W6.setCells (w.heap.size + 1) 0 fs).rangeAt w.heap.size 0 [.int .i64 0, .string ⟨#[]⟩, .bool false, .slice none 0 0, .slice none 0 0, .int .i64 0, .int .i64 0] ∧ (W6.setCells (w.heap.size + 1) 0 fs).rangeAt (w.heap.size + 1) 0 fs from by rw [e6]; exact HX0)
    have E6 := hide e6
    clear HX0 e6
    have HI := hide (show (Try.prog.info? 37).map (·.size) = some fs.length from by rw [hflt.three.1]; exact infoFl)
    have HO := hide (dt.one_cells hflt.three.2)
    have HF := hide hflt
    have hbw := hide (bW0.trans (b05.mono bW0.size))
    have hlo := hide (show w.heap.size + 1 < _ ∧ w.heap.size < _ from And.intro (Nat.lt_of_lt_of_le hz0 bT.size) (Nat.lt_of_lt_of_le (Nat.lt_of_succ_lt hz0) bT.size))
    clear b05 b5 htold hflt
    go_wp2_with (first
      | (refine wpList_store_mid (by rfl) 32 _ _ (by rfl) w.heap.size 0 #[.int .i64 0, .string ⟨#[]⟩, .bool false, .slice none 0 0, .slice none 0 0, .int .i64 0, .int .i64 0] (by rfl) (by rfl) (unhide HT1) infoLt (dt.one_cells (cs := [.int .i64 0, .string ⟨#[]⟩, .bool false, .slice none 0 0, .slice none 0 0, .int .i64 0, .int .i64 0]) (by rfl)) ?_; rw [← unhide E6])
      | refine wpList_store_mid (by rfl) 37 _ _ (by rfl) (w.heap.size + 1) 0 fs.toArray (by rfl) (by rfl) (by have := (unhide HX).1; simpa using this) (by have := unhide HI; simpa using this) (unhide HO) ?_)
    refine bodyPost_ret (result_rows2 rfl _ _ w.heap.size 0 [.int .i64 0, .string ⟨#[]⟩, .bool false, .slice none 0 0, .slice none 0 0, .int .i64 0, .int .i64 0] _ rfl (unhide HX).2.1 Try.underlying32 rfl infoLt (w.heap.size + 1) 0 fs _ rfl (unhide HX).2.2 Try.underlying37 rfl (unhide HI)) rfl ?_
    have e6 := unhide E6
    subst e6
    refine ⟨_, [], _, rfl, ⟨leaf_shape 0 em false 0 0, leaf_ow _ 0 em false 0 0, List.nodup_nil, by simp⟩, ?_, dt.below_setCells _ _ _ _ (dt.below_setCells _ _ _ _ (unhide hbw) (Nat.le_refl _)) (Nat.le_add_right _ 1)⟩
    exact (((unhide HF).out (unhide hlo).2 _ _).out (unhide hlo).1 _ _).mono (Nat.le_of_lt (unhide hlo).2)
  | some it =>
    cases hF : C.finB
    · rw [hF] at hend
      go_wp2_with fail
      refine ((unhide hend) _ ((unhide HC2).below ((unhide bA2) _))).mono ?_
      rintro e w3 ⟨rfl, hc3, hk3⟩
      have bT : Below W0.heap.size W0 w3 := (b02.alloc b02.size _).trans (hk3.below hB (Nat.le_trans b02.size ((unhide bA2) _).size))
      go_wp2_with fail
      refine ((unhide htold) _ C.fin hc3).mono ?_
      rintro e w5 ⟨fs, rfl, hflt, b5⟩
      have b05 : Below W0.heap.size W0 w5 := bT.trans (b5.mono bT.size)
      have hne12 : w.heap.size ≠ w.heap.size + 1 := by omega
      have HT1 := hide (show w5.there w.heap.size 0 7 from dt.there_cells ((b05.block w.heap.size (by omega)).trans hR1) (by decide))
      have HT2 := hide (show w5.there (w.heap.size + 1) 0 fs.length from by rw [hflt.three.1]; exact dt.there_cells ((b05.block (w.heap.size + 1) hz0).trans hR2) (by decide))
      have HX0 := res2 hne12 [.int .i64 0, .string ⟨#[]⟩, .bool false, .slice none 0 0, .slice none 0 0, .int .i64 0, .int .i64 0] fs (unhide HT1) (unhide HT2)
      obtain ⟨W6, e6⟩ : ∃ W6, W6 = w5.setCells w.heap.size 0 (#[.int .i64 0, .string ⟨#[]⟩, .bool false, .slice none 0 0, .slice none 0 0, .int .i64 0, .int .i64 0] : Array Value).toList := ⟨_, rfl⟩
      have HX := hide (show W6.there (w.heap.size + 1) 0 _ ∧ (W6.setCells (w.heap.size + 1) 0 fs).rangeAt w.heap.size 0 [.int .i64 0, .string ⟨#[]⟩, .bool false, .slice none 0 0, .slice none 0 0, .int .i64 0, .int .i64 0] ∧ (W6.setCells (w.heap.size + 1) 0 fs).rangeAt (w.heap.size + 1) 0 fs from by rw [e6]; exact HX0)
      have E6 := hide e6
      clear HX0 e6
      have HI := hide (show (Try.prog.info? 37).map (·.size) = some fs.length from by rw [hflt.three.1]; exact infoFl)
      have HO := hide (dt.one_cells hflt.three.2)
      have HF := hide hflt
      have hbw := hide (bW0.trans (b05.mono bW0.size))
      have hlo := hide (show w.heap.size + 1 < _ ∧ w.heap.size < _ from And.intro (Nat.lt_of_lt_of_le hz0 bT.size) (Nat.lt_of_lt_of_le (Nat.lt_of_succ_lt hz0) bT.size))
      clear b05 b5 htold hflt
      go_wp2_with (first
        | (refine wpList_store_mid (by rfl) 32 _ _ (by rfl) w.heap.size 0 #[.int .i64 0, .string ⟨#[]⟩, .bool false, .slice none 0 0, .slice none 0 0, .int .i64 0, .int .i64 0] (by rfl) (by rfl) (unhide HT1) infoLt (dt.one_cells (cs := [.int .i64 0, .string ⟨#[]⟩, .bool false, .slice none 0 0, .slice none 0 0, .int .i64 0, .int .i64 0]) (by rfl)) ?_; rw [← unhide E6])
        | refine wpList_store_mid (by rfl) 37 _ _ (by rfl) (w.heap.size + 1) 0 fs.toArray (by rfl) (by rfl) (by have := (unhide HX).1; simpa using this) (by have := unhide HI; simpa using this) (unhide HO) ?_)
      refine bodyPost_ret (result_rows2 rfl _ _ w.heap.size 0 [.int .i64 0, .string ⟨#[]⟩, .bool false, .slice none 0 0, .slice none 0 0, .int .i64 0, .int .i64 0] _ rfl (unhide HX).2.1 Try.underlying32 rfl infoLt (w.heap.size + 1) 0 fs _ rfl (unhide HX).2.2 Try.underlying37 rfl (unhide HI)) rfl ?_
      have e6 := unhide E6
      subst e6
      refine ⟨_, [], _, rfl, ⟨leaf_shape 0 em false 0 0, leaf_ow _ 0 em false 0 0, List.nodup_nil, by simp⟩, ?_, dt.below_setCells _ _ _ _ (dt.below_setCells _ _ _ _ (unhide hbw) (Nat.le_refl _)) (Nat.le_add_right _ 1)⟩
      exact (((unhide HF).out (unhide hlo).2 _ _).out (unhide hlo).1 _ _).mono (Nat.le_of_lt (unhide hlo).2)
    · rw [hF] at hend
      go_wp2_with fail
      refine ((unhide hend) _ ((unhide HC2).below ((unhide bA2) _))).mono ?_
      rintro e w3 ⟨rfl, hc3, hk3⟩
      have hI3 := (hk3.block w2.heap.size (by simp) (by have := (unhide HC2).lt; omega)).trans (heap_alloc_new w2 _)
      have b03 : Below W0.heap.size W0 w3 := (b02.alloc b02.size _).trans (hk3.below hB (Nat.le_trans b02.size ((unhide bA2) _).size))
      have i0 : w3.cell? ⟨w2.heap.size, 0, none⟩ = some (.int .i64 kk) := (dt.cell_cells hI3 0).trans rfl
      have i1 : w3.cell? ⟨w2.heap.size, 1, none⟩ = some (.string tt) := (dt.cell_cells hI3 1).trans rfl
      have i2 : w3.cell? ⟨w2.heap.size, 2, none⟩ = some (.bool bl) := (dt.cell_cells hI3 2).trans rfl
      have i3 : w3.cell? ⟨w2.heap.size, 3, none⟩ = some (.slice ai ni ci) := (dt.cell_cells hI3 3).trans rfl
      have i4 : w3.cell? ⟨w2.heap.size, 4, none⟩ = some (.slice af nf cf) := (dt.cell_cells hI3 4).trans rfl
      have i5 : w3.cell? ⟨w2.heap.size, 5, none⟩ = some (.int .i64 ln) := (dt.cell_cells hI3 5).trans rfl
      have i6 : w3.cell? ⟨w2.heap.size, 6, none⟩ = some (.int .i64 co) := (dt.cell_cells hI3 6).trans rfl
      have HW3 := hide (show Ow w3 (it) [.int .i64 kk, .string tt, .bool bl, .slice ai ni ci, .slice af nf cf, .int .i64 ln, .int .i64 co] F from ow_kp (ow_below (unhide HP).own ((unhide bA2) _) (fun b hb => (hrF b hb).2)) hk3 (Nat.lt_of_lt_of_le (Nat.lt_succ_self B) (Nat.le_refl _)) (fun b hb => ⟨by have h1 := (unhide HP).rng b hb; have h2 := hB1; omega, by have := (hrF b hb).2; simp; omega⟩))
      have hz23 := hide (show w2.heap.size ≤ w3.heap.size from by have := hk3.size; simp at this; omega)
      have hne12 : w.heap.size ≠ w.heap.size + 1 := by omega
      have HT1 := hide (show w3.there w.heap.size 0 7 from dt.there_cells ((b03.block w.heap.size (by omega)).trans hR1) (by decide))
      have HT2 := hide (show w3.there (w.heap.size + 1) 0 3 from dt.there_cells ((b03.block (w.heap.size + 1) hz0).trans hR2) (by decide))
      have HX0 := res2 hne12 [.int .i64 kk, .string tt, .bool bl, .slice ai ni ci, .slice af nf cf, .int .i64 ln, .int .i64 co] [.int .i64 0, .slice none 0 0, .slice none 0 0] (unhide HT1) (unhide HT2)
      obtain ⟨W6, e6⟩ : ∃ W6, W6 = w3.setCells w.heap.size 0 (#[.int .i64 kk, .string tt, .bool bl, .slice ai ni ci, .slice af nf cf, .int .i64 ln, .int .i64 co] : Array Value).toList := ⟨_, rfl⟩
      have HX := hide (show W6.there (w.heap.size + 1) 0 _ ∧ (W6.setCells (w.heap.size + 1) 0 [.int .i64 0, .slice none 0 0, .slice none 0 0]).rangeAt w.heap.size 0 [.int .i64 kk, .string tt, .bool bl, .slice ai ni ci, .slice af nf cf, .int .i64 ln, .int .i64 co] ∧ (W6.setCells (w.heap.size + 1) 0 [.int .i64 0, .slice none 0 0, .slice none 0 0]).rangeAt (w.heap.size + 1) 0 [.int .i64 0, .slice none 0 0, .slice none 0 0] from by rw [e6]; exact HX0)
      have E6 := hide e6
      clear HX0 e6
      have hfin := hide (show C.fin = C ∧ C.kd = 0 from ⟨by unfold Cu.fin; rw [hF]; rfl, (of_decide_eq_true hF).1⟩)
      have hbw := hide (bW0.trans (b03.mono bW0.size))
      clear hI3 b03 hk3 hc3 hend htold b02 bA2
      go_wp2_with (first
        | (refine wpList_store_mid (by rfl) 32 _ _ (by rfl) w.heap.size 0 #[.int .i64 kk, .string tt, .bool bl, .slice ai ni ci, .slice af nf cf, .int .i64 ln, .int .i64 co] (by rfl) (by rfl) (unhide HT1) infoLt (dt.one_cells (cs := [.int .i64 kk, .string tt, .bool bl, .slice ai ni ci, .slice af nf cf, .int .i64 ln, .int .i64 co]) (by rfl)) ?_; rw [← unhide E6])
        | refine wpList_store_mid (by rfl) 37 _ _ (by rfl) (w.heap.size + 1) 0 #[.int .i64 0, .slice none 0 0, .slice none 0 0] (by rfl) (by rfl) (unhide HX).1 infoFl (dt.one_cells (cs := [.int .i64 0, .slice none 0 0, .slice none 0 0]) (by rfl)) ?_)
      refine bodyPost_ret (result_rows2 rfl _ _ w.heap.size 0 [.int .i64 kk, .string tt, .bool bl, .slice ai ni ci, .slice af nf cf, .int .i64 ln, .int .i64 co] _ rfl (unhide HX).2.1 Try.underlying32 rfl infoLt (w.heap.size + 1) 0 [.int .i64 0, .slice none 0 0, .slice none 0 0] _ rfl (unhide HX).2.2 Try.underlying37 rfl infoFl) rfl ?_
      have e6 := unhide E6
      subst e6
      refine ⟨_, F, _, rfl, ⟨⟨kk, tt, bl, ai, ni, ci, af, nf, cf, ln, co, rfl⟩, ow_out (ow_out (unhide HW3) (fun hm => by have := (hrF _ hm).1; omega) _ _) (fun hm => by have := (hrF _ hm).1; omega) _ _, (unhide HP).nodup, fun b hb => ⟨by have := (hrF b hb).1; have := bW0.size; omega, by rw [dt.size_setCells, dt.size_setCells]; have := (hrF b hb).2; have := unhide hz23; omega⟩⟩, ?_, dt.below_setCells _ _ _ _ (dt.below_setCells _ _ _ _ (unhide hbw) (Nat.le_refl _)) (Nat.le_add_right _ 1)⟩
      unfold FltAt
      show (if C.fin.kd = 0 then _ else _)
      rw [(unhide hfin).1, if_pos (unhide hfin).2]
end Go.Proofs.Ytfegalieiiaopab.cu
