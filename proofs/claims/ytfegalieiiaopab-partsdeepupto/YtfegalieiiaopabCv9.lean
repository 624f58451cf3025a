import Derived.Test.YtfegalieiiaopabCv8
namespace Go.Proofs.Ytfegalieiiaopab.cu
open Go.ChangeShapes Go.WideShapes Go.ChangeAt Go.RowKit
open ints (hide unhide)
open dt (Dt Kp RowAt)
open mem (Row)
set_option linter.unusedVariables false
set_option linter.unusedSimpArgs false
/-- the cursor over a source -/
def mostS (d : Int) : Nat := (max 0 (min d 200)).toNat
def newS (l : List Int) (d : Int) : Cu := ⟨lx.tks l 0, 0, 0, mostS d, 0⟩
theorem tks_more (l : List Int) : ∀ (f i : Nat), i ≤ l.length → l.length < f + i → ∀ j t, (lx.tksF l f i)[j]? = some t → t.k = 0 ∨ t.k = 1 ∨ j + 1 < (lx.tksF l f i).length
  | 0, i, hi, hf, j, t, h => by simp [lx.tksF] at h
  | f + 1, i, hi, hf, j, t, h => by
    by_cases he : (lx.tkAt l i).k = 0 ∨ (lx.tkAt l i).k = 1
    · rw [lx.tksF, if_pos he] at h
      cases j with
      | zero => simp at h; subst h; rcases he with e | e; exact .inl e; exact .inr (.inl e)
      | succ j => simp at h
    · rw [lx.tksF, if_neg he] at h ⊢
      have h2 := lx.tk_le l i hi
      have h3 : i < (lx.tkAt l i).to := by
        rcases h2.2.2 with e | e | e
        · exact absurd (.inl e) he
        · exact absurd (.inr e) he
        · exact e
      cases j with
      | zero =>
        right; right
        cases f with
        | zero => omega
        | succ f =>
          rw [lx.tksF]
          split <;> simp
      | succ j =>
        have := tks_more l f (lx.tkAt l i).to h2.2.1 (by omega) j t (by simpa using h)
        simpa using this
theorem tksF_len (l : List Int) : ∀ (f i : Nat), i ≤ l.length → (lx.tksF l f i).length ≤ l.length + 1 - i
  | 0, i, hi => by simp [lx.tksF]
  | f + 1, i, hi => by
    by_cases he : (lx.tkAt l i).k = 0 ∨ (lx.tkAt l i).k = 1
    · rw [lx.tksF, if_pos he]; simp; omega
    · rw [lx.tksF, if_neg he]
      have h2 := lx.tk_le l i hi
      have h3 : i < (lx.tkAt l i).to := by
        rcases h2.2.2 with e | e | e
        · exact absurd (.inl e) he
        · exact absurd (.inr e) he
        · exact e
      have := tksF_len l f (lx.tkAt l i).to h2.2.1
      simp
      omega
theorem tks_pos (l : List Int) (i : Nat) : 0 < (lx.tks l i).length := by
  unfold lx.tks
  rw [lx.tksF]
  split <;> simp
theorem newS_ok (l : List Int) (d : Int) : (newS l d).Ok :=
  ⟨tks_pos l 0, tks_more l (l.length + 1) 0 (Nat.zero_le _) (by omega), Nat.zero_le _, by unfold newS mostS; simp only; omega⟩
theorem new_ok (a : Option Addr) (n c : Nat) (l : List Int) (d : Int) (w : World) (h : Row .u8 w a n c l) (hn : n ≤ 1099511627776) (hp : lx.Plain l) (hd : (Lit.int .i64 d).wf = true) :
    Calls Try.prog 9 #[.slice a n c, .int .i64 d] w fun e w' => ∃ B p, e = .returned (ptr B) ∧ w.heap.size ≤ B ∧ w.heap.size ≤ p ∧ CurAt w' B p (newS l d) ∧ Below w.heap.size w w' := by
  have hT := hide (fun W (bb : Below w.heap.size w W) => lx.tokens_ok a n c l W (h.below bb) hn hp)
  have hok := hide (newS_ok l d)
  have hlen := tksF_len l (l.length + 1) 0 (Nat.zero_le _)
  rw [h.len] at hlen
  go_enter Try.func9, Try.ntmps9
  go_wp2_with fail
  refine ((unhide hT) w (Below.refl _ _)).mono ?_
  rintro e w1 ⟨p, cap, rfl, hp1, hp2, hrows, b1⟩
  have HR := hide hrows
  clear hT hrows
  go_wp2_with fail
  go_ret
  have hmo : (max 0 (min d 200)) = ((mostS d : Nat) : Int) := by unfold mostS; omega
  rw [hmo]
  have bX : ∀ o, Below w1.heap.size w1 (w1.alloc o) := fun o => (Below.refl _ _).alloc (Nat.le_refl _) _
  refine ⟨w1.heap.size, p, rfl, b1.size, hp1, ⟨unhide hok, ?_, cap, heap_alloc_new w1 _, by omega, ?_, fun i t ht => ((unhide HR) i t ht).below (bX _)⟩, b1.alloc b1.size _⟩
  · show (lx.tks l 0).length ≤ _
    unfold lx.tks
    rw [h.len]
    omega
  · simp; omega
/-- two results, each in a row of cells -/
theorem result_rows2 {P : Program} {fn : Func} {p q : Tmp} {ty tz : TypeId} (h : fn.results = #[.cell p ty, .cell q tz]) (tmps : Array Value) (w : World) (b o : Nat) (cs : List Value) (d : TypeDesc) (hp : tmps.getD p undef = .pointer (some ⟨b, o, none⟩)) (hc : w.rangeAt b o cs)
    (hu : P.underlying ty = some d) (hd : d.isRow = true) (hi : (P.info? ty).map (·.size) = some cs.length) (b2 o2 : Nat) (ds : List Value) (d2 : TypeDesc) (hp2 : tmps.getD q undef = .pointer (some ⟨b2, o2, none⟩)) (hc2 : w.rangeAt b2 o2 ds)
    (hu2 : P.underlying tz = some d2) (hd2 : d2.isRow = true) (hi2 : (P.info? tz).map (·.size) = some ds.length) : (results fn tmps).run P w = .ok (.tuple #[.agg cs.toArray, .agg ds.toArray]) w := by
  have h1 := run_loadVar_mid (P := P) w b o ty cs d hc hu hd hi
  have h2 := run_loadVar_mid (P := P) w b2 o2 tz ds d2 hc2 hu2 hd2 hi2
  have hp' : tmps[p]?.getD undef = .pointer (some ⟨b, o, none⟩) := by simpa using hp
  have hp2' : tmps[q]?.getD undef = .pointer (some ⟨b2, o2, none⟩) := by simpa using hp2
  simp [results, h, hp', hp2', asAddr, h1, h2]
theorem res2 {w3 : World} {b1 b2 : Nat} (hne : b1 ≠ b2) (cs ds : List Value) (h1 : w3.there b1 0 cs.length) (h2 : w3.there b2 0 ds.length) : (w3.setCells b1 0 cs).there b2 0 ds.length ∧ ((w3.setCells b1 0 cs).setCells b2 0 ds).rangeAt b1 0 cs ∧ ((w3.setCells b1 0 cs).setCells b2 0 ds).rangeAt b2 0 ds := by
  have h3 : (w3.setCells b1 0 cs).there b2 0 ds.length := World.there_setCells h2 _ _ _
  refine ⟨h3, fun j u hu => ?_, World.rangeAt_setCells_same _ _ _ _ h3⟩
  rw [dt.cell_blk (dt.heap_setCells b2 b1 hne ds 0 _)]
  exact World.rangeAt_setCells_same w3 b1 0 cs h1 j u hu
theorem FltAt.out {lo : Nat} {w : World} {c : Cu} {fs : List Value} (h : FltAt lo w c fs) {b : Nat} (hb : b < lo) (o : Nat) (vs : List Value) : FltAt lo (w.setCells b o vs) c fs := by
  unfold FltAt at h ⊢
  split at h
  · rw [if_pos ‹_›]; exact h
  · rw [if_neg ‹_›]
    obtain ⟨d, h1, h2, h3, h4, h5⟩ := h
    exact ⟨d, h1, by rw [dt.size_setCells]; exact h2, h3, (dt.cell_blk (dt.heap_setCells b d (by omega) vs o w) _).trans h4, (dt.cell_blk (dt.heap_setCells b d (by omega) vs o w) _).trans h5⟩
theorem FltAt.mono {lo lo' : Nat} {w : World} {c : Cu} {fs : List Value} (h : FltAt lo w c fs) (hb : lo' ≤ lo) : FltAt lo' w c fs := by
  unfold FltAt at h ⊢
  split at h
  · rw [if_pos ‹_›]; exact h
  · rw [if_neg ‹_›]
    obtain ⟨d, h1, h2, h3, h4, h5⟩ := h
    exact ⟨d, by omega, h2, h3, h4, h5⟩
theorem FltAt.three {lo : Nat} {w : World} {c : Cu} {fs : List Value} (h : FltAt lo w c fs) : fs.length = 3 ∧ fs.all (·.oneCell') = true := by
  unfold FltAt at h
  split at h
  · rw [h]; exact ⟨rfl, rfl⟩
  · obtain ⟨d, h1, h2, h3, h4, h5⟩ := h
    rw [h3]; exact ⟨rfl, rfl⟩
def readT (l : List Int) (d : Int) : Option (ByteArray × ByteArray) × Cu :=
  if (typF (lx.tks l 0).length (newS l d)).1.isSome then (if (typF (lx.tks l 0).length (newS l d)).2.finB then (typF (lx.tks l 0).length (newS l d)).1 else none, (typF (lx.tks l 0).length (newS l d)).2.fin) else (none, (typF (lx.tks l 0).length (newS l d)).2)
set_option maxRecDepth 4000 in
set_option maxHeartbeats 2000000 in
theorem readType_ok (a : Option Addr) (n c : Nat) (l : List Int) (d : Int) (w : World) (h : Row .u8 w a n c l) (hn : n ≤ 1099511627776) (hp : lx.Plain l) (hd : (Lit.int .i64 d).wf = true) :
    Calls Try.prog 8 #[.slice a n c, .int .i64 d] w fun e w' => ∃ fs, e = .returned (.tuple #[.agg (trC (readT l d).1).toArray, .agg fs.toArray]) ∧ FltAt w.heap.size w' (readT l d).2 fs ∧ Below w.heap.size w w' := by
  have hN := hide (fun W (bb : Below w.heap.size w W) => new_ok a n c l d W (h.below bb) hn hp hd)
  have hok := newS_ok l d
  have hlen : (newS l d).ts.length ≤ 1099511627777 := by
    have := tksF_len l (l.length + 1) 0 (Nat.zero_le _)
    show (lx.tksF l (l.length + 1) 0).length ≤ _
    rw [h.len] at this ⊢
    omega
  have hT := hide (typF_ok (lx.tks l 0).length (newS l d) hok hlen (Nat.le_add_right _ _))
  have hg := hide (typF_goes (lx.tks l 0).length (newS l d) hok).1
  unfold readT
  obtain ⟨U, hU⟩ : ∃ U, U = typF (lx.tks l 0).length (newS l d) := ⟨_, rfl⟩
  unfold TypAt at hT
  rw [← hU] at hT hg ⊢
  obtain ⟨c0, hc0⟩ : ∃ c0, c0 = newS l d := ⟨_, rfl⟩
  rw [← hc0] at hN hT hg
  clear h hU hok hlen hc0
  obtain ⟨r, C⟩ := U
  go_enter Try.func8, Try.ntmps8
  go_wp2_with fail
  have bW0 : Below w.heap.size w ((w.alloc (.cells #[Value.string { data := #[] }, .string { data := #[] }] 48)).alloc (.cells #[Value.int .i64 0, .slice none 0 0, .slice none 0 0] 37)) := ((Below.refl _ _).alloc (Nat.le_refl _) _).alloc (by simp) _
  have hR1 : ((w.alloc (.cells #[Value.string { data := #[] }, .string { data := #[] }] 48)).alloc (.cells #[Value.int .i64 0, .slice none 0 0, .slice none 0 0] 37)).heap[w.heap.size]? = some (.cells #[Value.string { data := #[] }, .string { data := #[] }] 48 (0, 0)) := (Below.heap_alloc _ _ w.heap.size (by simp)).trans (heap_alloc_new w _)
  have hR2 : ((w.alloc (.cells #[Value.string { data := #[] }, .string { data := #[] }] 48)).alloc (.cells #[Value.int .i64 0, .slice none 0 0, .slice none 0 0] 37)).heap[w.heap.size + 1]? = some (.cells #[Value.int .i64 0, .slice none 0 0, .slice none 0 0] 37 (0, 0)) := by
    have := heap_alloc_new (w.alloc (.cells #[Value.string { data := #[] }, .string { data := #[] }] 48)) (.cells #[Value.int .i64 0, .slice none 0 0, .slice none 0 0] 37)
    simpa using this
  have hz0 : w.heap.size + 1 < ((w.alloc (.cells #[Value.string { data := #[] }, .string { data := #[] }] 48)).alloc (.cells #[Value.int .i64 0, .slice none 0 0, .slice none 0 0] 37)).heap.size := by simp
  obtain ⟨W0, hW0⟩ : ∃ W0, W0 = (w.alloc (.cells #[Value.string { data := #[] }, .string { data := #[] }] 48)).alloc (.cells #[Value.int .i64 0, .slice none 0 0, .slice none 0 0] 37) := ⟨_, rfl⟩
  rw [← hW0] at bW0 hR1 hR2 hz0 ⊢
  clear hW0
  refine ((unhide hN) W0 bW0).mono ?_
  rintro e w1 ⟨B, p, rfl, hB, hp0, hc1, b1⟩
  have hTB := hide ((unhide hT) B p)
  have hend := hide (fun W (hc : CurAt W B p C) => end_ok B p C W hc)
  have htold := hide (fun W (D : Cu) (hc : CurAt W B p D) => told_ok B p D W hc)
  clear hN hT
  unfold ptr at hTB hend htold ⊢
  go_wp2_with fail
  refine ((unhide hTB) w1 hc1).mono ?_
  rintro e w2 ⟨rfl, hc2, hk2⟩
  have hB1 := hc1.lt
  -- the two result blocks stay
  have b02 : Below W0.heap.size W0 w2 := b1.trans (hk2.below hB b1.size)
  have HC2 := hide hc2
  clear hTB hc1 hc2 hk2 b1
  have bA2 := hide (fun o => show Below w2.heap.size w2 (w2.alloc o) from (Below.refl _ _).alloc (Nat.le_refl _) _)
  cases r with
  | none =>
    unfold trC
    go_wp2_with fail
    have bT := b02.alloc b02.size (.cells #[Value.string em, .string em] 48)
    refine ((unhide htold) _ C ((unhide HC2).below ((unhide bA2) _))).mono ?_
    rintro e w5 ⟨fs, rfl, hflt, b5⟩
    have b05 : Below W0.heap.size W0 w5 := bT.trans (b5.mono bT.size)
    have hne12 : w.heap.size ≠ w.heap.size + 1 := by omega
    have HT1 := hide (show w5.there w.heap.size 0 2 from dt.there_cells ((b05.block w.heap.size (by omega)).trans hR1) (by decide))
    have HT2 := hide (show w5.there (w.heap.size + 1) 0 fs.length from by rw [hflt.three.1]; exact dt.there_cells ((b05.block (w.heap.size + 1) hz0).trans hR2) (by decide))
    have HX := hide (res2 hne12 [.string ⟨#[]⟩, .string ⟨#[]⟩] fs (unhide HT1) (unhide HT2))
    have HI := hide (show (Try.prog.info? 37).map (·.size) = some fs.length from by rw [hflt.three.1]; exact infoFl)
    have HO := hide (dt.one_cells hflt.three.2)
    have HF := hide hflt
    have hbw := hide (bW0.trans (b05.mono bW0.size))
    have hlo := hide (show w.heap.size + 1 < _ ∧ w.heap.size < _ from And.intro (Nat.lt_of_lt_of_le hz0 bT.size) (Nat.lt_of_lt_of_le (Nat.lt_of_succ_lt hz0) bT.size))
    clear b05 b5 htold hflt
    go_wp2_with (first
      | refine wpList_store_mid (by rfl) 48 _ _ (by rfl) w.heap.size 0 #[.string ⟨#[]⟩, .string ⟨#[]⟩] (by rfl) (by rfl) (unhide HT1) infoTr (dt.one_cells (cs := [.string ⟨#[]⟩, .string ⟨#[]⟩]) (by rfl)) ?_
      | refine wpList_store_mid (by rfl) 37 _ _ (by rfl) (w.heap.size + 1) 0 fs.toArray (by rfl) (by rfl) (by have := (unhide HX).1; simpa using this) (by have := unhide HI; simpa using this) (unhide HO) ?_)
    refine bodyPost_ret (result_rows2 rfl _ _ w.heap.size 0 [.string ⟨#[]⟩, .string ⟨#[]⟩] _ rfl (unhide HX).2.1 Try.underlying48 rfl infoTr (w.heap.size + 1) 0 fs _ rfl (unhide HX).2.2 Try.underlying37 rfl (unhide HI)) rfl ?_
    refine ⟨_, rfl, ?_, dt.below_setCells _ _ _ _ (dt.below_setCells _ _ _ _ (unhide hbw) (Nat.le_refl _)) (Nat.le_add_right _ 1)⟩
    exact (((unhide HF).out (unhide hlo).2 _ _).out (unhide hlo).1 _ _).mono (Nat.le_of_lt (unhide hlo).2)
  | some it =>
    obtain ⟨nm, wp⟩ := it
    cases hF : C.finB
    · rw [hF] at hend
      unfold trC
      go_wp2_with fail
      refine ((unhide hend) _ ((unhide HC2).below ((unhide bA2) _))).mono ?_
      rintro e w3 ⟨rfl, hc3, hk3⟩
      have bT : Below W0.heap.size W0 w3 := (b02.alloc b02.size _).trans (hk3.below hB (Nat.le_trans b02.size ((unhide bA2) _).size))
      go_wp2_with fail
      refine ((unhide htold) _ C.fin hc3).mono ?_
      rintro e w5 ⟨fs, rfl, hflt, b5⟩
      have b05 : Below W0.heap.size W0 w5 := bT.trans (b5.mono bT.size)
      have hne12 : w.heap.size ≠ w.heap.size + 1 := by omega
      have HT1 := hide (show w5.there w.heap.size 0 2 from dt.there_cells ((b05.block w.heap.size (by omega)).trans hR1) (by decide))
      have HT2 := hide (show w5.there (w.heap.size + 1) 0 fs.length from by rw [hflt.three.1]; exact dt.there_cells ((b05.block (w.heap.size + 1) hz0).trans hR2) (by decide))
      have HX := hide (res2 hne12 [.string ⟨#[]⟩, .string ⟨#[]⟩] fs (unhide HT1) (unhide HT2))
      have HI := hide (show (Try.prog.info? 37).map (·.size) = some fs.length from by rw [hflt.three.1]; exact infoFl)
      have HO := hide (dt.one_cells hflt.three.2)
      have HF := hide hflt
      have hbw := hide (bW0.trans (b05.mono bW0.size))
      have hlo := hide (show w.heap.size + 1 < _ ∧ w.heap.size < _ from And.intro (Nat.lt_of_lt_of_le hz0 bT.size) (Nat.lt_of_lt_of_le (Nat.lt_of_succ_lt hz0) bT.size))
      clear b05 b5 htold hflt
      go_wp2_with (first
        | refine wpList_store_mid (by rfl) 48 _ _ (by rfl) w.heap.size 0 #[.string ⟨#[]⟩, .string ⟨#[]⟩] (by rfl) (by rfl) (unhide HT1) infoTr (dt.one_cells (cs := [.string ⟨#[]⟩, .string ⟨#[]⟩]) (by rfl)) ?_
        | refine wpList_store_mid (by rfl) 37 _ _ (by rfl) (w.heap.size + 1) 0 fs.toArray (by rfl) (by rfl) (by have := (unhide HX).1; simpa using this) (by have := unhide HI; simpa using this) (unhide HO) ?_)
      refine bodyPost_ret (result_rows2 rfl _ _ w.heap.size 0 [.string ⟨#[]⟩, .string ⟨#[]⟩] _ rfl (unhide HX).2.1 Try.underlying48 rfl infoTr (w.heap.size + 1) 0 fs _ rfl (unhide HX).2.2 Try.underlying37 rfl (unhide HI)) rfl ?_
      refine ⟨_, rfl, ?_, dt.below_setCells _ _ _ _ (dt.below_setCells _ _ _ _ (unhide hbw) (Nat.le_refl _)) (Nat.le_add_right _ 1)⟩
      exact (((unhide HF).out (unhide hlo).2 _ _).out (unhide hlo).1 _ _).mono (Nat.le_of_lt (unhide hlo).2)
    · rw [hF] at hend
      unfold trC
      go_wp2_with fail
      refine ((unhide hend) _ ((unhide HC2).below ((unhide bA2) _))).mono ?_
      rintro e w3 ⟨rfl, hc3, hk3⟩
      have hI3 := (hk3.block w2.heap.size (by simp) (by have := (unhide HC2).lt; omega)).trans (heap_alloc_new w2 _)
      have b03 : Below W0.heap.size W0 w3 := (b02.alloc b02.size _).trans (hk3.below hB (Nat.le_trans b02.size ((unhide bA2) _).size))
      have i0 : w3.cell? ⟨w2.heap.size, 0, none⟩ = some (.string nm) := (dt.cell_cells hI3 0).trans rfl
      have i1 : w3.cell? ⟨w2.heap.size, 1, none⟩ = some (.string wp) := (dt.cell_cells hI3 1).trans rfl
      have hne12 : w.heap.size ≠ w.heap.size + 1 := by omega
      have HT1 := hide (show w3.there w.heap.size 0 2 from dt.there_cells ((b03.block w.heap.size (by omega)).trans hR1) (by decide))
      have HT2 := hide (show w3.there (w.heap.size + 1) 0 3 from dt.there_cells ((b03.block (w.heap.size + 1) hz0).trans hR2) (by decide))
      have HX := hide (res2 hne12 [.string nm, .string wp] [.int .i64 0, .slice none 0 0, .slice none 0 0] (unhide HT1) (unhide HT2))
      have hfin := hide (show C.fin = C ∧ C.kd = 0 from ⟨by unfold Cu.fin; rw [hF]; rfl, (of_decide_eq_true hF).1⟩)
      have hbw := hide (bW0.trans (b03.mono bW0.size))
      clear hI3 b03 hk3 hc3 hend htold b02 bA2
      go_wp2_with (first
        | refine wpList_store_mid (by rfl) 48 _ _ (by rfl) w.heap.size 0 #[.string nm, .string wp] (by rfl) (by rfl) (unhide HT1) infoTr (dt.one_cells (cs := [.string nm, .string wp]) (by rfl)) ?_
        | refine wpList_store_mid (by rfl) 37 _ _ (by rfl) (w.heap.size + 1) 0 #[.int .i64 0, .slice none 0 0, .slice none 0 0] (by rfl) (by rfl) (unhide HX).1 infoFl (dt.one_cells (cs := [.int .i64 0, .slice none 0 0, .slice none 0 0]) (by rfl)) ?_)
      refine bodyPost_ret (result_rows2 rfl _ _ w.heap.size 0 [.string nm, .string wp] _ rfl (unhide HX).2.1 Try.underlying48 rfl infoTr (w.heap.size + 1) 0 [.int .i64 0, .slice none 0 0, .slice none 0 0] _ rfl (unhide HX).2.2 Try.underlying37 rfl infoFl) rfl ?_
      refine ⟨_, rfl, ?_, dt.below_setCells _ _ _ _ (dt.below_setCells _ _ _ _ (unhide hbw) (Nat.le_refl _)) (Nat.le_add_right _ 1)⟩
      unfold FltAt
      show (if C.fin.kd = 0 then _ else _)
      rw [(unhide hfin).1, if_pos (unhide hfin).2]
end Go.Proofs.Ytfegalieiiaopab.cu
