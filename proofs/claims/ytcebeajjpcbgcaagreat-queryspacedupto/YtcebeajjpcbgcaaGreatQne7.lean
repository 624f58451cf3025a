import Derived.Test.YtcebeajjpcbgcaaGreatQne6
set_option linter.unusedVariables false
set_option linter.unusedSimpArgs false
namespace Go.Proofs.YtcebeajjpcbgcaaGreat.cu
open Go.ChangeShapes Go.WideShapes Go.ChangeAt Go.RowKit
open ints (hide unhide)
open dt (Dt Kp RowAt Ow Grow)
def nmV (t : Tk) (so : Bool) : List Value := if so then [.string t.tx, .int .i64 t.ln, .int .i64 t.co] else [.string em, .int .i64 0, .int .i64 0]
def _root_.Go.Proofs.YtcebeajjpcbgcaaGreat.cu.Cu.nmC (c : Cu) (so : Bool) : Cu := if so then c.take else c.stop 70
theorem nmV_3 (t : Tk) (so : Bool) : (nmV t so).length = 3 ∧ (nmV t so).all (·.oneCell') = true := by unfold nmV; split <;> exact ⟨rfl, rfl⟩
theorem isW_N {c : Cu} {ws : List ByteArray} (h : c.isW ws = true) : c.isN = true := by unfold Cu.isW at h; simp only [Bool.and_eq_true] at h; exact h.1
set_option maxHeartbeats 1000000 in
set_option maxRecDepth 4000 in
theorem wantWord_ok (B p : Nat) (c : Cu) (b n cp : Nat) (ws : List ByteArray) (w : World) (h : CurAt w B p c) (hw : Wds w b n cp ws) (hwn : n ≤ 1048576) :
  Calls Tryz.prog 54 #[ptr B, .slice (some ⟨b, 0, none⟩) n cp] w fun e w' => e = .returned (.tuple #[.agg (nmV c.tok (c.isW ws)).toArray, .bool (c.isW ws)]) ∧ CurAt w' B p (c.nmC (c.isW ws)) ∧ Kp B w w' := by
 have hi := hide (fun W (bb : Below w.heap.size w W) => isWord_ok B p c b n cp ws W (h.below bb) (hw.below bb) hwn)
 have hlt := h.lt
 have hplt := h.plt
 have hne : B ≠ w.heap.size := by omega
 have hnp : p ≠ w.heap.size := by omega
 have hV3 := hide (nmV_3 c.tok (c.isW ws)).1
 have hV1 := hide (nmV_3 c.tok (c.isW ws)).2
 obtain ⟨V, hV⟩ : ∃ V, V = nmV c.tok (c.isW ws) := ⟨_, rfl⟩
 obtain ⟨C, hC⟩ : ∃ C, C = c.nmC (c.isW ws) := ⟨_, rfl⟩
 have hn := hide (fun W (bb : Below w.heap.size w W) => show Calls Tryz.prog 70 #[ptr B, .bool (c.isW ws)] W fun e w' => e = .returned (.tuple #[.agg V.toArray, .bool (c.isW ws)]) ∧ CurAt w' B p C ∧ Kp B W w' from by rw [hV, hC]; exact name_ok B p c (c.isW ws) W (h.below bb) (fun e => isN_more h.ok (isW_N e)))
 rw [← hV] at hV3 hV1 ⊢
 rw [← hC] at ⊢
 clear hV hC
 obtain ⟨R, hR⟩ : ∃ R, R = c.isW ws := ⟨_, rfl⟩
 rw [← hR] at hi hn ⊢
 clear h hw hR
 unfold ptr at hi hn ⊢
 go_enter Tryz.func54, Tryz.ntmps54
 go_wp2_with fail
 have bA0 : Below w.heap.size w (w.alloc (.cells #[Value.string { data := #[] }, .int .i64 0, .int .i64 0] 120)) := (Below.refl _ _).alloc (Nat.le_refl _) _
 have hZ := (fun W (hk : Kp B (w.alloc (.cells #[Value.string { data := #[] }, .int .i64 0, .int .i64 0] 120)) W) => show W.heap[w.heap.size]? = some (.cells #[Value.string { data := #[] }, .int .i64 0, .int .i64 0] 120 (0, 0)) from (hk.block w.heap.size (by simp) (by omega)).trans (heap_alloc_new w _))
 obtain ⟨wA, hwA⟩ : ∃ wA, wA = w.alloc (.cells #[Value.string { data := #[] }, .int .i64 0, .int .i64 0] 120) := ⟨_, rfl⟩
 rw [← hwA] at bA0 hZ ⊢
 clear hwA
 refine ((unhide hi) wA bA0).mono ?_
 rintro e w1 ⟨rfl, b1⟩
 go_wp2_with fail
 refine ((unhide hn) w1 (bA0.trans (b1.mono bA0.size))).mono ?_
 rintro e wN ⟨rfl, hcN, hkN⟩
 have bE := b1
 have hk3 := (Kp.of bE).trans hkN
 have hth : wN.there w.heap.size 0 3 := dt.there_cells (hZ wN hk3) (by decide)
 have HK := hide ((Kp.of bA0).trans hk3)
 have HC := hide hcN
 have HT := hide (show wN.there w.heap.size 0 V.toArray.size from by rw [show V.toArray.size = 3 from by simpa using unhide hV3]; exact hth)
 have HI := hide (show (Tryz.prog.info? 120).map (·.size) = some V.toArray.size from by rw [show V.toArray.size = 3 from by simpa using unhide hV3]; exact infoNm)
 clear hk3 hkN hcN hth bE hZ bA0
 go_wp2_with (first
  | refine wpList_store_mid (by rfl) 120 _ _ (by rfl) w.heap.size 0 V.toArray (by rfl) (by rfl) (unhide HT) (unhide HI) (dt.one_cells (unhide hV1)) ?_)
 refine bodyPost_ret (rgn.result_row_tmp rfl _ _ w.heap.size 0 V _ rfl (World.rangeAt_setCells_same _ _ _ _ (by have := unhide HT; simpa using this)) Tryz.underlying120 rfl (by have := unhide HI; simpa using this)) rfl ?_
 exact ⟨rfl, (unhide HC).out hne hnp _ _, (unhide HK).out (Nat.le_refl _) _ _⟩
set_option maxHeartbeats 1000000 in
set_option maxRecDepth 4000 in
theorem nameBut_ok (B p : Nat) (c : Cu) (b n cp : Nat) (ws : List ByteArray) (w : World) (h : CurAt w B p c) (hw : Wds w b n cp ws) (hwn : n ≤ 1048576) :
  Calls Tryz.prog 72 #[ptr B, .slice (some ⟨b, 0, none⟩) n cp] w fun e w' => e = .returned (.tuple #[.agg (nmV c.tok (c.isN && !inW ws c.tok.tx)).toArray, .bool (c.isN && !inW ws c.tok.tx)]) ∧ CurAt w' B p (c.nmC (c.isN && !inW ws c.tok.tx)) ∧ Kp B w w' := by
 have hi := hide (fun W (bb : Below w.heap.size w W) => isName_ok B p c W (h.below bb))
 have ht := hide (fun W (bb : Below w.heap.size w W) => token_ok B p c W (h.below bb))
 have hct := hide (fun W (bb : Below w.heap.size w W) => contains_ok b n cp ws c.tok.tx W (hw.below bb) hwn)
 have hf1 := fld_text c.tok
 have hlt := h.lt
 have hplt := h.plt
 have hne : B ≠ w.heap.size := by omega
 have hnp : p ≠ w.heap.size := by omega
 have hV3 := hide (nmV_3 c.tok (c.isN && !inW ws c.tok.tx)).1
 have hV1 := hide (nmV_3 c.tok (c.isN && !inW ws c.tok.tx)).2
 obtain ⟨V, hV⟩ : ∃ V, V = nmV c.tok (c.isN && !inW ws c.tok.tx) := ⟨_, rfl⟩
 obtain ⟨C, hC⟩ : ∃ C, C = c.nmC (c.isN && !inW ws c.tok.tx) := ⟨_, rfl⟩
 have hn := hide (fun W (bb : Below w.heap.size w W) => show Calls Tryz.prog 70 #[ptr B, .bool (c.isN && !inW ws c.tok.tx)] W fun e w' => e = .returned (.tuple #[.agg V.toArray, .bool (c.isN && !inW ws c.tok.tx)]) ∧ CurAt w' B p C ∧ Kp B W w' from by rw [hV, hC]; exact name_ok B p c (c.isN && !inW ws c.tok.tx) W (h.below bb) (fun e => isN_more h.ok (by simp only [Bool.and_eq_true] at e; exact e.1)))
 rw [← hV] at hV3 hV1 ⊢
 rw [← hC] at ⊢
 clear hV hC
 obtain ⟨R, hR⟩ : ∃ R, R = c.isN := ⟨_, rfl⟩
 obtain ⟨S, hS⟩ : ∃ S, S = inW ws c.tok.tx := ⟨_, rfl⟩
 rw [← hR] at hi
 rw [← hS] at hct
 rw [← hR, ← hS] at hn ⊢
 obtain ⟨t, et⟩ : ∃ t, t = c.tok := ⟨_, rfl⟩
 rw [← et] at ht hct hf1
 clear h hw hR hS et
 unfold Tk.cells at ht
 unfold ptr at hi hn ht ⊢
 go_enter Tryz.func72, Tryz.ntmps72
 go_wp2_with fail
 have bA0 : Below w.heap.size w (w.alloc (.cells #[Value.string { data := #[] }, .int .i64 0, .int .i64 0] 120)) := (Below.refl _ _).alloc (Nat.le_refl _) _
 have hZ := (fun W (hk : Kp B (w.alloc (.cells #[Value.string { data := #[] }, .int .i64 0, .int .i64 0] 120)) W) => show W.heap[w.heap.size]? = some (.cells #[Value.string { data := #[] }, .int .i64 0, .int .i64 0] 120 (0, 0)) from (hk.block w.heap.size (by simp) (by omega)).trans (heap_alloc_new w _))
 obtain ⟨wA, hwA⟩ : ∃ wA, wA = w.alloc (.cells #[Value.string { data := #[] }, .int .i64 0, .int .i64 0] 120) := ⟨_, rfl⟩
 rw [← hwA] at bA0 hZ ⊢
 clear hwA
 refine ((unhide hi) wA bA0).mono ?_
 rintro e w1 ⟨rfl, b1⟩
 cases R
 ·simp only [Bool.false_and] at hn ⊢
  go_wp2_with fail
  refine ((unhide hn) w1 (bA0.trans (b1.mono bA0.size))).mono ?_
  rintro e wN ⟨rfl, hcN, hkN⟩
  have bE := b1
  have hk3 := (Kp.of bE).trans hkN
  have hth : wN.there w.heap.size 0 3 := dt.there_cells (hZ wN hk3) (by decide)
  have HK := hide ((Kp.of bA0).trans hk3)
  have HC := hide hcN
  have HT := hide (show wN.there w.heap.size 0 V.toArray.size from by rw [show V.toArray.size = 3 from by simpa using unhide hV3]; exact hth)
  have HI := hide (show (Tryz.prog.info? 120).map (·.size) = some V.toArray.size from by rw [show V.toArray.size = 3 from by simpa using unhide hV3]; exact infoNm)
  clear hk3 hkN hcN hth bE hZ bA0
  go_wp2_with (first
   | refine wpList_store_mid (by rfl) 120 _ _ (by rfl) w.heap.size 0 V.toArray (by rfl) (by rfl) (unhide HT) (unhide HI) (dt.one_cells (unhide hV1)) ?_)
  refine bodyPost_ret (rgn.result_row_tmp rfl _ _ w.heap.size 0 V _ rfl (World.rangeAt_setCells_same _ _ _ _ (by have := unhide HT; simpa using this)) Tryz.underlying120 rfl (by have := unhide HI; simpa using this)) rfl ?_
  exact ⟨rfl, (unhide HC).out hne hnp _ _, (unhide HK).out (Nat.le_refl _) _ _⟩
 ·simp only [Bool.true_and] at hn ⊢
  go_wp2_with fail
  refine ((unhide ht) w1 (bA0.trans (b1.mono bA0.size))).mono ?_
  rintro e w2 ⟨rfl, b2⟩
  have bE := b1.trans (b2.mono b1.size)
  go_wp2_with fail
  refine ((unhide hct) w2 (bA0.trans (bE.mono bA0.size))).mono ?_
  rintro e w3 ⟨rfl, hw3⟩
  obtain rfl : w2 = w3 := hw3.symm
  go_wp2_with fail
  refine ((unhide hn) w2 (bA0.trans (bE.mono bA0.size))).mono ?_
  rintro e wN ⟨rfl, hcN, hkN⟩
  have hk3 := (Kp.of bE).trans hkN
  have hth : wN.there w.heap.size 0 3 := dt.there_cells (hZ wN hk3) (by decide)
  have HK := hide ((Kp.of bA0).trans hk3)
  have HC := hide hcN
  have HT := hide (show wN.there w.heap.size 0 V.toArray.size from by rw [show V.toArray.size = 3 from by simpa using unhide hV3]; exact hth)
  have HI := hide (show (Tryz.prog.info? 120).map (·.size) = some V.toArray.size from by rw [show V.toArray.size = 3 from by simpa using unhide hV3]; exact infoNm)
  clear hk3 hkN hcN hth bE hZ bA0
  go_wp2_with (first
   | refine wpList_store_mid (by rfl) 120 _ _ (by rfl) w.heap.size 0 V.toArray (by rfl) (by rfl) (unhide HT) (unhide HI) (dt.one_cells (unhide hV1)) ?_)
  refine bodyPost_ret (rgn.result_row_tmp rfl _ _ w.heap.size 0 V _ rfl (World.rangeAt_setCells_same _ _ _ _ (by have := unhide HT; simpa using this)) Tryz.underlying120 rfl (by have := unhide HI; simpa using this)) rfl ?_
  exact ⟨rfl, (unhide HC).out hne hnp _ _, (unhide HK).out (Nat.le_refl _) _ _⟩

def Cu.word (c : Cu) (q : ByteArray) : Cu := if c.isW [q] then c.take else c
theorem isW_more {c : Cu} {ws : List ByteArray} (h : c.Ok) (hp : c.isW ws = true) : c.ix + 1 < c.ts.length := isN_more h (by unfold Cu.isW at hp; simp at hp; exact hp.1)
theorem wordW_ok (B p : Nat) (c : Cu) (q : ByteArray) (w : World) (h : CurAt w B p c) : Calls Tryz.prog 114 #[ptr B, .string q] w fun e w' => e = .returned (.bool (c.isW [q])) ∧ CurAt w' B p (c.word q) ∧ Kp B w w' := by
 have bA := hide (fun o => show Below w.heap.size w (w.alloc o) from (Below.refl _ _).alloc (Nat.le_refl _) _)
 have hi := hide (fun W (bb : Below w.heap.size w W) b (hw : Wds W b 1 1 [q]) => isWord_ok B p c b 1 1 [q] W (h.below bb) hw (by omega))
 have ht := hide (fun W (bb : Below w.heap.size w W) => takeIf_ok B p c (c.isW [q]) W (h.below bb) (isW_more h.ok))
 have hs := hide (show c.word q = if c.isW [q] then c.take else c from rfl)
 obtain ⟨R, hR⟩ : ∃ R, R = c.isW [q] := ⟨_, rfl⟩
 rw [← hR] at hi ht hs ⊢
 clear h hR
 unfold ptr at hi ht ⊢
 go_enter Tryz.func114, Tryz.ntmps114
 go_wp2_with fail
 refine ((unhide hi) _ ((unhide bA) _) w.heap.size ⟨rfl, by omega, by simp, fun i hi => ?_⟩).mono ?_
 ·obtain rfl : i = 0 := by omega
  exact (dt.cell_cells (heap_alloc_new w _) 0).trans rfl
 rintro e w1 ⟨rfl, b1⟩
 have b1' := ((unhide bA) _).trans (b1.mono ((unhide bA) _).size)
 clear b1
 go_wp2_with fail
 refine ((unhide ht) w1 b1').mono ?_
 rintro e w2 ⟨rfl, hc, hk⟩
 clear hi ht
 go_wp2_with fail
 go_ret
 exact ⟨rfl, by rw [unhide hs]; exact hc, (Kp.of b1').trans hk⟩
def bOn : ByteArray := ⟨#[111, 110]⟩
def bDots : ByteArray := ⟨#[46, 46, 46]⟩
def selD (k : Int) (al nm on : ByteArray) (ars ds ss : List Dt) (ln co : Int) : Dt := .val (.int .i64 k) (.val (.string al) (.val (.string nm) (.val (.string on) (.lst 10 (Dt.of ars) (.lst 4 (Dt.of ds) (.lst 9 (Dt.of ss) (.val (.int .i64 ln) (.val (.int .i64 co) .nil))))))))
def Cu.nmS (c : Cu) : ByteArray := if c.isN then c.tok.tx else em
def Cu.nmB (c : Cu) (so : Bool) : ByteArray := if so then c.tok.tx else em
def spreadS (L : Cu → Option Dt × Cu) (t : Tk) (c : Cu) : Option Dt × Cu :=
 match (dirs L (c.nmC (c.isN && !inW [bOn] c.tok.tx))).1 with
 | none => (none, (dirs L (c.nmC (c.isN && !inW [bOn] c.tok.tx))).2)
 | some l => (some (selD 2 em (c.nmB (c.isN && !inW [bOn] c.tok.tx)) em [] l [] t.ln t.co), (dirs L (c.nmC (c.isN && !inW [bOn] c.tok.tx))).2)
def onC (c : Cu) : Cu := if c.isW [bOn] then c.take.name else c
def onT (c : Cu) : ByteArray := if c.isW [bOn] then c.take.nmS else em
def inlineS (L : Cu → Option Dt × Cu) (S : Cu → Option (List Dt) × Cu) (t : Tk) (c : Cu) : Option Dt × Cu :=
 match (S (dirs L (onC c)).2).1 with
 | none => (none, (S (dirs L (onC c)).2).2)
 | some ss => (some (selD 3 em em (onT c) [] ((dirs L (onC c)).1.getD []) ss t.ln t.co), (S (dirs L (onC c)).2).2)
def fldC (c : Cu) : Cu := if c.name.isP bCol then c.name.take.name else c.name
def fldN (c : Cu) : ByteArray := if c.name.isP bCol then c.name.take.nmS else c.nmS
def fldA (c : Cu) : ByteArray := if c.name.isP bCol then c.nmS else em
def fieldS (L : Cu → Option Dt × Cu) (S : Cu → Option (List Dt) × Cu) (t : Tk) (c : Cu) : Option Dt × Cu :=
 let a := argsS L (fldC c)
 let d := dirs L a.2
 if d.2.isP bLc then (match (S d.2).1 with
  | none => (none, (S d.2).2)
  | some ss => (some (selD 1 (fldA c) (fldN c) em (a.1.getD []) (d.1.getD []) ss t.ln t.co), (S d.2).2))
 else (match d.1 with
  | none => (none, d.2)
  | some ds => (some (selD 1 (fldA c) (fldN c) em (a.1.getD []) ds [] t.ln t.co), d.2))
def selS (L : Cu → Option Dt × Cu) (S : Cu → Option (List Dt) × Cu) (c : Cu) : Option Dt × Cu :=
 if c.isP bDots then (if c.take.isN && !inW [bOn] c.take.tok.tx then spreadS L c.tok c.take else inlineS L S c.tok c.take) else fieldS L S c.tok c
def selsF (L : Cu → Option Dt × Cu) : Nat → Cu → Option (List Dt) × Cu
 | 0, c => (none, c)
 | g + 1, c => brk (selS L (selsF L g)) bLc bRc 1 c
theorem dirsF_stp {L : Cu → Option Dt × Cu} (hL : Goes L) : ∀ (g : Nat) (l : List Dt) (c : Cu), c.Ok → Stp c (dirsF L g l c).2
 | 0, l, c, h => Stp.refl h
 | g + 1, l, c, h => by
  simp only [dirsF]
  split
  ·rename_i hp
   have h1 := (dirS_stp hL h hp).1
   cases hq : (dirS L c).1 with
   | none => exact h1
   | some d => exact h1.trans (dirsF_stp hL g _ _ h1.ok)
  ·exact Stp.refl h
theorem dirs_stp {L : Cu → Option Dt × Cu} (hL : Goes L) {c : Cu} (h : c.Ok) : Stp c (dirs L c).2 := dirsF_stp hL _ _ _ h
theorem nmC_stp {c : Cu} {so : Bool} (h : c.Ok) (hs : so = true → c.isN = true) : Stp c (c.nmC so) := by
 unfold Cu.nmC
 cases so
 ·exact stop_stp h 70
 ·exact takeN h (hs rfl)
theorem spread_stp {L : Cu → Option Dt × Cu} (hL : Goes L) (t : Tk) {c : Cu} (h : c.Ok) : Stp c (spreadS L t c).2 := by
 have h1 := nmC_stp h (so := c.isN && !inW [bOn] c.tok.tx) (fun e => by simp at e; exact e.1)
 have h2 := h1.trans (dirs_stp hL h1.ok)
 unfold spreadS
 cases (dirs L (c.nmC (c.isN && !inW [bOn] c.tok.tx))).1 <;> exact h2
theorem onC_stp {c : Cu} (h : c.Ok) : Stp c (onC c) := by
 unfold onC
 split
 ·rename_i hw
  have h1 := takeN h (isW_N hw)
  exact h1.trans (name_stp h1.ok)
 ·exact Stp.refl h
theorem inline_stp {L : Cu → Option Dt × Cu} {S : Cu → Option (List Dt) × Cu} (hL : Goes L) (hS : Goes S) (t : Tk) {c : Cu} (h : c.Ok) : Stp c (inlineS L S t c).2 := by
 have h1 := onC_stp h
 have h2 := h1.trans (dirs_stp hL h1.ok)
 have h3 := h2.trans (hS _ h2.ok).1
 unfold inlineS
 cases (S (dirs L (onC c)).2).1 <;> exact h3
theorem fldC_stp {c : Cu} (h : c.Ok) : Stp c (fldC c) := by
 have h1 := name_stp h
 unfold fldC
 split
 ·rename_i hp
  have h2 := takeP h1.ok hp
  exact (h1.trans h2).trans (name_stp h2.ok)
 ·exact h1
theorem field_stp {L : Cu → Option Dt × Cu} {S : Cu → Option (List Dt) × Cu} (hL : Goes L) (hS : Goes S) (t : Tk) {c : Cu} (h : c.Ok) : Stp c (fieldS L S t c).2 := by
 have h1 := fldC_stp h
 have h2 := h1.trans (argsS_stp hL h1.ok)
 have h3 := h2.trans (dirs_stp hL h2.ok)
 have h4 := h3.trans (hS _ h3.ok).1
 simp only [fieldS]
 split
 ·cases (S (dirs L (argsS L (fldC c)).2).2).1 <;> exact h4
 ·cases (dirs L (argsS L (fldC c)).2).1 <;> exact h3
open dt (Dt)
theorem stop_kd (c : Cu) (k : Int) (hk : k ≠ 0) : (c.stop k).kd ≠ 0 := by
 unfold Cu.stop
 split
 ·exact hk
 ·assumption
theorem stop_dead (c : Cu) (k : Int) (h : c.kd ≠ 0) : c.stop k = c := if_neg h
def Faults {A : Type} (E : Cu → Option A × Cu) (b : Nat) : Prop := ∀ c, c.Ok → c.ts.length ≤ b + c.ix → (E c).1 = none → (E c).2.kd ≠ 0
theorem brkF_faults {E : Cu → Option Dt × Cu} (hG : Goes E) (b : Nat) (hE : Faults E b) (right : ByteArray) (least : Nat) : ∀ (g : Nat) (l : List Dt) (c : Cu), c.Ok → c.ts.length ≤ b + c.ix → c.ts.length ≤ g + c.ix → (brkF E right least g l c).1 = none → (brkF E right least g l c).2.kd ≠ 0
 | 0, l, c, h, hb, hg, hn => by have := h.lt; omega
 | g + 1, l, c, h, hb, hg, hn => by
  simp only [brkF] at hn ⊢
  split
  ·rename_i hc
   rw [if_pos hc] at hn
   cases hq : (E c).1 with
   | none => exact hE c h hb hq
   | some d =>
    rw [hq] at hn
    have h1 := hG c h
    have h2 := h1.2 (by rw [hq]; rfl)
    exact brkF_faults hG b hE right least g _ _ h1.1.ok (by rw [h1.1.ts]; omega) (by rw [h1.1.ts]; omega) hn
  ·rename_i hc
   rw [if_neg hc] at hn
   cases hn
theorem opn_kd {c : Cu} {p : ByteArray} (h : c.opB p = false) : (c.opn p).kd ≠ 0 := by
 unfold Cu.opB at h
 unfold Cu.opn
 split
 ·rename_i hp
  rw [hp] at h
  simp only [Bool.true_and, decide_eq_false_iff_not] at h
  rw [if_neg h]
  exact stop_kd _ _ (by decide)
 ·exact stop_kd _ _ (by decide)
theorem brk_faults {E : Cu → Option Dt × Cu} (hG : Goes E) (b : Nat) (hE : Faults E b) (left right : ByteArray) (least : Nat) (c : Cu) (h : c.Ok) (hb : c.ts.length ≤ b + 1 + c.ix) (hn : (brk E left right least c).1 = none) : (brk E left right least c).2.kd ≠ 0 := by
 unfold brk at hn ⊢
 have ho := opn_stp h left
 split
 ·rename_i hB
  rw [if_pos hB] at hn
  have hx := opn_ix hB
  exact brkF_faults hG b hE right least c.ts.length [] _ ho.ok (by rw [ho.ts, hx]; omega) (by rw [ho.ts]; omega) hn
 ·rename_i hB
  exact opn_kd (by simpa using hB)
theorem argS_faults {L : Cu → Option Dt × Cu} (b : Nat) (hL : Faults L b) : Faults (argS L) b := by
 intro c h hb hn
 have h1 := name_stp h
 have h2 := want_stp h1.ok bCol
 have h3 := h1.trans h2
 unfold argS at hn ⊢
 cases hq : (L (c.name.want bCol)).1 with
 | none => exact hL _ h3.ok (by rw [h3.ts]; have := h3.ix; omega) hq
 | some v => rw [hq] at hn; cases hn
theorem name_kd {c : Cu} (h : c.isN = false) : c.name.kd ≠ 0 := by
 unfold Cu.name
 rw [h]
 exact stop_kd _ _ (by decide)
theorem litF_faults (ct : Bool) : ∀ f, Faults (litF ct f) f
 | 0 => fun c h hb => by have := h.lt; omega
 | f + 1 => by
  intro c h hb hn
  have ih := litF_faults ct f
  change (litS (litF ct f) ct c).1 = none at hn
  show (litS (litF ct f) ct c).2.kd ≠ 0
  unfold litS at hn ⊢
  split
  ·assumption
  rename_i h0
  rw [if_neg h0] at hn
  split
  ·rename_i h1; rw [if_pos h1] at hn; cases hn
  rename_i h1; rw [if_neg h1] at hn
  split
  ·rename_i h2; rw [if_pos h2] at hn; cases hn
  rename_i h2; rw [if_neg h2] at hn
  split
  ·rename_i h3; rw [if_pos h3] at hn; cases hn
  rename_i h3; rw [if_neg h3] at hn
  split
  ·rename_i h4; rw [if_pos h4] at hn; cases hn
  rename_i h4; rw [if_neg h4] at hn
  split
  ·rename_i h5
   rw [if_pos h5] at hn
   unfold varS at hn ⊢
   split
   ·rename_i h6; rw [if_pos h6] at hn; cases hn
   ·rename_i h6
    exact name_kd (by simpa using h6)
  rename_i h5; rw [if_neg h5] at hn
  split
  ·rename_i h6
   rw [if_pos h6] at hn
   unfold listS at hn ⊢
   cases hq : (brk (litF ct f) bLb bRb 0 c).1 with
   | none => exact brk_faults (litF_goes ct f) f ih bLb bRb 0 c h (by omega) hq
   | some l => rw [hq] at hn; cases hn
  rename_i h6; rw [if_neg h6] at hn
  split
  ·rename_i h7
   rw [if_pos h7] at hn
   unfold objS at hn ⊢
   cases hq : (brk (argS (litF ct f)) bLc bRc 0 c).1 with
   | none => exact brk_faults (argS_goes (litF_goes ct f)) f (argS_faults f ih) bLc bRc 0 c h (by omega) hq
   | some l => rw [hq] at hn; cases hn
  ·exact stop_kd _ _ (by decide)
mutual
def fvD : Dt → Option (Int × Int)
 | .val (.int .i64 k) (.val _ (.val _ (.lst _ its (.lst _ fls (.val (.int .i64 ln) (.val (.int .i64 co) _)))))) => if k = 1 then some (ln, co) else (fvL its).or (fvG fls)
 | _ => none
def fvL : Dt → Option (Int × Int)
 | .row e r => (fvD e).or (fvL r)
 | _ => none
def fvG : Dt → Option (Int × Int)
 | .row (.val _ v) r => (fvD v).or (fvG r)
 | _ => none
end
structure Sim (m : Nat) (c c' : Cu) : Prop where
 ix : c'.ix = c.ix
 op : c'.op = c.op
 mo : c'.mo = c.mo
 kd : c'.kd = c.kd
 ts : ∀ q, q ≤ m → c'.ts[q]? = c.ts[q]?
section
variable {m : Nat}
end
theorem Faults.mono {A : Type} {E : Cu → Option A × Cu} {b b' : Nat} (h : Faults E b) (hb : b' ≤ b) : Faults E b' := fun c hc hl hn => h c hc (by omega) hn
theorem isP_dead {c : Cu} (h : c.kd ≠ 0) (p : ByteArray) : c.isP p = false := by unfold Cu.isP; simp [h]
theorem isN_dead {c : Cu} (h : c.kd ≠ 0) : c.isN = false := by unfold Cu.isN; simp [h]
theorem brk_dead (E : Cu → Option Dt × Cu) (l r : ByteArray) (n : Nat) {c : Cu} (h : c.kd ≠ 0) : brk E l r n c = (none, c) := by
 unfold brk Cu.opB Cu.opn
 simp [isP_dead h, stop_dead _ _ h]
theorem argsS_still (L : Cu → Option Dt × Cu) {c : Cu} (h : c.kd ≠ 0) : argsS L c = (none, c) := by
 unfold argsS
 rw [isP_dead h, if_neg (by decide), if_neg h]
theorem dirsF_still (L : Cu → Option Dt × Cu) {c : Cu} (h : c.kd ≠ 0) : ∀ (g : Nat) (l : List Dt), dirsF L g l c = (none, c)
 | 0, l => rfl
 | g + 1, l => by
  rw [dirsF, isP_dead h, if_neg (by decide), if_neg h]
theorem dirs_still (L : Cu → Option Dt × Cu) {c : Cu} (h : c.kd ≠ 0) : dirs L c = (none, c) := dirsF_still L h _ _
theorem selsF_still (L : Cu → Option Dt × Cu) {c : Cu} (h : c.kd ≠ 0) : ∀ g, selsF L g c = (none, c)
 | 0 => rfl
 | g + 1 => brk_dead _ _ _ _ h
theorem argsS_faults {L : Cu → Option Dt × Cu} (hG : Goes L) {b : Nat} (hL : Faults L b) : Faults (argsS L) b := by
 intro c hc hl hn
 unfold argsS at hn ⊢
 split at hn
 ·rename_i hp
  rw [if_pos hp]
  exact brk_faults (argS_goes hG) b (argS_faults b hL) bLp bRp 1 c hc (by omega) hn
 ·rename_i hp
  rw [if_neg hp]
  intro hk
  rw [if_pos hk] at hn
  cases hn
theorem dirS_faults {L : Cu → Option Dt × Cu} (hG : Goes L) {b : Nat} (hL : Faults L b) {c : Cu} (hc : c.Ok) (hp : c.isP bAt = true) (hl : c.ts.length ≤ b + c.ix) (hn : (dirS L c).1 = none) : (dirS L c).2.kd ≠ 0 := by
 have h1 := takeP hc hp
 have h2 := h1.trans (name_stp h1.ok)
 have h3 := argsS_faults hG hL c.take.name h2.ok (by rw [h2.ts]; have := h2.ix; omega)
 unfold dirS at hn ⊢
 cases hq : (argsS L c.take.name).1 with
 | none => exact h3 hq
 | some l => rw [hq] at hn; cases hn
theorem dirsF_faults {L : Cu → Option Dt × Cu} (hG : Goes L) {b : Nat} (hL : Faults L b) : ∀ (g : Nat) (l : List Dt) (c : Cu), c.Ok → c.ts.length ≤ b + c.ix → c.ts.length ≤ g + c.ix → (dirsF L g l c).1 = none → (dirsF L g l c).2.kd ≠ 0
 | 0, l, c, h, hb, hg, hn => by have := h.lt; omega
 | g + 1, l, c, h, hb, hg, hn => by
  simp only [dirsF] at hn ⊢
  by_cases hp : c.isP bAt = true
  ·rw [if_pos hp] at hn
   rw [if_pos hp]
   have hs := dirS_stp hG h hp
   have hf := dirS_faults hG hL h hp hb
   cases hq : (dirS L c).1 with
   | none => exact hf hq
   | some d =>
    rw [hq] at hn
    exact dirsF_faults hG hL g _ _ hs.1.ok (by rw [hs.1.ts]; have := hs.2; omega) (by rw [hs.1.ts]; have := hs.2; omega) hn
  ·rw [if_neg hp] at hn
   rw [if_neg hp]
   intro hk
   simp only at hn hk
   rw [if_pos hk] at hn
   cases hn
theorem dirs_faults {L : Cu → Option Dt × Cu} (hG : Goes L) {b : Nat} (hL : Faults L b) : Faults (dirs L) b := fun c hc hl hn => dirsF_faults hG hL _ _ c hc hl (by omega) hn
theorem spread_faults {L : Cu → Option Dt × Cu} (hG : Goes L) {b : Nat} (hL : Faults L b) (t : Tk) : Faults (spreadS L t) b := by
 intro c hc hl hn
 have h1 := nmC_stp hc (so := c.isN && !inW [bOn] c.tok.tx) (fun e => by simp at e; exact e.1)
 have h2 := dirs_faults hG hL _ h1.ok (by rw [h1.ts]; have := h1.ix; omega)
 unfold spreadS at hn ⊢
 cases hq : (dirs L (c.nmC (c.isN && !inW [bOn] c.tok.tx))).1 with
 | none => exact h2 hq
 | some l => rw [hq] at hn; cases hn
theorem inline_faults {L : Cu → Option Dt × Cu} {S : Cu → Option (List Dt) × Cu} (hG : Goes L) {b : Nat} (hS : Faults S b) (t : Tk) : Faults (inlineS L S t) b := by
 intro c hc hl hn
 have h1 := onC_stp hc
 have h2 := h1.trans (dirs_stp hG h1.ok)
 have h3 := hS _ h2.ok (by rw [h2.ts]; have := h2.ix; omega)
 unfold inlineS at hn ⊢
 cases hq : (S (dirs L (onC c)).2).1 with
 | none => exact h3 hq
 | some l => rw [hq] at hn; cases hn
theorem field_faults {L : Cu → Option Dt × Cu} {S : Cu → Option (List Dt) × Cu} (hG : Goes L) {b : Nat} (hL : Faults L b) (hS : Faults S b) (t : Tk) : Faults (fieldS L S t) b := by
 intro c hc hl hn
 have h1 := fldC_stp hc
 have h2 := h1.trans (argsS_stp hG h1.ok)
 have h3 := h2.trans (dirs_stp hG h2.ok)
 have h4 := hS _ h3.ok (by rw [h3.ts]; have := h3.ix; omega)
 have h5 := dirs_faults hG hL _ h2.ok (by rw [h2.ts]; have := h2.ix; omega)
 simp only [fieldS] at hn ⊢
 by_cases hp : (dirs L (argsS L (fldC c)).2).2.isP bLc = true
 ·rw [if_pos hp] at hn
  rw [if_pos hp]
  cases hq : (S (dirs L (argsS L (fldC c)).2).2).1 with
  | none => exact h4 hq
  | some l => rw [hq] at hn; cases hn
 ·rw [if_neg hp] at hn
  rw [if_neg hp]
  cases hq : (dirs L (argsS L (fldC c)).2).1 with
  | none => exact h5 hq
  | some l => rw [hq] at hn; cases hn
theorem selS_faults {L : Cu → Option Dt × Cu} {S : Cu → Option (List Dt) × Cu} (hG : Goes L) {b : Nat} (hL : Faults L b) (hS : Faults S b) : Faults (selS L S) b := by
 intro c hc hl hn
 unfold selS at hn ⊢
 by_cases hp : c.isP bDots = true
 ·rw [if_pos hp] at hn ⊢
  have h1 := takeP hc hp
  have h2 : c.take.ts.length ≤ b + c.take.ix := by rw [h1.ts]; have := h1.ix; omega
  by_cases hw : (c.take.isN && !inW [bOn] c.take.tok.tx) = true
  ·rw [if_pos hw] at hn ⊢
   exact spread_faults hG hL _ _ h1.ok h2 hn
  ·rw [if_neg hw] at hn ⊢
   exact inline_faults hG hS _ _ h1.ok h2 hn
 ·rw [if_neg hp] at hn ⊢
  exact field_faults hG hL hS _ _ hc hl hn
theorem name_dead' {c : Cu} (h : c.isN = false) : c.name.kd ≠ 0 := name_kd h
theorem field_some {L : Cu → Option Dt × Cu} {S : Cu → Option (List Dt) × Cu} (hG : Goes L) {b : Nat} (hL : Faults L b) (t : Tk) {c : Cu} (hc : c.Ok) (hl : c.ts.length ≤ b + c.ix) (hs : (fieldS L S t c).1.isSome = true) :
  c.isN = true ∧ (∃ l, (argsS L (fldC c)).1 = some l) ∧ ∃ l, (dirs L (argsS L (fldC c)).2).1 = some l := by
 have h1 := fldC_stp hc
 have h2 := h1.trans (argsS_stp hG h1.ok)
 have h5 := dirs_faults hG hL _ h2.ok (by rw [h2.ts]; have := h2.ix; omega)
 have h6 := argsS_faults hG hL _ h1.ok (by rw [h1.ts]; have := h1.ix; omega)
 have hd : ∃ l, (dirs L (argsS L (fldC c)).2).1 = some l := by
  cases hq : (dirs L (argsS L (fldC c)).2).1 with
  | some l => exact ⟨l, rfl⟩
  | none =>
   exfalso
   have hk := h5 hq
   simp only [fieldS] at hs
   rw [isP_dead hk, if_neg (by decide), hq] at hs
   cases hs
 have ha : ∃ l, (argsS L (fldC c)).1 = some l := by
  cases hq : (argsS L (fldC c)).1 with
  | some l => exact ⟨l, rfl⟩
  | none =>
   exfalso
   obtain ⟨l, hl⟩ := hd
   rw [dirs_still L (h6 hq)] at hl
   cases hl
 refine ⟨?_, ha, hd⟩
 cases hN : c.isN with
 | true => rfl
 | false =>
  exfalso
  obtain ⟨l, hl⟩ := ha
  have hk := name_dead' hN
  have : fldC c = c.name := by unfold fldC; rw [isP_dead hk, if_neg (by decide)]
  rw [this, argsS_still L hk] at hl
  cases hl
theorem selS_goes {L : Cu → Option Dt × Cu} {S : Cu → Option (List Dt) × Cu} (hG : Goes L) (hS : Goes S) : Goes (selS L S) := by
 intro c hc
 unfold selS
 by_cases hp : c.isP bDots = true
 ·rw [if_pos hp]
  have h1 := takeP hc hp
  by_cases hw : (c.take.isN && !inW [bOn] c.take.tok.tx) = true
  ·rw [if_pos hw]
   have h2 := spread_stp hG c.tok h1.ok
   exact ⟨h1.trans h2, fun _ => Nat.lt_of_lt_of_le (Nat.lt_succ_self _) h2.ix⟩
  ·rw [if_neg hw]
   have h2 := inline_stp hG hS c.tok h1.ok
   exact ⟨h1.trans h2, fun _ => Nat.lt_of_lt_of_le (Nat.lt_succ_self _) h2.ix⟩
 ·rw [if_neg hp]
  refine ⟨field_stp hG hS c.tok hc, fun hs => ?_⟩
  have h1 := fldC_stp hc
  have h2 := argsS_stp hG h1.ok
  have h3 := dirs_stp hG h2.ok
  have h4 := (hS _ h3.ok).1
  have hN : c.isN = true := by
   cases hN : c.isN with
   | true => rfl
   | false =>
    exfalso
    have hk := name_dead' hN
    have hf : fldC c = c.name := by unfold fldC; rw [isP_dead hk, if_neg (by decide)]
    simp only [fieldS, hf, argsS_still L hk, dirs_still L hk, isP_dead hk] at hs
    simp at hs
  have hx : c.ix < (fldC c).ix := by
   have e : c.name.ix = c.ix + 1 := by unfold Cu.name; rw [hN]; rfl
   unfold fldC
   split
   ·rename_i hq
    have h5 := takeP (name_stp hc).ok hq
    have := (name_stp h5.ok).ix
    have h6 : c.name.take.ix = c.name.ix + 1 := rfl
    omega
   ·omega
  have hx2 := Nat.lt_of_lt_of_le hx (Nat.le_trans h2.ix h3.ix)
  simp only [fieldS]
  split
  ·cases (S (dirs L (argsS L (fldC c)).2).2).1 <;> exact Nat.lt_of_lt_of_le hx2 h4.ix
  ·cases (dirs L (argsS L (fldC c)).2).1 <;> exact hx2
theorem selsF_goes {L : Cu → Option Dt × Cu} (hG : Goes L) : ∀ g, Goes (selsF L g)
 | 0 => fun c h => ⟨Stp.refl h, fun h => by cases h⟩
 | g + 1 => brk_goes (selS_goes hG (selsF_goes hG g)) bLc bRc 1
theorem selsF_faults {L : Cu → Option Dt × Cu} (hG : Goes L) {N : Nat} (hL : Faults L N) : ∀ g, g ≤ N → Faults (selsF L g) g
 | 0, _ => fun c h hl _ => by have := h.lt; omega
 | g + 1, hg => fun c h hl hn => brk_faults (selS_goes hG (selsF_goes hG g)) g (selS_faults hG (hL.mono (by omega)) (selsF_faults hG hL g (by omega))) bLc bRc 1 c h hl hn
theorem sels_dead (L : Cu → Option Dt × Cu) (g : Nat) (c : Cu) (h : c.kd ≠ 0) : (selsF L g c).1 = none := by rw [selsF_still L h]
def bEq : ByteArray := ⟨#[61]⟩
def bQuery : ByteArray := ⟨#[113, 117, 101, 114, 121]⟩
def bMut : ByteArray := ⟨#[109, 117, 116, 97, 116, 105, 111, 110]⟩
def bSub : ByteArray := ⟨#[115, 117, 98, 115, 99, 114, 105, 112, 116, 105, 111, 110]⟩
def bFrag : ByteArray := ⟨#[102, 114, 97, 103, 109, 101, 110, 116]⟩
abbrev LitR := Cu → Option Dt × Cu
abbrev TypR := Cu → Option (ByteArray × ByteArray) × Cu
abbrev LstR := Cu → Option (List Dt) × Cu
def varD (nm tn tw : ByteArray) (hd : Bool) (v : Dt) (ds : List Dt) (ln co : Int) : Dt := .val (.string nm) (.val (.string tn) (.val (.string tw) (.val (.bool hd) (app v (.lst 4 (Dt.of ds) (.val (.int .i64 ln) (.val (.int .i64 co) .nil)))))))
def varC3 (c : Cu) : Cu := ((c.want bDol).name).want bCol
def varV (L : LitR) (u : Cu) : Dt := if u.isP bEq then (L u.take).1.getD zeroD else zeroD
def varU (L : LitR) (u : Cu) : Cu := if u.isP bEq then (L u.take).2 else u
def varQ (T : TypR) (L : LitR) (c : Cu) : Option Dt × Cu :=
 let t := T (varC3 c)
 let d := dirs L (varU L t.2)
 match d.1 with
 | none => (none, d.2)
 | some ds => (some (varD (c.want bDol).nmS ((t.1.map (·.1)).getD em) ((t.1.map (·.2)).getD em) (t.2.isP bEq) (varV L t.2) ds c.tok.ln c.tok.co), d.2)
def defD (k : Int) (nm on : ByteArray) (sh : Bool) (vs ds ss : List Dt) (ln co : Int) : Dt := .val (.int .i64 k) (.val (.string nm) (.val (.string on) (.val (.bool sh) (.lst 14 (Dt.of vs) (.lst 4 (Dt.of ds) (.lst 9 (Dt.of ss) (.val (.int .i64 ln) (.val (.int .i64 co) .nil))))))))
def bodyS (L : LitR) (S : LstR) (k : Int) (nm on : ByteArray) (vs : List Dt) (t : Tk) (c : Cu) : Option Dt × Cu :=
 match (S (dirs L c).2).1 with
 | none => (none, (S (dirs L c).2).2)
 | some ss => (some (defD k nm on false vs ((dirs L c).1.getD []) ss t.ln t.co), (S (dirs L c).2).2)
def varsS (T : TypR) (K : LitR) (c : Cu) : Option (List Dt) × Cu := if c.isP bLp then brk (varQ T K) bLp bRp 1 c else (some [], c)
def opC (c : Cu) : Cu := if c.tok.k = 3 then c.name else c
def operS (T : TypR) (K L : LitR) (S : LstR) (k : Int) (t : Tk) (c : Cu) : Option Dt × Cu :=
 bodyS L S k c.nmS em ((varsS T K (opC c)).1.getD []) t (varsS T K (opC c)).2
def fragC (c : Cu) : Cu := c.nmC (c.isN && !inW [bOn] c.tok.tx)
def fragO (c : Cu) : Cu := c.nmC (c.isW [bOn])
def fragS (L : LitR) (S : LstR) (t : Tk) (c : Cu) : Option Dt × Cu :=
 bodyS L S 4 (c.nmB (c.isN && !inW [bOn] c.tok.tx)) (fragO (fragC c)).nmS [] t (fragO (fragC c)).name
def defS (T : TypR) (K L : LitR) (S : LstR) (c : Cu) : Option Dt × Cu :=
 if c.isP bLc then (match (S c).1 with | none => (none, (S c).2) | some ss => (some (defD 1 em em true [] [] ss c.tok.ln c.tok.co), (S c).2))
 else if c.isW [bQuery, bMut, bSub, bFrag] then
  (if c.tok.tx = bQuery then operS T K L S 1 c.tok c.take else if c.tok.tx = bMut then operS T K L S 2 c.tok c.take else if c.tok.tx = bSub then operS T K L S 3 c.tok c.take else fragS L S c.tok c.take)
 else (none, c.stop 70)
def defsF (D : LitR) : Nat → List Dt → Cu → Option (List Dt) × Cu
 | 0, l, c => (none, c)
 | g + 1, l, c => if l.length = 0 ∨ c.tok.k ≠ 0 then (match (D c).1 with | none => (none, (D c).2) | some d => defsF D g (l ++ [d]) (D c).2) else (if c.finB then some l else none, c.fin)
def defN (N : Nat) : LitR := defS (typF N) (litF true N) (litF false N) (selsF (litF false N) N)
def docS (c : Cu) : Option (List Dt) × Cu := defsF (defN c.ts.length) c.ts.length [] c
theorem varC3_stp {c : Cu} (h : c.Ok) : Stp c (varC3 c) := by
 have h1 := want_stp h bDol
 have h2 := name_stp h1.ok
 exact (h1.trans h2).trans (want_stp h2.ok bCol)
theorem varU_stp {L : LitR} (hL : Goes L) {c : Cu} (h : c.Ok) : Stp c (varU L c) := by
 unfold varU
 split
 ·rename_i hp
  have h1 := takeP h hp
  exact h1.trans (hL _ h1.ok).1
 ·exact Stp.refl h
theorem want_dead {c : Cu} (h : c.kd ≠ 0) (p : ByteArray) : c.want p = c := by unfold Cu.want; rw [isP_dead h]; exact stop_dead _ _ h
theorem name_still {c : Cu} (h : c.kd ≠ 0) : c.name = c := by unfold Cu.name; rw [isN_dead h]; exact stop_dead _ _ h
theorem want_no {c : Cu} {p : ByteArray} (h : c.isP p = false) : (c.want p).kd ≠ 0 := by unfold Cu.want; rw [h]; exact stop_kd _ _ (by decide)
theorem typF_still (f : Nat) {c : Cu} (h : c.kd ≠ 0) : typF f c = (none, c) := by
 cases f with
 | zero => rfl
 | succ f =>
  show typ (unm (typF f)) c = _
  unfold typ unm
  rw [isP_dead h, isN_dead h, name_still h]
  rfl
theorem varQ_goes {f : Nat} {L : LitR} (hL : Goes L) : Goes (varQ (typF f) L) := by
 intro c h
 have h1 := varC3_stp h
 have h2 := (typF_goes f _ h1.ok).1
 have h3 := varU_stp hL h2.ok
 have h4 := dirs_stp hL h3.ok
 have h5 := ((h1.trans h2).trans h3).trans h4
 have hx : (dirs L (varU L (typF f (varC3 c)).2)).1.isSome = true → c.ix < (dirs L (varU L (typF f (varC3 c)).2)).2.ix := by
  intro hs
  have hp : c.isP bDol = true := by
   cases hp : c.isP bDol with
   | true => rfl
   | false =>
    exfalso
    have hk := want_no hp
    have e1 : varC3 c = c.want bDol := by unfold varC3; rw [name_still hk, want_dead hk]
    rw [e1, typF_still f hk] at hs
    have e2 : varU L (c.want bDol) = c.want bDol := by unfold varU; rw [isP_dead hk]; rfl
    simp only [e2] at hs
    rw [dirs_still L hk] at hs
    cases hs
  have e : (c.want bDol).ix = c.ix + 1 := by unfold Cu.want; rw [hp]; rfl
  have s1 := want_stp h bDol
  have s2 := name_stp s1.ok
  have s3 := want_stp s2.ok bCol
  have i2 := s2.ix
  have i3 : ((c.want bDol).name).ix ≤ (varC3 c).ix := s3.ix
  have i4 := h2.ix
  have i5 := h3.ix
  have i6 := h4.ix
  omega
 simp only [varQ]
 cases hq : (dirs L (varU L (typF f (varC3 c)).2)).1 with
 | none => exact ⟨h5, fun h => by cases h⟩
 | some ds => exact ⟨h5, fun _ => hx (by rw [hq]; rfl)⟩
theorem varsS_stp {f : Nat} {K : LitR} (hK : Goes K) {c : Cu} (h : c.Ok) : Stp c (varsS (typF f) K c).2 := by
 unfold varsS
 split
 ·exact (brk_goes (varQ_goes hK) bLp bRp 1 c h).1
 ·exact Stp.refl h
theorem opC_stp {c : Cu} (h : c.Ok) : Stp c (opC c) := by
 unfold opC
 split
 ·exact name_stp h
 ·exact Stp.refl h
theorem bodyS_stp {L : LitR} {S : LstR} (hL : Goes L) (hS : Goes S) (k : Int) (nm on : ByteArray) (vs : List Dt) (t : Tk) {c : Cu} (h : c.Ok) : Stp c (bodyS L S k nm on vs t c).2 := by
 have h1 := dirs_stp hL h
 have h2 := h1.trans (hS _ h1.ok).1
 unfold bodyS
 cases (S (dirs L c).2).1 <;> exact h2
theorem operS_stp {f : Nat} {K L : LitR} {S : LstR} (hK : Goes K) (hL : Goes L) (hS : Goes S) (k : Int) (t : Tk) {c : Cu} (h : c.Ok) : Stp c (operS (typF f) K L S k t c).2 := by
 have h1 := opC_stp h
 have h2 := h1.trans (varsS_stp (f := f) hK h1.ok)
 exact h2.trans (bodyS_stp hL hS _ _ _ _ _ h2.ok)
theorem fragC_stp {c : Cu} (h : c.Ok) : Stp c (fragC c) := nmC_stp h (fun e => by simp at e; exact e.1)
theorem fragO_stp {c : Cu} (h : c.Ok) : Stp c (fragO c) := nmC_stp h (fun e => isW_N e)
theorem fragS_stp {L : LitR} {S : LstR} (hL : Goes L) (hS : Goes S) (t : Tk) {c : Cu} (h : c.Ok) : Stp c (fragS L S t c).2 := by
 have h1 := fragC_stp h
 have h2 := h1.trans (fragO_stp h1.ok)
 have h3 := h2.trans (name_stp h2.ok)
 exact h3.trans (bodyS_stp hL hS _ _ _ _ _ h3.ok)
theorem defS_goes {f : Nat} {K L : LitR} {S : LstR} (hK : Goes K) (hL : Goes L) (hS : Goes S) : Goes (defS (typF f) K L S) := by
 intro c h
 unfold defS
 by_cases hp : c.isP bLc = true
 ·rw [if_pos hp]
  have h1 := hS c h
  cases hq : (S c).1 with
  | none => exact ⟨h1.1, fun h => by cases h⟩
  | some ss => exact ⟨h1.1, fun _ => h1.2 (by rw [hq]; rfl)⟩
 ·rw [if_neg hp]
  by_cases hw : c.isW [bQuery, bMut, bSub, bFrag] = true
  ·rw [if_pos hw]
   have h1 := takeN h (isW_N hw)
   have ho := fun k => operS_stp (f := f) hK hL hS k c.tok h1.ok
   have hf := fragS_stp hL hS c.tok h1.ok
   have lt : ∀ {u : Cu}, Stp c.take u → c.ix < u.ix := fun s => Nat.lt_of_lt_of_le (Nat.lt_succ_self _) s.ix
   split
   ·exact ⟨h1.trans (ho 1), fun _ => lt (ho 1)⟩
   split
   ·exact ⟨h1.trans (ho 2), fun _ => lt (ho 2)⟩
   split
   ·exact ⟨h1.trans (ho 3), fun _ => lt (ho 3)⟩
   ·exact ⟨h1.trans hf, fun _ => lt hf⟩
  ·rw [if_neg hw]
   exact ⟨stop_stp h _, fun h => by cases h⟩
theorem defN_goes (N : Nat) : Goes (defN N) := defS_goes (litF_goes true N) (litF_goes false N) (selsF_goes (litF_goes false N) N)
theorem defsF_stp {D : LitR} (hD : Goes D) : ∀ (g : Nat) (l : List Dt) (c : Cu), c.Ok → Stp c (defsF D g l c).2
 | 0, l, c, h => Stp.refl h
 | g + 1, l, c, h => by
  simp only [defsF]
  split
  ·cases hq : (D c).1 with
   | none => exact (hD c h).1
   | some d => exact (hD c h).1.trans (defsF_stp hD g _ _ (hD c h).1.ok)
  ·exact fin_stp h
def bnd {A X : Type} (E : Cu → A × Cu) (F : A → Cu → X × Cu) : Cu → X × Cu := fun c => F (E c).1 (E c).2
def ret {A : Type} (a : A) : Cu → A × Cu := fun c => (a, c)
def tokR : Cu → Tk × Cu := fun c => (c.tok, c)
def isPR (p : ByteArray) : Cu → Bool × Cu := fun c => (c.isP p, c)
def aliveR : Cu → Bool × Cu := fun c => (decide (c.kd = 0), c)
def nmR : Cu → ByteArray × Cu := fun c => (c.nmS, c.name)
def nR : Cu → (Bool × ByteArray) × Cu := fun c => ((c.isN, c.tok.tx), c.name)
def wantR (p : ByteArray) : Cu → Unit × Cu := fun c => ((), c.want p)
def punctR (p : ByteArray) : Cu → Bool × Cu := fun c => (c.isP p, c.punct p)
def wordR (q : ByteArray) : Cu → Bool × Cu := fun c => (c.isW [q], c.word q)
def butR (ws : List ByteArray) : Cu → ByteArray × Cu := fun c => (c.nmB (c.isN && !inW ws c.tok.tx), c.nmC (c.isN && !inW ws c.tok.tx))
def stopR {A : Type} (a : A) : Cu → A × Cu := fun c => (a, c.stop 70)
def St {A : Type} (E : Cu → A × Cu) : Prop := ∀ c, c.Ok → Stp c (E c).2
theorem St.bnd {A X : Type} {E : Cu → A × Cu} {F : A → Cu → X × Cu} (h : St E) (k : ∀ a, St (F a)) : St (bnd E F) := fun c hc => (h c hc).trans (k _ _ (h c hc).ok)
theorem Goes.st {A : Type} {E : Cu → Option A × Cu} (h : Goes E) : St E := fun c hc => (h c hc).1
theorem ret_st {A : Type} (a : A) : St (ret a) := fun c h => Stp.refl h
theorem tokR_st : St tokR := fun c h => Stp.refl h
theorem isPR_st (p : ByteArray) : St (isPR p) := fun c h => Stp.refl h
theorem aliveR_st : St aliveR := fun c h => Stp.refl h
theorem nmR_st : St nmR := fun c h => name_stp h
theorem nR_st : St nR := fun c h => name_stp h
theorem wantR_st (p : ByteArray) : St (wantR p) := fun c h => want_stp h p
theorem punctR_st (p : ByteArray) : St (punctR p) := fun c h => punct_stp h p
theorem wordR_st (q : ByteArray) : St (wordR q) := fun c h => by
 show Stp c (c.word q)
 unfold Cu.word
 split
 ·exact takeN h (isW_N ‹_›)
 ·exact Stp.refl h
theorem butR_st (ws : List ByteArray) : St (butR ws) := fun c h => nmC_stp h (fun e => by simp at e; exact e.1)
theorem stopR_st {A : Type} (a : A) : St (stopR a) := fun c h => stop_stp h 70
section
variable {m b b' : Nat}
end
end Go.Proofs.YtcebeajjpcbgcaaGreat.cu
