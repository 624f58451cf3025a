import Derived.Test.YtmhelpocddndjaaGreatQbg6
import Derived.Test.YtmhelpocddndjaaGreatQbg5
import Derived.Test.YtmhelpocddndjaaGreatQbg3
namespace Go.Proofs.YtmhelpocddndjaaGreat.cu
open Go.ChangeShapes Go.WideShapes Go.ChangeAt Go.RowKit
open ints (hide unhide)
open dt (Dt Kp RowAt Ow Grow)
set_option linter.unusedVariables false
set_option linter.unusedSimpArgs false
def nmV (t : Tk) (so : Bool) : List Value := if so then [.string t.tx, .int .i64 t.ln, .int .i64 t.co] else [.string em, .int .i64 0, .int .i64 0]
def _root_.Go.Proofs.YtmhelpocddndjaaGreat.cu.Cu.nmC (c : Cu) (so : Bool) : Cu := if so then c.take else c.stop 70
theorem nmV_3 (t : Tk) (so : Bool) : (nmV t so).length = 3 ∧ (nmV t so).all (·.oneCell') = true := by unfold nmV; split <;> exact ⟨rfl, rfl⟩
theorem isW_N {c : Cu} {ws : List ByteArray} (h : c.isW ws = true) : c.isN = true := by unfold Cu.isW at h; simp only [Bool.and_eq_true] at h; exact h.1
set_option maxHeartbeats 1000000 in
set_option maxRecDepth 4000 in
theorem wantWord_ok (B p : Nat) (c : Cu) (b n cp : Nat) (ws : List ByteArray) (w : World) (h : CurAt w B p c) (hw : Wds w b n cp ws) (hwn : n ≤ 1048576) :
    Calls Tryz.prog 32 #[ptr B, .slice (some ⟨b, 0, none⟩) n cp] w fun e w' => e = .returned (.tuple #[.agg (nmV c.tok (c.isW ws)).toArray, .bool (c.isW ws)]) ∧ CurAt w' B p (c.nmC (c.isW ws)) ∧ Kp B w w' := by
  have hi := hide (fun W (bb : Below w.heap.size w W) => isWord_ok B p c b n cp ws W (h.below bb) (hw.below bb) hwn)
  have hlt := h.lt
  have hplt := h.plt
  have hne : B ≠ w.heap.size := by omega
  have hnp : p ≠ w.heap.size := by omega
  have hV3 := hide (nmV_3 c.tok (c.isW ws)).1
  have hV1 := hide (nmV_3 c.tok (c.isW ws)).2
  obtain ⟨V, hV⟩ : ∃ V, V = nmV c.tok (c.isW ws) := ⟨_, rfl⟩
  obtain ⟨C, hC⟩ : ∃ C, C = c.nmC (c.isW ws) := ⟨_, rfl⟩
  have hn := hide (fun W (bb : Below w.heap.size w W) => show Calls Tryz.prog 54 #[ptr B, .bool (c.isW ws)] W fun e w' => e = .returned (.tuple #[.agg V.toArray, .bool (c.isW ws)]) ∧ CurAt w' B p C ∧ Kp B W w' from by rw [hV, hC]; exact name_ok B p c (c.isW ws) W (h.below bb) (fun e => isN_more h.ok (isW_N e)))
  rw [← hV] at hV3 hV1 ⊢
  rw [← hC] at ⊢
  clear hV hC
  obtain ⟨R, hR⟩ : ∃ R, R = c.isW ws := ⟨_, rfl⟩
  rw [← hR] at hi hn ⊢
  clear h hw hR
  unfold ptr at hi hn ⊢
  go_enter Tryz.func32, Tryz.ntmps32
  go_wp2_with fail
  have bA0 : Below w.heap.size w (w.alloc (.cells #[Value.string { data := #[] }, .int .i64 0, .int .i64 0] 102)) := (Below.refl _ _).alloc (Nat.le_refl _) _
  have hZ := (fun W (hk : Kp B (w.alloc (.cells #[Value.string { data := #[] }, .int .i64 0, .int .i64 0] 102)) W) => show W.heap[w.heap.size]? = some (.cells #[Value.string { data := #[] }, .int .i64 0, .int .i64 0] 102 (0, 0)) from (hk.block w.heap.size (by simp) (by omega)).trans (heap_alloc_new w _))
  obtain ⟨wA, hwA⟩ : ∃ wA, wA = w.alloc (.cells #[Value.string { data := #[] }, .int .i64 0, .int .i64 0] 102) := ⟨_, rfl⟩
  rw [← hwA] at bA0 hZ ⊢
  clear hwA
  refine ((unhide hi) wA bA0).mono ?_
  rintro e w1 ⟨rfl, b1⟩
  go_wp2_with fail
  refine ((unhide hn) w1 (bA0.trans (b1.mono bA0.size))).mono ?_
  rintro e wN ⟨rfl, hcN, hkN⟩
  have bE := b1
  have hk3 := (Kp.of bE).trans hkN
  have hth : wN.there w.heap.size 0 3 := dt.there_cells (hZ wN hk3) (by decide)
  have HK := hide ((Kp.of bA0).trans hk3)
  have HC := hide hcN
  have HT := hide (show wN.there w.heap.size 0 V.toArray.size from by rw [show V.toArray.size = 3 from by simpa using unhide hV3]; exact hth)
  have HI := hide (show (Tryz.prog.info? 102).map (·.size) = some V.toArray.size from by rw [show V.toArray.size = 3 from by simpa using unhide hV3]; exact infoNm)
  clear hk3 hkN hcN hth bE hZ bA0
  go_wp2_with (first
    | refine wpList_store_mid (by rfl) 102 _ _ (by rfl) w.heap.size 0 V.toArray (by rfl) (by rfl) (unhide HT) (unhide HI) (dt.one_cells (unhide hV1)) ?_)
  refine bodyPost_ret (rgn.result_row_tmp rfl _ _ w.heap.size 0 V _ rfl (World.rangeAt_setCells_same _ _ _ _ (by have := unhide HT; simpa using this)) Tryz.underlying102 rfl (by have := unhide HI; simpa using this)) rfl ?_
  exact ⟨rfl, (unhide HC).out hne hnp _ _, (unhide HK).out (Nat.le_refl _) _ _⟩
set_option maxHeartbeats 1000000 in
set_option maxRecDepth 4000 in
theorem nameBut_ok (B p : Nat) (c : Cu) (b n cp : Nat) (ws : List ByteArray) (w : World) (h : CurAt w B p c) (hw : Wds w b n cp ws) (hwn : n ≤ 1048576) :
    Calls Tryz.prog 56 #[ptr B, .slice (some ⟨b, 0, none⟩) n cp] w fun e w' => e = .returned (.tuple #[.agg (nmV c.tok (c.isN && !inW ws c.tok.tx)).toArray, .bool (c.isN && !inW ws c.tok.tx)]) ∧ CurAt w' B p (c.nmC (c.isN && !inW ws c.tok.tx)) ∧ Kp B w w' := by
  have hi := hide (fun W (bb : Below w.heap.size w W) => isName_ok B p c W (h.below bb))
  have ht := hide (fun W (bb : Below w.heap.size w W) => token_ok B p c W (h.below bb))
  have hct := hide (fun W (bb : Below w.heap.size w W) => contains_ok b n cp ws c.tok.tx W (hw.below bb) hwn)
  have hf1 := fld_text c.tok
  have hlt := h.lt
  have hplt := h.plt
  have hne : B ≠ w.heap.size := by omega
  have hnp : p ≠ w.heap.size := by omega
  have hV3 := hide (nmV_3 c.tok (c.isN && !inW ws c.tok.tx)).1
  have hV1 := hide (nmV_3 c.tok (c.isN && !inW ws c.tok.tx)).2
  obtain ⟨V, hV⟩ : ∃ V, V = nmV c.tok (c.isN && !inW ws c.tok.tx) := ⟨_, rfl⟩
  obtain ⟨C, hC⟩ : ∃ C, C = c.nmC (c.isN && !inW ws c.tok.tx) := ⟨_, rfl⟩
  have hn := hide (fun W (bb : Below w.heap.size w W) => show Calls Tryz.prog 54 #[ptr B, .bool (c.isN && !inW ws c.tok.tx)] W fun e w' => e = .returned (.tuple #[.agg V.toArray, .bool (c.isN && !inW ws c.tok.tx)]) ∧ CurAt w' B p C ∧ Kp B W w' from by rw [hV, hC]; exact name_ok B p c (c.isN && !inW ws c.tok.tx) W (h.below bb) (fun e => isN_more h.ok (by simp only [Bool.and_eq_true] at e; exact e.1)))
  rw [← hV] at hV3 hV1 ⊢
  rw [← hC] at ⊢
  clear hV hC
  obtain ⟨R, hR⟩ : ∃ R, R = c.isN := ⟨_, rfl⟩
  obtain ⟨S, hS⟩ : ∃ S, S = inW ws c.tok.tx := ⟨_, rfl⟩
  rw [← hR] at hi
  rw [← hS] at hct
  rw [← hR, ← hS] at hn ⊢
  obtain ⟨t, et⟩ : ∃ t, t = c.tok := ⟨_, rfl⟩
  rw [← et] at ht hct hf1
  clear h hw hR hS et
  unfold Tk.cells at ht
  unfold ptr at hi hn ht ⊢
  go_enter Tryz.func56, Tryz.ntmps56
  go_wp2_with fail
  have bA0 : Below w.heap.size w (w.alloc (.cells #[Value.string { data := #[] }, .int .i64 0, .int .i64 0] 102)) := (Below.refl _ _).alloc (Nat.le_refl _) _
  have hZ := (fun W (hk : Kp B (w.alloc (.cells #[Value.string { data := #[] }, .int .i64 0, .int .i64 0] 102)) W) => show W.heap[w.heap.size]? = some (.cells #[Value.string { data := #[] }, .int .i64 0, .int .i64 0] 102 (0, 0)) from (hk.block w.heap.size (by simp) (by omega)).trans (heap_alloc_new w _))
  obtain ⟨wA, hwA⟩ : ∃ wA, wA = w.alloc (.cells #[Value.string { data := #[] }, .int .i64 0, .int .i64 0] 102) := ⟨_, rfl⟩
  rw [← hwA] at bA0 hZ ⊢
  clear hwA
  refine ((unhide hi) wA bA0).mono ?_
  rintro e w1 ⟨rfl, b1⟩
  cases R
  · simp only [Bool.false_and] at hn ⊢
    go_wp2_with fail
    refine ((unhide hn) w1 (bA0.trans (b1.mono bA0.size))).mono ?_
    rintro e wN ⟨rfl, hcN, hkN⟩
    have bE := b1
    have hk3 := (Kp.of bE).trans hkN
    have hth : wN.there w.heap.size 0 3 := dt.there_cells (hZ wN hk3) (by decide)
    have HK := hide ((Kp.of bA0).trans hk3)
    have HC := hide hcN
    have HT := hide (show wN.there w.heap.size 0 V.toArray.size from by rw [show V.toArray.size = 3 from by simpa using unhide hV3]; exact hth)
    have HI := hide (show (Tryz.prog.info? 102).map (·.size) = some V.toArray.size from by rw [show V.toArray.size = 3 from by simpa using unhide hV3]; exact infoNm)
    clear hk3 hkN hcN hth bE hZ bA0
    go_wp2_with (first
      | refine wpList_store_mid (by rfl) 102 _ _ (by rfl) w.heap.size 0 V.toArray (by rfl) (by rfl) (unhide HT) (unhide HI) (dt.one_cells (unhide hV1)) ?_)
    refine bodyPost_ret (rgn.result_row_tmp rfl _ _ w.heap.size 0 V _ rfl (World.rangeAt_setCells_same _ _ _ _ (by have := unhide HT; simpa using this)) Tryz.underlying102 rfl (by have := unhide HI; simpa using this)) rfl ?_
    exact ⟨rfl, (unhide HC).out hne hnp _ _, (unhide HK).out (Nat.le_refl _) _ _⟩
  · simp only [Bool.true_and] at hn ⊢
    go_wp2_with fail
    refine ((unhide ht) w1 (bA0.trans (b1.mono bA0.size))).mono ?_
    rintro e w2 ⟨rfl, b2⟩
    have bE := b1.trans (b2.mono b1.size)
    go_wp2_with fail
    refine ((unhide hct) w2 (bA0.trans (bE.mono bA0.size))).mono ?_
    rintro e w3 ⟨rfl, hw3⟩
    obtain rfl : w2 = w3 := hw3.symm
    go_wp2_with fail
    refine ((unhide hn) w2 (bA0.trans (bE.mono bA0.size))).mono ?_
    rintro e wN ⟨rfl, hcN, hkN⟩
    have hk3 := (Kp.of bE).trans hkN
    have hth : wN.there w.heap.size 0 3 := dt.there_cells (hZ wN hk3) (by decide)
    have HK := hide ((Kp.of bA0).trans hk3)
    have HC := hide hcN
    have HT := hide (show wN.there w.heap.size 0 V.toArray.size from by rw [show V.toArray.size = 3 from by simpa using unhide hV3]; exact hth)
    have HI := hide (show (Tryz.prog.info? 102).map (·.size) = some V.toArray.size from by rw [show V.toArray.size = 3 from by simpa using unhide hV3]; exact infoNm)
    clear hk3 hkN hcN hth bE hZ bA0
    go_wp2_with (first
      | refine wpList_store_mid (by rfl) 102 _ _ (by rfl) w.heap.size 0 V.toArray (by rfl) (by rfl) (unhide HT) (unhide HI) (dt.one_cells (unhide hV1)) ?_)
    refine bodyPost_ret (rgn.result_row_tmp rfl _ _ w.heap.size 0 V _ rfl (World.rangeAt_setCells_same _ _ _ _ (by have := unhide HT; simpa using this)) Tryz.underlying102 rfl (by have := unhide HI; simpa using this)) rfl ?_
    exact ⟨rfl, (unhide HC).out hne hnp _ _, (unhide HK).out (Nat.le_refl _) _ _⟩
end Go.Proofs.YtmhelpocddndjaaGreat.cu
namespace Go.Proofs.YtmhelpocddndjaaGreat.cu
open Go.ChangeShapes Go.WideShapes Go.ChangeAt Go.RowKit
open ints (hide unhide)
open dt (Dt Kp RowAt Ow Grow)
set_option linter.unusedVariables false
set_option linter.unusedSimpArgs false
/-- a cursor that is dead, in this world and in all that grow out of it -/
def Dead (w : World) (v : Value) : Prop := ∀ W, Below w.heap.size w W → Calls Tryz.prog 36 #[v] W fun e w' => e = .returned (.bool true) ∧ w' = W
theorem Dead.below {w w' : World} {v : Value} (h : Dead w v) (hb : Below w.heap.size w w') : Dead w' v := fun W bb => h W (hb.trans (bb.mono hb.size))
theorem Dead.self {w : World} {v : Value} (h : Dead w v) : Calls Tryz.prog 36 #[v] w fun e w' => e = .returned (.bool true) ∧ w' = w := h w (Below.refl _ _)
theorem dead_cur {w : World} {B p : Nat} {c : Cu} (h : CurAt w B p c) (hk : c.kd ≠ 0) : Dead w (ptr B) := fun W bb => by
  have := dead_ok B p c W (h.below bb)
  rw [show (c.kd != 0) = true by simpa using hk] at this
  exact this
theorem isPunctD (v : Value) (q : ByteArray) (w : World) (h : Dead w v) : Calls Tryz.prog 30 #[v, .string q] w fun e w' => e = .returned (.bool false) ∧ Below w.heap.size w w' := by
  have hd := hide h.self
  clear h
  go_enter Tryz.func30, Tryz.ntmps30
  go_wp2_with fail
  refine (unhide hd).mono ?_
  rintro e w1 ⟨rfl, rfl⟩
  go_wp2_with fail
  go_ret
  exact ⟨rfl, Below.refl _ _⟩
theorem isNameD (v : Value) (w : World) (h : Dead w v) : Calls Tryz.prog 76 #[v] w fun e w' => e = .returned (.bool false) ∧ Below w.heap.size w w' := by
  have hd := hide h.self
  clear h
  go_enter Tryz.func76, Tryz.ntmps76
  go_wp2_with fail
  refine (unhide hd).mono ?_
  rintro e w1 ⟨rfl, rfl⟩
  go_wp2_with fail
  go_ret
  exact ⟨rfl, Below.refl _ _⟩
theorem isWordD (v : Value) (a : Option Addr) (n c : Nat) (w : World) (h : Dead w v) : Calls Tryz.prog 55 #[v, .slice a n c] w fun e w' => e = .returned (.bool false) ∧ Below w.heap.size w w' := by
  have hd := hide (isNameD v w h)
  clear h
  go_enter Tryz.func55, Tryz.ntmps55
  go_wp2_with fail
  refine (unhide hd).mono ?_
  rintro e w1 ⟨rfl, b1⟩
  go_wp2_with fail
  go_ret
  exact ⟨rfl, b1⟩
theorem takeIfD (v : Value) (w : World) : Calls Tryz.prog 96 #[v, .bool false] w fun e w' => e = .returned (.bool false) ∧ Below w.heap.size w w' := by
  go_enter Tryz.func96, Tryz.ntmps96
  go_wp2_with fail
  go_ret
  exact ⟨rfl, Below.refl _ _⟩
theorem punctD (v : Value) (q : ByteArray) (w : World) (h : Dead w v) : Calls Tryz.prog 71 #[v, .string q] w fun e w' => e = .returned (.bool false) ∧ Below w.heap.size w w' := by
  have hd := hide (isPunctD v q w h)
  clear h
  go_enter Tryz.func71, Tryz.ntmps71
  go_wp2_with fail
  refine (unhide hd).mono ?_
  rintro e w1 ⟨rfl, b1⟩
  go_wp2_with fail
  refine (takeIfD v w1).mono ?_
  rintro e w2 ⟨rfl, b2⟩
  go_wp2_with fail
  go_ret
  exact ⟨rfl, b1.trans (b2.mono b1.size)⟩
theorem wordD' (v : Value) (q : ByteArray) (w : World) (h : Dead w v) : Calls Tryz.prog 98 #[v, .string q] w fun e w' => e = .returned (.bool false) ∧ Below w.heap.size w w' := by
  have bA := hide (fun o => show Below w.heap.size w (w.alloc o) from (Below.refl _ _).alloc (Nat.le_refl _) _)
  have hd := hide (fun W (bb : Below w.heap.size w W) a n c => isWordD v a n c W (h.below bb))
  clear h
  go_enter Tryz.func98, Tryz.ntmps98
  go_wp2_with fail
  refine ((unhide hd) _ ((unhide bA) _) _ _ _).mono ?_
  rintro e w1 ⟨rfl, b1⟩
  have b1' := ((unhide bA) _).trans (b1.mono ((unhide bA) _).size)
  clear b1
  go_wp2_with fail
  refine (takeIfD v w1).mono ?_
  rintro e w2 ⟨rfl, b2⟩
  go_wp2_with fail
  go_ret
  exact ⟨rfl, b1'.trans (b2.mono b1'.size)⟩
theorem refuseD (v : Value) (k : Int) (w : World) (h : Dead w v) : Calls Tryz.prog 82 #[v, .int .i64 k] w fun e w' => e = .returned (.tuple #[]) ∧ Below w.heap.size w w' := by
  have hd := hide h.self
  clear h
  go_enter Tryz.func82, Tryz.ntmps82
  go_wp2_with fail
  refine (unhide hd).mono ?_
  rintro e w1 ⟨rfl, rfl⟩
  go_wp2_with fail
  go_end0
  exact ⟨rfl, Below.refl _ _⟩
theorem refusesD (v : Value) (w : World) (h : Dead w v) : Calls Tryz.prog 60 #[v] w fun e w' => e = .returned (.tuple #[]) ∧ Below w.heap.size w w' := by
  have hd := hide (refuseD v 70 w h)
  clear h
  go_enter Tryz.func60, Tryz.ntmps60
  go_wp2_with fail
  refine (unhide hd).mono ?_
  rintro e w1 ⟨rfl, b1⟩
  go_wp2_with fail
  go_end0
  exact ⟨rfl, b1⟩
theorem holdsD (v : Value) (w : World) (h : Dead w v) : Calls Tryz.prog 35 #[v, .bool false] w fun e w' => e = .returned (.bool false) ∧ Below w.heap.size w w' := by
  have hd := hide (refusesD v w h)
  clear h
  go_enter Tryz.func35, Tryz.ntmps35
  go_wp2_with fail
  refine (unhide hd).mono ?_
  rintro e w1 ⟨rfl, b1⟩
  go_wp2_with fail
  go_ret
  exact ⟨rfl, b1⟩
theorem wantD (v : Value) (q : ByteArray) (w : World) (h : Dead w v) : Calls Tryz.prog 78 #[v, .string q] w fun e w' => e = .returned (.bool false) ∧ Below w.heap.size w w' := by
  have hd := hide (isPunctD v q w h)
  have hh := hide (fun W (bb : Below w.heap.size w W) => holdsD v W (h.below bb))
  clear h
  go_enter Tryz.func78, Tryz.ntmps78
  go_wp2_with fail
  refine (unhide hd).mono ?_
  rintro e w1 ⟨rfl, b1⟩
  go_wp2_with fail
  refine ((unhide hh) w1 b1).mono ?_
  rintro e w2 ⟨rfl, b2⟩
  have b12 := b1.trans (b2.mono b1.size)
  go_wp2_with fail
  refine (takeIfD v w2).mono ?_
  rintro e w3 ⟨rfl, b3⟩
  go_wp2_with fail
  go_ret
  exact ⟨rfl, b12.trans (b3.mono b12.size)⟩
theorem openD (v : Value) (q : ByteArray) (w : World) (h : Dead w v) : Calls Tryz.prog 69 #[v, .string q] w fun e w' => e = .returned (.bool false) ∧ Below w.heap.size w w' := by
  have hd := hide (isPunctD v q w h)
  have hh := hide (fun W (bb : Below w.heap.size w W) => holdsD v W (h.below bb))
  clear h
  go_enter Tryz.func69, Tryz.ntmps69
  go_wp2_with fail
  refine (unhide hd).mono ?_
  rintro e w1 ⟨rfl, b1⟩
  go_wp2_with fail
  refine ((unhide hh) w1 b1).mono ?_
  rintro e w2 ⟨rfl, b2⟩
  have b12 := b1.trans (b2.mono b1.size)
  go_wp2_with fail
  go_ret
  exact ⟨rfl, b12⟩
theorem closeD (v : Value) (q : ByteArray) (w : World) (h : Dead w v) : Calls Tryz.prog 70 #[v, .string q] w fun e w' => e = .returned (.bool false) ∧ Below w.heap.size w w' := by
  have hd := hide (wantD v q w h)
  clear h
  go_enter Tryz.func70, Tryz.ntmps70
  go_wp2_with fail
  refine (unhide hd).mono ?_
  rintro e w1 ⟨rfl, b1⟩
  go_wp2_with fail
  go_ret
  exact ⟨rfl, b1⟩
theorem endD (v : Value) (w : World) (h : Dead w v) : Calls Tryz.prog 21 #[v] w fun e w' => e = .returned (.bool false) ∧ Below w.heap.size w w' := by
  have hd := hide h.self
  have hh := hide (fun W (bb : Below w.heap.size w W) => holdsD v W (h.below bb))
  clear h
  go_enter Tryz.func21, Tryz.ntmps21
  go_wp2_with fail
  refine (unhide hd).mono ?_
  rintro e w1 ⟨rfl, hw⟩
  obtain rfl : w = w1 := hw.symm
  go_wp2_with fail
  refine ((unhide hh) w (Below.refl _ _)).mono ?_
  rintro e w2 ⟨rfl, b2⟩
  go_wp2_with fail
  go_ret
  exact ⟨rfl, b2⟩
end Go.Proofs.YtmhelpocddndjaaGreat.cu
namespace Go.Proofs.YtmhelpocddndjaaGreat.cu
open Go.ChangeShapes Go.WideShapes Go.ChangeAt Go.RowKit
open ints (hide unhide)
open dt (Dt Kp RowAt Ow Grow)
set_option linter.unusedVariables false
set_option linter.unusedSimpArgs false
def Cu.word (c : Cu) (q : ByteArray) : Cu := if c.isW [q] then c.take else c
theorem isW_more {c : Cu} {ws : List ByteArray} (h : c.Ok) (hp : c.isW ws = true) : c.ix + 1 < c.ts.length := isN_more h (by unfold Cu.isW at hp; simp at hp; exact hp.1)
theorem wordW_ok (B p : Nat) (c : Cu) (q : ByteArray) (w : World) (h : CurAt w B p c) : Calls Tryz.prog 98 #[ptr B, .string q] w fun e w' => e = .returned (.bool (c.isW [q])) ∧ CurAt w' B p (c.word q) ∧ Kp B w w' := by
  have bA := hide (fun o => show Below w.heap.size w (w.alloc o) from (Below.refl _ _).alloc (Nat.le_refl _) _)
  have hi := hide (fun W (bb : Below w.heap.size w W) b (hw : Wds W b 1 1 [q]) => isWord_ok B p c b 1 1 [q] W (h.below bb) hw (by omega))
  have ht := hide (fun W (bb : Below w.heap.size w W) => takeIf_ok B p c (c.isW [q]) W (h.below bb) (isW_more h.ok))
  have hs := hide (show c.word q = if c.isW [q] then c.take else c from rfl)
  obtain ⟨R, hR⟩ : ∃ R, R = c.isW [q] := ⟨_, rfl⟩
  rw [← hR] at hi ht hs ⊢
  clear h hR
  unfold ptr at hi ht ⊢
  go_enter Tryz.func98, Tryz.ntmps98
  go_wp2_with fail
  refine ((unhide hi) _ ((unhide bA) _) w.heap.size ⟨rfl, by omega, by simp, fun i hi => ?_⟩).mono ?_
  · obtain rfl : i = 0 := by omega
    exact (dt.cell_cells (heap_alloc_new w _) 0).trans rfl
  rintro e w1 ⟨rfl, b1⟩
  have b1' := ((unhide bA) _).trans (b1.mono ((unhide bA) _).size)
  clear b1
  go_wp2_with fail
  refine ((unhide ht) w1 b1').mono ?_
  rintro e w2 ⟨rfl, hc, hk⟩
  clear hi ht
  go_wp2_with fail
  go_ret
  exact ⟨rfl, by rw [unhide hs]; exact hc, (Kp.of b1').trans hk⟩
end Go.Proofs.YtmhelpocddndjaaGreat.cu
namespace Go.Proofs.YtmhelpocddndjaaGreat.cu
open dt (Dt Kp RowAt Ow Grow)
set_option linter.unusedVariables false
set_option linter.unusedSimpArgs false
def bOn : ByteArray := ⟨#[111, 110]⟩
def bDots : ByteArray := ⟨#[46, 46, 46]⟩
/-- a selection -/
def selD (k : Int) (al nm on : ByteArray) (ars ds ss : List Dt) (ln co : Int) : Dt := .val (.int .i64 k) (.val (.string al) (.val (.string nm) (.val (.string on) (.lst 10 (Dt.of ars) (.lst 4 (Dt.of ds) (.lst 9 (Dt.of ss) (.val (.int .i64 ln) (.val (.int .i64 co) .nil))))))))
/-- a name's text, where one stands -/
def Cu.nmS (c : Cu) : ByteArray := if c.isN then c.tok.tx else em
def Cu.nmB (c : Cu) (so : Bool) : ByteArray := if so then c.tok.tx else em
def spreadS (L : Cu → Option Dt × Cu) (t : Tk) (c : Cu) : Option Dt × Cu :=
  match (dirs L (c.nmC (c.isN && !inW [bOn] c.tok.tx))).1 with
  | none => (none, (dirs L (c.nmC (c.isN && !inW [bOn] c.tok.tx))).2)
  | some l => (some (selD 2 em (c.nmB (c.isN && !inW [bOn] c.tok.tx)) em [] l [] t.ln t.co), (dirs L (c.nmC (c.isN && !inW [bOn] c.tok.tx))).2)
/-- behind the word on and the type's name -/
def onC (c : Cu) : Cu := if c.isW [bOn] then c.take.name else c
def onT (c : Cu) : ByteArray := if c.isW [bOn] then c.take.nmS else em
def inlineS (L : Cu → Option Dt × Cu) (S : Cu → Option (List Dt) × Cu) (t : Tk) (c : Cu) : Option Dt × Cu :=
  match (S (dirs L (onC c)).2).1 with
  | none => (none, (S (dirs L (onC c)).2).2)
  | some ss => (some (selD 3 em em (onT c) [] ((dirs L (onC c)).1.getD []) ss t.ln t.co), (S (dirs L (onC c)).2).2)
/-- behind a field's names -/
def fldC (c : Cu) : Cu := if c.name.isP bCol then c.name.take.name else c.name
def fldN (c : Cu) : ByteArray := if c.name.isP bCol then c.name.take.nmS else c.nmS
def fldA (c : Cu) : ByteArray := if c.name.isP bCol then c.nmS else em
def fieldS (L : Cu → Option Dt × Cu) (S : Cu → Option (List Dt) × Cu) (t : Tk) (c : Cu) : Option Dt × Cu :=
  let a := argsS L (fldC c)
  let d := dirs L a.2
  if d.2.isP bLc then (match (S d.2).1 with
    | none => (none, (S d.2).2)
    | some ss => (some (selD 1 (fldA c) (fldN c) em (a.1.getD []) (d.1.getD []) ss t.ln t.co), (S d.2).2))
  else (match d.1 with
    | none => (none, d.2)
    | some ds => (some (selD 1 (fldA c) (fldN c) em (a.1.getD []) ds [] t.ln t.co), d.2))
def selS (L : Cu → Option Dt × Cu) (S : Cu → Option (List Dt) × Cu) (c : Cu) : Option Dt × Cu :=
  if c.isP bDots then (if c.take.isN && !inW [bOn] c.take.tok.tx then spreadS L c.tok c.take else inlineS L S c.tok c.take) else fieldS L S c.tok c
/-- a selection set -/
def selsF (L : Cu → Option Dt × Cu) : Nat → Cu → Option (List Dt) × Cu
  | 0, c => (none, c)
  | g + 1, c => brk (selS L (selsF L g)) bLc bRc 1 c
theorem dirsF_stp {L : Cu → Option Dt × Cu} (hL : Goes L) : ∀ (g : Nat) (l : List Dt) (c : Cu), c.Ok → Stp c (dirsF L g l c).2
  | 0, l, c, h => Stp.refl h
  | g + 1, l, c, h => by
    simp only [dirsF]
    split
    · rename_i hp
      have h1 := (dirS_stp hL h hp).1
      cases hq : (dirS L c).1 with
      | none => exact h1
      | some d => exact h1.trans (dirsF_stp hL g _ _ h1.ok)
    · exact Stp.refl h
theorem dirs_stp {L : Cu → Option Dt × Cu} (hL : Goes L) {c : Cu} (h : c.Ok) : Stp c (dirs L c).2 := dirsF_stp hL _ _ _ h
theorem nmC_stp {c : Cu} {so : Bool} (h : c.Ok) (hs : so = true → c.isN = true) : Stp c (c.nmC so) := by
  unfold Cu.nmC
  cases so
  · exact stop_stp h 70
  · exact takeN h (hs rfl)
theorem spread_stp {L : Cu → Option Dt × Cu} (hL : Goes L) (t : Tk) {c : Cu} (h : c.Ok) : Stp c (spreadS L t c).2 := by
  have h1 := nmC_stp h (so := c.isN && !inW [bOn] c.tok.tx) (fun e => by simp at e; exact e.1)
  have h2 := h1.trans (dirs_stp hL h1.ok)
  unfold spreadS
  cases (dirs L (c.nmC (c.isN && !inW [bOn] c.tok.tx))).1 <;> exact h2
theorem onC_stp {c : Cu} (h : c.Ok) : Stp c (onC c) := by
  unfold onC
  split
  · rename_i hw
    have h1 := takeN h (isW_N hw)
    exact h1.trans (name_stp h1.ok)
  · exact Stp.refl h
theorem inline_stp {L : Cu → Option Dt × Cu} {S : Cu → Option (List Dt) × Cu} (hL : Goes L) (hS : Goes S) (t : Tk) {c : Cu} (h : c.Ok) : Stp c (inlineS L S t c).2 := by
  have h1 := onC_stp h
  have h2 := h1.trans (dirs_stp hL h1.ok)
  have h3 := h2.trans (hS _ h2.ok).1
  unfold inlineS
  cases (S (dirs L (onC c)).2).1 <;> exact h3
theorem fldC_stp {c : Cu} (h : c.Ok) : Stp c (fldC c) := by
  have h1 := name_stp h
  unfold fldC
  split
  · rename_i hp
    have h2 := takeP h1.ok hp
    exact (h1.trans h2).trans (name_stp h2.ok)
  · exact h1
theorem field_stp {L : Cu → Option Dt × Cu} {S : Cu → Option (List Dt) × Cu} (hL : Goes L) (hS : Goes S) (t : Tk) {c : Cu} (h : c.Ok) : Stp c (fieldS L S t c).2 := by
  have h1 := fldC_stp h
  have h2 := h1.trans (argsS_stp hL h1.ok)
  have h3 := h2.trans (dirs_stp hL h2.ok)
  have h4 := h3.trans (hS _ h3.ok).1
  simp only [fieldS]
  split
  · cases (S (dirs L (argsS L (fldC c)).2).2).1 <;> exact h4
  · cases (dirs L (argsS L (fldC c)).2).1 <;> exact h3
end Go.Proofs.YtmhelpocddndjaaGreat.cu
namespace Go.Proofs.YtmhelpocddndjaaGreat.cu
open dt (Dt)
set_option linter.unusedVariables false
set_option linter.unusedSimpArgs false
theorem stop_kd (c : Cu) (k : Int) (hk : k ≠ 0) : (c.stop k).kd ≠ 0 := by
  unfold Cu.stop
  split
  · exact hk
  · assumption
theorem stop_dead (c : Cu) (k : Int) (h : c.kd ≠ 0) : c.stop k = c := if_neg h
/-- nothing read is a fault -/
def Faults {A : Type} (E : Cu → Option A × Cu) (b : Nat) : Prop := ∀ c, c.Ok → c.ts.length ≤ b + c.ix → (E c).1 = none → (E c).2.kd ≠ 0
theorem brkF_faults {E : Cu → Option Dt × Cu} (hG : Goes E) (b : Nat) (hE : Faults E b) (right : ByteArray) (least : Nat) : ∀ (g : Nat) (l : List Dt) (c : Cu), c.Ok → c.ts.length ≤ b + c.ix → c.ts.length ≤ g + c.ix → (brkF E right least g l c).1 = none → (brkF E right least g l c).2.kd ≠ 0
  | 0, l, c, h, hb, hg, hn => by have := h.lt; omega
  | g + 1, l, c, h, hb, hg, hn => by
    simp only [brkF] at hn ⊢
    split
    · rename_i hc
      rw [if_pos hc] at hn
      cases hq : (E c).1 with
      | none => exact hE c h hb hq
      | some d =>
        rw [hq] at hn
        have h1 := hG c h
        have h2 := h1.2 (by rw [hq]; rfl)
        exact brkF_faults hG b hE right least g _ _ h1.1.ok (by rw [h1.1.ts]; omega) (by rw [h1.1.ts]; omega) hn
    · rename_i hc
      rw [if_neg hc] at hn
      cases hn
theorem opn_kd {c : Cu} {p : ByteArray} (h : c.opB p = false) : (c.opn p).kd ≠ 0 := by
  unfold Cu.opB at h
  unfold Cu.opn
  split
  · rename_i hp
    rw [hp] at h
    simp only [Bool.true_and, decide_eq_false_iff_not] at h
    rw [if_neg h]
    exact stop_kd _ _ (by decide)
  · exact stop_kd _ _ (by decide)
theorem brk_faults {E : Cu → Option Dt × Cu} (hG : Goes E) (b : Nat) (hE : Faults E b) (left right : ByteArray) (least : Nat) (c : Cu) (h : c.Ok) (hb : c.ts.length ≤ b + 1 + c.ix) (hn : (brk E left right least c).1 = none) : (brk E left right least c).2.kd ≠ 0 := by
  unfold brk at hn ⊢
  have ho := opn_stp h left
  split
  · rename_i hB
    rw [if_pos hB] at hn
    have hx := opn_ix hB
    exact brkF_faults hG b hE right least c.ts.length [] _ ho.ok (by rw [ho.ts, hx]; omega) (by rw [ho.ts]; omega) hn
  · rename_i hB
    exact opn_kd (by simpa using hB)
theorem argS_faults {L : Cu → Option Dt × Cu} (b : Nat) (hL : Faults L b) : Faults (argS L) b := by
  intro c h hb hn
  have h1 := name_stp h
  have h2 := want_stp h1.ok bCol
  have h3 := h1.trans h2
  unfold argS at hn ⊢
  cases hq : (L (c.name.want bCol)).1 with
  | none => exact hL _ h3.ok (by rw [h3.ts]; have := h3.ix; omega) hq
  | some v => rw [hq] at hn; cases hn
theorem name_kd {c : Cu} (h : c.isN = false) : c.name.kd ≠ 0 := by
  unfold Cu.name
  rw [h]
  exact stop_kd _ _ (by decide)
theorem litF_faults (ct : Bool) : ∀ f, Faults (litF ct f) f
  | 0 => fun c h hb => by have := h.lt; omega
  | f + 1 => by
    intro c h hb hn
    have ih := litF_faults ct f
    change (litS (litF ct f) ct c).1 = none at hn
    show (litS (litF ct f) ct c).2.kd ≠ 0
    unfold litS at hn ⊢
    split
    · assumption
    rename_i h0
    rw [if_neg h0] at hn
    split
    · rename_i h1; rw [if_pos h1] at hn; cases hn
    rename_i h1; rw [if_neg h1] at hn
    split
    · rename_i h2; rw [if_pos h2] at hn; cases hn
    rename_i h2; rw [if_neg h2] at hn
    split
    · rename_i h3; rw [if_pos h3] at hn; cases hn
    rename_i h3; rw [if_neg h3] at hn
    split
    · rename_i h4; rw [if_pos h4] at hn; cases hn
    rename_i h4; rw [if_neg h4] at hn
    split
    · rename_i h5
      rw [if_pos h5] at hn
      unfold varS at hn ⊢
      split
      · rename_i h6; rw [if_pos h6] at hn; cases hn
      · rename_i h6
        exact name_kd (by simpa using h6)
    rename_i h5; rw [if_neg h5] at hn
    split
    · rename_i h6
      rw [if_pos h6] at hn
      unfold listS at hn ⊢
      cases hq : (brk (litF ct f) bLb bRb 0 c).1 with
      | none => exact brk_faults (litF_goes ct f) f ih bLb bRb 0 c h (by omega) hq
      | some l => rw [hq] at hn; cases hn
    rename_i h6; rw [if_neg h6] at hn
    split
    · rename_i h7
      rw [if_pos h7] at hn
      unfold objS at hn ⊢
      cases hq : (brk (argS (litF ct f)) bLc bRc 0 c).1 with
      | none => exact brk_faults (argS_goes (litF_goes ct f)) f (argS_faults f ih) bLc bRc 0 c h (by omega) hq
      | some l => rw [hq] at hn; cases hn
    · exact stop_kd _ _ (by decide)
mutual
def fvD : Dt → Option (Int × Int)
  | .val (.int .i64 k) (.val _ (.val _ (.lst _ its (.lst _ fls (.val (.int .i64 ln) (.val (.int .i64 co) _)))))) => if k = 1 then some (ln, co) else (fvL its).or (fvG fls)
  | _ => none
def fvL : Dt → Option (Int × Int)
  | .row e r => (fvD e).or (fvL r)
  | _ => none
def fvG : Dt → Option (Int × Int)
  | .row (.val _ v) r => (fvD v).or (fvG r)
  | _ => none
end
def fvF : Dt → Option (Int × Int)
  | .val _ v => fvD v
  | _ => none
theorem fvD_lit (k : Int) (tx : ByteArray) (bl : Bool) (its fls : Dt) (ln co : Int) : fvD (litD k tx bl its fls ln co) = if k = 1 then some (ln, co) else (fvL its).or (fvG fls) := by
  unfold litD
  rw [fvD]
theorem fvD_app (k : Int) (tx : ByteArray) (bl : Bool) (its fls : Dt) (ln co : Int) (e : Dt) : fvD (app (litD k tx bl its fls ln co) e) = fvD (litD k tx bl its fls ln co) := by
  unfold litD
  simp only [app]
  rw [fvD, fvD]
theorem fvL_of : ∀ l : List Dt, fvL (Dt.of l) = l.findSome? fvD
  | [] => by unfold Dt.of; rw [fvL]; rfl; intro e r h; cases h
  | d :: l => by
    unfold Dt.of
    rw [fvL, fvL_of l, List.findSome?_cons]
    cases fvD d <;> rfl
theorem fvG_of : ∀ l : List Dt, (∀ d ∈ l, ∃ v r, d = .val v r) → fvG (Dt.of l) = l.findSome? fvF
  | [], _ => by unfold Dt.of; rw [fvG]; rfl; intro e r r2 h; cases h
  | d :: l, h => by
    obtain ⟨v, r, rfl⟩ := h d (by simp)
    unfold Dt.of
    rw [fvG, fvG_of l (fun x hx => h x (by simp [hx])), List.findSome?_cons]
    show (fvD r).or _ = _
    cases e : fvD r with
    | none => simp [fvF, e]
    | some p => simp [fvF, e]
/-- literals -/
def IsLit : Nat → Dt → Prop
  | 0, _ => False
  | f + 1, d => ∃ k tx bl its fls ln co, d = litD k tx bl (Dt.of its) (Dt.of fls) ln co ∧ (∀ x ∈ its, IsLit f x) ∧ (∀ y ∈ fls, ∃ nm v ln co, y = fldD nm v ln co ∧ IsLit f v)
theorem fvF_fld {f : Nat} {nm : ByteArray} {v : Dt} {ln co : Int} (h : IsLit f v) : fvF (fldD nm v ln co) = fvD v := by
  cases f with
  | zero => exact h.elim
  | succ f =>
    obtain ⟨k, tx, bl, its, fls, ln', co', rfl, _⟩ := h
    unfold fldD fvF
    exact fvD_app ..
/-- with variables, and without -/
def Rel {A : Type} (φ : A → Option (Int × Int)) (r0 r1 : Option A × Cu) : Prop :=
  match r0.1 with
  | none => r1.1 = none
  | some v => match φ v with
    | none => r1 = r0
    | some p => r1.1 = none ∧ r1.2.kd = 70 ∧ (r1.2.tok.ln, r1.2.tok.co) = p
theorem brkF_rel {E0 E1 : Cu → Option Dt × Cu} (φ : Dt → Option (Int × Int)) (hR : ∀ c, Rel φ (E0 c) (E1 c)) (right : ByteArray) (least : Nat) : ∀ (g : Nat) (l : List Dt) (c : Cu), l.findSome? φ = none → Rel (fun l => l.findSome? φ) (brkF E0 right least g l c) (brkF E1 right least g l c)
  | 0, l, c, h => by simp only [brkF]; unfold Rel; rfl
  | g + 1, l, c, h => by
    simp only [brkF]
    by_cases hc : l.length < least ∨ c.isP right = false
    · rw [if_pos hc, if_pos hc]
      have hr := hR c
      unfold Rel at hr
      cases hq : (E0 c).1 with
      | none =>
        rw [hq] at hr
        simp only at hr
        rw [hr]
        unfold Rel
        rfl
      | some d =>
        rw [hq] at hr
        simp only at hr
        cases hf : φ d with
        | none =>
          rw [hf] at hr
          simp only at hr
          rw [hr, hq]
          exact brkF_rel φ hR right least g (l ++ [d]) _ (by rw [List.findSome?_append, h]; simp [hf])
        | some p =>
          rw [hf] at hr
          simp only at hr
          rw [hr.1]
          simp only
          unfold Rel
          have key : ∀ (g : Nat) (m : List Dt) (c : Cu) (l' : List Dt), m.findSome? φ = some p → (brkF E0 right least g m c).1 = some l' → l'.findSome? φ = some p := by
            intro g
            induction g with
            | zero => intro m c l' _ h'; simp [brkF] at h'
            | succ g ih =>
              intro m c l' hm h'
              simp only [brkF] at h'
              split at h'
              · cases hq' : (E0 c).1 with
                | none => rw [hq'] at h'; cases h'
                | some d' =>
                  rw [hq'] at h'
                  exact ih (m ++ [d']) _ l' (by rw [List.findSome?_append, hm]; rfl) h'
              · simp at h'; subst h'; exact hm
          cases hb : (brkF E0 right least g (l ++ [d]) (E0 c).2).1 with
          | none => rfl
          | some l' =>
            have := key g (l ++ [d]) _ l' (by rw [List.findSome?_append, h]; simp [hf]) hb
            simp only [this]
            first
              | exact ⟨rfl, hr.2⟩
              | exact ⟨trivial, hr.2⟩
    · rw [if_neg hc, if_neg hc]
      unfold Rel
      simp only [h]
theorem brk_rel {E0 E1 : Cu → Option Dt × Cu} (φ : Dt → Option (Int × Int)) (hR : ∀ c, Rel φ (E0 c) (E1 c)) (left right : ByteArray) (least : Nat) (c : Cu) : Rel (fun l => l.findSome? φ) (brk E0 left right least c) (brk E1 left right least c) := by
  unfold brk
  split
  · exact brkF_rel φ hR right least _ _ _ rfl
  · unfold Rel
    rfl
/-- what is read is a literal -/
theorem brkF_all {E : Cu → Option Dt × Cu} {p : Dt → Prop} (hE : ∀ c d, (E c).1 = some d → p d) (right : ByteArray) (least : Nat) : ∀ (g : Nat) (l : List Dt) (c : Cu) (l' : List Dt), (∀ d ∈ l, p d) → (brkF E right least g l c).1 = some l' → ∀ d ∈ l', p d
  | 0, l, c, l', _, h => by simp [brkF] at h
  | g + 1, l, c, l', hl, h => by
    simp only [brkF] at h
    split at h
    · cases hq : (E c).1 with
      | none => rw [hq] at h; cases h
      | some d =>
        rw [hq] at h
        exact brkF_all hE right least g (l ++ [d]) _ l' (fun x hx => by
          rcases List.mem_append.1 hx with hx | hx
          · exact hl x hx
          · simp at hx; subst hx; exact hE c x hq) h
    · simp at h; subst h; exact hl
theorem brk_all {E : Cu → Option Dt × Cu} {p : Dt → Prop} (hE : ∀ c d, (E c).1 = some d → p d) (left right : ByteArray) (least : Nat) (c : Cu) (l' : List Dt) (h : (brk E left right least c).1 = some l') : ∀ d ∈ l', p d := by
  unfold brk at h
  split at h
  · exact brkF_all hE right least _ _ _ l' (fun d hd => by cases hd) h
  · cases h
theorem leaf_lit (f : Nat) (k : Int) (tx : ByteArray) (bl : Bool) (ln co : Int) : IsLit (f + 1) (litD k tx bl .nil .nil ln co) := ⟨k, tx, bl, [], [], ln, co, rfl, (fun x hx => by cases hx), (fun x hx => by cases hx)⟩
theorem litF_lit (ct : Bool) : ∀ (f : Nat) (c : Cu) (d : Dt), (litF ct f c).1 = some d → IsLit f d
  | 0, c, d, h => by cases h
  | f + 1, c, d, h => by
    change (litS (litF ct f) ct c).1 = some d at h
    unfold litS at h
    split at h
    · cases h
    split at h
    · simp at h; subst h; exact leaf_lit ..
    split at h
    · simp at h; subst h; exact leaf_lit ..
    split at h
    · simp at h; subst h; exact leaf_lit ..
    split at h
    · simp at h; subst h
      unfold wordD
      split
      · exact leaf_lit ..
      · split <;> exact leaf_lit ..
    split at h
    · unfold varS at h
      split at h
      · simp at h; subst h; exact leaf_lit ..
      · cases h
    split at h
    · unfold listS at h
      cases hq : (brk (litF ct f) bLb bRb 0 c).1 with
      | none => rw [hq] at h; cases h
      | some l =>
        rw [hq] at h
        simp at h
        subst h
        exact ⟨_, _, _, l, [], _, _, rfl, brk_all (fun c d hd => litF_lit ct f c d hd) bLb bRb 0 c l hq, (fun x hx => by cases hx)⟩
    split at h
    · unfold objS at h
      cases hq : (brk (argS (litF ct f)) bLc bRc 0 c).1 with
      | none => rw [hq] at h; cases h
      | some l =>
        rw [hq] at h
        simp at h
        subst h
        refine ⟨_, _, _, [], l, _, _, rfl, (fun x hx => by cases hx), brk_all (p := fun y => ∃ nm v ln co, y = fldD nm v ln co ∧ IsLit f v) (fun c d hd => ?_) bLc bRc 0 c l hq⟩
        unfold argS at hd
        cases hq2 : (litF ct f (c.name.want bCol)).1 with
        | none => rw [hq2] at hd; cases hd
        | some v =>
          rw [hq2] at hd
          simp at hd
          subst hd
          exact ⟨_, v, _, _, rfl, litF_lit ct f _ v hq2⟩
    · cases h
theorem rel_leaf {c c' : Cu} {d : Dt} (h : fvD d = none) : Rel fvD (some d, c) (some d, c) := by
  unfold Rel
  simp only [h]
theorem leaf_fv {k : Int} (hk : k ≠ 1) (tx : ByteArray) (bl : Bool) (ln co : Int) : fvD (litD k tx bl .nil .nil ln co) = none := by
  rw [fvD_lit, if_neg hk]
  have h1 : fvL .nil = none := fvL_of []
  have h2 : fvG .nil = none := fvG_of [] (fun d hd => by cases hd)
  rw [h1, h2]
  rfl
theorem litF_rel : ∀ (f : Nat) (c : Cu), Rel fvD (litF false f c) (litF true f c)
  | 0, c => by unfold Rel; rfl
  | f + 1, c => by
    have ih := litF_rel f
    show Rel fvD (litS (litF false f) false c) (litS (litF true f) true c)
    unfold litS
    by_cases h0 : c.kd ≠ 0
    · rw [if_pos h0, if_pos h0]; unfold Rel; rfl
    rw [if_neg h0, if_neg h0]
    by_cases h1 : c.tok.k = 4
    · rw [if_pos h1, if_pos h1]; exact rel_leaf (c' := c) (leaf_fv (by decide) ..)
    rw [if_neg h1, if_neg h1]
    by_cases h2 : c.tok.k = 5
    · rw [if_pos h2, if_pos h2]; exact rel_leaf (c' := c) (leaf_fv (by decide) ..)
    rw [if_neg h2, if_neg h2]
    by_cases h3 : c.tok.k = 6 ∨ c.tok.k = 7
    · rw [if_pos h3, if_pos h3]; exact rel_leaf (c' := c) (leaf_fv (by decide) ..)
    rw [if_neg h3, if_neg h3]
    by_cases h4 : c.tok.k = 3
    · rw [if_pos h4, if_pos h4]
      refine rel_leaf (c' := c) ?_
      unfold wordD
      split
      · exact leaf_fv (by decide) ..
      · split <;> exact leaf_fv (by decide) ..
    rw [if_neg h4, if_neg h4]
    by_cases h5 : c.isP bDol = true
    · rw [if_pos (show c.isP bDol = true ∧ false = false from ⟨h5, rfl⟩), if_neg (show ¬ (c.isP bDol = true ∧ true = false) from fun e => by cases e.2)]
      have hk := isP_k h5
      have n1 : ¬ c.isP bLb = true := fun e => by have := (isP_k e).2.2; rw [hk.2.2] at this; exact absurd this (by decide)
      have n2 : ¬ c.isP bLc = true := fun e => by have := (isP_k e).2.2; rw [hk.2.2] at this; exact absurd this (by decide)
      rw [if_neg n1, if_neg n2]
      unfold varS
      split
      · unfold Rel
        simp only [fvD_lit, if_true]
        refine ⟨trivial, ?_, ?_⟩
        · unfold Cu.stop; rw [if_pos hk.1]
        · unfold Cu.stop; rw [if_pos hk.1]; rfl
      · unfold Rel
        rfl
    rw [if_neg (show ¬ (c.isP bDol = true ∧ false = false) from fun e => h5 e.1), if_neg (show ¬ (c.isP bDol = true ∧ true = false) from fun e => h5 e.1)]
    by_cases h6 : c.isP bLb = true
    · rw [if_pos h6, if_pos h6]
      have hr := brk_rel fvD ih bLb bRb 0 c
      unfold listS
      unfold Rel at hr ⊢
      cases hq : (brk (litF false f) bLb bRb 0 c).1 with
      | none =>
        rw [hq] at hr
        simp only at hr
        rw [hr]
      | some l =>
        rw [hq] at hr
        simp only at hr
        have hv : ∀ a b, fvD (litD 8 em false (Dt.of l) .nil a b) = l.findSome? fvD := fun a b => by
          rw [fvD_lit, if_neg (by decide), fvL_of]
          have h2 : fvG .nil = none := fvG_of [] (fun d hd => by cases hd)
          rw [h2]
          cases l.findSome? fvD <;> rfl
        simp only [hv]
        cases hf : l.findSome? fvD with
        | none =>
          rw [hf] at hr
          simp only at hr ⊢
          rw [hr, hq]
        | some p =>
          rw [hf] at hr
          simp only at hr ⊢
          rw [hr.1]
          first
            | exact ⟨rfl, hr.2⟩
            | exact ⟨trivial, hr.2⟩
    rw [if_neg h6, if_neg h6]
    by_cases h7 : c.isP bLc = true
    · rw [if_pos h7, if_pos h7]
      have ha : ∀ c, Rel fvF (argS (litF false f) c) (argS (litF true f) c) := fun c => by
        have hr := ih (c.name.want bCol)
        unfold argS
        unfold Rel at hr ⊢
        cases hq : (litF false f (c.name.want bCol)).1 with
        | none =>
          rw [hq] at hr
          simp only at hr
          rw [hr]
        | some v =>
          rw [hq] at hr
          simp only at hr
          have hl := litF_lit false f _ v hq
          simp only [fvF_fld hl]
          cases hf : fvD v with
          | none =>
            rw [hf] at hr
            simp only at hr ⊢
            rw [hr, hq]
          | some p =>
            rw [hf] at hr
            simp only at hr ⊢
            rw [hr.1]
            first
              | exact ⟨rfl, hr.2⟩
              | exact ⟨trivial, hr.2⟩
      have hr := brk_rel fvF ha bLc bRc 0 c
      unfold objS
      unfold Rel at hr ⊢
      cases hq : (brk (argS (litF false f)) bLc bRc 0 c).1 with
      | none =>
        rw [hq] at hr
        simp only at hr
        rw [hr]
      | some l =>
        rw [hq] at hr
        simp only at hr
        have hall : ∀ d ∈ l, ∃ v r, d = .val v r := brk_all (p := fun d => ∃ v r, d = .val v r) (fun c d hd => by
          unfold argS at hd
          cases hq2 : (litF false f (c.name.want bCol)).1 with
          | none => rw [hq2] at hd; cases hd
          | some v => rw [hq2] at hd; simp at hd; subst hd; exact ⟨_, _, rfl⟩) bLc bRc 0 c l hq
        have hv : ∀ a b, fvD (litD 9 em false .nil (Dt.of l) a b) = l.findSome? fvF := fun a b => by
          rw [fvD_lit, if_neg (by decide), fvG_of l hall]
          have h2 : fvL .nil = none := fvL_of []
          rw [h2]
          cases l.findSome? fvF <;> rfl
        simp only [hv]
        cases hf : l.findSome? fvF with
        | none =>
          rw [hf] at hr
          simp only at hr ⊢
          rw [hr, hq]
        | some p =>
          rw [hf] at hr
          simp only at hr ⊢
          rw [hr.1]
          first
            | exact ⟨rfl, hr.2⟩
            | exact ⟨trivial, hr.2⟩
    · rw [if_neg h7, if_neg h7]
      unfold Rel
      rfl
end Go.Proofs.YtmhelpocddndjaaGreat.cu
namespace Go.Proofs.YtmhelpocddndjaaGreat.cu
open dt (Dt)
set_option linter.unusedVariables false
set_option linter.unusedSimpArgs false
/-- the faults there are -/
def Kd (c : Cu) : Prop := c.kd = 0 ∨ c.kd = 70 ∨ (c.kd = 71 ∧ c.tok.k = 2)
theorem stop_kd70 {c : Cu} (h : Kd c) : Kd (c.stop 70) := by
  unfold Cu.stop
  split
  · exact .inr (.inl rfl)
  · exact h
theorem kd_take {c : Cu} (h : c.kd = 0) : Kd c.take := .inl h
theorem punct_kd {c : Cu} (h : Kd c) (p : ByteArray) : Kd (c.punct p) := by
  unfold Cu.punct
  split
  · exact kd_take (isP_k ‹_›).1
  · exact h
theorem want_kd {c : Cu} (h : Kd c) (p : ByteArray) : Kd (c.want p) := by
  unfold Cu.want
  split
  · exact kd_take (isP_k ‹_›).1
  · exact stop_kd70 h
theorem name_kd' {c : Cu} (h : Kd c) : Kd c.name := by
  unfold Cu.name
  split
  · exact kd_take (isN_k ‹_›).1
  · exact stop_kd70 h
theorem opn_kd' {c : Cu} (h : Kd c) (p : ByteArray) : Kd (c.opn p) := by
  unfold Cu.opn
  split
  · rename_i hp
    split
    · exact .inl (isP_k hp).1
    · unfold Cu.stop
      rw [if_pos (isP_k hp).1]
      exact .inr (.inr ⟨rfl, (isP_k hp).2.1⟩)
  · exact stop_kd70 h
theorem cls_kd {c : Cu} (h : Kd c) (p : ByteArray) : Kd (c.cls p) := by
  unfold Cu.cls
  split
  · rename_i hp
    exact .inl (isP_k hp).1
  · exact stop_kd70 h
theorem fin_kd {c : Cu} (h : Kd c) : Kd c.fin := by
  unfold Cu.fin
  split
  · exact h
  · exact stop_kd70 h
theorem brkF_kd {E : Cu → Option Dt × Cu} (hE : ∀ c, Kd c → Kd (E c).2) (right : ByteArray) (least : Nat) : ∀ (g : Nat) (l : List Dt) (c : Cu), Kd c → Kd (brkF E right least g l c).2
  | 0, l, c, h => h
  | g + 1, l, c, h => by
    simp only [brkF]
    split
    · cases hq : (E c).1 with
      | none => exact hE c h
      | some d => exact brkF_kd hE right least g _ _ (hE c h)
    · exact cls_kd h _
theorem brk_kd {E : Cu → Option Dt × Cu} (hE : ∀ c, Kd c → Kd (E c).2) (left right : ByteArray) (least : Nat) (c : Cu) (h : Kd c) : Kd (brk E left right least c).2 := by
  unfold brk
  split
  · exact brkF_kd hE right least _ _ _ (opn_kd' h left)
  · exact opn_kd' h left
theorem argS_kd {L : Cu → Option Dt × Cu} (hL : ∀ c, Kd c → Kd (L c).2) (c : Cu) (h : Kd c) : Kd (argS L c).2 := by
  have := hL _ (want_kd (name_kd' h) bCol)
  unfold argS
  cases (L (c.name.want bCol)).1 <;> exact this
theorem litF_kd (ct : Bool) : ∀ (f : Nat) (c : Cu), Kd c → Kd (litF ct f c).2
  | 0, c, h => h
  | f + 1, c, h => by
    show Kd (litS (litF ct f) ct c).2
    unfold litS
    split
    · exact h
    rename_i h0
    have hk : c.kd = 0 := Classical.not_not.1 h0
    split
    · exact kd_take hk
    split
    · exact kd_take hk
    split
    · exact kd_take hk
    split
    · exact kd_take hk
    split
    · unfold varS
      split
      · exact name_kd' (kd_take hk)
      · exact name_kd' (kd_take hk)
    split
    · have := brk_kd (fun c h => litF_kd ct f c h) bLb bRb 0 c h
      unfold listS
      cases (brk (litF ct f) bLb bRb 0 c).1 <;> exact this
    split
    · have := brk_kd (fun c h => argS_kd (fun c h => litF_kd ct f c h) c h) bLc bRc 0 c h
      unfold objS
      cases (brk (argS (litF ct f)) bLc bRc 0 c).1 <;> exact this
    · exact stop_kd70 h
/-- two cursors at the same place, over tokens that agree up to number m -/
structure Sim (m : Nat) (c c' : Cu) : Prop where
  ix : c'.ix = c.ix
  op : c'.op = c.op
  mo : c'.mo = c.mo
  kd : c'.kd = c.kd
  ts : ∀ q, q ≤ m → c'.ts[q]? = c.ts[q]?
section
variable {m : Nat}
theorem Sim.tok {c c' : Cu} (h : Sim m c c') (hi : c.ix ≤ m) : c'.tok = c.tok := by
  unfold Cu.tok
  rw [h.ix, List.getD_eq_getElem?_getD, List.getD_eq_getElem?_getD, h.ts _ hi]
theorem Sim.isP {c c' : Cu} (h : Sim m c c') (hi : c.ix ≤ m) (p : ByteArray) : c'.isP p = c.isP p := by unfold Cu.isP; rw [h.kd, h.tok hi]
theorem Sim.isN {c c' : Cu} (h : Sim m c c') (hi : c.ix ≤ m) : c'.isN = c.isN := by unfold Cu.isN; rw [h.kd, h.tok hi]
theorem Sim.take {c c' : Cu} (h : Sim m c c') : Sim m c.take c'.take := ⟨by unfold Cu.take; simp only; rw [h.ix], h.op, h.mo, h.kd, h.ts⟩
theorem Sim.stop {c c' : Cu} (h : Sim m c c') (k : Int) : Sim m (c.stop k) (c'.stop k) := by
  unfold Cu.stop
  rw [h.kd]
  split
  · exact ⟨h.ix, h.op, h.mo, rfl, h.ts⟩
  · exact h
theorem Sim.want {c c' : Cu} (h : Sim m c c') (hi : c.ix ≤ m) (p : ByteArray) : Sim m (c.want p) (c'.want p) := by
  unfold Cu.want
  rw [h.isP hi]
  split
  · exact h.take
  · exact h.stop 70
theorem Sim.name {c c' : Cu} (h : Sim m c c') (hi : c.ix ≤ m) : Sim m c.name c'.name := by
  unfold Cu.name
  rw [h.isN hi]
  split
  · exact h.take
  · exact h.stop 70
theorem Sim.opB {c c' : Cu} (h : Sim m c c') (hi : c.ix ≤ m) (p : ByteArray) : c'.opB p = c.opB p := by unfold Cu.opB; rw [h.isP hi, h.op, h.mo]
theorem Sim.opn {c c' : Cu} (h : Sim m c c') (hi : c.ix ≤ m) (p : ByteArray) : Sim m (c.opn p) (c'.opn p) := by
  unfold Cu.opn
  rw [h.isP hi, h.op, h.mo]
  split
  · split
    · exact ⟨by simp only; rw [h.ix], by simp only, by simp only, h.kd, h.ts⟩
    · exact h.stop 71
  · exact h.stop 70
theorem Sim.cls {c c' : Cu} (h : Sim m c c') (hi : c.ix ≤ m) (p : ByteArray) : Sim m (c.cls p) (c'.cls p) := by
  unfold Cu.cls
  rw [h.isP hi]
  split
  · exact ⟨by simp only; rw [h.ix], by simp only; rw [h.op], h.mo, h.kd, h.ts⟩
  · exact h.stop 70
theorem Sim.finB {c c' : Cu} (h : Sim m c c') (hi : c.ix ≤ m) : c'.finB = c.finB := by unfold Cu.finB; rw [h.kd, h.tok hi]
theorem Sim.fin {c c' : Cu} (h : Sim m c c') (hi : c.ix ≤ m) : Sim m c.fin c'.fin := by
  unfold Cu.fin
  rw [h.finB hi]
  split
  · exact h
  · exact h.stop 70
/-- a reading that looks no further than it goes -/
def Near {A : Type} (m : Nat) (E E' : Cu → Option A × Cu) (b b' : Nat) : Prop := ∀ c c', c.Ok → c'.Ok → Sim m c c' → c.ts.length ≤ b + c.ix → c'.ts.length ≤ b' + c'.ix → (E c).2.ix ≤ m → (E' c').1 = (E c).1 ∧ Sim m (E c).2 (E' c').2
theorem brkF_near {E E' : Cu → Option Dt × Cu} {b b' : Nat} (hG : Goes E) (hG' : Goes E') (hE : Near m E E' b b') (right : ByteArray) (least : Nat) : ∀ (g g' : Nat) (l : List Dt) (c c' : Cu), c.Ok → c'.Ok → Sim m c c' → c.ts.length ≤ b + c.ix → c'.ts.length ≤ b' + c'.ix → c.ts.length ≤ g + c.ix → c'.ts.length ≤ g' + c'.ix → (brkF E right least g l c).2.ix ≤ m → (brkF E' right least g' l c').1 = (brkF E right least g l c).1 ∧ Sim m (brkF E right least g l c).2 (brkF E' right least g' l c').2
  | 0, g', l, c, c', h, h', hs, hb, hb', hg, hg', hm => by have := h.lt; omega
  | g + 1, 0, l, c, c', h, h', hs, hb, hb', hg, hg', hm => by have := h'.lt; omega
  | g + 1, g' + 1, l, c, c', h, h', hs, hb, hb', hg, hg', hm => by
    have hst := brkF_stp hG right least (g + 1) l c h
    have hix : c.ix ≤ m := Nat.le_trans hst.ix hm
    simp only [brkF] at hm ⊢
    rw [hs.isP hix]
    by_cases hc : l.length < least ∨ c.isP right = false
    · rw [if_pos hc] at hm
      rw [if_pos hc, if_pos hc]
      have hgo := hG c h
      have hEm : (E c).2.ix ≤ m := by
        cases hq : (E c).1 with
        | none => rw [hq] at hm; exact hm
        | some d =>
          rw [hq] at hm
          exact Nat.le_trans (brkF_stp hG right least g _ _ hgo.1.ok).ix hm
      obtain ⟨e1, e2⟩ := hE c c' h h' hs hb hb' hEm
      cases hq : (E c).1 with
      | none =>
        rw [hq] at e1
        rw [e1]
        exact ⟨rfl, e2⟩
      | some d =>
        rw [hq] at e1 hm
        rw [e1]
        have hgo' := hG' c' h'
        have i1 := hgo.2 (by rw [hq]; rfl)
        have i2 := hgo'.2 (by rw [e1]; rfl)
        exact brkF_near hG hG' hE right least g g' (l ++ [d]) _ _ hgo.1.ok hgo'.1.ok e2 (by rw [hgo.1.ts]; omega) (by rw [hgo'.1.ts]; omega) (by rw [hgo.1.ts]; omega) (by rw [hgo'.1.ts]; omega) hm
    · rw [if_neg hc, if_neg hc]
      exact ⟨rfl, hs.cls hix right⟩
theorem brk_near {E E' : Cu → Option Dt × Cu} {b b' : Nat} (hG : Goes E) (hG' : Goes E') (hE : Near m E E' b b') (left right : ByteArray) (least : Nat) : Near m (brk E left right least) (brk E' left right least) (b + 1) (b' + 1) := by
  intro c c' h h' hs hb hb' hm
  have hst := (brk_goes hG left right least c h).1
  have hix : c.ix ≤ m := Nat.le_trans hst.ix hm
  unfold brk at hm ⊢
  rw [hs.opB hix]
  have ho := opn_stp h left
  have ho' := opn_stp h' left
  by_cases hB : c.opB left = true
  · rw [if_pos hB] at hm
    rw [if_pos hB, if_pos hB]
    have x1 := opn_ix hB
    have x2 := opn_ix (show c'.opB left = true by rw [hs.opB hix]; exact hB)
    exact brkF_near hG hG' hE right least _ _ [] _ _ ho.ok ho'.ok (hs.opn hix left) (by rw [ho.ts, x1]; omega) (by rw [ho'.ts, x2]; omega) (by rw [ho.ts]; omega) (by rw [ho'.ts]; omega) hm
  · rw [if_neg hB, if_neg hB]
    exact ⟨rfl, hs.opn hix left⟩
theorem argS_near {L L' : Cu → Option Dt × Cu} {b b' : Nat} (hG : Goes L) (hL : Near m L L' b b') : Near m (argS L) (argS L') b b' := by
  intro c c' h h' hs hb hb' hm
  have hst := (argS_goes hG c h).1
  have hix : c.ix ≤ m := Nat.le_trans hst.ix hm
  have s1 := name_stp h
  have s2 := want_stp s1.ok bCol
  have s1' := name_stp h'
  have s2' := want_stp s1'.ok bCol
  have s3 := (hG _ s2.ok).1
  have hLm : (L (c.name.want bCol)).2.ix ≤ m := by
    unfold argS at hm
    cases hq : (L (c.name.want bCol)).1 with
    | none => rw [hq] at hm; exact hm
    | some v => rw [hq] at hm; exact hm
  have i1 : c.name.ix ≤ m := Nat.le_trans (Nat.le_trans s2.ix s3.ix) hLm
  have t := s1.trans s2
  have t' := s1'.trans s2'
  obtain ⟨e1, e2⟩ := hL (c.name.want bCol) (c'.name.want bCol) s2.ok s2'.ok ((hs.name hix).want i1 bCol) (by rw [t.ts]; have := t.ix; omega) (by rw [t'.ts]; have := t'.ix; omega) hLm
  unfold argS
  rw [e1]
  cases hq : (L (c.name.want bCol)).1 with
  | none => exact ⟨rfl, e2⟩
  | some v =>
    rw [hs.tok hix]
    exact ⟨rfl, e2⟩
theorem litF_near (ct : Bool) : ∀ (f f' : Nat), Near m (litF ct f) (litF ct f') f f'
  | 0, f' => fun c c' h h' hs hb hb' hm => by have := h.lt; omega
  | f + 1, 0 => fun c c' h h' hs hb hb' hm => by have := h'.lt; omega
  | f + 1, f' + 1 => by
    intro c c' h h' hs hb hb' hm
    have ih := litF_near ct f f'
    have hst := (litF_goes ct (f + 1) c h).1
    have hix : c.ix ≤ m := Nat.le_trans hst.ix hm
    have ht := hs.tok hix
    change (litS (litF ct f) ct c).2.ix ≤ m at hm
    show (litS (litF ct f') ct c').1 = (litS (litF ct f) ct c).1 ∧ Sim m (litS (litF ct f) ct c).2 (litS (litF ct f') ct c').2
    unfold litS at hm ⊢
    rw [hs.kd, ht, hs.isP hix, hs.isP hix, hs.isP hix]
    by_cases h0 : c.kd ≠ 0
    · rw [if_pos h0, if_pos h0]; exact ⟨rfl, hs⟩
    rw [if_neg h0] at hm
    rw [if_neg h0, if_neg h0]
    by_cases h1 : c.tok.k = 4
    · rw [if_pos h1, if_pos h1]; exact ⟨rfl, hs.take⟩
    rw [if_neg h1] at hm
    rw [if_neg h1, if_neg h1]
    by_cases h2 : c.tok.k = 5
    · rw [if_pos h2, if_pos h2]; exact ⟨rfl, hs.take⟩
    rw [if_neg h2] at hm
    rw [if_neg h2, if_neg h2]
    by_cases h3 : c.tok.k = 6 ∨ c.tok.k = 7
    · rw [if_pos h3, if_pos h3]; exact ⟨rfl, hs.take⟩
    rw [if_neg h3] at hm
    rw [if_neg h3, if_neg h3]
    by_cases h4 : c.tok.k = 3
    · rw [if_pos h4, if_pos h4]; exact ⟨rfl, hs.take⟩
    rw [if_neg h4] at hm
    rw [if_neg h4, if_neg h4]
    by_cases h5 : c.isP bDol = true ∧ ct = false
    · rw [if_pos h5] at hm
      rw [if_pos h5, if_pos h5]
      have hn := name_stp (takeP h h5.1).ok
      have hi1 : c.take.ix ≤ m := by
        unfold varS at hm
        split at hm
        · exact Nat.le_trans hn.ix hm
        · exact Nat.le_trans hn.ix hm
      unfold varS
      rw [hs.take.isN hi1, hs.take.tok hi1, ht]
      split
      · exact ⟨rfl, hs.take.name hi1⟩
      · exact ⟨rfl, hs.take.name hi1⟩
    rw [if_neg h5] at hm
    rw [if_neg h5, if_neg h5]
    by_cases h6 : c.isP bLb = true
    · rw [if_pos h6] at hm
      rw [if_pos h6, if_pos h6]
      have hbm : (brk (litF ct f) bLb bRb 0 c).2.ix ≤ m := by
        unfold listS at hm
        cases hq : (brk (litF ct f) bLb bRb 0 c).1 with
        | none => rw [hq] at hm; exact hm
        | some l => rw [hq] at hm; exact hm
      obtain ⟨e1, e2⟩ := brk_near (litF_goes ct f) (litF_goes ct f') ih bLb bRb 0 c c' h h' hs (by omega) (by omega) hbm
      unfold listS
      rw [e1]
      cases hq : (brk (litF ct f) bLb bRb 0 c).1 with
      | none => exact ⟨rfl, e2⟩
      | some l => rw [ht]; exact ⟨rfl, e2⟩
    rw [if_neg h6] at hm
    rw [if_neg h6, if_neg h6]
    by_cases h7 : c.isP bLc = true
    · rw [if_pos h7] at hm
      rw [if_pos h7, if_pos h7]
      have hbm : (brk (argS (litF ct f)) bLc bRc 0 c).2.ix ≤ m := by
        unfold objS at hm
        cases hq : (brk (argS (litF ct f)) bLc bRc 0 c).1 with
        | none => rw [hq] at hm; exact hm
        | some l => rw [hq] at hm; exact hm
      obtain ⟨e1, e2⟩ := brk_near (argS_goes (litF_goes ct f)) (argS_goes (litF_goes ct f')) (argS_near (litF_goes ct f) ih) bLc bRc 0 c c' h h' hs (by omega) (by omega) hbm
      unfold objS
      rw [e1]
      cases hq : (brk (argS (litF ct f)) bLc bRc 0 c).1 with
      | none => exact ⟨rfl, e2⟩
      | some l => rw [ht]; exact ⟨rfl, e2⟩
    · rw [if_neg h7, if_neg h7]
      exact ⟨rfl, hs.stop 70⟩
end
end Go.Proofs.YtmhelpocddndjaaGreat.cu
namespace Go.Proofs.YtmhelpocddndjaaGreat.cu
open dt (Dt Kp RowAt Ow Grow)
set_option linter.unusedVariables false
set_option linter.unusedSimpArgs false
theorem Faults.mono {A : Type} {E : Cu → Option A × Cu} {b b' : Nat} (h : Faults E b) (hb : b' ≤ b) : Faults E b' := fun c hc hl hn => h c hc (by omega) hn
theorem isP_dead {c : Cu} (h : c.kd ≠ 0) (p : ByteArray) : c.isP p = false := by unfold Cu.isP; simp [h]
theorem isN_dead {c : Cu} (h : c.kd ≠ 0) : c.isN = false := by unfold Cu.isN; simp [h]
theorem brk_dead (E : Cu → Option Dt × Cu) (l r : ByteArray) (n : Nat) {c : Cu} (h : c.kd ≠ 0) : brk E l r n c = (none, c) := by
  unfold brk Cu.opB Cu.opn
  simp [isP_dead h, stop_dead _ _ h]
theorem argsS_still (L : Cu → Option Dt × Cu) {c : Cu} (h : c.kd ≠ 0) : argsS L c = (none, c) := by
  unfold argsS
  rw [isP_dead h, if_neg (by decide), if_neg h]
theorem dirsF_still (L : Cu → Option Dt × Cu) {c : Cu} (h : c.kd ≠ 0) : ∀ (g : Nat) (l : List Dt), dirsF L g l c = (none, c)
  | 0, l => rfl
  | g + 1, l => by
    rw [dirsF, isP_dead h, if_neg (by decide), if_neg h]
theorem dirs_still (L : Cu → Option Dt × Cu) {c : Cu} (h : c.kd ≠ 0) : dirs L c = (none, c) := dirsF_still L h _ _
theorem selsF_still (L : Cu → Option Dt × Cu) {c : Cu} (h : c.kd ≠ 0) : ∀ g, selsF L g c = (none, c)
  | 0 => rfl
  | g + 1 => brk_dead _ _ _ _ h
theorem argsS_faults {L : Cu → Option Dt × Cu} (hG : Goes L) {b : Nat} (hL : Faults L b) : Faults (argsS L) b := by
  intro c hc hl hn
  unfold argsS at hn ⊢
  split at hn
  · rename_i hp
    rw [if_pos hp]
    exact brk_faults (argS_goes hG) b (argS_faults b hL) bLp bRp 1 c hc (by omega) hn
  · rename_i hp
    rw [if_neg hp]
    intro hk
    rw [if_pos hk] at hn
    cases hn
theorem dirS_faults {L : Cu → Option Dt × Cu} (hG : Goes L) {b : Nat} (hL : Faults L b) {c : Cu} (hc : c.Ok) (hp : c.isP bAt = true) (hl : c.ts.length ≤ b + c.ix) (hn : (dirS L c).1 = none) : (dirS L c).2.kd ≠ 0 := by
  have h1 := takeP hc hp
  have h2 := h1.trans (name_stp h1.ok)
  have h3 := argsS_faults hG hL c.take.name h2.ok (by rw [h2.ts]; have := h2.ix; omega)
  unfold dirS at hn ⊢
  cases hq : (argsS L c.take.name).1 with
  | none => exact h3 hq
  | some l => rw [hq] at hn; cases hn
theorem dirsF_faults {L : Cu → Option Dt × Cu} (hG : Goes L) {b : Nat} (hL : Faults L b) : ∀ (g : Nat) (l : List Dt) (c : Cu), c.Ok → c.ts.length ≤ b + c.ix → c.ts.length ≤ g + c.ix → (dirsF L g l c).1 = none → (dirsF L g l c).2.kd ≠ 0
  | 0, l, c, h, hb, hg, hn => by have := h.lt; omega
  | g + 1, l, c, h, hb, hg, hn => by
    simp only [dirsF] at hn ⊢
    by_cases hp : c.isP bAt = true
    · rw [if_pos hp] at hn
      rw [if_pos hp]
      have hs := dirS_stp hG h hp
      have hf := dirS_faults hG hL h hp hb
      cases hq : (dirS L c).1 with
      | none => exact hf hq
      | some d =>
        rw [hq] at hn
        exact dirsF_faults hG hL g _ _ hs.1.ok (by rw [hs.1.ts]; have := hs.2; omega) (by rw [hs.1.ts]; have := hs.2; omega) hn
    · rw [if_neg hp] at hn
      rw [if_neg hp]
      intro hk
      simp only at hn hk
      rw [if_pos hk] at hn
      cases hn
theorem dirs_faults {L : Cu → Option Dt × Cu} (hG : Goes L) {b : Nat} (hL : Faults L b) : Faults (dirs L) b := fun c hc hl hn => dirsF_faults hG hL _ _ c hc hl (by omega) hn
theorem spread_faults {L : Cu → Option Dt × Cu} (hG : Goes L) {b : Nat} (hL : Faults L b) (t : Tk) : Faults (spreadS L t) b := by
  intro c hc hl hn
  have h1 := nmC_stp hc (so := c.isN && !inW [bOn] c.tok.tx) (fun e => by simp at e; exact e.1)
  have h2 := dirs_faults hG hL _ h1.ok (by rw [h1.ts]; have := h1.ix; omega)
  unfold spreadS at hn ⊢
  cases hq : (dirs L (c.nmC (c.isN && !inW [bOn] c.tok.tx))).1 with
  | none => exact h2 hq
  | some l => rw [hq] at hn; cases hn
theorem inline_faults {L : Cu → Option Dt × Cu} {S : Cu → Option (List Dt) × Cu} (hG : Goes L) {b : Nat} (hS : Faults S b) (t : Tk) : Faults (inlineS L S t) b := by
  intro c hc hl hn
  have h1 := onC_stp hc
  have h2 := h1.trans (dirs_stp hG h1.ok)
  have h3 := hS _ h2.ok (by rw [h2.ts]; have := h2.ix; omega)
  unfold inlineS at hn ⊢
  cases hq : (S (dirs L (onC c)).2).1 with
  | none => exact h3 hq
  | some l => rw [hq] at hn; cases hn
theorem field_faults {L : Cu → Option Dt × Cu} {S : Cu → Option (List Dt) × Cu} (hG : Goes L) {b : Nat} (hL : Faults L b) (hS : Faults S b) (t : Tk) : Faults (fieldS L S t) b := by
  intro c hc hl hn
  have h1 := fldC_stp hc
  have h2 := h1.trans (argsS_stp hG h1.ok)
  have h3 := h2.trans (dirs_stp hG h2.ok)
  have h4 := hS _ h3.ok (by rw [h3.ts]; have := h3.ix; omega)
  have h5 := dirs_faults hG hL _ h2.ok (by rw [h2.ts]; have := h2.ix; omega)
  simp only [fieldS] at hn ⊢
  by_cases hp : (dirs L (argsS L (fldC c)).2).2.isP bLc = true
  · rw [if_pos hp] at hn
    rw [if_pos hp]
    cases hq : (S (dirs L (argsS L (fldC c)).2).2).1 with
    | none => exact h4 hq
    | some l => rw [hq] at hn; cases hn
  · rw [if_neg hp] at hn
    rw [if_neg hp]
    cases hq : (dirs L (argsS L (fldC c)).2).1 with
    | none => exact h5 hq
    | some l => rw [hq] at hn; cases hn
theorem selS_faults {L : Cu → Option Dt × Cu} {S : Cu → Option (List Dt) × Cu} (hG : Goes L) {b : Nat} (hL : Faults L b) (hS : Faults S b) : Faults (selS L S) b := by
  intro c hc hl hn
  unfold selS at hn ⊢
  by_cases hp : c.isP bDots = true
  · rw [if_pos hp] at hn ⊢
    have h1 := takeP hc hp
    have h2 : c.take.ts.length ≤ b + c.take.ix := by rw [h1.ts]; have := h1.ix; omega
    by_cases hw : (c.take.isN && !inW [bOn] c.take.tok.tx) = true
    · rw [if_pos hw] at hn ⊢
      exact spread_faults hG hL _ _ h1.ok h2 hn
    · rw [if_neg hw] at hn ⊢
      exact inline_faults hG hS _ _ h1.ok h2 hn
  · rw [if_neg hp] at hn ⊢
    exact field_faults hG hL hS _ _ hc hl hn
theorem name_dead' {c : Cu} (h : c.isN = false) : c.name.kd ≠ 0 := name_kd h
/-- what a field that is read had -/
theorem field_some {L : Cu → Option Dt × Cu} {S : Cu → Option (List Dt) × Cu} (hG : Goes L) {b : Nat} (hL : Faults L b) (t : Tk) {c : Cu} (hc : c.Ok) (hl : c.ts.length ≤ b + c.ix) (hs : (fieldS L S t c).1.isSome = true) :
    c.isN = true ∧ (∃ l, (argsS L (fldC c)).1 = some l) ∧ ∃ l, (dirs L (argsS L (fldC c)).2).1 = some l := by
  have h1 := fldC_stp hc
  have h2 := h1.trans (argsS_stp hG h1.ok)
  have h5 := dirs_faults hG hL _ h2.ok (by rw [h2.ts]; have := h2.ix; omega)
  have h6 := argsS_faults hG hL _ h1.ok (by rw [h1.ts]; have := h1.ix; omega)
  have hd : ∃ l, (dirs L (argsS L (fldC c)).2).1 = some l := by
    cases hq : (dirs L (argsS L (fldC c)).2).1 with
    | some l => exact ⟨l, rfl⟩
    | none =>
      exfalso
      have hk := h5 hq
      simp only [fieldS] at hs
      rw [isP_dead hk, if_neg (by decide), hq] at hs
      cases hs
  have ha : ∃ l, (argsS L (fldC c)).1 = some l := by
    cases hq : (argsS L (fldC c)).1 with
    | some l => exact ⟨l, rfl⟩
    | none =>
      exfalso
      obtain ⟨l, hl⟩ := hd
      rw [dirs_still L (h6 hq)] at hl
      cases hl
  refine ⟨?_, ha, hd⟩
  cases hN : c.isN with
  | true => rfl
  | false =>
    exfalso
    obtain ⟨l, hl⟩ := ha
    have hk := name_dead' hN
    have : fldC c = c.name := by unfold fldC; rw [isP_dead hk, if_neg (by decide)]
    rw [this, argsS_still L hk] at hl
    cases hl
theorem inline_some {L : Cu → Option Dt × Cu} {S : Cu → Option (List Dt) × Cu} (hG : Goes L) {b : Nat} (hL : Faults L b) (hD : ∀ c : Cu, c.kd ≠ 0 → (S c).1 = none) (t : Tk) {c : Cu} (hc : c.Ok) (hl : c.ts.length ≤ b + c.ix) (hs : (inlineS L S t c).1.isSome = true) : ∃ l, (dirs L (onC c)).1 = some l := by
  have h1 := onC_stp hc
  have h5 := dirs_faults hG hL _ h1.ok (by rw [h1.ts]; have := h1.ix; omega)
  cases hq : (dirs L (onC c)).1 with
  | some l => exact ⟨l, rfl⟩
  | none =>
    exfalso
    have hk := hD _ (h5 hq)
    unfold inlineS at hs
    rw [hk] at hs
    cases hs
theorem selS_goes {L : Cu → Option Dt × Cu} {S : Cu → Option (List Dt) × Cu} (hG : Goes L) (hS : Goes S) : Goes (selS L S) := by
  intro c hc
  unfold selS
  by_cases hp : c.isP bDots = true
  · rw [if_pos hp]
    have h1 := takeP hc hp
    by_cases hw : (c.take.isN && !inW [bOn] c.take.tok.tx) = true
    · rw [if_pos hw]
      have h2 := spread_stp hG c.tok h1.ok
      exact ⟨h1.trans h2, fun _ => Nat.lt_of_lt_of_le (Nat.lt_succ_self _) h2.ix⟩
    · rw [if_neg hw]
      have h2 := inline_stp hG hS c.tok h1.ok
      exact ⟨h1.trans h2, fun _ => Nat.lt_of_lt_of_le (Nat.lt_succ_self _) h2.ix⟩
  · rw [if_neg hp]
    refine ⟨field_stp hG hS c.tok hc, fun hs => ?_⟩
    have h1 := fldC_stp hc
    have h2 := argsS_stp hG h1.ok
    have h3 := dirs_stp hG h2.ok
    have h4 := (hS _ h3.ok).1
    have hN : c.isN = true := by
      cases hN : c.isN with
      | true => rfl
      | false =>
        exfalso
        have hk := name_dead' hN
        have hf : fldC c = c.name := by unfold fldC; rw [isP_dead hk, if_neg (by decide)]
        simp only [fieldS, hf, argsS_still L hk, dirs_still L hk, isP_dead hk] at hs
        simp at hs
    have hx : c.ix < (fldC c).ix := by
      have e : c.name.ix = c.ix + 1 := by unfold Cu.name; rw [hN]; rfl
      unfold fldC
      split
      · rename_i hq
        have h5 := takeP (name_stp hc).ok hq
        have := (name_stp h5.ok).ix
        have h6 : c.name.take.ix = c.name.ix + 1 := rfl
        omega
      · omega
    have hx2 := Nat.lt_of_lt_of_le hx (Nat.le_trans h2.ix h3.ix)
    simp only [fieldS]
    split
    · cases (S (dirs L (argsS L (fldC c)).2).2).1 <;> exact Nat.lt_of_lt_of_le hx2 h4.ix
    · cases (dirs L (argsS L (fldC c)).2).1 <;> exact hx2
theorem selsF_goes {L : Cu → Option Dt × Cu} (hG : Goes L) : ∀ g, Goes (selsF L g)
  | 0 => fun c h => ⟨Stp.refl h, fun h => by cases h⟩
  | g + 1 => brk_goes (selS_goes hG (selsF_goes hG g)) bLc bRc 1
theorem selsF_faults {L : Cu → Option Dt × Cu} (hG : Goes L) {N : Nat} (hL : Faults L N) : ∀ g, g ≤ N → Faults (selsF L g) g
  | 0, _ => fun c h hl _ => by have := h.lt; omega
  | g + 1, hg => fun c h hl hn => brk_faults (selS_goes hG (selsF_goes hG g)) g (selS_faults hG (hL.mono (by omega)) (selsF_faults hG hL g (by omega))) bLc bRc 1 c h hl hn
theorem sels_dead (L : Cu → Option Dt × Cu) (g : Nat) (c : Cu) (h : c.kd ≠ 0) : (selsF L g c).1 = none := by rw [selsF_still L h]
end Go.Proofs.YtmhelpocddndjaaGreat.cu
namespace Go.Proofs.YtmhelpocddndjaaGreat.cu
open dt (Dt Kp RowAt Ow Grow)
set_option linter.unusedVariables false
set_option linter.unusedSimpArgs false
def bEq : ByteArray := ⟨#[61]⟩
def bQuery : ByteArray := ⟨#[113, 117, 101, 114, 121]⟩
def bMut : ByteArray := ⟨#[109, 117, 116, 97, 116, 105, 111, 110]⟩
def bSub : ByteArray := ⟨#[115, 117, 98, 115, 99, 114, 105, 112, 116, 105, 111, 110]⟩
def bFrag : ByteArray := ⟨#[102, 114, 97, 103, 109, 101, 110, 116]⟩
abbrev LitR := Cu → Option Dt × Cu
abbrev TypR := Cu → Option (ByteArray × ByteArray) × Cu
abbrev LstR := Cu → Option (List Dt) × Cu
/-- a variable's definition -/
def varD (nm tn tw : ByteArray) (hd : Bool) (v : Dt) (ds : List Dt) (ln co : Int) : Dt := .val (.string nm) (.val (.string tn) (.val (.string tw) (.val (.bool hd) (app v (.lst 4 (Dt.of ds) (.val (.int .i64 ln) (.val (.int .i64 co) .nil)))))))
/-- behind a variable's name and colon -/
def varC3 (c : Cu) : Cu := ((c.want bDol).name).want bCol
/-- behind its type, and behind its default -/
def varV (L : LitR) (u : Cu) : Dt := if u.isP bEq then (L u.take).1.getD zeroD else zeroD
def varU (L : LitR) (u : Cu) : Cu := if u.isP bEq then (L u.take).2 else u
def varQ (T : TypR) (L : LitR) (c : Cu) : Option Dt × Cu :=
  let t := T (varC3 c)
  let d := dirs L (varU L t.2)
  match d.1 with
  | none => (none, d.2)
  | some ds => (some (varD (c.want bDol).nmS ((t.1.map (·.1)).getD em) ((t.1.map (·.2)).getD em) (t.2.isP bEq) (varV L t.2) ds c.tok.ln c.tok.co), d.2)
/-- a definition -/
def defD (k : Int) (nm on : ByteArray) (sh : Bool) (vs ds ss : List Dt) (ln co : Int) : Dt := .val (.int .i64 k) (.val (.string nm) (.val (.string on) (.val (.bool sh) (.lst 14 (Dt.of vs) (.lst 4 (Dt.of ds) (.lst 9 (Dt.of ss) (.val (.int .i64 ln) (.val (.int .i64 co) .nil))))))))
def bodyS (L : LitR) (S : LstR) (k : Int) (nm on : ByteArray) (vs : List Dt) (t : Tk) (c : Cu) : Option Dt × Cu :=
  match (S (dirs L c).2).1 with
  | none => (none, (S (dirs L c).2).2)
  | some ss => (some (defD k nm on false vs ((dirs L c).1.getD []) ss t.ln t.co), (S (dirs L c).2).2)
def varsS (T : TypR) (K : LitR) (c : Cu) : Option (List Dt) × Cu := if c.isP bLp then brk (varQ T K) bLp bRp 1 c else (some [], c)
def opC (c : Cu) : Cu := if c.tok.k = 3 then c.name else c
def operS (T : TypR) (K L : LitR) (S : LstR) (k : Int) (t : Tk) (c : Cu) : Option Dt × Cu :=
  bodyS L S k c.nmS em ((varsS T K (opC c)).1.getD []) t (varsS T K (opC c)).2
def fragC (c : Cu) : Cu := c.nmC (c.isN && !inW [bOn] c.tok.tx)
def fragO (c : Cu) : Cu := c.nmC (c.isW [bOn])
def fragS (L : LitR) (S : LstR) (t : Tk) (c : Cu) : Option Dt × Cu :=
  bodyS L S 4 (c.nmB (c.isN && !inW [bOn] c.tok.tx)) (fragO (fragC c)).nmS [] t (fragO (fragC c)).name
def defS (T : TypR) (K L : LitR) (S : LstR) (c : Cu) : Option Dt × Cu :=
  if c.isP bLc then (match (S c).1 with | none => (none, (S c).2) | some ss => (some (defD 1 em em true [] [] ss c.tok.ln c.tok.co), (S c).2))
  else if c.isW [bQuery, bMut, bSub, bFrag] then
    (if c.tok.tx = bQuery then operS T K L S 1 c.tok c.take else if c.tok.tx = bMut then operS T K L S 2 c.tok c.take else if c.tok.tx = bSub then operS T K L S 3 c.tok c.take else fragS L S c.tok c.take)
  else (none, c.stop 70)
def defsF (D : LitR) : Nat → List Dt → Cu → Option (List Dt) × Cu
  | 0, l, c => (none, c)
  | g + 1, l, c => if l.length = 0 ∨ c.tok.k ≠ 0 then (match (D c).1 with | none => (none, (D c).2) | some d => defsF D g (l ++ [d]) (D c).2) else (if c.finB then some l else none, c.fin)
/-- the readers at so much fuel -/
def defN (N : Nat) : LitR := defS (typF N) (litF true N) (litF false N) (selsF (litF false N) N)
def docS (c : Cu) : Option (List Dt) × Cu := defsF (defN c.ts.length) c.ts.length [] c
theorem varC3_stp {c : Cu} (h : c.Ok) : Stp c (varC3 c) := by
  have h1 := want_stp h bDol
  have h2 := name_stp h1.ok
  exact (h1.trans h2).trans (want_stp h2.ok bCol)
theorem varU_stp {L : LitR} (hL : Goes L) {c : Cu} (h : c.Ok) : Stp c (varU L c) := by
  unfold varU
  split
  · rename_i hp
    have h1 := takeP h hp
    exact h1.trans (hL _ h1.ok).1
  · exact Stp.refl h
theorem want_dead {c : Cu} (h : c.kd ≠ 0) (p : ByteArray) : c.want p = c := by unfold Cu.want; rw [isP_dead h]; exact stop_dead _ _ h
theorem name_still {c : Cu} (h : c.kd ≠ 0) : c.name = c := by unfold Cu.name; rw [isN_dead h]; exact stop_dead _ _ h
theorem want_no {c : Cu} {p : ByteArray} (h : c.isP p = false) : (c.want p).kd ≠ 0 := by unfold Cu.want; rw [h]; exact stop_kd _ _ (by decide)
theorem typF_still (f : Nat) {c : Cu} (h : c.kd ≠ 0) : typF f c = (none, c) := by
  cases f with
  | zero => rfl
  | succ f =>
    show typ (unm (typF f)) c = _
    unfold typ unm
    rw [isP_dead h, isN_dead h, name_still h]
    rfl
theorem varQ_goes {f : Nat} {L : LitR} (hL : Goes L) : Goes (varQ (typF f) L) := by
  intro c h
  have h1 := varC3_stp h
  have h2 := (typF_goes f _ h1.ok).1
  have h3 := varU_stp hL h2.ok
  have h4 := dirs_stp hL h3.ok
  have h5 := ((h1.trans h2).trans h3).trans h4
  have hx : (dirs L (varU L (typF f (varC3 c)).2)).1.isSome = true → c.ix < (dirs L (varU L (typF f (varC3 c)).2)).2.ix := by
    intro hs
    have hp : c.isP bDol = true := by
      cases hp : c.isP bDol with
      | true => rfl
      | false =>
        exfalso
        have hk := want_no hp
        have e1 : varC3 c = c.want bDol := by unfold varC3; rw [name_still hk, want_dead hk]
        rw [e1, typF_still f hk] at hs
        have e2 : varU L (c.want bDol) = c.want bDol := by unfold varU; rw [isP_dead hk]; rfl
        simp only [e2] at hs
        rw [dirs_still L hk] at hs
        cases hs
    have e : (c.want bDol).ix = c.ix + 1 := by unfold Cu.want; rw [hp]; rfl
    have s1 := want_stp h bDol
    have s2 := name_stp s1.ok
    have s3 := want_stp s2.ok bCol
    have i2 := s2.ix
    have i3 : ((c.want bDol).name).ix ≤ (varC3 c).ix := s3.ix
    have i4 := h2.ix
    have i5 := h3.ix
    have i6 := h4.ix
    omega
  simp only [varQ]
  cases hq : (dirs L (varU L (typF f (varC3 c)).2)).1 with
  | none => exact ⟨h5, fun h => by cases h⟩
  | some ds => exact ⟨h5, fun _ => hx (by rw [hq]; rfl)⟩
theorem varsS_stp {f : Nat} {K : LitR} (hK : Goes K) {c : Cu} (h : c.Ok) : Stp c (varsS (typF f) K c).2 := by
  unfold varsS
  split
  · exact (brk_goes (varQ_goes hK) bLp bRp 1 c h).1
  · exact Stp.refl h
theorem opC_stp {c : Cu} (h : c.Ok) : Stp c (opC c) := by
  unfold opC
  split
  · exact name_stp h
  · exact Stp.refl h
theorem bodyS_stp {L : LitR} {S : LstR} (hL : Goes L) (hS : Goes S) (k : Int) (nm on : ByteArray) (vs : List Dt) (t : Tk) {c : Cu} (h : c.Ok) : Stp c (bodyS L S k nm on vs t c).2 := by
  have h1 := dirs_stp hL h
  have h2 := h1.trans (hS _ h1.ok).1
  unfold bodyS
  cases (S (dirs L c).2).1 <;> exact h2
theorem operS_stp {f : Nat} {K L : LitR} {S : LstR} (hK : Goes K) (hL : Goes L) (hS : Goes S) (k : Int) (t : Tk) {c : Cu} (h : c.Ok) : Stp c (operS (typF f) K L S k t c).2 := by
  have h1 := opC_stp h
  have h2 := h1.trans (varsS_stp (f := f) hK h1.ok)
  exact h2.trans (bodyS_stp hL hS _ _ _ _ _ h2.ok)
theorem fragC_stp {c : Cu} (h : c.Ok) : Stp c (fragC c) := nmC_stp h (fun e => by simp at e; exact e.1)
theorem fragO_stp {c : Cu} (h : c.Ok) : Stp c (fragO c) := nmC_stp h (fun e => isW_N e)
theorem fragS_stp {L : LitR} {S : LstR} (hL : Goes L) (hS : Goes S) (t : Tk) {c : Cu} (h : c.Ok) : Stp c (fragS L S t c).2 := by
  have h1 := fragC_stp h
  have h2 := h1.trans (fragO_stp h1.ok)
  have h3 := h2.trans (name_stp h2.ok)
  exact h3.trans (bodyS_stp hL hS _ _ _ _ _ h3.ok)
theorem defS_goes {f : Nat} {K L : LitR} {S : LstR} (hK : Goes K) (hL : Goes L) (hS : Goes S) : Goes (defS (typF f) K L S) := by
  intro c h
  unfold defS
  by_cases hp : c.isP bLc = true
  · rw [if_pos hp]
    have h1 := hS c h
    cases hq : (S c).1 with
    | none => exact ⟨h1.1, fun h => by cases h⟩
    | some ss => exact ⟨h1.1, fun _ => h1.2 (by rw [hq]; rfl)⟩
  · rw [if_neg hp]
    by_cases hw : c.isW [bQuery, bMut, bSub, bFrag] = true
    · rw [if_pos hw]
      have h1 := takeN h (isW_N hw)
      have ho := fun k => operS_stp (f := f) hK hL hS k c.tok h1.ok
      have hf := fragS_stp hL hS c.tok h1.ok
      have lt : ∀ {u : Cu}, Stp c.take u → c.ix < u.ix := fun s => Nat.lt_of_lt_of_le (Nat.lt_succ_self _) s.ix
      split
      · exact ⟨h1.trans (ho 1), fun _ => lt (ho 1)⟩
      split
      · exact ⟨h1.trans (ho 2), fun _ => lt (ho 2)⟩
      split
      · exact ⟨h1.trans (ho 3), fun _ => lt (ho 3)⟩
      · exact ⟨h1.trans hf, fun _ => lt hf⟩
    · rw [if_neg hw]
      exact ⟨stop_stp h _, fun h => by cases h⟩
theorem defN_goes (N : Nat) : Goes (defN N) := defS_goes (litF_goes true N) (litF_goes false N) (selsF_goes (litF_goes false N) N)
theorem defsF_stp {D : LitR} (hD : Goes D) : ∀ (g : Nat) (l : List Dt) (c : Cu), c.Ok → Stp c (defsF D g l c).2
  | 0, l, c, h => Stp.refl h
  | g + 1, l, c, h => by
    simp only [defsF]
    split
    · cases hq : (D c).1 with
      | none => exact (hD c h).1
      | some d => exact (hD c h).1.trans (defsF_stp hD g _ _ (hD c h).1.ok)
    · exact fin_stp h
end Go.Proofs.YtmhelpocddndjaaGreat.cu
namespace Go.Proofs.YtmhelpocddndjaaGreat.cu
open dt (Dt Kp RowAt Ow Grow)
set_option linter.unusedVariables false
set_option linter.unusedSimpArgs false
/-- one reading behind another -/
def bnd {A X : Type} (E : Cu → A × Cu) (F : A → Cu → X × Cu) : Cu → X × Cu := fun c => F (E c).1 (E c).2
def ret {A : Type} (a : A) : Cu → A × Cu := fun c => (a, c)
def tokR : Cu → Tk × Cu := fun c => (c.tok, c)
def isPR (p : ByteArray) : Cu → Bool × Cu := fun c => (c.isP p, c)
def aliveR : Cu → Bool × Cu := fun c => (decide (c.kd = 0), c)
def finR : Cu → Bool × Cu := fun c => (c.finB, c.fin)
def nmR : Cu → ByteArray × Cu := fun c => (c.nmS, c.name)
def nR : Cu → (Bool × ByteArray) × Cu := fun c => ((c.isN, c.tok.tx), c.name)
def wantR (p : ByteArray) : Cu → Unit × Cu := fun c => ((), c.want p)
def punctR (p : ByteArray) : Cu → Bool × Cu := fun c => (c.isP p, c.punct p)
def wordR (q : ByteArray) : Cu → Bool × Cu := fun c => (c.isW [q], c.word q)
def butR (ws : List ByteArray) : Cu → ByteArray × Cu := fun c => (c.nmB (c.isN && !inW ws c.tok.tx), c.nmC (c.isN && !inW ws c.tok.tx))
def wwR (ws : List ByteArray) : Cu → Bool × Cu := fun c => (c.isW ws, c.nmC (c.isW ws))
def opnR (p : ByteArray) : Cu → Bool × Cu := fun c => (c.opB p, c.opn p)
def clsR (p : ByteArray) : Cu → Bool × Cu := fun c => (c.isP p, c.cls p)
def stopR {A : Type} (a : A) : Cu → A × Cu := fun c => (a, c.stop 70)
/-- it keeps what every step keeps -/
def St {A : Type} (E : Cu → A × Cu) : Prop := ∀ c, c.Ok → Stp c (E c).2
theorem St.bnd {A X : Type} {E : Cu → A × Cu} {F : A → Cu → X × Cu} (h : St E) (k : ∀ a, St (F a)) : St (bnd E F) := fun c hc => (h c hc).trans (k _ _ (h c hc).ok)
theorem Goes.st {A : Type} {E : Cu → Option A × Cu} (h : Goes E) : St E := fun c hc => (h c hc).1
theorem ret_st {A : Type} (a : A) : St (ret a) := fun c h => Stp.refl h
theorem tokR_st : St tokR := fun c h => Stp.refl h
theorem isPR_st (p : ByteArray) : St (isPR p) := fun c h => Stp.refl h
theorem aliveR_st : St aliveR := fun c h => Stp.refl h
theorem finR_st : St finR := fun c h => fin_stp h
theorem nmR_st : St nmR := fun c h => name_stp h
theorem nR_st : St nR := fun c h => name_stp h
theorem wantR_st (p : ByteArray) : St (wantR p) := fun c h => want_stp h p
theorem punctR_st (p : ByteArray) : St (punctR p) := fun c h => punct_stp h p
theorem wordR_st (q : ByteArray) : St (wordR q) := fun c h => by
  show Stp c (c.word q)
  unfold Cu.word
  split
  · exact takeN h (isW_N ‹_›)
  · exact Stp.refl h
theorem butR_st (ws : List ByteArray) : St (butR ws) := fun c h => nmC_stp h (fun e => by simp at e; exact e.1)
theorem wwR_st (ws : List ByteArray) : St (wwR ws) := fun c h => nmC_stp h (fun e => isW_N e)
theorem opnR_st (p : ByteArray) : St (opnR p) := fun c h => opn_stp h p
theorem clsR_st (p : ByteArray) : St (clsR p) := fun c h => cls_stp h p
theorem stopR_st {A : Type} (a : A) : St (stopR a) := fun c h => stop_stp h 70
theorem ite_st {A : Type} {b : Bool} {E F : Cu → A × Cu} (h : St E) (k : St F) : St (cond b E F) := by cases b; exact k; exact h
/-- the faults there are -/
def KdP {A : Type} (E : Cu → A × Cu) : Prop := ∀ c, Kd c → Kd (E c).2
theorem KdP.bnd {A X : Type} {E : Cu → A × Cu} {F : A → Cu → X × Cu} (h : KdP E) (k : ∀ a, KdP (F a)) : KdP (bnd E F) := fun c hc => k _ _ (h c hc)
theorem ret_kd {A : Type} (a : A) : KdP (ret a) := fun c h => h
theorem tokR_kd : KdP tokR := fun c h => h
theorem isPR_kd (p : ByteArray) : KdP (isPR p) := fun c h => h
theorem aliveR_kd : KdP aliveR := fun c h => h
theorem finR_kd : KdP finR := fun c h => fin_kd h
theorem nmR_kd : KdP nmR := fun c h => name_kd' h
theorem nR_kd : KdP nR := fun c h => name_kd' h
theorem wantR_kd (p : ByteArray) : KdP (wantR p) := fun c h => want_kd h p
theorem punctR_kd (p : ByteArray) : KdP (punctR p) := fun c h => punct_kd h p
theorem wordR_kd (q : ByteArray) : KdP (wordR q) := fun c h => by
  show Kd (c.word q)
  unfold Cu.word
  split
  · exact kd_take (isN_k (isW_N ‹_›)).1
  · exact h
theorem nmC_kd {c : Cu} {so : Bool} (h : Kd c) (hs : so = true → c.isN = true) : Kd (c.nmC so) := by
  unfold Cu.nmC
  cases so
  · exact stop_kd70 h
  · exact kd_take (isN_k (hs rfl)).1
theorem butR_kd (ws : List ByteArray) : KdP (butR ws) := fun c h => nmC_kd h (fun e => by simp at e; exact e.1)
theorem wwR_kd (ws : List ByteArray) : KdP (wwR ws) := fun c h => nmC_kd h (fun e => isW_N e)
theorem opnR_kd (p : ByteArray) : KdP (opnR p) := fun c h => opn_kd' h p
theorem clsR_kd (p : ByteArray) : KdP (clsR p) := fun c h => cls_kd h p
theorem stopR_kd {A : Type} (a : A) : KdP (stopR a) := fun c h => stop_kd70 h
theorem ite_kd {A : Type} {b : Bool} {E F : Cu → A × Cu} (h : KdP E) (k : KdP F) : KdP (cond b E F) := by cases b; exact k; exact h
/-- a reading that looks no further than it goes -/
def NearA {A : Type} (m : Nat) (E E' : Cu → A × Cu) (b b' : Nat) : Prop := ∀ c c', c.Ok → c'.Ok → Sim m c c' → c.ts.length ≤ b + c.ix → c'.ts.length ≤ b' + c'.ix → (E c).2.ix ≤ m → (E' c').1 = (E c).1 ∧ Sim m (E c).2 (E' c').2
theorem Near.a {A : Type} {m : Nat} {E E' : Cu → Option A × Cu} {b b' : Nat} (h : Near m E E' b b') : NearA m E E' b b' := h
section
variable {m b b' : Nat}
theorem NearA.bnd {A X : Type} {E E' : Cu → A × Cu} {F F' : A → Cu → X × Cu} (h : NearA m E E' b b') (s : St E) (s' : St E') (k : ∀ a, NearA m (F a) (F' a) b b') (t : ∀ a, St (F a)) : NearA m (bnd E F) (bnd E' F') b b' := by
  intro c c' hc hc' hs hb hb' hm
  have s1 := s c hc
  have s2 := s' c' hc'
  have t1 := t (E c).1 _ s1.ok
  obtain ⟨e1, e2⟩ := h c c' hc hc' hs hb hb' (Nat.le_trans t1.ix hm)
  show (F' (E' c').1 (E' c').2).1 = (F (E c).1 (E c).2).1 ∧ _
  obtain ⟨g1, g2⟩ := k (E c).1 (E c).2 (E' c').2 s1.ok s2.ok e2 (by rw [s1.ts]; have := s1.ix; omega) (by rw [s2.ts]; have := s2.ix; omega) hm
  rw [e1]
  refine ⟨g1, ?_⟩
  show Sim m (F (E c).1 (E c).2).2 (F' (E' c').1 (E' c').2).2
  rw [e1]
  exact g2
theorem NearA.mono {A : Type} {E E' : Cu → A × Cu} {d d' : Nat} (h : NearA m E E' b b') (h1 : d ≤ b) (h2 : d' ≤ b') : NearA m E E' d d' := fun c c' hc hc' hs hb hb' hm => h c c' hc hc' hs (by omega) (by omega) hm
theorem ret_near {A : Type} (a : A) : NearA m (ret a) (ret a) b b' := fun c c' hc hc' hs hb hb' hm => ⟨rfl, hs⟩
theorem tokR_near : NearA m tokR tokR b b' := fun c c' hc hc' hs hb hb' hm => ⟨hs.tok hm, hs⟩
theorem isPR_near (p : ByteArray) : NearA m (isPR p) (isPR p) b b' := fun c c' hc hc' hs hb hb' hm => ⟨hs.isP hm p, hs⟩
theorem aliveR_near : NearA m aliveR aliveR b b' := fun c c' hc hc' hs hb hb' hm => ⟨by show decide (c'.kd = 0) = decide (c.kd = 0); rw [hs.kd], hs⟩
theorem finR_near : NearA m finR finR b b' := fun c c' hc hc' hs hb hb' hm => by
  have hi : c.ix ≤ m := Nat.le_trans (fin_stp hc).ix hm
  exact ⟨hs.finB hi, hs.fin hi⟩
theorem nmR_near : NearA m nmR nmR b b' := fun c c' hc hc' hs hb hb' hm => by
  have hi : c.ix ≤ m := Nat.le_trans (name_stp hc).ix hm
  exact ⟨by show c'.nmS = c.nmS; unfold Cu.nmS; rw [hs.isN hi, hs.tok hi], hs.name hi⟩
theorem nR_near : NearA m nR nR b b' := fun c c' hc hc' hs hb hb' hm => by
  have hi : c.ix ≤ m := Nat.le_trans (name_stp hc).ix hm
  exact ⟨by show (c'.isN, c'.tok.tx) = (c.isN, c.tok.tx); rw [hs.isN hi, hs.tok hi], hs.name hi⟩
theorem wantR_near (p : ByteArray) : NearA m (wantR p) (wantR p) b b' := fun c c' hc hc' hs hb hb' hm => by
  have hi : c.ix ≤ m := Nat.le_trans (want_stp hc p).ix hm
  exact ⟨rfl, hs.want hi p⟩
theorem punctR_near (p : ByteArray) : NearA m (punctR p) (punctR p) b b' := fun c c' hc hc' hs hb hb' hm => by
  have hi : c.ix ≤ m := Nat.le_trans (punct_stp hc p).ix hm
  refine ⟨hs.isP hi p, ?_⟩
  show Sim m (c.punct p) (c'.punct p)
  unfold Cu.punct
  rw [hs.isP hi p]
  split
  · exact hs.take
  · exact hs
theorem Sim.isW {c c' : Cu} (hs : Sim m c c') (hi : c.ix ≤ m) (ws : List ByteArray) : c'.isW ws = c.isW ws := by unfold Cu.isW; rw [hs.isN hi, hs.tok hi]
theorem Sim.nmC {c c' : Cu} (hs : Sim m c c') (so : Bool) : Sim m (c.nmC so) (c'.nmC so) := by
  unfold Cu.nmC
  cases so
  · exact hs.stop 70
  · exact hs.take
theorem wordR_near (q : ByteArray) : NearA m (wordR q) (wordR q) b b' := fun c c' hc hc' hs hb hb' hm => by
  have hi : c.ix ≤ m := Nat.le_trans (wordR_st q c hc).ix hm
  refine ⟨hs.isW hi [q], ?_⟩
  show Sim m (c.word q) (c'.word q)
  unfold Cu.word
  rw [hs.isW hi [q]]
  split
  · exact hs.take
  · exact hs
theorem butR_near (ws : List ByteArray) : NearA m (butR ws) (butR ws) b b' := fun c c' hc hc' hs hb hb' hm => by
  have hi : c.ix ≤ m := Nat.le_trans (butR_st ws c hc).ix hm
  refine ⟨?_, ?_⟩
  · show c'.nmB _ = c.nmB _
    unfold Cu.nmB
    rw [hs.isN hi, hs.tok hi]
  · show Sim m (c.nmC _) (c'.nmC _)
    rw [hs.isN hi, hs.tok hi]
    exact hs.nmC _
theorem wwR_near (ws : List ByteArray) : NearA m (wwR ws) (wwR ws) b b' := fun c c' hc hc' hs hb hb' hm => by
  have hi : c.ix ≤ m := Nat.le_trans (wwR_st ws c hc).ix hm
  refine ⟨hs.isW hi ws, ?_⟩
  show Sim m (c.nmC _) (c'.nmC _)
  rw [hs.isW hi ws]
  exact hs.nmC _
theorem clsR_near (p : ByteArray) : NearA m (clsR p) (clsR p) b b' := fun c c' hc hc' hs hb hb' hm => by
  have hi : c.ix ≤ m := Nat.le_trans (cls_stp hc p).ix hm
  exact ⟨hs.isP hi p, hs.cls hi p⟩
theorem stopR_near {A : Type} (a : A) : NearA m (stopR a) (stopR a) b b' := fun c c' hc hc' hs hb hb' hm => ⟨rfl, hs.stop 70⟩
theorem ite_near {A : Type} {q : Bool} {E E' F F' : Cu → A × Cu} (h : NearA m E E' b b') (k : NearA m F F' b b') : NearA m (cond q E F) (cond q E' F') b b' := by cases q; exact k; exact h
/-- an opened bracket is a token on -/
theorem opn_near {X : Type} (p : ByteArray) {F F' : Bool → Cu → X × Cu} (k : NearA m (F true) (F' true) b b') (t : St (F true)) (k0 : NearA m (F false) (F' false) (b + 1) (b' + 1)) (t0 : St (F false)) : NearA m (bnd (opnR p) F) (bnd (opnR p) F') (b + 1) (b' + 1) := by
  intro c c' hc hc' hs hb hb' hm
  have s1 := opn_stp hc p
  have s2 := opn_stp hc' p
  have hst : Stp (c.opn p) (bnd (opnR p) F c).2 := by
    show Stp _ (F (c.opB p) (c.opn p)).2
    cases c.opB p
    · exact t0 _ s1.ok
    · exact t _ s1.ok
  have hi : c.ix ≤ m := Nat.le_trans s1.ix (Nat.le_trans hst.ix hm)
  have eB := hs.opB hi p
  have eS := hs.opn hi p
  show (F' (c'.opB p) (c'.opn p)).1 = (F (c.opB p) (c.opn p)).1 ∧ Sim m (F (c.opB p) (c.opn p)).2 (F' (c'.opB p) (c'.opn p)).2
  have hm' : (F (c.opB p) (c.opn p)).2.ix ≤ m := hm
  rw [eB]
  cases hq : c.opB p
  · rw [hq] at hm'
    exact k0 _ _ s1.ok s2.ok eS (by rw [s1.ts]; have := s1.ix; omega) (by rw [s2.ts]; have := s2.ix; omega) hm'
  · rw [hq] at hm'
    have x1 := opn_ix hq
    have x2 := opn_ix (show c'.opB p = true by rw [eB]; exact hq)
    exact k _ _ s1.ok s2.ok eS (by rw [s1.ts, x1]; omega) (by rw [s2.ts, x2]; omega) hm'
end
end Go.Proofs.YtmhelpocddndjaaGreat.cu
