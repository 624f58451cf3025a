import Derived.Test.YtifbkdicglcogaaGreatSpl6
set_option linter.unusedVariables false
set_option linter.unusedSimpArgs false
namespace Go.Proofs.YtifbkdicglcogaaGreat.cu
open Go.ChangeShapes Go.WideShapes Go.ChangeAt Go.RowKit
open ints (Hi uh)
open dt (Dt Kp RowAt Ow Grow)
structure Wds (w : World) (b n c : Nat) (ws : List ByteArray) : Prop where
 len : ws.length = n
 le : n ≤ c
 lt : b < w.heap.size
 at_ : ∀ i, i < n → w.cell? ⟨b, i, none⟩ = some (.string (ws.getD i em))
theorem Wds.below {w w' : World} {b n c : Nat} {ws : List ByteArray} (h : Wds w b n c ws) (hb : Below w.heap.size w w') : Wds w' b n c ws :=
 ⟨h.len, h.le, Nat.lt_of_lt_of_le h.lt hb.size, fun i hi => (hb.cell (p := ⟨b, i, none⟩) h.lt).trans (h.at_ i hi)⟩
def inW (ws : List ByteArray) (s : ByteArray) : Bool := ws.any (fun x => decide (x = s))
theorem index_ok (b n c : Nat) (ws : List ByteArray) (s : ByteArray) (w : World) (h : Wds w b n c ws) (hn : n ≤ 1048576) :
  Calls Tryz.prog 105 #[.slice (some ⟨b, 0, none⟩) n c, .string s] w fun e w' => ∃ i : Int, e = .returned (.int .i64 i) ∧ decide (0 ≤ i) = inW ws s ∧ w' = w := by
 have HL := Hi h.len
 go_enter Tryz.func105, Tryz.ntmps105
 go_wp2_with fail
 go_loopw [8] (fun i wr => ∃ k : Nat, k ≤ n ∧ i = .int .i64 k ∧ w = wr ∧ Hid (∀ j, j < k → ws.getD j em ≠ s)) (fun i _ => n - (intOf i).toNat)
 case atStart => exact ⟨0, Nat.zero_le _, rfl, rfl, Hi (fun j hj => by omega)⟩
 case round =>
  obtain ⟨k, hk, rfl, rfl, hno⟩ := hrel
  by_cases hlt : k < n
  ·have ki : (k : Int) < (n : Int) := by omega
   have c1 := h.at_ k hlt
   by_cases he : ws.getD k em = s
   ·have hin := Hi (show inW ws s = true from by
     unfold inW
     have hkl : k < ws.length := by rw [uh HL]; exact hlt
     rw [List.any_eq_true]
     refine ⟨ws[k], List.getElem_mem hkl, ?_⟩
     rw [List.getD_eq_getElem?_getD, List.getElem?_eq_getElem hkl] at he
     exact decide_eq_true he)
    rw [he] at c1
    clear he
    go_wp2_with fail
    go_ret
    exact ⟨k, rfl, by rw [uh hin]; simp, rfl⟩
   ·have hb : (s.toList == (ws.getD k em).toList) = false := str_neb (fun e => he e.symm)
    have He := Hi he
    obtain ⟨x, hx⟩ : ∃ x, x = ws.getD k em := ⟨_, rfl⟩
    rw [← hx] at c1 hb
    clear he hx
    go_wp2_with fail
    refine ⟨⟨k + 1, by omega, by first | rfl | go_num, trivial, Hi (fun j hj => ?_)⟩, by simp only [intOf]; omega⟩
    by_cases e : j = k
    ·rw [e]; exact uh He
    ·exact uh hno j (by omega)
  ·obtain rfl : k = n := by omega
   have ki : ¬ (k : Int) < (k : Int) := by omega
   have hin := Hi (show inW ws s = false from by
    unfold inW
    rw [← Bool.not_eq_true, List.any_eq_true]
    rintro ⟨x, hm, hx⟩
    obtain ⟨j, hj, rfl⟩ := List.mem_iff_getElem.1 hm
    apply uh hno j (by rw [← uh HL]; exact hj)
    rw [List.getD_eq_getElem?_getD, List.getElem?_eq_getElem hj]
    exact of_decide_eq_true hx)
   go_wp2_with fail
   go_ret
   exact ⟨-1, rfl, by rw [uh hin]; rfl, rfl⟩
theorem contains_ok (b n c : Nat) (ws : List ByteArray) (s : ByteArray) (w : World) (h : Wds w b n c ws) (hn : n ≤ 1048576) :
  Calls Tryz.prog 84 #[.slice (some ⟨b, 0, none⟩) n c, .string s] w fun e w' => e = .returned (.bool (inW ws s)) ∧ w' = w := by
 have hi := Hi (index_ok b n c ws s w h hn)
 go_enter Tryz.func84, Tryz.ntmps84
 go_wp2_with fail
 refine (uh hi).mono ?_
 rintro e w1 ⟨i, rfl, hd, rfl⟩
 clear hi
 have Hd := Hi hd
 clear hd
 go_wp2_with fail
 go_ret
 exact ⟨by rw [← uh Hd]; rfl, rfl⟩
def _root_.Go.Proofs.YtifbkdicglcogaaGreat.cu.Cu.isW (c : Cu) (ws : List ByteArray) : Bool := c.isN && inW ws c.tok.tx
theorem isWord_ok (B p : Nat) (c : Cu) (b n cp : Nat) (ws : List ByteArray) (w : World) (h : CurAt w B p c) (hw : Wds w b n cp ws) (hn : n ≤ 1048576) :
  Calls Tryz.prog 72 #[ptr B, .slice (some ⟨b, 0, none⟩) n cp] w fun e w' => e = .returned (.bool (c.isW ws)) ∧ Below w.heap.size w w' := by
 have hi := Hi (isName_ok B p c w h)
 have ht := Hi (fun W (bb : Below w.heap.size w W) => token_ok B p c W (h.below bb))
 have hc := Hi (fun W (bb : Below w.heap.size w W) s => contains_ok b n cp ws s W (hw.below bb) hn)
 have hf1 := fld_text c.tok
 unfold Cu.isW
 obtain ⟨t, et⟩ : ∃ t, t = c.tok := ⟨_, rfl⟩
 rw [← et] at ht hf1 ⊢
 clear h hw et
 unfold Tk.cells at ht
 unfold ptr at hi ht ⊢
 cases hN : c.isN
 ·rw [hN] at hi
  go_enter Tryz.func72, Tryz.ntmps72
  go_wp2_with fail
  refine (uh hi).mono ?_
  rintro e w1 ⟨rfl, b1⟩
  go_wp2_with fail
  go_ret
  exact ⟨rfl, b1⟩
 ·rw [hN] at hi
  obtain ⟨R, hR⟩ : ∃ R, R = inW ws t.tx := ⟨_, rfl⟩
  have hc2 := Hi (fun W (bb : Below w.heap.size w W) => (uh hc) W bb t.tx)
  rw [← hR] at hc2 ⊢
  clear hR hc
  go_enter Tryz.func72, Tryz.ntmps72
  go_wp2_with fail
  refine (uh hi).mono ?_
  rintro e w1 ⟨rfl, b1⟩
  go_wp2_with fail
  refine ((uh ht) w1 b1).mono ?_
  rintro e w2 ⟨rfl, b2⟩
  have b12 := b1.trans (b2.mono b1.size)
  go_wp2_with fail
  refine ((uh hc2) w2 b12).mono ?_
  rintro e w3 ⟨rfl, hw3⟩
  obtain rfl : w2 = w3 := hw3.symm
  cases R
  ·go_wp2_with fail
   go_ret
   exact ⟨rfl, b12⟩
  ·go_wp2_with fail
   go_ret
   exact ⟨rfl, b12⟩
def nmV (t : Tk) (so : Bool) : List Value := if so then [.string t.tx, .int .i64 t.ln, .int .i64 t.co] else [.string em, .int .i64 0, .int .i64 0]
def _root_.Go.Proofs.YtifbkdicglcogaaGreat.cu.Cu.nmC (c : Cu) (so : Bool) : Cu := if so then c.take else c.stop 70
theorem nmV_3 (t : Tk) (so : Bool) : (nmV t so).length = 3 ∧ (nmV t so).all (·.oneCell') = true := by unfold nmV; split <;> exact ⟨rfl, rfl⟩
theorem isW_N {c : Cu} {ws : List ByteArray} (h : c.isW ws = true) : c.isN = true := by unfold Cu.isW at h; simp only [Bool.and_eq_true] at h; exact h.1
set_option maxHeartbeats 1000000 in
set_option maxRecDepth 4000 in
theorem wantWord_ok (B p : Nat) (c : Cu) (b n cp : Nat) (ws : List ByteArray) (w : World) (h : CurAt w B p c) (hw : Wds w b n cp ws) (hwn : n ≤ 1048576) :
  Calls Tryz.prog 121 #[ptr B, .slice (some ⟨b, 0, none⟩) n cp] w fun e w' => e = .returned (.tuple #[.agg (nmV c.tok (c.isW ws)).toArray, .bool (c.isW ws)]) ∧ CurAt w' B p (c.nmC (c.isW ws)) ∧ Kp B w w' := by
 have hi := Hi (fun W (bb : Below w.heap.size w W) => isWord_ok B p c b n cp ws W (h.below bb) (hw.below bb) hwn)
 have hlt := h.lt
 have hplt := h.plt
 have hne : B ≠ w.heap.size := by omega
 have hnp : p ≠ w.heap.size := by omega
 have hV3 := Hi (nmV_3 c.tok (c.isW ws)).1
 have hV1 := Hi (nmV_3 c.tok (c.isW ws)).2
 obtain ⟨V, hV⟩ : ∃ V, V = nmV c.tok (c.isW ws) := ⟨_, rfl⟩
 obtain ⟨C, hC⟩ : ∃ C, C = c.nmC (c.isW ws) := ⟨_, rfl⟩
 have hn := Hi (fun W (bb : Below w.heap.size w W) => show Calls Tryz.prog 142 #[ptr B, .bool (c.isW ws)] W fun e w' => e = .returned (.tuple #[.agg V.toArray, .bool (c.isW ws)]) ∧ CurAt w' B p C ∧ Kp B W w' from by rw [hV, hC]; exact name_ok B p c (c.isW ws) W (h.below bb) (fun e => isN_more h.ok (isW_N e)))
 rw [← hV] at hV3 hV1 ⊢
 rw [← hC] at ⊢
 clear hV hC
 obtain ⟨R, hR⟩ : ∃ R, R = c.isW ws := ⟨_, rfl⟩
 rw [← hR] at hi hn ⊢
 clear h hw hR
 unfold ptr at hi hn ⊢
 go_enter Tryz.func121, Tryz.ntmps121
 go_wp2_with fail
 have bA0 : Below w.heap.size w (w.alloc (.cells #[Value.string { data := #[] }, .int .i64 0, .int .i64 0] 92)) := ba
 have hZ := (fun W (hk : Kp B (w.alloc (.cells #[Value.string { data := #[] }, .int .i64 0, .int .i64 0] 92)) W) => show W.heap[w.heap.size]? = some (.cells #[Value.string { data := #[] }, .int .i64 0, .int .i64 0] 92 (0, 0)) from (hk.block w.heap.size (by simp) (by omega)).trans (heap_alloc_new w _))
 obtain ⟨wA, hwA⟩ : ∃ wA, wA = w.alloc (.cells #[Value.string { data := #[] }, .int .i64 0, .int .i64 0] 92) := ⟨_, rfl⟩
 rw [← hwA] at bA0 hZ ⊢
 clear hwA
 refine ((uh hi) wA bA0).mono ?_
 rintro e w1 ⟨rfl, b1⟩
 go_wp2_with fail
 refine ((uh hn) w1 (bA0.trans (b1.mono bA0.size))).mono ?_
 rintro e wN ⟨rfl, hcN, hkN⟩
 have bE := b1
 have hk3 := (Kp.of bE).trans hkN
 have hth : wN.there w.heap.size 0 3 := dt.there_cells (hZ wN hk3) (by decide)
 have HK := Hi ((Kp.of bA0).trans hk3)
 have HC := Hi hcN
 have HT := Hi (show wN.there w.heap.size 0 V.toArray.size from by rw [show V.toArray.size = 3 from by simpa using uh hV3]; exact hth)
 have HI := Hi (show (Tryz.prog.info? 92).map (·.size) = some V.toArray.size from by rw [show V.toArray.size = 3 from by simpa using uh hV3]; exact infoNm)
 clear hk3 hkN hcN hth bE hZ bA0
 go_wp2_with (first
  | refine wpList_store_mid (by rfl) 92 _ _ (by rfl) w.heap.size 0 V.toArray (by rfl) (by rfl) (uh HT) (uh HI) (dt.one_cells (uh hV1)) ?_)
 refine bodyPost_ret (rgn.result_row_tmp rfl _ _ w.heap.size 0 V _ rfl (World.rangeAt_setCells_same _ _ _ _ (by have := uh HT; simpa using this)) Tryz.underlying92 rfl (by have := uh HI; simpa using this)) rfl ?_
 exact ⟨rfl, (uh HC).out hne hnp _ _, (uh HK).out (Nat.le_refl _) _ _⟩
set_option maxHeartbeats 1000000 in
set_option maxRecDepth 4000 in
theorem nameBut_ok (B p : Nat) (c : Cu) (b n cp : Nat) (ws : List ByteArray) (w : World) (h : CurAt w B p c) (hw : Wds w b n cp ws) (hwn : n ≤ 1048576) :
  Calls Tryz.prog 135 #[ptr B, .slice (some ⟨b, 0, none⟩) n cp] w fun e w' => e = .returned (.tuple #[.agg (nmV c.tok (c.isN && !inW ws c.tok.tx)).toArray, .bool (c.isN && !inW ws c.tok.tx)]) ∧ CurAt w' B p (c.nmC (c.isN && !inW ws c.tok.tx)) ∧ Kp B w w' := by
 have hi := Hi (fun W (bb : Below w.heap.size w W) => isName_ok B p c W (h.below bb))
 have ht := Hi (fun W (bb : Below w.heap.size w W) => token_ok B p c W (h.below bb))
 have hct := Hi (fun W (bb : Below w.heap.size w W) => contains_ok b n cp ws c.tok.tx W (hw.below bb) hwn)
 have hf1 := fld_text c.tok
 have hlt := h.lt
 have hplt := h.plt
 have hne : B ≠ w.heap.size := by omega
 have hnp : p ≠ w.heap.size := by omega
 have hV3 := Hi (nmV_3 c.tok (c.isN && !inW ws c.tok.tx)).1
 have hV1 := Hi (nmV_3 c.tok (c.isN && !inW ws c.tok.tx)).2
 obtain ⟨V, hV⟩ : ∃ V, V = nmV c.tok (c.isN && !inW ws c.tok.tx) := ⟨_, rfl⟩
 obtain ⟨C, hC⟩ : ∃ C, C = c.nmC (c.isN && !inW ws c.tok.tx) := ⟨_, rfl⟩
 have hn := Hi (fun W (bb : Below w.heap.size w W) => show Calls Tryz.prog 142 #[ptr B, .bool (c.isN && !inW ws c.tok.tx)] W fun e w' => e = .returned (.tuple #[.agg V.toArray, .bool (c.isN && !inW ws c.tok.tx)]) ∧ CurAt w' B p C ∧ Kp B W w' from by rw [hV, hC]; exact name_ok B p c (c.isN && !inW ws c.tok.tx) W (h.below bb) (fun e => isN_more h.ok (by simp only [Bool.and_eq_true] at e; exact e.1)))
 rw [← hV] at hV3 hV1 ⊢
 rw [← hC] at ⊢
 clear hV hC
 obtain ⟨R, hR⟩ : ∃ R, R = c.isN := ⟨_, rfl⟩
 obtain ⟨S, hS⟩ : ∃ S, S = inW ws c.tok.tx := ⟨_, rfl⟩
 rw [← hR] at hi
 rw [← hS] at hct
 rw [← hR, ← hS] at hn ⊢
 obtain ⟨t, et⟩ : ∃ t, t = c.tok := ⟨_, rfl⟩
 rw [← et] at ht hct hf1
 clear h hw hR hS et
 unfold Tk.cells at ht
 unfold ptr at hi hn ht ⊢
 go_enter Tryz.func135, Tryz.ntmps135
 go_wp2_with fail
 have bA0 : Below w.heap.size w (w.alloc (.cells #[Value.string { data := #[] }, .int .i64 0, .int .i64 0] 92)) := ba
 have hZ := (fun W (hk : Kp B (w.alloc (.cells #[Value.string { data := #[] }, .int .i64 0, .int .i64 0] 92)) W) => show W.heap[w.heap.size]? = some (.cells #[Value.string { data := #[] }, .int .i64 0, .int .i64 0] 92 (0, 0)) from (hk.block w.heap.size (by simp) (by omega)).trans (heap_alloc_new w _))
 obtain ⟨wA, hwA⟩ : ∃ wA, wA = w.alloc (.cells #[Value.string { data := #[] }, .int .i64 0, .int .i64 0] 92) := ⟨_, rfl⟩
 rw [← hwA] at bA0 hZ ⊢
 clear hwA
 refine ((uh hi) wA bA0).mono ?_
 rintro e w1 ⟨rfl, b1⟩
 cases R
 ·simp only [Bool.false_and] at hn ⊢
  go_wp2_with fail
  refine ((uh hn) w1 (bA0.trans (b1.mono bA0.size))).mono ?_
  rintro e wN ⟨rfl, hcN, hkN⟩
  have bE := b1
  have hk3 := (Kp.of bE).trans hkN
  have hth : wN.there w.heap.size 0 3 := dt.there_cells (hZ wN hk3) (by decide)
  have HK := Hi ((Kp.of bA0).trans hk3)
  have HC := Hi hcN
  have HT := Hi (show wN.there w.heap.size 0 V.toArray.size from by rw [show V.toArray.size = 3 from by simpa using uh hV3]; exact hth)
  have HI := Hi (show (Tryz.prog.info? 92).map (·.size) = some V.toArray.size from by rw [show V.toArray.size = 3 from by simpa using uh hV3]; exact infoNm)
  clear hk3 hkN hcN hth bE hZ bA0
  go_wp2_with (first
   | refine wpList_store_mid (by rfl) 92 _ _ (by rfl) w.heap.size 0 V.toArray (by rfl) (by rfl) (uh HT) (uh HI) (dt.one_cells (uh hV1)) ?_)
  refine bodyPost_ret (rgn.result_row_tmp rfl _ _ w.heap.size 0 V _ rfl (World.rangeAt_setCells_same _ _ _ _ (by have := uh HT; simpa using this)) Tryz.underlying92 rfl (by have := uh HI; simpa using this)) rfl ?_
  exact ⟨rfl, (uh HC).out hne hnp _ _, (uh HK).out (Nat.le_refl _) _ _⟩
 ·simp only [Bool.true_and] at hn ⊢
  go_wp2_with fail
  refine ((uh ht) w1 (bA0.trans (b1.mono bA0.size))).mono ?_
  rintro e w2 ⟨rfl, b2⟩
  have bE := b1.trans (b2.mono b1.size)
  go_wp2_with fail
  refine ((uh hct) w2 (bA0.trans (bE.mono bA0.size))).mono ?_
  rintro e w3 ⟨rfl, hw3⟩
  obtain rfl : w2 = w3 := hw3.symm
  go_wp2_with fail
  refine ((uh hn) w2 (bA0.trans (bE.mono bA0.size))).mono ?_
  rintro e wN ⟨rfl, hcN, hkN⟩
  have hk3 := (Kp.of bE).trans hkN
  have hth : wN.there w.heap.size 0 3 := dt.there_cells (hZ wN hk3) (by decide)
  have HK := Hi ((Kp.of bA0).trans hk3)
  have HC := Hi hcN
  have HT := Hi (show wN.there w.heap.size 0 V.toArray.size from by rw [show V.toArray.size = 3 from by simpa using uh hV3]; exact hth)
  have HI := Hi (show (Tryz.prog.info? 92).map (·.size) = some V.toArray.size from by rw [show V.toArray.size = 3 from by simpa using uh hV3]; exact infoNm)
  clear hk3 hkN hcN hth bE hZ bA0
  go_wp2_with (first
   | refine wpList_store_mid (by rfl) 92 _ _ (by rfl) w.heap.size 0 V.toArray (by rfl) (by rfl) (uh HT) (uh HI) (dt.one_cells (uh hV1)) ?_)
  refine bodyPost_ret (rgn.result_row_tmp rfl _ _ w.heap.size 0 V _ rfl (World.rangeAt_setCells_same _ _ _ _ (by have := uh HT; simpa using this)) Tryz.underlying92 rfl (by have := uh HI; simpa using this)) rfl ?_
  exact ⟨rfl, (uh HC).out hne hnp _ _, (uh HK).out (Nat.le_refl _) _ _⟩

def Cu.word (c : Cu) (q : ByteArray) : Cu := if c.isW [q] then c.take else c
theorem isW_more {c : Cu} {ws : List ByteArray} (h : c.Ok) (hp : c.isW ws = true) : c.ix + 1 < c.ts.length := isN_more h (by unfold Cu.isW at hp; simp at hp; exact hp.1)
theorem wordW_ok (B p : Nat) (c : Cu) (q : ByteArray) (w : World) (h : CurAt w B p c) : Calls Tryz.prog 48 #[ptr B, .string q] w fun e w' => e = .returned (.bool (c.isW [q])) ∧ CurAt w' B p (c.word q) ∧ Kp B w w' := by
 have bA := Hi (fun o => show Below w.heap.size w (w.alloc o) from ba)
 have hi := Hi (fun W (bb : Below w.heap.size w W) b (hw : Wds W b 1 1 [q]) => isWord_ok B p c b 1 1 [q] W (h.below bb) hw (by omega))
 have ht := Hi (fun W (bb : Below w.heap.size w W) => takeIf_ok B p c (c.isW [q]) W (h.below bb) (isW_more h.ok))
 have hs := Hi (show c.word q = if c.isW [q] then c.take else c from rfl)
 obtain ⟨R, hR⟩ : ∃ R, R = c.isW [q] := ⟨_, rfl⟩
 rw [← hR] at hi ht hs ⊢
 clear h hR
 unfold ptr at hi ht ⊢
 go_enter Tryz.func48, Tryz.ntmps48
 go_wp2_with fail
 refine ((uh hi) _ ((uh bA) _) w.heap.size ⟨rfl, by omega, by simp, fun i hi => ?_⟩).mono ?_
 ·obtain rfl : i = 0 := by omega
  exact (dt.cell_cells (heap_alloc_new w _) 0).trans rfl
 rintro e w1 ⟨rfl, b1⟩
 have b1' := ((uh bA) _).trans (b1.mono ((uh bA) _).size)
 clear b1
 go_wp2_with fail
 refine ((uh ht) w1 b1').mono ?_
 rintro e w2 ⟨rfl, hc, hk⟩
 clear hi ht
 go_wp2_with fail
 go_ret
 exact ⟨rfl, by rw [uh hs]; exact hc, (Kp.of b1').trans hk⟩
def bOn : ByteArray := ⟨#[111, 110]⟩
def Cu.nmB (c : Cu) (so : Bool) : ByteArray := if so then c.tok.tx else em
theorem dirsF_stp {L : Cu → Option Dt × Cu} (hL : Goes L) : ∀ (g : Nat) (l : List Dt) (c : Cu), c.Ok → Stp c (dirsF L g l c).2
 | 0, l, c, h => Stp.refl h
 | g + 1, l, c, h => by
  simp only [dirsF]
  split
  ·rename_i hp
   have h1 := (dirS_stp hL h hp).1
   cases hq : (dirS L c).1 with
   | none => exact h1
   | some d => exact h1.trans (dirsF_stp hL g _ _ h1.ok)
  ·exact Stp.refl h
theorem dirs_stp {L : Cu → Option Dt × Cu} (hL : Goes L) {c : Cu} (h : c.Ok) : Stp c (dirs L c).2 := dirsF_stp hL _ _ _ h
theorem nmC_stp {c : Cu} {so : Bool} (h : c.Ok) (hs : so = true → c.isN = true) : Stp c (c.nmC so) := by
 unfold Cu.nmC
 cases so
 ·exact stop_stp h 70
 ·exact takeN h (hs rfl)
open dt (Dt)
theorem stop_kd (c : Cu) (k : Int) (hk : k ≠ 0) : (c.stop k).kd ≠ 0 := by
 unfold Cu.stop
 split
 ·exact hk
 ·assumption
theorem stop_dead (c : Cu) (k : Int) (h : c.kd ≠ 0) : c.stop k = c := if_neg h
theorem opn_kd {c : Cu} {p : ByteArray} (h : c.opB p = false) : (c.opn p).kd ≠ 0 := by
 unfold Cu.opB at h
 unfold Cu.opn
 split
 ·rename_i hp
  rw [hp] at h
  simp only [Bool.true_and, decide_eq_false_iff_not] at h
  rw [if_neg h]
  exact stop_kd _ _ (by decide)
 ·exact stop_kd _ _ (by decide)
theorem name_kd {c : Cu} (h : c.isN = false) : c.name.kd ≠ 0 := by
 unfold Cu.name
 rw [h]
 exact stop_kd _ _ (by decide)
mutual
def fvD : Dt → Option (Int × Int)
 | .val (.int .i64 k) (.val _ (.val _ (.lst _ its (.lst _ fls (.val (.int .i64 ln) (.val (.int .i64 co) _)))))) => if k = 1 then some (ln, co) else (fvL its).or (fvG fls)
 | _ => none
def fvL : Dt → Option (Int × Int)
 | .row e r => (fvD e).or (fvL r)
 | _ => none
def fvG : Dt → Option (Int × Int)
 | .row (.val _ v) r => (fvD v).or (fvG r)
 | _ => none
end
def Kd (c : Cu) : Prop := c.kd = 0 ∨ c.kd = 70 ∨ (c.kd = 71 ∧ c.tok.k = 2)
structure Sim (m : Nat) (c c' : Cu) : Prop where
 ix : c'.ix = c.ix
 op : c'.op = c.op
 mo : c'.mo = c.mo
 kd : c'.kd = c.kd
 ts : ∀ q, q ≤ m → c'.ts[q]? = c.ts[q]?
section
variable {m : Nat}
end
theorem isP_dead {c : Cu} (h : c.kd ≠ 0) (p : ByteArray) : c.isP p = false := by unfold Cu.isP; simp [h]
theorem isN_dead {c : Cu} (h : c.kd ≠ 0) : c.isN = false := by unfold Cu.isN; simp [h]
theorem brk_dead (E : Cu → Option Dt × Cu) (l r : ByteArray) (n : Nat) {c : Cu} (h : c.kd ≠ 0) : brk E l r n c = (none, c) := by
 unfold brk Cu.opB Cu.opn
 simp [isP_dead h, stop_dead _ _ h]
theorem dirsF_still (L : Cu → Option Dt × Cu) {c : Cu} (h : c.kd ≠ 0) : ∀ (g : Nat) (l : List Dt), dirsF L g l c = (none, c)
 | 0, l => rfl
 | g + 1, l => by
  rw [dirsF, isP_dead h, if_neg (by decide), if_neg h]
theorem dirs_still (L : Cu → Option Dt × Cu) {c : Cu} (h : c.kd ≠ 0) : dirs L c = (none, c) := dirsF_still L h _ _
theorem name_dead' {c : Cu} (h : c.isN = false) : c.name.kd ≠ 0 := name_kd h
def bEq : ByteArray := ⟨#[61]⟩
def bQuery : ByteArray := ⟨#[113, 117, 101, 114, 121]⟩
def bMut : ByteArray := ⟨#[109, 117, 116, 97, 116, 105, 111, 110]⟩
def bSub : ByteArray := ⟨#[115, 117, 98, 115, 99, 114, 105, 112, 116, 105, 111, 110]⟩
abbrev LitR := Cu → Option Dt × Cu
abbrev TypR := Cu → Option (ByteArray × ByteArray) × Cu
def defsF (D : LitR) : Nat → List Dt → Cu → Option (List Dt) × Cu
 | 0, l, c => (none, c)
 | g + 1, l, c => if l.length = 0 ∨ c.tok.k ≠ 0 then (match (D c).1 with | none => (none, (D c).2) | some d => defsF D g (l ++ [d]) (D c).2) else (if c.finB then some l else none, c.fin)
theorem want_dead {c : Cu} (h : c.kd ≠ 0) (p : ByteArray) : c.want p = c := by unfold Cu.want; rw [isP_dead h]; exact stop_dead _ _ h
theorem name_still {c : Cu} (h : c.kd ≠ 0) : c.name = c := by unfold Cu.name; rw [isN_dead h]; exact stop_dead _ _ h
theorem typF_still (f : Nat) {c : Cu} (h : c.kd ≠ 0) : typF f c = (none, c) := by
 cases f with
 | zero => rfl
 | succ f =>
  show typ (unm (typF f)) c = _
  unfold typ unm
  rw [isP_dead h, isN_dead h, name_still h]
  rfl
end Go.Proofs.YtifbkdicglcogaaGreat.cu
