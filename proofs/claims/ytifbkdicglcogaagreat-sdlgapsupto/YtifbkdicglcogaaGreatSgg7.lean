import Derived.Test.YtifbkdicglcogaaGreatSgg6
set_option linter.unusedVariables false
set_option linter.unusedSimpArgs false
namespace Go.Proofs.YtifbkdicglcogaaGreat.cu
open Go.ChangeShapes Go.WideShapes Go.ChangeAt Go.RowKit
open ints (Hi uh)
open dt (Dt Kp RowAt Ow Grow)
def nmV (t:Tk) (so:Bool):List Value:=if so then [.string t.tx,.int .i64 t.ln,.int .i64 t.co] else [.string em,.int .i64 0,.int .i64 0]
def _root_.Go.Proofs.YtifbkdicglcogaaGreat.cu.Cu.nmC (c:Cu) (so:Bool):Cu:=if so then c.take else c.stop 70
theorem nmV_3 (t:Tk) (so:Bool):(nmV t so).length = 3 ∧ (nmV t so).all (·.oneCell') = true:=by unfold nmV;split <;> exact ⟨rfl,rfl⟩
theorem isW_N {c:Cu} {ws:List ByteArray} (h:c.isW ws = true):c.isN = true:=by unfold Cu.isW at h;simp only [Bool.and_eq_true] at h;exact h.1
set_option maxHeartbeats 1000000 in
set_option maxRecDepth 4000 in
theorem wantWord_ok (B p:Nat) (c:Cu) (b n cp:Nat) (ws:List ByteArray) (w:World) (h:CurAt w B p c) (hw:Wds w b n cp ws) (hwn:n ≤ 1048576) :
  Calls Tryz.prog 121 #[ptr B,.slice (some ⟨b,0,none⟩) n cp] w fun e w' => e = .returned (.tuple #[.agg (nmV c.tok (c.isW ws)).toArray,.bool (c.isW ws)]) ∧ CurAt w' B p (c.nmC (c.isW ws)) ∧ Kp B w w':=by
 have hi:=Hi (fun W (bb:Below w.heap.size w W) => isWord_ok B p c b n cp ws W (h.below bb) (hw.below bb) hwn)
 have hlt:=h.lt
 have hplt:=h.plt
 have hne:B ≠ w.heap.size:=by omega
 have hnp:p ≠ w.heap.size:=by omega
 have hV3:=Hi (nmV_3 c.tok (c.isW ws)).1
 have hV1:=Hi (nmV_3 c.tok (c.isW ws)).2
 obtain ⟨V,hV⟩:∃ V,V = nmV c.tok (c.isW ws):=⟨_,rfl⟩
 obtain ⟨C,hC⟩:∃ C,C = c.nmC (c.isW ws):=⟨_,rfl⟩
 have hn:=Hi (fun W (bb:Below w.heap.size w W) => show Calls Tryz.prog 142 #[ptr B,.bool (c.isW ws)] W fun e w' => e = .returned (.tuple #[.agg V.toArray,.bool (c.isW ws)]) ∧ CurAt w' B p C ∧ Kp B W w' from by rw [hV,hC];exact name_ok B p c (c.isW ws) W (h.below bb) (fun e => isN_more h.ok (isW_N e)))
 rw [← hV] at hV3 hV1 ⊢
 rw [← hC] at ⊢
 clear hV hC
 obtain ⟨R,hR⟩:∃ R,R = c.isW ws:=⟨_,rfl⟩
 rw [← hR] at hi hn ⊢
 clear h hw hR
 unfold ptr at hi hn ⊢
 go_enter Tryz.func121,Tryz.ntmps121
 go_wp2_with fail
 have bA0:Below w.heap.size w (w.alloc (.cells #[Value.string { data:=#[] },.int .i64 0,.int .i64 0] 92)):=ba
 have hZ:=(fun W (hk:Kp B (w.alloc (.cells #[Value.string { data:=#[] },.int .i64 0,.int .i64 0] 92)) W) => show W.heap[w.heap.size]? = some (.cells #[Value.string { data:=#[] },.int .i64 0,.int .i64 0] 92 (0,0)) from (hk.block w.heap.size (by simp) (by omega)).trans (heap_alloc_new w _))
 obtain ⟨wA,hwA⟩:∃ wA,wA = w.alloc (.cells #[Value.string { data:=#[] },.int .i64 0,.int .i64 0] 92):=⟨_,rfl⟩
 rw [← hwA] at bA0 hZ ⊢
 clear hwA
 refine ((uh hi) wA bA0).mono ?_
 rintro e w1 ⟨rfl,b1⟩
 go_wp2_with fail
 refine ((uh hn) w1 (bA0.trans (b1.mono bA0.size))).mono ?_
 rintro e wN ⟨rfl,hcN,hkN⟩
 have bE:=b1
 have hk3:=(Kp.of bE).trans hkN
 have hth:wN.there w.heap.size 0 3:=dt.there_cells (hZ wN hk3) (by decide)
 have HK:=Hi ((Kp.of bA0).trans hk3)
 have HC:=Hi hcN
 have HT:=Hi (show wN.there w.heap.size 0 V.toArray.size from by rw [show V.toArray.size = 3 from by simpa using uh hV3];exact hth)
 have HI:=Hi (show (Tryz.prog.info? 92).map (·.size) = some V.toArray.size from by rw [show V.toArray.size = 3 from by simpa using uh hV3];exact infoNm)
 clear hk3 hkN hcN hth bE hZ bA0
 go_wp2_with (first
  | refine wpList_store_mid (by rfl) 92 _ _ (by rfl) w.heap.size 0 V.toArray (by rfl) (by rfl) (uh HT) (uh HI) (dt.one_cells (uh hV1)) ?_)
 refine bodyPost_ret (rgn.result_row_tmp rfl _ _ w.heap.size 0 V _ rfl (World.rangeAt_setCells_same _ _ _ _ (by have:=uh HT;simpa using this)) Tryz.underlying92 rfl (by have:=uh HI;simpa using this)) rfl ?_
 exact ⟨rfl,(uh HC).out hne hnp _ _,(uh HK).out (Nat.le_refl _) _ _⟩
set_option maxHeartbeats 1000000 in
set_option maxRecDepth 4000 in
theorem nameBut_ok (B p:Nat) (c:Cu) (b n cp:Nat) (ws:List ByteArray) (w:World) (h:CurAt w B p c) (hw:Wds w b n cp ws) (hwn:n ≤ 1048576) :
  Calls Tryz.prog 135 #[ptr B,.slice (some ⟨b,0,none⟩) n cp] w fun e w' => e = .returned (.tuple #[.agg (nmV c.tok (c.isN && !inW ws c.tok.tx)).toArray,.bool (c.isN && !inW ws c.tok.tx)]) ∧ CurAt w' B p (c.nmC (c.isN && !inW ws c.tok.tx)) ∧ Kp B w w':=by
 have hi:=Hi (fun W (bb:Below w.heap.size w W) => isName_ok B p c W (h.below bb))
 have ht:=Hi (fun W (bb:Below w.heap.size w W) => token_ok B p c W (h.below bb))
 have hct:=Hi (fun W (bb:Below w.heap.size w W) => contains_ok b n cp ws c.tok.tx W (hw.below bb) hwn)
 have hf1:=fld_text c.tok
 have hlt:=h.lt
 have hplt:=h.plt
 have hne:B ≠ w.heap.size:=by omega
 have hnp:p ≠ w.heap.size:=by omega
 have hV3:=Hi (nmV_3 c.tok (c.isN && !inW ws c.tok.tx)).1
 have hV1:=Hi (nmV_3 c.tok (c.isN && !inW ws c.tok.tx)).2
 obtain ⟨V,hV⟩:∃ V,V = nmV c.tok (c.isN && !inW ws c.tok.tx):=⟨_,rfl⟩
 obtain ⟨C,hC⟩:∃ C,C = c.nmC (c.isN && !inW ws c.tok.tx):=⟨_,rfl⟩
 have hn:=Hi (fun W (bb:Below w.heap.size w W) => show Calls Tryz.prog 142 #[ptr B,.bool (c.isN && !inW ws c.tok.tx)] W fun e w' => e = .returned (.tuple #[.agg V.toArray,.bool (c.isN && !inW ws c.tok.tx)]) ∧ CurAt w' B p C ∧ Kp B W w' from by rw [hV,hC];exact name_ok B p c (c.isN && !inW ws c.tok.tx) W (h.below bb) (fun e => isN_more h.ok (by simp only [Bool.and_eq_true] at e;exact e.1)))
 rw [← hV] at hV3 hV1 ⊢
 rw [← hC] at ⊢
 clear hV hC
 obtain ⟨R,hR⟩:∃ R,R = c.isN:=⟨_,rfl⟩
 obtain ⟨S,hS⟩:∃ S,S = inW ws c.tok.tx:=⟨_,rfl⟩
 rw [← hR] at hi
 rw [← hS] at hct
 rw [← hR,← hS] at hn ⊢
 obtain ⟨t,et⟩:∃ t,t = c.tok:=⟨_,rfl⟩
 rw [← et] at ht hct hf1
 clear h hw hR hS et
 unfold Tk.cells at ht
 unfold ptr at hi hn ht ⊢
 go_enter Tryz.func135,Tryz.ntmps135
 go_wp2_with fail
 have bA0:Below w.heap.size w (w.alloc (.cells #[Value.string { data:=#[] },.int .i64 0,.int .i64 0] 92)):=ba
 have hZ:=(fun W (hk:Kp B (w.alloc (.cells #[Value.string { data:=#[] },.int .i64 0,.int .i64 0] 92)) W) => show W.heap[w.heap.size]? = some (.cells #[Value.string { data:=#[] },.int .i64 0,.int .i64 0] 92 (0,0)) from (hk.block w.heap.size (by simp) (by omega)).trans (heap_alloc_new w _))
 obtain ⟨wA,hwA⟩:∃ wA,wA = w.alloc (.cells #[Value.string { data:=#[] },.int .i64 0,.int .i64 0] 92):=⟨_,rfl⟩
 rw [← hwA] at bA0 hZ ⊢
 clear hwA
 refine ((uh hi) wA bA0).mono ?_
 rintro e w1 ⟨rfl,b1⟩
 cases R
 ·simp only [Bool.false_and] at hn ⊢
  go_wp2_with fail
  refine ((uh hn) w1 (bA0.trans (b1.mono bA0.size))).mono ?_
  rintro e wN ⟨rfl,hcN,hkN⟩
  have bE:=b1
  have hk3:=(Kp.of bE).trans hkN
  have hth:wN.there w.heap.size 0 3:=dt.there_cells (hZ wN hk3) (by decide)
  have HK:=Hi ((Kp.of bA0).trans hk3)
  have HC:=Hi hcN
  have HT:=Hi (show wN.there w.heap.size 0 V.toArray.size from by rw [show V.toArray.size = 3 from by simpa using uh hV3];exact hth)
  have HI:=Hi (show (Tryz.prog.info? 92).map (·.size) = some V.toArray.size from by rw [show V.toArray.size = 3 from by simpa using uh hV3];exact infoNm)
  clear hk3 hkN hcN hth bE hZ bA0
  go_wp2_with (first
   | refine wpList_store_mid (by rfl) 92 _ _ (by rfl) w.heap.size 0 V.toArray (by rfl) (by rfl) (uh HT) (uh HI) (dt.one_cells (uh hV1)) ?_)
  refine bodyPost_ret (rgn.result_row_tmp rfl _ _ w.heap.size 0 V _ rfl (World.rangeAt_setCells_same _ _ _ _ (by have:=uh HT;simpa using this)) Tryz.underlying92 rfl (by have:=uh HI;simpa using this)) rfl ?_
  exact ⟨rfl,(uh HC).out hne hnp _ _,(uh HK).out (Nat.le_refl _) _ _⟩
 ·simp only [Bool.true_and] at hn ⊢
  go_wp2_with fail
  refine ((uh ht) w1 (bA0.trans (b1.mono bA0.size))).mono ?_
  rintro e w2 ⟨rfl,b2⟩
  have bE:=b1.trans (b2.mono b1.size)
  go_wp2_with fail
  refine ((uh hct) w2 (bA0.trans (bE.mono bA0.size))).mono ?_
  rintro e w3 ⟨rfl,hw3⟩
  obtain rfl:w2 = w3:=hw3.symm
  go_wp2_with fail
  refine ((uh hn) w2 (bA0.trans (bE.mono bA0.size))).mono ?_
  rintro e wN ⟨rfl,hcN,hkN⟩
  have hk3:=(Kp.of bE).trans hkN
  have hth:wN.there w.heap.size 0 3:=dt.there_cells (hZ wN hk3) (by decide)
  have HK:=Hi ((Kp.of bA0).trans hk3)
  have HC:=Hi hcN
  have HT:=Hi (show wN.there w.heap.size 0 V.toArray.size from by rw [show V.toArray.size = 3 from by simpa using uh hV3];exact hth)
  have HI:=Hi (show (Tryz.prog.info? 92).map (·.size) = some V.toArray.size from by rw [show V.toArray.size = 3 from by simpa using uh hV3];exact infoNm)
  clear hk3 hkN hcN hth bE hZ bA0
  go_wp2_with (first
   | refine wpList_store_mid (by rfl) 92 _ _ (by rfl) w.heap.size 0 V.toArray (by rfl) (by rfl) (uh HT) (uh HI) (dt.one_cells (uh hV1)) ?_)
  refine bodyPost_ret (rgn.result_row_tmp rfl _ _ w.heap.size 0 V _ rfl (World.rangeAt_setCells_same _ _ _ _ (by have:=uh HT;simpa using this)) Tryz.underlying92 rfl (by have:=uh HI;simpa using this)) rfl ?_
  exact ⟨rfl,(uh HC).out hne hnp _ _,(uh HK).out (Nat.le_refl _) _ _⟩

def Cu.word (c:Cu) (q:ByteArray):Cu:=if c.isW [q] then c.take else c
theorem isW_more {c:Cu} {ws:List ByteArray} (h:c.Ok) (hp:c.isW ws = true):c.ix + 1 < c.ts.length:=isN_more h (by unfold Cu.isW at hp;simp at hp;exact hp.1)
theorem wordW_ok (B p:Nat) (c:Cu) (q:ByteArray) (w:World) (h:CurAt w B p c):Calls Tryz.prog 48 #[ptr B,.string q] w fun e w' => e = .returned (.bool (c.isW [q])) ∧ CurAt w' B p (c.word q) ∧ Kp B w w':=by
 have bA:=Hi (fun o => show Below w.heap.size w (w.alloc o) from ba)
 have hi:=Hi (fun W (bb:Below w.heap.size w W) b (hw:Wds W b 1 1 [q]) => isWord_ok B p c b 1 1 [q] W (h.below bb) hw (by omega))
 have ht:=Hi (fun W (bb:Below w.heap.size w W) => takeIf_ok B p c (c.isW [q]) W (h.below bb) (isW_more h.ok))
 have hs:=Hi (show c.word q = if c.isW [q] then c.take else c from rfl)
 obtain ⟨R,hR⟩:∃ R,R = c.isW [q]:=⟨_,rfl⟩
 rw [← hR] at hi ht hs ⊢
 clear h hR
 unfold ptr at hi ht ⊢
 go_enter Tryz.func48,Tryz.ntmps48
 go_wp2_with fail
 refine ((uh hi) _ ((uh bA) _) w.heap.size ⟨rfl,by omega,by simp,fun i hi => ?_⟩).mono ?_
 ·obtain rfl:i = 0:=by omega
  exact (dt.cell_cells (heap_alloc_new w _) 0).trans rfl
 rintro e w1 ⟨rfl,b1⟩
 have b1':=((uh bA) _).trans (b1.mono ((uh bA) _).size)
 clear b1
 go_wp2_with fail
 refine ((uh ht) w1 b1').mono ?_
 rintro e w2 ⟨rfl,hc,hk⟩
 clear hi ht
 go_wp2_with fail
 go_ret
 exact ⟨rfl,by rw [uh hs];exact hc,(Kp.of b1').trans hk⟩
def bOn:ByteArray:=⟨#[111,110]⟩
def Cu.nmB (c:Cu) (so:Bool):ByteArray:=if so then c.tok.tx else em
theorem dirsF_stp {L:Cu → Option Dt × Cu} (hL:Goes L):∀ (g:Nat) (l:List Dt) (c:Cu),c.Ok → Stp c (dirsF L g l c).2
 | 0,l,c,h => Stp.refl h
 | g + 1,l,c,h => by
  simp only [dirsF]
  split
  ·rename_i hp
   have h1:=(dirS_stp hL h hp).1
   cases hq:(dirS L c).1 with
   | none => exact h1
   | some d => exact h1.trans (dirsF_stp hL g _ _ h1.ok)
  ·exact Stp.refl h
theorem dirs_stp {L:Cu → Option Dt × Cu} (hL:Goes L) {c:Cu} (h:c.Ok):Stp c (dirs L c).2:=dirsF_stp hL _ _ _ h
theorem nmC_stp {c:Cu} {so:Bool} (h:c.Ok) (hs:so = true → c.isN = true):Stp c (c.nmC so):=by
 unfold Cu.nmC
 cases so
 ·exact stop_stp h 70
 ·exact takeN h (hs rfl)
open dt (Dt)
theorem stop_kd (c:Cu) (k:Int) (hk:k ≠ 0):(c.stop k).kd ≠ 0:=by
 unfold Cu.stop
 split
 ·exact hk
 ·assumption
theorem stop_dead (c:Cu) (k:Int) (h:c.kd ≠ 0):c.stop k = c:=if_neg h
def Faults {A:Type} (E:Cu → Option A × Cu) (b:Nat):Prop:=∀ c,c.Ok → c.ts.length ≤ b + c.ix → (E c).1 = none → (E c).2.kd ≠ 0
theorem brkF_faults {E:Cu → Option Dt × Cu} (hG:Goes E) (b:Nat) (hE:Faults E b) (right:ByteArray) (least:Nat):∀ (g:Nat) (l:List Dt) (c:Cu),c.Ok → c.ts.length ≤ b + c.ix → c.ts.length ≤ g + c.ix → (brkF E right least g l c).1 = none → (brkF E right least g l c).2.kd ≠ 0
 | 0,l,c,h,hb,hg,hn => by have:=h.lt;omega
 | g + 1,l,c,h,hb,hg,hn => by
  simp only [brkF] at hn ⊢
  split
  ·rename_i hc
   rw [if_pos hc] at hn
   cases hq:(E c).1 with
   | none => exact hE c h hb hq
   | some d =>
    rw [hq] at hn
    have h1:=hG c h
    have h2:=h1.2 (by rw [hq];rfl)
    exact brkF_faults hG b hE right least g _ _ h1.1.ok (by rw [h1.1.ts];omega) (by rw [h1.1.ts];omega) hn
  ·rename_i hc
   rw [if_neg hc] at hn
   cases hn
theorem opn_kd {c:Cu} {p:ByteArray} (h:c.opB p = false):(c.opn p).kd ≠ 0:=by
 unfold Cu.opB at h
 unfold Cu.opn
 split
 ·rename_i hp
  rw [hp] at h
  simp only [Bool.true_and,decide_eq_false_iff_not] at h
  rw [if_neg h]
  exact stop_kd _ _ (by decide)
 ·exact stop_kd _ _ (by decide)
theorem brk_faults {E:Cu → Option Dt × Cu} (hG:Goes E) (b:Nat) (hE:Faults E b) (left right:ByteArray) (least:Nat) (c:Cu) (h:c.Ok) (hb:c.ts.length ≤ b + 1 + c.ix) (hn:(brk E left right least c).1 = none):(brk E left right least c).2.kd ≠ 0:=by
 unfold brk at hn ⊢
 have ho:=opn_stp h left
 split
 ·rename_i hB
  rw [if_pos hB] at hn
  have hx:=opn_ix hB
  exact brkF_faults hG b hE right least c.ts.length [] _ ho.ok (by rw [ho.ts,hx];omega) (by rw [ho.ts];omega) hn
 ·rename_i hB
  exact opn_kd (by simpa using hB)
theorem argS_faults {L:Cu → Option Dt × Cu} (b:Nat) (hL:Faults L b):Faults (argS L) b:=by
 intro c h hb hn
 have h1:=name_stp h
 have h2:=want_stp h1.ok bCol
 have h3:=h1.trans h2
 unfold argS at hn ⊢
 cases hq:(L (c.name.want bCol)).1 with
 | none => exact hL _ h3.ok (by rw [h3.ts];have:=h3.ix;omega) hq
 | some v => rw [hq] at hn;cases hn
theorem name_kd {c:Cu} (h:c.isN = false):c.name.kd ≠ 0:=by
 unfold Cu.name
 rw [h]
 exact stop_kd _ _ (by decide)
theorem litF_faults (ct:Bool):∀ f,Faults (litF ct f) f
 | 0 => fun c h hb => by have:=h.lt;omega
 | f + 1 => by
  intro c h hb hn
  have ih:=litF_faults ct f
  change (litS (litF ct f) ct c).1 = none at hn
  show (litS (litF ct f) ct c).2.kd ≠ 0
  unfold litS at hn ⊢
  split
  ·assumption
  rename_i h0
  rw [if_neg h0] at hn
  split
  ·rename_i h1;rw [if_pos h1] at hn;cases hn
  rename_i h1;rw [if_neg h1] at hn
  split
  ·rename_i h2;rw [if_pos h2] at hn;cases hn
  rename_i h2;rw [if_neg h2] at hn
  split
  ·rename_i h3;rw [if_pos h3] at hn;cases hn
  rename_i h3;rw [if_neg h3] at hn
  split
  ·rename_i h4;rw [if_pos h4] at hn;cases hn
  rename_i h4;rw [if_neg h4] at hn
  split
  ·rename_i h5
   rw [if_pos h5] at hn
   unfold varS at hn ⊢
   split
   ·rename_i h6;rw [if_pos h6] at hn;cases hn
   ·rename_i h6
    exact name_kd (by simpa using h6)
  rename_i h5;rw [if_neg h5] at hn
  split
  ·rename_i h6
   rw [if_pos h6] at hn
   unfold listS at hn ⊢
   cases hq:(brk (litF ct f) bLb bRb 0 c).1 with
   | none => exact brk_faults (litF_goes ct f) f ih bLb bRb 0 c h (by omega) hq
   | some l => rw [hq] at hn;cases hn
  rename_i h6;rw [if_neg h6] at hn
  split
  ·rename_i h7
   rw [if_pos h7] at hn
   unfold objS at hn ⊢
   cases hq:(brk (argS (litF ct f)) bLc bRc 0 c).1 with
   | none => exact brk_faults (argS_goes (litF_goes ct f)) f (argS_faults f ih) bLc bRc 0 c h (by omega) hq
   | some l => rw [hq] at hn;cases hn
  ·exact stop_kd _ _ (by decide)
mutual
def fvD:Dt → Option (Int × Int)
 | .val (.int .i64 k) (.val _ (.val _ (.lst _ its (.lst _ fls (.val (.int .i64 ln) (.val (.int .i64 co) _)))))) => if k = 1 then some (ln,co) else (fvL its).or (fvG fls)
 | _ => none
def fvL:Dt → Option (Int × Int)
 | .row e r => (fvD e).or (fvL r)
 | _ => none
def fvG:Dt → Option (Int × Int)
 | .row (.val _ v) r => (fvD v).or (fvG r)
 | _ => none
end
def Kd (c:Cu):Prop:=c.kd = 0 ∨ c.kd = 70 ∨ (c.kd = 71 ∧ c.tok.k = 2)
structure Sim (m:Nat) (c c':Cu):Prop where
 ix:c'.ix = c.ix
 op:c'.op = c.op
 mo:c'.mo = c.mo
 kd:c'.kd = c.kd
 ts:∀ q,q ≤ m → c'.ts[q]? = c.ts[q]?
section
variable {m:Nat}
end
theorem isP_dead {c:Cu} (h:c.kd ≠ 0) (p:ByteArray):c.isP p = false:=by unfold Cu.isP;simp [h]
theorem isN_dead {c:Cu} (h:c.kd ≠ 0):c.isN = false:=by unfold Cu.isN;simp [h]
theorem brk_dead (E:Cu → Option Dt × Cu) (l r:ByteArray) (n:Nat) {c:Cu} (h:c.kd ≠ 0):brk E l r n c = (none,c):=by
 unfold brk Cu.opB Cu.opn
 simp [isP_dead h,stop_dead _ _ h]
theorem dirsF_still (L:Cu → Option Dt × Cu) {c:Cu} (h:c.kd ≠ 0):∀ (g:Nat) (l:List Dt),dirsF L g l c = (none,c)
 | 0,l => rfl
 | g + 1,l => by
  rw [dirsF,isP_dead h,if_neg (by decide),if_neg h]
theorem dirs_still (L:Cu → Option Dt × Cu) {c:Cu} (h:c.kd ≠ 0):dirs L c = (none,c):=dirsF_still L h _ _
theorem argsS_faults {L:Cu → Option Dt × Cu} (hG:Goes L) {b:Nat} (hL:Faults L b):Faults (argsS L) b:=by
 intro c hc hl hn
 unfold argsS at hn ⊢
 split at hn
 ·rename_i hp
  rw [if_pos hp]
  exact brk_faults (argS_goes hG) b (argS_faults b hL) bLp bRp 1 c hc (by omega) hn
 ·rename_i hp
  rw [if_neg hp]
  intro hk
  rw [if_pos hk] at hn
  cases hn
theorem dirS_faults {L:Cu → Option Dt × Cu} (hG:Goes L) {b:Nat} (hL:Faults L b) {c:Cu} (hc:c.Ok) (hp:c.isP bAt = true) (hl:c.ts.length ≤ b + c.ix) (hn:(dirS L c).1 = none):(dirS L c).2.kd ≠ 0:=by
 have h1:=takeP hc hp
 have h2:=h1.trans (name_stp h1.ok)
 have h3:=argsS_faults hG hL c.take.name h2.ok (by rw [h2.ts];have:=h2.ix;omega)
 unfold dirS at hn ⊢
 cases hq:(argsS L c.take.name).1 with
 | none => exact h3 hq
 | some l => rw [hq] at hn;cases hn
theorem name_dead' {c:Cu} (h:c.isN = false):c.name.kd ≠ 0:=name_kd h
def bEq:ByteArray:=⟨#[61]⟩
def bQuery:ByteArray:=⟨#[113,117,101,114,121]⟩
def bMut:ByteArray:=⟨#[109,117,116,97,116,105,111,110]⟩
def bSub:ByteArray:=⟨#[115,117,98,115,99,114,105,112,116,105,111,110]⟩
abbrev LitR:=Cu → Option Dt × Cu
abbrev TypR:=Cu → Option (ByteArray × ByteArray) × Cu
def defsF (D:LitR):Nat → List Dt → Cu → Option (List Dt) × Cu
 | 0,l,c => (none,c)
 | g + 1,l,c => if l.length = 0 ∨ c.tok.k ≠ 0 then (match (D c).1 with | none => (none,(D c).2) | some d => defsF D g (l ++ [d]) (D c).2) else (if c.finB then some l else none,c.fin)
theorem want_dead {c:Cu} (h:c.kd ≠ 0) (p:ByteArray):c.want p = c:=by unfold Cu.want;rw [isP_dead h];exact stop_dead _ _ h
theorem name_still {c:Cu} (h:c.kd ≠ 0):c.name = c:=by unfold Cu.name;rw [isN_dead h];exact stop_dead _ _ h
theorem typF_still (f:Nat) {c:Cu} (h:c.kd ≠ 0):typF f c = (none,c):=by
 cases f with
 | zero => rfl
 | succ f =>
  show typ (unm (typF f)) c = _
  unfold typ unm
  rw [isP_dead h,isN_dead h,name_still h]
  rfl
theorem defsF_stp {D:LitR} (hD:Goes D):∀ (g:Nat) (l:List Dt) (c:Cu),c.Ok → Stp c (defsF D g l c).2
 | 0,l,c,h => Stp.refl h
 | g + 1,l,c,h => by
  simp only [defsF]
  split
  ·cases hq:(D c).1 with
   | none => exact (hD c h).1
   | some d => exact (hD c h).1.trans (defsF_stp hD g _ _ (hD c h).1.ok)
  ·exact fin_stp h
def bnd {A X:Type} (E:Cu → A × Cu) (F:A → Cu → X × Cu):Cu → X × Cu:=fun c => F (E c).1 (E c).2
def ret {A:Type} (a:A):Cu → A × Cu:=fun c => (a,c)
def tokR:Cu → Tk × Cu:=fun c => (c.tok,c)
def isPR (p:ByteArray):Cu → Bool × Cu:=fun c => (c.isP p,c)
def aliveR:Cu → Bool × Cu:=fun c => (decide (c.kd = 0),c)
def nR:Cu → (Bool × ByteArray) × Cu:=fun c => ((c.isN,c.tok.tx),c.name)
def wantR (p:ByteArray):Cu → Unit × Cu:=fun c => ((),c.want p)
def punctR (p:ByteArray):Cu → Bool × Cu:=fun c => (c.isP p,c.punct p)
def wordR (q:ByteArray):Cu → Bool × Cu:=fun c => (c.isW [q],c.word q)
def butR (ws:List ByteArray):Cu → ByteArray × Cu:=fun c => (c.nmB (c.isN && !inW ws c.tok.tx),c.nmC (c.isN && !inW ws c.tok.tx))
def wwR (ws:List ByteArray):Cu → Bool × Cu:=fun c => (c.isW ws,c.nmC (c.isW ws))
def opnR (p:ByteArray):Cu → Bool × Cu:=fun c => (c.opB p,c.opn p)
def clsR (p:ByteArray):Cu → Bool × Cu:=fun c => (c.isP p,c.cls p)
def stopR {A:Type} (a:A):Cu → A × Cu:=fun c => (a,c.stop 70)
def St {A:Type} (E:Cu → A × Cu):Prop:=∀ c,c.Ok → Stp c (E c).2
theorem St.bnd {A X:Type} {E:Cu → A × Cu} {F:A → Cu → X × Cu} (h:St E) (k:∀ a,St (F a)):St (bnd E F):=fun c hc => (h c hc).trans (k _ _ (h c hc).ok)
theorem Goes.st {A:Type} {E:Cu → Option A × Cu} (h:Goes E):St E:=fun c hc => (h c hc).1
theorem ret_st {A:Type} (a:A):St (ret a):=fun c h => Stp.refl h
theorem tokR_st:St tokR:=fun c h => Stp.refl h
theorem isPR_st (p:ByteArray):St (isPR p):=fun c h => Stp.refl h
theorem aliveR_st:St aliveR:=fun c h => Stp.refl h
theorem nR_st:St nR:=fun c h => name_stp h
theorem wantR_st (p:ByteArray):St (wantR p):=fun c h => want_stp h p
theorem punctR_st (p:ByteArray):St (punctR p):=fun c h => punct_stp h p
theorem wordR_st (q:ByteArray):St (wordR q):=fun c h => by
 show Stp c (c.word q)
 unfold Cu.word
 split
 ·exact takeN h (isW_N ‹_›)
 ·exact Stp.refl h
theorem butR_st (ws:List ByteArray):St (butR ws):=fun c h => nmC_stp h (fun e => by simp at e;exact e.1)
theorem wwR_st (ws:List ByteArray):St (wwR ws):=fun c h => nmC_stp h (fun e => isW_N e)
theorem opnR_st (p:ByteArray):St (opnR p):=fun c h => opn_stp h p
theorem clsR_st (p:ByteArray):St (clsR p):=fun c h => cls_stp h p
theorem stopR_st {A:Type} (a:A):St (stopR a):=fun c h => stop_stp h 70
theorem ite_st {A:Type} {b:Bool} {E F:Cu → A × Cu} (h:St E) (k:St F):St (cond b E F):=by cases b;exact k;exact h
def KdP {A:Type} (E:Cu → A × Cu):Prop:=∀ c,Kd c → Kd (E c).2
def NearA {A:Type} (m:Nat) (E E':Cu → A × Cu) (b b':Nat):Prop:=∀ c c',c.Ok → c'.Ok → Sim m c c' → c.ts.length ≤ b + c.ix → c'.ts.length ≤ b' + c'.ix → (E c).2.ix ≤ m → (E' c').1 = (E c).1 ∧ Sim m (E c).2 (E' c').2
section
variable {m b b':Nat}
end
end Go.Proofs.YtifbkdicglcogaaGreat.cu
