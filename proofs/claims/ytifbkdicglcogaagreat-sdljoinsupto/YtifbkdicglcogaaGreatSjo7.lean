import Derived.Test.YtifbkdicglcogaaGreatSjo6
set_option linter.unusedVariables false
set_option linter.unusedSimpArgs false
namespace Go.Proofs.YtifbkdicglcogaaGreat.cu
open Go.ChangeShapes Go.WideShapes Go.ChangeAt Go.RowKit
open ints (Hi uh)
open dt (Dt Kp RowAt Ow Grow)
def nmV (t:Tk) (so:Bool):List Value:=if so then [.string t.tx,.int .i64 t.ln,.int .i64 t.co] else [.string em,.int .i64 0,.int .i64 0]
def _root_.Go.Proofs.YtifbkdicglcogaaGreat.cu.Cu.nmC (c:Cu) (so:Bool):Cu:=if so then c.take else c.stop 70
theorem zlN (t:Tk) (so:Bool):(nmV t so).length=3∧(nmV t so).all (·.oneCell')=true:=by unfold nmV;split <;> exact⟨rfl,rfl⟩
theorem zeq {c:Cu} {ws:List ByteArray} (h:c.isW ws=true):c.isN=true:=by unfold Cu.isW at h;simp only[Bool.and_eq_true] at h;exact h.1
set_option maxHeartbeats 1000000 in
set_option maxRecDepth 4000 in
theorem zhr (B p:Nat) (c:Cu) (b n cp:Nat) (ws:List ByteArray) (w:World) (h:CurAt w B p c) (hw:Wds w b n cp ws) (hwn:n≤1048576) :
  Calls Tryz.prog 121 #[ptr B,.slice (some ⟨b,0,none⟩) n cp] w fun e w'=>e = .returned (.tuple #[.agg (nmV c.tok (c.isW ws)).toArray,.bool (c.isW ws)])∧CurAt w' B p (c.nmC (c.isW ws))∧Kp B w w':=by
 have hi:=Hi (fun W (bb:Below w.heap.size w W)=>zgo B p c b n cp ws W (h.below bb) (hw.below bb) hwn)
 have hlt:=h.lt;have hplt:=h.plt;have hne:B ≠ w.heap.size:=by omega
 have hnp:p ≠ w.heap.size:=by omega
 have hV3:=Hi (zlN c.tok (c.isW ws)).1;have hV1:=Hi (zlN c.tok (c.isW ws)).2;obtain⟨V,hV⟩:∃ V,V=nmV c.tok (c.isW ws):=⟨_,rfl⟩;obtain⟨C,hC⟩:∃ C,C=c.nmC (c.isW ws):=⟨_,rfl⟩;have hn:=Hi (fun W (bb:Below w.heap.size w W)=>show Calls Tryz.prog 142 #[ptr B,.bool (c.isW ws)] W fun e w'=>e = .returned (.tuple #[.agg V.toArray,.bool (c.isW ws)])∧CurAt w' B p C∧Kp B W w' from by rw[hV,hC];exact zg9 B p c (c.isW ws) W (h.below bb) (fun e=>zdd h.ok (zeq e)))
 rw[← hV] at hV3 hV1 ⊢;rw[← hC] at ⊢;clear hV hC;obtain⟨R,hR⟩:∃ R,R=c.isW ws:=⟨_,rfl⟩;rw[← hR] at hi hn ⊢;clear h hw hR;unfold ptr at hi hn ⊢
 go_enter Tryz.func121,Tryz.ntmps121
 go_wp2_with fail
 have bA0:Below w.heap.size w (w.alloc (.cells #[Value.string { data:=#[] },.int .i64 0,.int .i64 0] 92)):=ba;have hZ:=(fun W (hk:Kp B (w.alloc (.cells #[Value.string { data:=#[] },.int .i64 0,.int .i64 0] 92)) W)=>show W.heap[w.heap.size]? = some (.cells #[Value.string { data:=#[] },.int .i64 0,.int .i64 0] 92 (0,0)) from (hk.block w.heap.size (by simp) (by omega)).trans (heap_alloc_new w _))
 obtain⟨wA,hwA⟩:∃ wA,wA=w.alloc (.cells #[Value.string { data:=#[] },.int .i64 0,.int .i64 0] 92):=⟨_,rfl⟩;rw[← hwA] at bA0 hZ ⊢;clear hwA;refine ((uh hi) wA bA0).mono ?_
 rintro e w1 ⟨rfl,b1⟩
 go_wp2_with fail
 refine ((uh hn) w1 (bA0.trans (b1.mono bA0.size))).mono ?_
 rintro e wN ⟨rfl,hcN,hkN⟩;have bE:=b1;have hk3:=(Kp.of bE).trans hkN;have hth:wN.there w.heap.size 0 3:=dt.zab (hZ wN hk3) (by decide)
 have HK:=Hi ((Kp.of bA0).trans hk3);have HC:=Hi hcN;have HT:=Hi (show wN.there w.heap.size 0 V.toArray.size from by rw[show V.toArray.size=3 from by simpa using uh hV3];exact hth)
 have HI:=Hi (show (Tryz.prog.info? 92).map (·.size)=some V.toArray.size from by rw[show V.toArray.size=3 from by simpa using uh hV3];exact infoNm)
 clear hk3 hkN hcN hth bE hZ bA0
 go_wp2_with (first
  | refine wpList_store_mid (by rfl) 92 _ _ (by rfl) w.heap.size 0 V.toArray (by rfl) (by rfl) (uh HT) (uh HI) (dt.zae (uh hV1)) ?_)
 refine bodyPost_ret (rgn.zad rfl _ _ w.heap.size 0 V _ rfl (World.rangeAt_setCells_same _ _ _ _ (by have:=uh HT;simpa using this)) Tryz.underlying92 rfl (by have:=uh HI;simpa using this)) rfl ?_
 exact⟨rfl,(uh HC).out hne hnp _ _,(uh HK).out (lr _) _ _⟩
set_option maxHeartbeats 1000000 in
set_option maxRecDepth 4000 in
theorem ziQ (B p:Nat) (c:Cu) (b n cp:Nat) (ws:List ByteArray) (w:World) (h:CurAt w B p c) (hw:Wds w b n cp ws) (hwn:n≤1048576) :
  Calls Tryz.prog 135 #[ptr B,.slice (some ⟨b,0,none⟩) n cp] w fun e w'=>e = .returned (.tuple #[.agg (nmV c.tok (c.isN && !inW ws c.tok.tx)).toArray,.bool (c.isN && !inW ws c.tok.tx)])∧CurAt w' B p (c.nmC (c.isN && !inW ws c.tok.tx))∧Kp B w w':=by
 have hi:=Hi (fun W (bb:Below w.heap.size w W)=>zem B p c W (h.below bb))
 have ht:=Hi (fun W (bb:Below w.heap.size w W)=>zaZ B p c W (h.below bb))
 have hct:=Hi (fun W (bb:Below w.heap.size w W)=>zb1 b n cp ws c.tok.tx W (hw.below bb) hwn)
 have hf1:=zdX c.tok;have hlt:=h.lt;have hplt:=h.plt;have hne:B ≠ w.heap.size:=by omega
 have hnp:p ≠ w.heap.size:=by omega
 have hV3:=Hi (zlN c.tok (c.isN && !inW ws c.tok.tx)).1;have hV1:=Hi (zlN c.tok (c.isN && !inW ws c.tok.tx)).2;obtain⟨V,hV⟩:∃ V,V=nmV c.tok (c.isN && !inW ws c.tok.tx):=⟨_,rfl⟩;obtain⟨C,hC⟩:∃ C,C=c.nmC (c.isN && !inW ws c.tok.tx):=⟨_,rfl⟩;have hn:=Hi (fun W (bb:Below w.heap.size w W)=>show Calls Tryz.prog 142 #[ptr B,.bool (c.isN && !inW ws c.tok.tx)] W fun e w'=>e = .returned (.tuple #[.agg V.toArray,.bool (c.isN && !inW ws c.tok.tx)])∧CurAt w' B p C∧Kp B W w' from by rw[hV,hC];exact zg9 B p c (c.isN && !inW ws c.tok.tx) W (h.below bb) (fun e=>zdd h.ok (by simp only[Bool.and_eq_true] at e;exact e.1)))
 rw[← hV] at hV3 hV1 ⊢;rw[← hC] at ⊢;clear hV hC;obtain⟨R,hR⟩:∃ R,R=c.isN:=⟨_,rfl⟩;obtain⟨S,hS⟩:∃ S,S=inW ws c.tok.tx:=⟨_,rfl⟩;rw[← hR] at hi;rw[← hS] at hct;rw[← hR,← hS] at hn ⊢;obtain⟨t,et⟩:∃ t,t=c.tok:=⟨_,rfl⟩;rw[← et] at ht hct hf1;clear h hw hR hS et;unfold Tk.cells at ht;unfold ptr at hi hn ht ⊢
 go_enter Tryz.func135,Tryz.ntmps135
 go_wp2_with fail
 have bA0:Below w.heap.size w (w.alloc (.cells #[Value.string { data:=#[] },.int .i64 0,.int .i64 0] 92)):=ba;have hZ:=(fun W (hk:Kp B (w.alloc (.cells #[Value.string { data:=#[] },.int .i64 0,.int .i64 0] 92)) W)=>show W.heap[w.heap.size]? = some (.cells #[Value.string { data:=#[] },.int .i64 0,.int .i64 0] 92 (0,0)) from (hk.block w.heap.size (by simp) (by omega)).trans (heap_alloc_new w _))
 obtain⟨wA,hwA⟩:∃ wA,wA=w.alloc (.cells #[Value.string { data:=#[] },.int .i64 0,.int .i64 0] 92):=⟨_,rfl⟩;rw[← hwA] at bA0 hZ ⊢;clear hwA;refine ((uh hi) wA bA0).mono ?_
 rintro e w1 ⟨rfl,b1⟩
 cases R
 ·simp only[Bool.false_and] at hn ⊢
  go_wp2_with fail
  refine ((uh hn) w1 (bA0.trans (b1.mono bA0.size))).mono ?_
  rintro e wN ⟨rfl,hcN,hkN⟩;have bE:=b1;have hk3:=(Kp.of bE).trans hkN;have hth:wN.there w.heap.size 0 3:=dt.zab (hZ wN hk3) (by decide)
  have HK:=Hi ((Kp.of bA0).trans hk3);have HC:=Hi hcN;have HT:=Hi (show wN.there w.heap.size 0 V.toArray.size from by rw[show V.toArray.size=3 from by simpa using uh hV3];exact hth)
  have HI:=Hi (show (Tryz.prog.info? 92).map (·.size)=some V.toArray.size from by rw[show V.toArray.size=3 from by simpa using uh hV3];exact infoNm)
  clear hk3 hkN hcN hth bE hZ bA0
  go_wp2_with (first
   | refine wpList_store_mid (by rfl) 92 _ _ (by rfl) w.heap.size 0 V.toArray (by rfl) (by rfl) (uh HT) (uh HI) (dt.zae (uh hV1)) ?_)
  refine bodyPost_ret (rgn.zad rfl _ _ w.heap.size 0 V _ rfl (World.rangeAt_setCells_same _ _ _ _ (by have:=uh HT;simpa using this)) Tryz.underlying92 rfl (by have:=uh HI;simpa using this)) rfl ?_
  exact⟨rfl,(uh HC).out hne hnp _ _,(uh HK).out (lr _) _ _⟩
 ·simp only[Bool.true_and] at hn ⊢
  go_wp2_with fail
  refine ((uh ht) w1 (bA0.trans (b1.mono bA0.size))).mono ?_
  rintro e w2 ⟨rfl,b2⟩;have bE:=b1.trans (b2.mono b1.size)
  go_wp2_with fail
  refine ((uh hct) w2 (bA0.trans (bE.mono bA0.size))).mono ?_
  rintro e w3 ⟨rfl,hw3⟩;obtain rfl:w2=w3:=hw3.symm
  go_wp2_with fail
  refine ((uh hn) w2 (bA0.trans (bE.mono bA0.size))).mono ?_
  rintro e wN ⟨rfl,hcN,hkN⟩;have hk3:=(Kp.of bE).trans hkN;have hth:wN.there w.heap.size 0 3:=dt.zab (hZ wN hk3) (by decide)
  have HK:=Hi ((Kp.of bA0).trans hk3);have HC:=Hi hcN;have HT:=Hi (show wN.there w.heap.size 0 V.toArray.size from by rw[show V.toArray.size=3 from by simpa using uh hV3];exact hth)
  have HI:=Hi (show (Tryz.prog.info? 92).map (·.size)=some V.toArray.size from by rw[show V.toArray.size=3 from by simpa using uh hV3];exact infoNm)
  clear hk3 hkN hcN hth bE hZ bA0
  go_wp2_with (first
   | refine wpList_store_mid (by rfl) 92 _ _ (by rfl) w.heap.size 0 V.toArray (by rfl) (by rfl) (uh HT) (uh HI) (dt.zae (uh hV1)) ?_)
  refine bodyPost_ret (rgn.zad rfl _ _ w.heap.size 0 V _ rfl (World.rangeAt_setCells_same _ _ _ _ (by have:=uh HT;simpa using this)) Tryz.underlying92 rfl (by have:=uh HI;simpa using this)) rfl ?_
  exact⟨rfl,(uh HC).out hne hnp _ _,(uh HK).out (lr _) _ _⟩

def Cu.word (c:Cu) (q:ByteArray):Cu:=if c.isW [q] then c.take else c
theorem zlB {c:Cu} {ws:List ByteArray} (h:c.Ok) (hp:c.isW ws=true):c.ix+1<c.ts.length:=zdd h (by unfold Cu.isW at hp;simp at hp;exact hp.1)
theorem zl9 (B p:Nat) (c:Cu) (q:ByteArray) (w:World) (h:CurAt w B p c):Calls Tryz.prog 48 #[ptr B,.string q] w fun e w'=>e = .returned (.bool (c.isW [q]))∧CurAt w' B p (c.word q)∧Kp B w w':=by
 have bA:=Hi (fun o=>show Below w.heap.size w (w.alloc o) from ba)
 have hi:=Hi (fun W (bb:Below w.heap.size w W) b (hw:Wds W b 1 1 [q])=>zgo B p c b 1 1 [q] W (h.below bb) hw (by omega))
 have ht:=Hi (fun W (bb:Below w.heap.size w W)=>zdk B p c (c.isW [q]) W (h.below bb) (zlB h.ok))
 have hs:=Hi (show c.word q=if c.isW [q] then c.take else c from rfl)
 obtain⟨R,hR⟩:∃ R,R=c.isW [q]:=⟨_,rfl⟩;rw[← hR] at hi ht hs ⊢;clear h hR;unfold ptr at hi ht ⊢
 go_enter Tryz.func48,Tryz.ntmps48
 go_wp2_with fail
 refine ((uh hi) _ ((uh bA) _) w.heap.size ⟨rfl,by omega,by simp,fun i hi=>?_⟩).mono ?_
 ·obtain rfl:i=0:=by omega
  exact (zG (heap_alloc_new w _) 0).trans rfl
 rintro e w1 ⟨rfl,b1⟩;have b1':=((uh bA) _).trans (b1.mono ((uh bA) _).size);clear b1
 go_wp2_with fail
 refine ((uh ht) w1 b1').mono ?_
 rintro e w2 ⟨rfl,hc,hk⟩;clear hi ht
 go_wp2_with fail
 go_ret
 exact⟨rfl,by rw[uh hs];exact hc,(Kp.of b1').trans hk⟩
def bOn:ByteArray:=⟨#[111,110]⟩
def bDots:ByteArray:=⟨#[46,46,46]⟩
def selD (k:Int) (al nm on:ByteArray) (ars ds ss:List Dt) (ln co:Int):Dt:=.val (.int .i64 k) (.val (.string al) (.val (.string nm) (.val (.string on) (.lst 10 (Dt.of ars) (.lst 4 (Dt.of ds) (.lst 9 (Dt.of ss) (.val (.int .i64 ln) (.val (.int .i64 co) .nil))))))))
def Cu.nmS (c:Cu):ByteArray:=if c.isN then c.tok.tx else em
def Cu.nmB (c:Cu) (so:Bool):ByteArray:=if so then c.tok.tx else em
def spreadS (L:Cu→Option Dt × Cu) (t:Tk) (c:Cu):Option Dt × Cu:=
 match (dirs L (c.nmC (c.isN && !inW [bOn] c.tok.tx))).1 with
 | none=>(none,(dirs L (c.nmC (c.isN && !inW [bOn] c.tok.tx))).2)
 | some l=>(some (selD 2 em (c.nmB (c.isN && !inW [bOn] c.tok.tx)) em [] l [] t.ln t.co),(dirs L (c.nmC (c.isN && !inW [bOn] c.tok.tx))).2)
def onC (c:Cu):Cu:=if c.isW [bOn] then c.take.name else c
def onT (c:Cu):ByteArray:=if c.isW [bOn] then c.take.nmS else em
def inlineS (L:Cu→Option Dt × Cu) (S:Cu→Option (List Dt) × Cu) (t:Tk) (c:Cu):Option Dt × Cu:=
 match (S (dirs L (onC c)).2).1 with
 | none=>(none,(S (dirs L (onC c)).2).2)
 | some ss=>(some (selD 3 em em (onT c) [] ((dirs L (onC c)).1.getD []) ss t.ln t.co),(S (dirs L (onC c)).2).2)
def fldC (c:Cu):Cu:=if c.name.isP bCol then c.name.take.name else c.name
def fldN (c:Cu):ByteArray:=if c.name.isP bCol then c.name.take.nmS else c.nmS
def fldA (c:Cu):ByteArray:=if c.name.isP bCol then c.nmS else em
def fieldS (L:Cu→Option Dt × Cu) (S:Cu→Option (List Dt) × Cu) (t:Tk) (c:Cu):Option Dt × Cu:=
 let a:=argsS L (fldC c)
 let d:=dirs L a.2
 if d.2.isP bLc then (match (S d.2).1 with
  | none=>(none,(S d.2).2)
  | some ss=>(some (selD 1 (fldA c) (fldN c) em (a.1.getD []) (d.1.getD []) ss t.ln t.co),(S d.2).2))
 else (match d.1 with
  | none=>(none,d.2)
  | some ds=>(some (selD 1 (fldA c) (fldN c) em (a.1.getD []) ds [] t.ln t.co),d.2))
def selS (L:Cu→Option Dt × Cu) (S:Cu→Option (List Dt) × Cu) (c:Cu):Option Dt × Cu:=
 if c.isP bDots then (if c.take.isN && !inW [bOn] c.take.tok.tx then spreadS L c.tok c.take else inlineS L S c.tok c.take) else fieldS L S c.tok c
def selsF (L:Cu→Option Dt × Cu):Nat→Cu→Option (List Dt) × Cu
 | 0,c=>(none,c)
 | g+1,c=>brk (selS L (selsF L g)) bLc bRc 1 c
theorem zby {L:Cu→Option Dt × Cu} (hL:Goes L):∀ (g:Nat) (l:List Dt) (c:Cu),c.Ok→Stp c (dirsF L g l c).2
 | 0,l,c,h=>Stp.refl h
 | g+1,l,c,h=>by
  simp only[dirsF]
  split
  ·rename_i hp
   have h1:=(zbd hL h hp).1
   cases hq:(dirS L c).1 with
   | none=>exact h1
   | some d=>exact h1.trans (zby hL g _ _ h1.ok)
  ·exact Stp.refl h
theorem zhM {L:Cu→Option Dt × Cu} (hL:Goes L) {c:Cu} (h:c.Ok):Stp c (dirs L c).2:=zby hL _ _ _ h
theorem zkc {c:Cu} {so:Bool} (h:c.Ok) (hs:so=true→c.isN=true):Stp c (c.nmC so):=by
 unfold Cu.nmC
 cases so
 ·exact zbf h 70
 ·exact takeN h (hs rfl)
open dt (Dt)
theorem zbq (c:Cu) (k:Int) (hk:k ≠ 0):(c.stop k).kd ≠ 0:=by
 unfold Cu.stop
 split
 ·exact hk
 ·assumption
theorem zaA (c:Cu) (k:Int) (h:c.kd ≠ 0):c.stop k=c:=if_neg h
def Faults {A:Type} (E:Cu→Option A × Cu) (b:Nat):Prop:=∀ c,c.Ok→c.ts.length≤b+c.ix→(E c).1=none→(E c).2.kd ≠ 0
theorem zd4 {E:Cu→Option Dt × Cu} (hG:Goes E) (b:Nat) (hE:Faults E b) (right:ByteArray) (least:Nat):∀ (g:Nat) (l:List Dt) (c:Cu),c.Ok→c.ts.length≤b+c.ix→c.ts.length≤g+c.ix→(brkF E right least g l c).1=none→(brkF E right least g l c).2.kd ≠ 0
 | 0,l,c,h,hb,hg,hn=>by have:=h.lt;omega
 | g+1,l,c,h,hb,hg,hn=>by
  simp only[brkF] at hn ⊢
  split
  ·rename_i hc
   rw[if_pos hc] at hn
   cases hq:(E c).1 with
   | none=>exact hE c h hb hq
   | some d =>
    rw[hq] at hn;have h1:=hG c h;have h2:=h1.2 (by rw[hq];rfl)
    exact zd4 hG b hE right least g _ _ h1.1.ok (by rw[h1.1.ts];omega) (by rw[h1.1.ts];omega) hn
  ·rename_i hc
   rw[if_neg hc] at hn
   cases hn
theorem zez {c:Cu} {p:ByteArray} (h:c.opB p=false):(c.opn p).kd ≠ 0:=by
 unfold Cu.opB at h;unfold Cu.opn
 split
 ·rename_i hp
  rw[hp] at h;simp only[Bool.true_and,decide_eq_false_iff_not] at h;rw[if_neg h];exact zbq _ _ (by decide)
 ·exact zbq _ _ (by decide)
theorem zdr {E:Cu→Option Dt × Cu} (hG:Goes E) (b:Nat) (hE:Faults E b) (left right:ByteArray) (least:Nat) (c:Cu) (h:c.Ok) (hb:c.ts.length≤b+1+c.ix) (hn:(brk E left right least c).1=none):(brk E left right least c).2.kd ≠ 0:=by
 unfold brk at hn ⊢;have ho:=zau h left
 split
 ·rename_i hB
  rw[if_pos hB] at hn;have hx:=zaL hB;exact zd4 hG b hE right least c.ts.length [] _ ho.ok (by rw[ho.ts,hx];omega) (by rw[ho.ts];omega) hn
 ·rename_i hB
  exact zez (by simpa using hB)
theorem za1 {L:Cu→Option Dt × Cu} (b:Nat) (hL:Faults L b):Faults (argS L) b:=by
 intro c h hb hn;have h1:=zar h;have h2:=za0 h1.ok bCol;have h3:=h1.trans h2;unfold argS at hn ⊢
 cases hq:(L (c.name.want bCol)).1 with
 | none=>exact hL _ h3.ok (by rw[h3.ts];have:=h3.ix;omega) hq
 | some v=>rw[hq] at hn;cases hn
theorem zg8 {c:Cu} (h:c.isN=false):c.name.kd ≠ 0:=by
 unfold Cu.name;rw[h];exact zbq _ _ (by decide)
theorem zaQ (ct:Bool):∀ f,Faults (litF ct f) f
 | 0=>fun c h hb=>by have:=h.lt;omega
 | f+1=>by
  intro c h hb hn;have ih:=zaQ ct f
  change (litS (litF ct f) ct c).1=none at hn
  show (litS (litF ct f) ct c).2.kd ≠ 0
  unfold litS at hn ⊢
  split
  ·assumption
  rename_i h0
  rw[if_neg h0] at hn
  split
  ·rename_i h1;rw[if_pos h1] at hn;cases hn
  rename_i h1;rw[if_neg h1] at hn
  split
  ·rename_i h2;rw[if_pos h2] at hn;cases hn
  rename_i h2;rw[if_neg h2] at hn
  split
  ·rename_i h3;rw[if_pos h3] at hn;cases hn
  rename_i h3;rw[if_neg h3] at hn
  split
  ·rename_i h4;rw[if_pos h4] at hn;cases hn
  rename_i h4;rw[if_neg h4] at hn
  split
  ·rename_i h5
   rw[if_pos h5] at hn;unfold varS at hn ⊢
   split
   ·rename_i h6;rw[if_pos h6] at hn;cases hn
   ·rename_i h6
    exact zg8 (by simpa using h6)
  rename_i h5;rw[if_neg h5] at hn
  split
  ·rename_i h6
   rw[if_pos h6] at hn;unfold listS at hn ⊢
   cases hq:(brk (litF ct f) bLb bRb 0 c).1 with
   | none=>exact zdr (zaj ct f) f ih bLb bRb 0 c h (by omega) hq
   | some l=>rw[hq] at hn;cases hn
  rename_i h6;rw[if_neg h6] at hn
  split
  ·rename_i h7
   rw[if_pos h7] at hn;unfold objS at hn ⊢
   cases hq:(brk (argS (litF ct f)) bLc bRc 0 c).1 with
   | none=>exact zdr (zas (zaj ct f)) f (za1 f ih) bLc bRc 0 c h (by omega) hq
   | some l=>rw[hq] at hn;cases hn
  ·exact zbq _ _ (by decide)
mutual
def fvD:Dt→Option (Int × Int)
 | .val (.int .i64 k) (.val _ (.val _ (.lst _ its (.lst _ fls (.val (.int .i64 ln) (.val (.int .i64 co) _))))))=>if k=1 then some (ln,co) else (fvL its).or (fvG fls)
 | _=>none
def fvL:Dt→Option (Int × Int)
 | .row e r=>(fvD e).or (fvL r)
 | _=>none
def fvG:Dt→Option (Int × Int)
 | .row (.val _ v) r=>(fvD v).or (fvG r)
 | _=>none
end
def Kd (c:Cu):Prop:=c.kd=0∨c.kd=70∨(c.kd=71∧c.tok.k=2)
theorem zbk {c:Cu} (h:Kd c):Kd (c.stop 70):=by
 unfold Cu.stop
 split
 ·exact .inr (.inl rfl)
 ·exact h
theorem zbp {c:Cu} (h:c.kd=0):Kd c.take:=.inl h
theorem zfN {c:Cu} (h:Kd c) (p:ByteArray):Kd (c.punct p):=by
 unfold Cu.punct
 split
 ·exact zbp (zep ‹_›).1
 ·exact h
theorem zkR {c:Cu} (h:Kd c) (p:ByteArray):Kd (c.want p):=by
 unfold Cu.want
 split
 ·exact zbp (zep ‹_›).1
 ·exact zbk h
theorem zbI {c:Cu} (h:Kd c):Kd c.name:=by
 unfold Cu.name
 split
 ·exact zbp (zg5 ‹_›).1
 ·exact zbk h
theorem zhf {c:Cu} (h:Kd c) (p:ByteArray):Kd (c.opn p):=by
 unfold Cu.opn
 split
 ·rename_i hp
  split
  ·exact .inl (zep hp).1
  ·unfold Cu.stop
   rw[if_pos (zep hp).1];exact .inr (.inr ⟨rfl,(zep hp).2.1⟩)
 ·exact zbk h
theorem zjn {c:Cu} (h:Kd c) (p:ByteArray):Kd (c.cls p):=by
 unfold Cu.cls
 split
 ·rename_i hp
  exact .inl (zep hp).1
 ·exact zbk h
theorem zpA {c:Cu} (h:Kd c):Kd c.fin:=by
 unfold Cu.fin
 split
 ·exact h
 ·exact zbk h
theorem zjf {E:Cu→Option Dt × Cu} (hE:∀ c,Kd c→Kd (E c).2) (right:ByteArray) (least:Nat):∀ (g:Nat) (l:List Dt) (c:Cu),Kd c→Kd (brkF E right least g l c).2
 | 0,l,c,h=>h
 | g+1,l,c,h=>by
  simp only[brkF]
  split
  ·cases hq:(E c).1 with
   | none=>exact hE c h
   | some d=>exact zjf hE right least g _ _ (hE c h)
  ·exact zjn h _
theorem zf8 {E:Cu→Option Dt × Cu} (hE:∀ c,Kd c→Kd (E c).2) (left right:ByteArray) (least:Nat) (c:Cu) (h:Kd c):Kd (brk E left right least c).2:=by
 unfold brk
 split
 ·exact zjf hE right least _ _ _ (zhf h left)
 ·exact zhf h left
theorem zjb {L:Cu→Option Dt × Cu} (hL:∀ c,Kd c→Kd (L c).2) (c:Cu) (h:Kd c):Kd (argS L c).2:=by
 have:=hL _ (zkR (zbI h) bCol);unfold argS
 cases (L (c.name.want bCol)).1 <;> exact this
theorem zfD (ct:Bool):∀ (f:Nat) (c:Cu),Kd c→Kd (litF ct f c).2
 | 0,c,h=>h
 | f+1,c,h=>by
  show Kd (litS (litF ct f) ct c).2
  unfold litS
  split
  ·exact h
  rename_i h0
  have hk:c.kd=0:=Classical.not_not.1 h0
  split
  ·exact zbp hk
  split
  ·exact zbp hk
  split
  ·exact zbp hk
  split
  ·exact zbp hk
  split
  ·unfold varS
   split
   ·exact zbI (zbp hk)
   ·exact zbI (zbp hk)
  split
  ·have:=zf8 (fun c h=>zfD ct f c h) bLb bRb 0 c h
   unfold listS
   cases (brk (litF ct f) bLb bRb 0 c).1 <;> exact this
  split
  ·have:=zf8 (fun c h=>zjb (fun c h=>zfD ct f c h) c h) bLc bRc 0 c h
   unfold objS
   cases (brk (argS (litF ct f)) bLc bRc 0 c).1 <;> exact this
  ·exact zbk h
structure Sim (m:Nat) (c c':Cu):Prop where
 ix:c'.ix=c.ix
 op:c'.op=c.op
 mo:c'.mo=c.mo
 kd:c'.kd=c.kd
 ts:∀ q,q≤m→c'.ts[q]? = c.ts[q]?
section
variable {m:Nat}
theorem Sim.tok {c c':Cu} (h:Sim m c c') (hi:c.ix≤m):c'.tok=c.tok:=by
 unfold Cu.tok;rw[h.ix,List.getD_eq_getElem?_getD,List.getD_eq_getElem?_getD,h.ts _ hi]
theorem Sim.isP {c c':Cu} (h:Sim m c c') (hi:c.ix≤m) (p:ByteArray):c'.isP p=c.isP p:=by unfold Cu.isP;rw[h.kd,h.tok hi]
theorem Sim.isN {c c':Cu} (h:Sim m c c') (hi:c.ix≤m):c'.isN=c.isN:=by unfold Cu.isN;rw[h.kd,h.tok hi]
theorem Sim.take {c c':Cu} (h:Sim m c c'):Sim m c.take c'.take:=⟨by unfold Cu.take;simp only;rw[h.ix],h.op,h.mo,h.kd,h.ts⟩
theorem Sim.stop {c c':Cu} (h:Sim m c c') (k:Int):Sim m (c.stop k) (c'.stop k):=by
 unfold Cu.stop;rw[h.kd]
 split
 ·exact⟨h.ix,h.op,h.mo,rfl,h.ts⟩
 ·exact h
theorem Sim.want {c c':Cu} (h:Sim m c c') (hi:c.ix≤m) (p:ByteArray):Sim m (c.want p) (c'.want p):=by
 unfold Cu.want;rw[h.isP hi]
 split
 ·exact h.take
 ·exact h.stop 70
theorem Sim.name {c c':Cu} (h:Sim m c c') (hi:c.ix≤m):Sim m c.name c'.name:=by
 unfold Cu.name;rw[h.isN hi]
 split
 ·exact h.take
 ·exact h.stop 70
theorem Sim.opB {c c':Cu} (h:Sim m c c') (hi:c.ix≤m) (p:ByteArray):c'.opB p=c.opB p:=by unfold Cu.opB;rw[h.isP hi,h.op,h.mo]
theorem Sim.opn {c c':Cu} (h:Sim m c c') (hi:c.ix≤m) (p:ByteArray):Sim m (c.opn p) (c'.opn p):=by
 unfold Cu.opn;rw[h.isP hi,h.op,h.mo]
 split
 ·split
  ·exact⟨by simp only;rw[h.ix],by simp only,by simp only,h.kd,h.ts⟩
  ·exact h.stop 71
 ·exact h.stop 70
theorem Sim.cls {c c':Cu} (h:Sim m c c') (hi:c.ix≤m) (p:ByteArray):Sim m (c.cls p) (c'.cls p):=by
 unfold Cu.cls;rw[h.isP hi]
 split
 ·exact⟨by simp only;rw[h.ix],by simp only;rw[h.op],h.mo,h.kd,h.ts⟩
 ·exact h.stop 70
def Near {A:Type} (m:Nat) (E E':Cu→Option A × Cu) (b b':Nat):Prop:=∀ c c',c.Ok→c'.Ok→Sim m c c'→c.ts.length≤b+c.ix→c'.ts.length≤b'+c'.ix→(E c).2.ix≤m→(E' c').1=(E c).1∧Sim m (E c).2 (E' c').2
theorem zf7 {E E':Cu→Option Dt × Cu} {b b':Nat} (hG:Goes E) (hG':Goes E') (hE:Near m E E' b b') (right:ByteArray) (least:Nat):∀ (g g':Nat) (l:List Dt) (c c':Cu),c.Ok→c'.Ok→Sim m c c'→c.ts.length≤b+c.ix→c'.ts.length≤b'+c'.ix→c.ts.length≤g+c.ix→c'.ts.length≤g'+c'.ix→(brkF E right least g l c).2.ix≤m→(brkF E' right least g' l c').1=(brkF E right least g l c).1∧Sim m (brkF E right least g l c).2 (brkF E' right least g' l c').2
 | 0,g',l,c,c',h,h',hs,hb,hb',hg,hg',hm=>by have:=h.lt;omega
 | g+1,0,l,c,c',h,h',hs,hb,hb',hg,hg',hm=>by have:=h'.lt;omega
 | g+1,g'+1,l,c,c',h,h',hs,hb,hb',hg,hg',hm=>by
  have hst:=zbE hG right least (g+1) l c h;have hix:c.ix≤m:=Nat.le_trans hst.ix hm;simp only[brkF] at hm ⊢;rw[hs.isP hix]
  by_cases hc:l.length<least∨c.isP right=false
  ·rw[if_pos hc] at hm
   rw[if_pos hc,if_pos hc];have hgo:=hG c h
   have hEm:(E c).2.ix≤m:=by
    cases hq:(E c).1 with
    | none=>rw[hq] at hm;exact hm
    | some d =>
     rw[hq] at hm;exact Nat.le_trans (zbE hG right least g _ _ hgo.1.ok).ix hm
   obtain⟨e1,e2⟩:=hE c c' h h' hs hb hb' hEm
   cases hq:(E c).1 with
   | none =>
    rw[hq] at e1;rw[e1];exact⟨rfl,e2⟩
   | some d =>
    rw[hq] at e1 hm;rw[e1];have hgo':=hG' c' h';have i1:=hgo.2 (by rw[hq];rfl)
    have i2:=hgo'.2 (by rw[e1];rfl)
    exact zf7 hG hG' hE right least g g' (l ++ [d]) _ _ hgo.1.ok hgo'.1.ok e2 (by rw[hgo.1.ts];omega) (by rw[hgo'.1.ts];omega) (by rw[hgo.1.ts];omega) (by rw[hgo'.1.ts];omega) hm
  ·rw[if_neg hc,if_neg hc]
   exact⟨rfl,hs.cls hix right⟩
theorem zdT {E E':Cu→Option Dt × Cu} {b b':Nat} (hG:Goes E) (hG':Goes E') (hE:Near m E E' b b') (left right:ByteArray) (least:Nat):Near m (brk E left right least) (brk E' left right least) (b+1) (b'+1):=by
 intro c c' h h' hs hb hb' hm;have hst:=(zaH hG left right least c h).1;have hix:c.ix≤m:=Nat.le_trans hst.ix hm;unfold brk at hm ⊢;rw[hs.opB hix];have ho:=zau h left;have ho':=zau h' left
 by_cases hB:c.opB left=true
 ·rw[if_pos hB] at hm
  rw[if_pos hB,if_pos hB];have x1:=zaL hB;have x2:=zaL (show c'.opB left=true by rw[hs.opB hix];exact hB)
  exact zf7 hG hG' hE right least _ _ [] _ _ ho.ok ho'.ok (hs.opn hix left) (by rw[ho.ts,x1];omega) (by rw[ho'.ts,x2];omega) (by rw[ho.ts];omega) (by rw[ho'.ts];omega) hm
 ·rw[if_neg hB,if_neg hB]
  exact⟨rfl,hs.opn hix left⟩
theorem zf3 {L L':Cu→Option Dt × Cu} {b b':Nat} (hG:Goes L) (hL:Near m L L' b b'):Near m (argS L) (argS L') b b':=by
 intro c c' h h' hs hb hb' hm;have hst:=(zas hG c h).1;have hix:c.ix≤m:=Nat.le_trans hst.ix hm;have s1:=zar h;have s2:=za0 s1.ok bCol;have s1':=zar h';have s2':=za0 s1'.ok bCol;have s3:=(hG _ s2.ok).1
 have hLm:(L (c.name.want bCol)).2.ix≤m:=by
  unfold argS at hm
  cases hq:(L (c.name.want bCol)).1 with
  | none=>rw[hq] at hm;exact hm
  | some v=>rw[hq] at hm;exact hm
 have i1:c.name.ix≤m:=Nat.le_trans (Nat.le_trans s2.ix s3.ix) hLm;have t:=s1.trans s2;have t':=s1'.trans s2';obtain⟨e1,e2⟩:=hL (c.name.want bCol) (c'.name.want bCol) s2.ok s2'.ok ((hs.name hix).want i1 bCol) (by rw[t.ts];have:=t.ix;omega) (by rw[t'.ts];have:=t'.ix;omega) hLm
 unfold argS;rw[e1]
 cases hq:(L (c.name.want bCol)).1 with
 | none=>exact⟨rfl,e2⟩
 | some v =>
  rw[hs.tok hix];exact⟨rfl,e2⟩
theorem zet (ct:Bool):∀ (f f':Nat),Near m (litF ct f) (litF ct f') f f'
 | 0,f'=>fun c c' h h' hs hb hb' hm=>by have:=h.lt;omega
 | f+1,0=>fun c c' h h' hs hb hb' hm=>by have:=h'.lt;omega
 | f+1,f'+1=>by
  intro c c' h h' hs hb hb' hm;have ih:=zet ct f f';have hst:=(zaj ct (f+1) c h).1;have hix:c.ix≤m:=Nat.le_trans hst.ix hm;have ht:=hs.tok hix
  change (litS (litF ct f) ct c).2.ix≤m at hm
  show (litS (litF ct f') ct c').1=(litS (litF ct f) ct c).1∧Sim m (litS (litF ct f) ct c).2 (litS (litF ct f') ct c').2
  unfold litS at hm ⊢;rw[hs.kd,ht,hs.isP hix,hs.isP hix,hs.isP hix]
  by_cases h0:c.kd ≠ 0
  ·rw[if_pos h0,if_pos h0];exact⟨rfl,hs⟩
  rw[if_neg h0] at hm;rw[if_neg h0,if_neg h0]
  by_cases h1:c.tok.k=4
  ·rw[if_pos h1,if_pos h1];exact⟨rfl,hs.take⟩
  rw[if_neg h1] at hm;rw[if_neg h1,if_neg h1]
  by_cases h2:c.tok.k=5
  ·rw[if_pos h2,if_pos h2];exact⟨rfl,hs.take⟩
  rw[if_neg h2] at hm;rw[if_neg h2,if_neg h2]
  by_cases h3:c.tok.k=6∨c.tok.k=7
  ·rw[if_pos h3,if_pos h3];exact⟨rfl,hs.take⟩
  rw[if_neg h3] at hm;rw[if_neg h3,if_neg h3]
  by_cases h4:c.tok.k=3
  ·rw[if_pos h4,if_pos h4];exact⟨rfl,hs.take⟩
  rw[if_neg h4] at hm;rw[if_neg h4,if_neg h4]
  by_cases h5:c.isP bDol=true∧ct=false
  ·rw[if_pos h5] at hm
   rw[if_pos h5,if_pos h5];have hn:=zar (takeP h h5.1).ok
   have hi1:c.take.ix≤m:=by
    unfold varS at hm
    split at hm
    ·exact Nat.le_trans hn.ix hm
    ·exact Nat.le_trans hn.ix hm
   unfold varS;rw[hs.take.isN hi1,hs.take.tok hi1,ht]
   split
   ·exact⟨rfl,hs.take.name hi1⟩
   ·exact⟨rfl,hs.take.name hi1⟩
  rw[if_neg h5] at hm;rw[if_neg h5,if_neg h5]
  by_cases h6:c.isP bLb=true
  ·rw[if_pos h6] at hm
   rw[if_pos h6,if_pos h6]
   have hbm:(brk (litF ct f) bLb bRb 0 c).2.ix≤m:=by
    unfold listS at hm
    cases hq:(brk (litF ct f) bLb bRb 0 c).1 with
    | none=>rw[hq] at hm;exact hm
    | some l=>rw[hq] at hm;exact hm
   obtain⟨e1,e2⟩:=zdT (zaj ct f) (zaj ct f') ih bLb bRb 0 c c' h h' hs (by omega) (by omega) hbm
   unfold listS;rw[e1]
   cases hq:(brk (litF ct f) bLb bRb 0 c).1 with
   | none=>exact⟨rfl,e2⟩
   | some l=>rw[ht];exact⟨rfl,e2⟩
  rw[if_neg h6] at hm;rw[if_neg h6,if_neg h6]
  by_cases h7:c.isP bLc=true
  ·rw[if_pos h7] at hm
   rw[if_pos h7,if_pos h7]
   have hbm:(brk (argS (litF ct f)) bLc bRc 0 c).2.ix≤m:=by
    unfold objS at hm
    cases hq:(brk (argS (litF ct f)) bLc bRc 0 c).1 with
    | none=>rw[hq] at hm;exact hm
    | some l=>rw[hq] at hm;exact hm
   obtain⟨e1,e2⟩:=zdT (zas (zaj ct f)) (zas (zaj ct f')) (zf3 (zaj ct f) ih) bLc bRc 0 c c' h h' hs (by omega) (by omega) hbm
   unfold objS;rw[e1]
   cases hq:(brk (argS (litF ct f)) bLc bRc 0 c).1 with
   | none=>exact⟨rfl,e2⟩
   | some l=>rw[ht];exact⟨rfl,e2⟩
  ·rw[if_neg h7,if_neg h7]
   exact⟨rfl,hs.stop 70⟩
end
theorem zaJ {c:Cu} (h:c.kd ≠ 0) (p:ByteArray):c.isP p=false:=by unfold Cu.isP;simp[h]
theorem zcH {c:Cu} (h:c.kd ≠ 0):c.isN=false:=by unfold Cu.isN;simp[h]
theorem zfi (E:Cu→Option Dt × Cu) (l r:ByteArray) (n:Nat) {c:Cu} (h:c.kd ≠ 0):brk E l r n c=(none,c):=by
 unfold brk Cu.opB Cu.opn;simp[zaJ h,zaA _ _ h]
theorem zbx (L:Cu→Option Dt × Cu) {c:Cu} (h:c.kd ≠ 0):∀ (g:Nat) (l:List Dt),dirsF L g l c=(none,c)
 | 0,l=>rfl
 | g+1,l=>by
  rw[dirsF,zaJ h,if_neg (by decide),if_neg h]
theorem ze1 (L:Cu→Option Dt × Cu) {c:Cu} (h:c.kd ≠ 0):dirs L c=(none,c):=zbx L h _ _
theorem zf4 {L:Cu→Option Dt × Cu} (hG:Goes L) {b:Nat} (hL:Faults L b):Faults (argsS L) b:=by
 intro c hc hl hn;unfold argsS at hn ⊢
 split at hn
 ·rename_i hp
  rw[if_pos hp];exact zdr (zas hG) b (za1 b hL) bLp bRp 1 c hc (by omega) hn
 ·rename_i hp
  rw[if_neg hp];intro hk;rw[if_pos hk] at hn
  cases hn
theorem zee {L:Cu→Option Dt × Cu} (hG:Goes L) {b:Nat} (hL:Faults L b) {c:Cu} (hc:c.Ok) (hp:c.isP bAt=true) (hl:c.ts.length≤b+c.ix) (hn:(dirS L c).1=none):(dirS L c).2.kd ≠ 0:=by
 have h1:=takeP hc hp;have h2:=h1.trans (zar h1.ok);have h3:=zf4 hG hL c.take.name h2.ok (by rw[h2.ts];have:=h2.ix;omega)
 unfold dirS at hn ⊢
 cases hq:(argsS L c.take.name).1 with
 | none=>exact h3 hq
 | some l=>rw[hq] at hn;cases hn
theorem ze7 {c:Cu} (h:c.isN=false):c.name.kd ≠ 0:=zg8 h
def bEq:ByteArray:=⟨#[61]⟩
def bQuery:ByteArray:=⟨#[113,117,101,114,121]⟩
def bMut:ByteArray:=⟨#[109,117,116,97,116,105,111,110]⟩
def bSub:ByteArray:=⟨#[115,117,98,115,99,114,105,112,116,105,111,110]⟩
abbrev LitR:=Cu→Option Dt × Cu
abbrev TypR:=Cu→Option (ByteArray × ByteArray) × Cu
abbrev LstR:=Cu→Option (List Dt) × Cu
def defsF (D:LitR):Nat→List Dt→Cu→Option (List Dt) × Cu
 | 0,l,c=>(none,c)
 | g+1,l,c=>if l.length=0∨c.tok.k ≠ 0 then (match (D c).1 with | none=>(none,(D c).2) | some d=>defsF D g (l ++ [d]) (D c).2) else (if c.finB then some l else none,c.fin)
theorem zgU {c:Cu} (h:c.kd ≠ 0) (p:ByteArray):c.want p=c:=by unfold Cu.want;rw[zaJ h];exact zaA _ _ h
theorem zbX {c:Cu} (h:c.kd ≠ 0):c.name=c:=by unfold Cu.name;rw[zcH h];exact zaA _ _ h
theorem zi7 (f:Nat) {c:Cu} (h:c.kd ≠ 0):typF f c=(none,c):=by
 cases f with
 | zero=>rfl
 | succ f =>
  show typ (unm (typF f)) c=_
  unfold typ unm;rw[zaJ h,zcH h,zbX h];rfl
theorem zco {D:LitR} (hD:Goes D):∀ (g:Nat) (l:List Dt) (c:Cu),c.Ok→Stp c (defsF D g l c).2
 | 0,l,c,h=>Stp.refl h
 | g+1,l,c,h=>by
  simp only[defsF]
  split
  ·cases hq:(D c).1 with
   | none=>exact (hD c h).1
   | some d=>exact (hD c h).1.trans (zco hD g _ _ (hD c h).1.ok)
  ·exact znQ h
def bnd {A X:Type} (E:Cu→A × Cu) (F:A→Cu→X × Cu):Cu→X × Cu:=fun c=>F (E c).1 (E c).2
def ret {A:Type} (a:A):Cu→A × Cu:=fun c=>(a,c)
def tokR:Cu→Tk × Cu:=fun c=>(c.tok,c)
def isPR (p:ByteArray):Cu→Bool × Cu:=fun c=>(c.isP p,c)
def aliveR:Cu→Bool × Cu:=fun c=>(decide (c.kd=0),c)
def nmR:Cu→ByteArray × Cu:=fun c=>(c.nmS,c.name)
def nR:Cu→(Bool × ByteArray) × Cu:=fun c=>((c.isN,c.tok.tx),c.name)
def wantR (p:ByteArray):Cu→Unit × Cu:=fun c=>((),c.want p)
def punctR (p:ByteArray):Cu→Bool × Cu:=fun c=>(c.isP p,c.punct p)
def wordR (q:ByteArray):Cu→Bool × Cu:=fun c=>(c.isW [q],c.word q)
def butR (ws:List ByteArray):Cu→ByteArray × Cu:=fun c=>(c.nmB (c.isN && !inW ws c.tok.tx),c.nmC (c.isN && !inW ws c.tok.tx))
def wwR (ws:List ByteArray):Cu→Bool × Cu:=fun c=>(c.isW ws,c.nmC (c.isW ws))
def opnR (p:ByteArray):Cu→Bool × Cu:=fun c=>(c.opB p,c.opn p)
def clsR (p:ByteArray):Cu→Bool × Cu:=fun c=>(c.isP p,c.cls p)
def stopR {A:Type} (a:A):Cu→A × Cu:=fun c=>(a,c.stop 70)
def St {A:Type} (E:Cu→A × Cu):Prop:=∀ c,c.Ok→Stp c (E c).2
theorem St.bnd {A X:Type} {E:Cu→A × Cu} {F:A→Cu→X × Cu} (h:St E) (k:∀ a,St (F a)):St (bnd E F):=fun c hc=>(h c hc).trans (k _ _ (h c hc).ok)
theorem Goes.st {A:Type} {E:Cu→Option A × Cu} (h:Goes E):St E:=fun c hc=>(h c hc).1
theorem zam {A:Type} (a:A):St (ret a):=fun c h=>Stp.refl h
theorem zcy:St tokR:=fun c h=>Stp.refl h
theorem za7 (p:ByteArray):St (isPR p):=fun c h=>Stp.refl h
theorem zbg:St aliveR:=fun c h=>Stp.refl h
theorem zdP:St nR:=fun c h=>zar h
theorem zaN (p:ByteArray):St (wantR p):=fun c h=>za0 h p
theorem zap (p:ByteArray):St (punctR p):=fun c h=>zaT h p
theorem zaw (q:ByteArray):St (wordR q):=fun c h=>by
 show Stp c (c.word q)
 unfold Cu.word
 split
 ·exact takeN h (zeq ‹_›)
 ·exact Stp.refl h
theorem zd5 (ws:List ByteArray):St (butR ws):=fun c h=>zkc h (fun e=>by simp at e;exact e.1)
theorem zbB (ws:List ByteArray):St (wwR ws):=fun c h=>zkc h (fun e=>zeq e)
theorem zdy (p:ByteArray):St (opnR p):=fun c h=>zau h p
theorem zdt (p:ByteArray):St (clsR p):=fun c h=>zbv h p
theorem za9 {A:Type} (a:A):St (stopR a):=fun c h=>zbf h 70
theorem zaK {A:Type} {b:Bool} {E F:Cu→A × Cu} (h:St E) (k:St F):St (cond b E F):=by cases b;exact k;exact h
def KdP {A:Type} (E:Cu→A × Cu):Prop:=∀ c,Kd c→Kd (E c).2
theorem KdP.bnd {A X:Type} {E:Cu→A × Cu} {F:A→Cu→X × Cu} (h:KdP E) (k:∀ a,KdP (F a)):KdP (bnd E F):=fun c hc=>k _ _ (h c hc)
theorem zcj {A:Type} (a:A):KdP (ret a):=fun c h=>h
theorem zhq:KdP tokR:=fun c h=>h
theorem zg6 (p:ByteArray):KdP (isPR p):=fun c h=>h
theorem zf2:KdP aliveR:=fun c h=>h
theorem zkd:KdP nmR:=fun c h=>zbI h
theorem zra:KdP nR:=fun c h=>zbI h
theorem zl8 (p:ByteArray):KdP (wantR p):=fun c h=>zkR h p
theorem zbY (p:ByteArray):KdP (punctR p):=fun c h=>zfN h p
theorem ziv (q:ByteArray):KdP (wordR q):=fun c h=>by
 show Kd (c.word q)
 unfold Cu.word
 split
 ·exact zbp (zg5 (zeq ‹_›)).1
 ·exact h
theorem zmN {c:Cu} {so:Bool} (h:Kd c) (hs:so=true→c.isN=true):Kd (c.nmC so):=by
 unfold Cu.nmC
 cases so
 ·exact zbk h
 ·exact zbp (zg5 (hs rfl)).1
theorem zji (ws:List ByteArray):KdP (butR ws):=fun c h=>zmN h (fun e=>by simp at e;exact e.1)
theorem znh (ws:List ByteArray):KdP (wwR ws):=fun c h=>zmN h (fun e=>zeq e)
theorem zlY {A:Type} (a:A):KdP (stopR a):=fun c h=>zbk h
theorem zer {A:Type} {b:Bool} {E F:Cu→A × Cu} (h:KdP E) (k:KdP F):KdP (cond b E F):=by cases b;exact k;exact h
def NearA {A:Type} (m:Nat) (E E':Cu→A × Cu) (b b':Nat):Prop:=∀ c c',c.Ok→c'.Ok→Sim m c c'→c.ts.length≤b+c.ix→c'.ts.length≤b'+c'.ix→(E c).2.ix≤m→(E' c').1=(E c).1∧Sim m (E c).2 (E' c').2
theorem Near.a {A:Type} {m:Nat} {E E':Cu→Option A × Cu} {b b':Nat} (h:Near m E E' b b'):NearA m E E' b b':=h
section
variable {m b b':Nat}
theorem NearA.bnd {A X:Type} {E E':Cu→A × Cu} {F F':A→Cu→X × Cu} (h:NearA m E E' b b') (s:St E) (s':St E') (k:∀ a,NearA m (F a) (F' a) b b') (t:∀ a,St (F a)):NearA m (bnd E F) (bnd E' F') b b':=by
 intro c c' hc hc' hs hb hb' hm;have s1:=s c hc;have s2:=s' c' hc';have t1:=t (E c).1 _ s1.ok;obtain⟨e1,e2⟩:=h c c' hc hc' hs hb hb' (Nat.le_trans t1.ix hm)
 show (F' (E' c').1 (E' c').2).1=(F (E c).1 (E c).2).1∧_
 obtain⟨g1,g2⟩:=k (E c).1 (E c).2 (E' c').2 s1.ok s2.ok e2 (by rw[s1.ts];have:=s1.ix;omega) (by rw[s2.ts];have:=s2.ix;omega) hm
 rw[e1];refine⟨g1,?_⟩
 show Sim m (F (E c).1 (E c).2).2 (F' (E' c').1 (E' c').2).2
 rw[e1];exact g2
theorem NearA.mono {A:Type} {E E':Cu→A × Cu} {d d':Nat} (h:NearA m E E' b b') (h1:d≤b) (h2:d'≤b'):NearA m E E' d d':=fun c c' hc hc' hs hb hb' hm=>h c c' hc hc' hs (by omega) (by omega) hm
theorem zcg {A:Type} (a:A):NearA m (ret a) (ret a) b b':=fun c c' hc hc' hs hb hb' hm=>⟨rfl,hs⟩
theorem zgP:NearA m tokR tokR b b':=fun c c' hc hc' hs hb hb' hm=>⟨hs.tok hm,hs⟩
theorem zeo (p:ByteArray):NearA m (isPR p) (isPR p) b b':=fun c c' hc hc' hs hb hb' hm=>⟨hs.isP hm p,hs⟩
theorem zd2:NearA m aliveR aliveR b b':=fun c c' hc hc' hs hb hb' hm=>⟨by show decide (c'.kd=0)=decide (c.kd=0);rw[hs.kd],hs⟩
theorem zj7:NearA m nR nR b b':=fun c c' hc hc' hs hb hb' hm=>by
 have hi:c.ix≤m:=Nat.le_trans (zar hc).ix hm;exact⟨by show (c'.isN,c'.tok.tx)=(c.isN,c.tok.tx);rw[hs.isN hi,hs.tok hi],hs.name hi⟩
theorem zi9 (p:ByteArray):NearA m (wantR p) (wantR p) b b':=fun c c' hc hc' hs hb hb' hm=>by
 have hi:c.ix≤m:=Nat.le_trans (za0 hc p).ix hm;exact⟨rfl,hs.want hi p⟩
theorem zcS (p:ByteArray):NearA m (punctR p) (punctR p) b b':=fun c c' hc hc' hs hb hb' hm=>by
 have hi:c.ix≤m:=Nat.le_trans (zaT hc p).ix hm;refine⟨hs.isP hi p,?_⟩
 show Sim m (c.punct p) (c'.punct p)
 unfold Cu.punct;rw[hs.isP hi p]
 split
 ·exact hs.take
 ·exact hs
theorem Sim.isW {c c':Cu} (hs:Sim m c c') (hi:c.ix≤m) (ws:List ByteArray):c'.isW ws=c.isW ws:=by unfold Cu.isW;rw[hs.isN hi,hs.tok hi]
theorem Sim.nmC {c c':Cu} (hs:Sim m c c') (so:Bool):Sim m (c.nmC so) (c'.nmC so):=by
 unfold Cu.nmC
 cases so
 ·exact hs.stop 70
 ·exact hs.take
theorem zja (q:ByteArray):NearA m (wordR q) (wordR q) b b':=fun c c' hc hc' hs hb hb' hm=>by
 have hi:c.ix≤m:=Nat.le_trans (zaw q c hc).ix hm;refine⟨hs.isW hi [q],?_⟩
 show Sim m (c.word q) (c'.word q)
 unfold Cu.word;rw[hs.isW hi [q]]
 split
 ·exact hs.take
 ·exact hs
theorem zmb (ws:List ByteArray):NearA m (wwR ws) (wwR ws) b b':=fun c c' hc hc' hs hb hb' hm=>by
 have hi:c.ix≤m:=Nat.le_trans (zbB ws c hc).ix hm;refine⟨hs.isW hi ws,?_⟩
 show Sim m (c.nmC _) (c'.nmC _)
 rw[hs.isW hi ws];exact hs.nmC _
theorem zjm (p:ByteArray):NearA m (clsR p) (clsR p) b b':=fun c c' hc hc' hs hb hb' hm=>by
 have hi:c.ix≤m:=Nat.le_trans (zbv hc p).ix hm;exact⟨hs.isP hi p,hs.cls hi p⟩
theorem zi5 {A:Type} (a:A):NearA m (stopR a) (stopR a) b b':=fun c c' hc hc' hs hb hb' hm=>⟨rfl,hs.stop 70⟩
theorem zhY {A:Type} {q:Bool} {E E' F F':Cu→A × Cu} (h:NearA m E E' b b') (k:NearA m F F' b b'):NearA m (cond q E F) (cond q E' F') b b':=by cases q;exact k;exact h
theorem zlQ {X:Type} (p:ByteArray) {F F':Bool→Cu→X × Cu} (k:NearA m (F true) (F' true) b b') (t:St (F true)) (k0:NearA m (F false) (F' false) (b+1) (b'+1)) (t0:St (F false)):NearA m (bnd (opnR p) F) (bnd (opnR p) F') (b+1) (b'+1):=by
 intro c c' hc hc' hs hb hb' hm;have s1:=zau hc p;have s2:=zau hc' p
 have hst:Stp (c.opn p) (bnd (opnR p) F c).2:=by
  show Stp _ (F (c.opB p) (c.opn p)).2
  cases c.opB p
  ·exact t0 _ s1.ok
  ·exact t _ s1.ok
 have hi:c.ix≤m:=Nat.le_trans s1.ix (Nat.le_trans hst.ix hm);have eB:=hs.opB hi p;have eS:=hs.opn hi p
 show (F' (c'.opB p) (c'.opn p)).1=(F (c.opB p) (c.opn p)).1∧Sim m (F (c.opB p) (c.opn p)).2 (F' (c'.opB p) (c'.opn p)).2
 have hm':(F (c.opB p) (c.opn p)).2.ix≤m:=hm;rw[eB]
 cases hq:c.opB p
 ·rw[hq] at hm'
  exact k0 _ _ s1.ok s2.ok eS (by rw[s1.ts];have:=s1.ix;omega) (by rw[s2.ts];have:=s2.ix;omega) hm'
 ·rw[hq] at hm'
  have x1:=zaL hq;have x2:=zaL (show c'.opB p=true by rw[eB];exact hq)
  exact k _ _ s1.ok s2.ok eS (by rw[s1.ts,x1];omega) (by rw[s2.ts,x2];omega) hm'
end
end Go.Proofs.YtifbkdicglcogaaGreat.cu
