import Derived.Test.YtepmbmbnlmbhhaaGreatPla13
set_option linter.unusedVariables false
set_option linter.unusedSimpArgs false
set_option maxHeartbeats 16000000
set_option maxRecDepth 8000
open Go.Proofs.Tryz
namespace Go.Proofs.YtepmbmbnlmbhhaaGreat
open Go.ChangeShapes Go.WideShapes Go.ChangeAt Go.RowKit
namespace cu
open ints (Hi uh)
open dt (Dt Kp RowAt Ow Grow)
def nmV(t:Tk)(so:Bool):List Value:=if so then [.string t.tx,.int .i64 t.ln,.int .i64 t.co] else [.string em,.int .i64 0,.int .i64 0]
def _root_.Go.Proofs.YtepmbmbnlmbhhaaGreat.cu.Cu.nmC(c:Cu)(so:Bool):Cu:=if so then c.take else c.stop 70
theorem zfb(t:Tk)(so:Bool):(nmV t so).length=3∧(nmV t so).all (·.oneCell')=true:=by unfold nmV;split <;> exact⟨rfl,rfl⟩
theorem znH{c:Cu}{ws:List ByteArray}(h:c.isW ws=true):c.isN=true:=by unfold Cu.isW at h;simp only[Bool.and_eq_true] at h;exact h.1
theorem zfu(B p:Nat)(c:Cu)(b n cp:Nat)(ws:List ByteArray)(w:World)(h:CurAt w B p c)(hw:Wds w b n cp ws)(hwn:n≤1048576) :
  Calls prog 43 #[ptr B,.slice (some ⟨b,0,none⟩) n cp] w fun e w'=>e = .returned (.tuple #[.agg (nmV c.tok (c.isW ws)).toArray,.bool (c.isW ws)])∧CurAt w' B p (c.nmC (c.isW ws))∧Kp B w w':=by
 have hi:=Hi (fun W (bb:Below w.heap.size w W)=>zdb B p c b n cp ws W (h.below bb) (hw.below bb) hwn)
 have hlt:=h.lt;have hplt:=h.plt;have hne:B≠w.heap.size:=by omega
 have hnp:p≠w.heap.size:=by omega
 have hV3:=Hi (zfb c.tok (c.isW ws)).1;have hV1:=Hi (zfb c.tok (c.isW ws)).2;obtain⟨V,hV⟩:∃ V,V=nmV c.tok (c.isW ws):=⟨_,rfl⟩;obtain⟨C,hC⟩:∃ C,C=c.nmC (c.isW ws):=⟨_,rfl⟩;have hn:=Hi (fun W (bb:Below w.heap.size w W)=>show Calls prog 84 #[ptr B,.bool (c.isW ws)] W fun e w'=>e = .returned (.tuple #[.agg V.toArray,.bool (c.isW ws)])∧CurAt w' B p C∧Kp B W w' from by rw[hV,hC];exact ze9 B p c (c.isW ws) W (h.below bb) (fun e=>zbu h.ok (znH e)))
 rw[←hV] at hV3 hV1 ⊢;rw[←hC] at ⊢;clear hV hC;obtain⟨R,hR⟩:∃ R,R=c.isW ws:=⟨_,rfl⟩;rw[←hR] at hi hn ⊢;clear h hw hR;unfold ptr at hi hn ⊢
 go_enter func43,ntmps43
 go_wp2_with fail
 have bA0:Below w.heap.size w (w.alloc (.cells #[Value.string { data:=#[] },.int .i64 0,.int .i64 0] 84)):=ba;have hZ:=(fun W (hk:Kp B (w.alloc (.cells #[Value.string { data:=#[] },.int .i64 0,.int .i64 0] 84)) W)=>show W.heap[w.heap.size]? = some (.cells #[Value.string { data:=#[] },.int .i64 0,.int .i64 0] 84 (0,0)) from (hk.block w.heap.size (by simp) (by omega)).trans (heap_alloc_new w _))
 obtain⟨wA,hwA⟩:∃ wA,wA=w.alloc (.cells #[Value.string { data:=#[] },.int .i64 0,.int .i64 0] 84):=⟨_,rfl⟩;rw[←hwA] at bA0 hZ ⊢;clear hwA;refine ((uh hi) wA bA0).mono ?_
 rintro e w1 ⟨rfl,b1⟩
 go_wp2_with fail
 refine ((uh hn) w1 (bA0.trans (b1.mono bA0.size))).mono ?_
 rintro e wN ⟨rfl,hcN,hkN⟩;have bE:=b1;have hk3:=(Kp.of bE).trans hkN;have hth:wN.there w.heap.size 0 3:=dt.zac (hZ wN hk3) (by decide)
 have HK:=Hi ((Kp.of bA0).trans hk3);have HC:=Hi hcN;have HT:=Hi (show wN.there w.heap.size 0 V.toArray.size from by rw[show V.toArray.size=3 from by simpa using uh hV3];exact hth)
 have HI:=Hi (show (prog.info? 84).map (·.size)=some V.toArray.size from by rw[show V.toArray.size=3 from by simpa using uh hV3];exact infoNm)
 clear hk3 hkN hcN hth bE hZ bA0
 go_wp2_with (first
  | refine wpList_store_mid (by rfl) 84 _ _ (by rfl) w.heap.size 0 V.toArray (by rfl) (by rfl) (uh HT) (uh HI) (dt.zab (uh hV1)) ?_)
 refine bodyPost_ret (rgn.zaa rfl _ _ w.heap.size 0 V _ rfl (World.rangeAt_setCells_same _ _ _ _ (by have:=uh HT;simpa using this)) underlying84 rfl (by have:=uh HI;simpa using this)) rfl ?_
 exact⟨rfl,(uh HC).out hne hnp _ _,(uh HK).out (lr _) _ _⟩
theorem zgw(B p:Nat)(c:Cu)(b n cp:Nat)(ws:List ByteArray)(w:World)(h:CurAt w B p c)(hw:Wds w b n cp ws)(hwn:n≤1048576) :
  Calls prog 45 #[ptr B,.slice (some ⟨b,0,none⟩) n cp] w fun e w'=>e = .returned (.tuple #[.agg (nmV c.tok (c.isN && !inW ws c.tok.tx)).toArray,.bool (c.isN && !inW ws c.tok.tx)])∧CurAt w' B p (c.nmC (c.isN && !inW ws c.tok.tx))∧Kp B w w':=by
 have hi:=Hi (fun W (bb:Below w.heap.size w W)=>zda B p c W (h.below bb))
 have ht:=Hi (fun W (bb:Below w.heap.size w W)=>zaM B p c W (h.below bb))
 have hct:=Hi (fun W (bb:Below w.heap.size w W)=>za7 b n cp ws c.tok.tx W (hw.below bb) hwn)
 have hf1:=zcS c.tok;have hlt:=h.lt;have hplt:=h.plt;have hne:B≠w.heap.size:=by omega
 have hnp:p≠w.heap.size:=by omega
 have hV3:=Hi (zfb c.tok (c.isN && !inW ws c.tok.tx)).1;have hV1:=Hi (zfb c.tok (c.isN && !inW ws c.tok.tx)).2;obtain⟨V,hV⟩:∃ V,V=nmV c.tok (c.isN && !inW ws c.tok.tx):=⟨_,rfl⟩;obtain⟨C,hC⟩:∃ C,C=c.nmC (c.isN && !inW ws c.tok.tx):=⟨_,rfl⟩;have hn:=Hi (fun W (bb:Below w.heap.size w W)=>show Calls prog 84 #[ptr B,.bool (c.isN && !inW ws c.tok.tx)] W fun e w'=>e = .returned (.tuple #[.agg V.toArray,.bool (c.isN && !inW ws c.tok.tx)])∧CurAt w' B p C∧Kp B W w' from by rw[hV,hC];exact ze9 B p c (c.isN && !inW ws c.tok.tx) W (h.below bb) (fun e=>zbu h.ok (by simp only[Bool.and_eq_true] at e;exact e.1)))
 rw[←hV] at hV3 hV1 ⊢;rw[←hC] at ⊢;clear hV hC;obtain⟨R,hR⟩:∃ R,R=c.isN:=⟨_,rfl⟩;obtain⟨S,hS⟩:∃ S,S=inW ws c.tok.tx:=⟨_,rfl⟩;rw[←hR] at hi;rw[←hS] at hct;rw[←hR,←hS] at hn ⊢;obtain⟨t,et⟩:∃ t,t=c.tok:=⟨_,rfl⟩;rw[←et] at ht hct hf1;clear h hw hR hS et;unfold Tk.cells at ht;unfold ptr at hi hn ht ⊢
 go_enter func45,ntmps45
 go_wp2_with fail
 have bA0:Below w.heap.size w (w.alloc (.cells #[Value.string { data:=#[] },.int .i64 0,.int .i64 0] 84)):=ba;have hZ:=(fun W (hk:Kp B (w.alloc (.cells #[Value.string { data:=#[] },.int .i64 0,.int .i64 0] 84)) W)=>show W.heap[w.heap.size]? = some (.cells #[Value.string { data:=#[] },.int .i64 0,.int .i64 0] 84 (0,0)) from (hk.block w.heap.size (by simp) (by omega)).trans (heap_alloc_new w _))
 obtain⟨wA,hwA⟩:∃ wA,wA=w.alloc (.cells #[Value.string { data:=#[] },.int .i64 0,.int .i64 0] 84):=⟨_,rfl⟩;rw[←hwA] at bA0 hZ ⊢;clear hwA;refine ((uh hi) wA bA0).mono ?_
 rintro e w1 ⟨rfl,b1⟩
 cases R
 ·simp only[Bool.false_and] at hn ⊢
  go_wp2_with fail
  refine ((uh hn) w1 (bA0.trans (b1.mono bA0.size))).mono ?_
  rintro e wN ⟨rfl,hcN,hkN⟩;have bE:=b1;have hk3:=(Kp.of bE).trans hkN;have hth:wN.there w.heap.size 0 3:=dt.zac (hZ wN hk3) (by decide)
  have HK:=Hi ((Kp.of bA0).trans hk3);have HC:=Hi hcN;have HT:=Hi (show wN.there w.heap.size 0 V.toArray.size from by rw[show V.toArray.size=3 from by simpa using uh hV3];exact hth)
  have HI:=Hi (show (prog.info? 84).map (·.size)=some V.toArray.size from by rw[show V.toArray.size=3 from by simpa using uh hV3];exact infoNm)
  clear hk3 hkN hcN hth bE hZ bA0
  go_wp2_with (first
   | refine wpList_store_mid (by rfl) 84 _ _ (by rfl) w.heap.size 0 V.toArray (by rfl) (by rfl) (uh HT) (uh HI) (dt.zab (uh hV1)) ?_)
  refine bodyPost_ret (rgn.zaa rfl _ _ w.heap.size 0 V _ rfl (World.rangeAt_setCells_same _ _ _ _ (by have:=uh HT;simpa using this)) underlying84 rfl (by have:=uh HI;simpa using this)) rfl ?_
  exact⟨rfl,(uh HC).out hne hnp _ _,(uh HK).out (lr _) _ _⟩
 ·simp only[Bool.true_and] at hn ⊢
  go_wp2_with fail
  refine ((uh ht) w1 (bA0.trans (b1.mono bA0.size))).mono ?_
  rintro e w2 ⟨rfl,b2⟩;have bE:=b1.trans (b2.mono b1.size)
  go_wp2_with fail
  refine ((uh hct) w2 (bA0.trans (bE.mono bA0.size))).mono ?_
  rintro e w3 ⟨rfl,hw3⟩;obtain rfl:w2=w3:=hw3.symm
  go_wp2_with fail
  refine ((uh hn) w2 (bA0.trans (bE.mono bA0.size))).mono ?_
  rintro e wN ⟨rfl,hcN,hkN⟩;have hk3:=(Kp.of bE).trans hkN;have hth:wN.there w.heap.size 0 3:=dt.zac (hZ wN hk3) (by decide)
  have HK:=Hi ((Kp.of bA0).trans hk3);have HC:=Hi hcN;have HT:=Hi (show wN.there w.heap.size 0 V.toArray.size from by rw[show V.toArray.size=3 from by simpa using uh hV3];exact hth)
  have HI:=Hi (show (prog.info? 84).map (·.size)=some V.toArray.size from by rw[show V.toArray.size=3 from by simpa using uh hV3];exact infoNm)
  clear hk3 hkN hcN hth bE hZ bA0
  go_wp2_with (first
   | refine wpList_store_mid (by rfl) 84 _ _ (by rfl) w.heap.size 0 V.toArray (by rfl) (by rfl) (uh HT) (uh HI) (dt.zab (uh hV1)) ?_)
  refine bodyPost_ret (rgn.zaa rfl _ _ w.heap.size 0 V _ rfl (World.rangeAt_setCells_same _ _ _ _ (by have:=uh HT;simpa using this)) underlying84 rfl (by have:=uh HI;simpa using this)) rfl ?_
  exact⟨rfl,(uh HC).out hne hnp _ _,(uh HK).out (lr _) _ _⟩
def Cu.word(c:Cu)(q:ByteArray):Cu:=if c.isW [q] then c.take else c
theorem zd2{c:Cu}{ws:List ByteArray}(h:c.Ok)(hp:c.isW ws=true):c.ix+1<c.ts.length:=zbu h (by unfold Cu.isW at hp;simp at hp;exact hp.1)
theorem zj7(B p:Nat)(c:Cu)(q:ByteArray)(w:World)(h:CurAt w B p c):Calls prog 39 #[ptr B,.string q] w fun e w'=>e = .returned (.bool (c.isW [q]))∧CurAt w' B p (c.word q)∧Kp B w w':=by
 have bA:=qA w;have hi:=Hi (fun W (bb:Below w.heap.size w W) b (hw:Wds W b 1 1 [q])=>zdb B p c b 1 1 [q] W (h.below bb) hw (by omega))
 have ht:=Hi (fun W (bb:Below w.heap.size w W)=>zcg B p c (c.isW [q]) W (h.below bb) (zd2 h.ok))
 have hs:=Hi (show c.word q=if c.isW [q] then c.take else c from rfl)
 obtain⟨R,hR⟩:∃ R,R=c.isW [q]:=⟨_,rfl⟩;rw[←hR] at hi ht hs ⊢;clear h hR;unfold ptr at hi ht ⊢
 go_enter func39,ntmps39
 go_wp2_with fail
 refine ((uh hi) _ ((uh bA) _) w.heap.size ⟨rfl,by omega,by simp,fun i hi=>?_⟩).mono ?_
 ·obtain rfl:i=0:=by omega
  exact (zG (heap_alloc_new w _) 0).trans rfl
 rintro e w1 ⟨rfl,b1⟩;have b1':=((uh bA) _).trans (b1.mono ((uh bA) _).size);clear b1
 go_wp2_with fail
 refine ((uh ht) w1 b1').mono ?_
 rintro e w2 ⟨rfl,hc,hk⟩;clear hi ht
 go_wp2_with fail
 go_ret
 exact⟨rfl,by rw[uh hs];exact hc,(Kp.of b1').trans hk⟩
end cu
namespace cr
open ints (Hi uh)
open dt (Dt Kp RowAt Ow Grow)
open cu
theorem zmK{c:Cu}{ws:List ByteArray}{k:Nat}(hk:k<ws.length)(h:isK c 3 (ws.getD k em)=true):c.isW ws=true:=by
 obtain⟨h1,h2,h3⟩:=of_decide_eq_true h;unfold Cu.isW inW;rw[show c.isN=true from decide_eq_true ⟨h1,h2⟩,Bool.true_and,List.any_eq_true]
 refine⟨ws[k],List.getElem_mem hk,?_⟩
 rw[List.getD_eq_getElem?_getD,List.getElem?_eq_getElem hk] at h3
 exact decide_eq_true h3.symm
theorem zhp{c:Cu}{ws:List ByteArray}(h:∀ j,j<ws.length→isK c 3 (ws.getD j em)=false):c.isW ws=false:=by
 cases hN:c.isN with
 | false=>unfold Cu.isW;rw[hN];rfl
 | true =>
  unfold Cu.isW inW;rw[hN,Bool.true_and,←Bool.not_eq_true,List.any_eq_true];rintro ⟨x,hm,hx⟩;obtain⟨j,hj,rfl⟩:=List.mem_iff_getElem.1 hm;have h1:=of_decide_eq_false (h j hj)
  apply h1
  rw[List.getD_eq_getElem?_getD,List.getElem?_eq_getElem hj]
  exact⟨(zk9 hN).1,(zk9 hN).2,(of_decide_eq_true hx).symm⟩
theorem zk8(c:Cu)(q:ByteArray):isK c 3 q=c.isW [q]:=by
 cases h:isK c 3 q with
 | true=>exact (zmK (ws:=[q]) (k:=0) (by simp) h).symm
 | false=>exact (zhp (ws:=[q]) (fun j hj=>by
   have:j=0:=by simp at hj;exact hj
   subst this
   exact h)).symm
theorem zcD(B p:Nat)(c:Cu)(b n cp:Nat)(ws:List ByteArray)(w:World)(h:RurAt w B p c)(hw:Wds w b n cp ws)(hn:n≤1048576) :
  Calls prog 36 #[ptr B,.slice (some ⟨b,0,none⟩) n cp] w fun e w'=>e = .returned (.bool (c.isW ws))∧Below w.heap.size w w':=by
 have hI:=Hi (fun W (bb:Below w.heap.size w W) q=>zla B p c 3 q W (h.below bb))
 have HL:=Hi hw.len;have HW:=Hi hw;have HY:=Hi (fun k (hk:k<n) (e:isK c 3 (ws.getD k em)=true)=>zmK (by rw[uh HL];exact hk) e)
 have HNo:=Hi (fun (e:∀ j,j<n→isK c 3 (ws.getD j em)=false)=>zhp (c:=c) (ws:=ws) (fun j hj=>e j (by rw[←uh HL];exact hj)))
 obtain⟨RR,hRR⟩:∃ RR,RR=c.isW ws:=⟨_,rfl⟩;rw[←hRR] at HY HNo ⊢;clear h hw hRR;unfold ptr at hI ⊢
 go_enter func36,ntmps36
 go_wp2_with fail
 go_loopw [5] (fun i wr=>∃ k:Nat,k≤n∧i = .int .i64 k∧Below w.heap.size w wr∧Hid (∀ j,j<k→isK c 3 (ws.getD j em)=false)) (fun i _=>n-(intOf i).toNat)
 case atStart=>exact⟨0,Nat.zero_le _,rfl,Below.refl _ _,Hi (fun j hj=>by omega)⟩
 case round =>
  obtain⟨k,hk,rfl,hb,hno⟩:=hrel
  by_cases hlt:k<n
  ·have ki:(k:Int)<(n:Int):=by omega
   have c1:=((uh HW).below hb).at_ k hlt;have hI1:=Hi ((uh hI) wr hb (ws.getD k em));have HYk:=Hi ((uh HY) k hlt);obtain⟨R,hR⟩:∃ R,R=isK c 3 (ws.getD k em):=⟨_,rfl⟩;rw[←hR] at hI1 HYk;have HR:=Hi hR;obtain⟨x,hx⟩:∃ x,x=ws.getD k em:=⟨_,rfl⟩;rw[←hx] at c1 hI1;clear hR hx
   cases R with
   | true =>
    go_wp2_with fail
    refine (uh hI1).mono ?_
    rintro e w1 ⟨rfl,b1⟩
    go_wp2_with fail
    go_ret
    exact⟨by rw[(uh HYk) (by first | exact trivial | rfl)];rfl,hb.trans (b1.mono hb.size)⟩
   | false =>
    go_wp2_with fail
    refine (uh hI1).mono ?_
    rintro e w1 ⟨rfl,b1⟩
    go_wp2_with fail
    go_roundw
    case rel =>
     refine⟨k+1,by omega,by go_num,hb.trans (b1.mono hb.size),Hi (fun j hj=>?_)⟩
     by_cases e:j=k
     ·rw[e];exact (uh HR).symm
     ·exact uh hno j (by omega)
    case measure=>simp[intOf];omega
  ·obtain rfl:k=n:=by omega
   have ki:¬(k:Int)<(k:Int):=by omega
   go_wp2_with fail
   go_ret
   exact⟨by rw[(uh HNo) (uh hno)];rfl,hb⟩
theorem zjQ(B p:Nat)(c:Cu)(q:ByteArray)(w:World)(h:RurAt w B p c):Calls prog 40 #[ptr B,.string q] w fun e w'=>e = .returned (.bool (c.isW [q]))∧RurAt w' B p (c.word q)∧Kp B w w':=by
 have hi:=Hi (zla B p c 3 q w h);rw[zk8] at hi;have HH:=Hi h;have hlt:=h.lt
 cases hP:c.isW [q] with
 | false =>
  have hs:=Hi (show c.word q=c from by simp[Cu.word,hP])
  rw[hP] at hi;clear h hP;unfold ptr at hi ⊢
  go_enter func40,ntmps40
  go_wp2_with fail
  refine (uh hi).mono ?_
  rintro e w1 ⟨rfl,b1⟩
  go_wp2_with fail
  go_ret
  exact⟨rfl,by rw[uh hs];exact (uh HH).below b1,Kp.of b1⟩
 | true =>
  have hs:=Hi (show c.word q=c.take from by simp[Cu.word,hP])
  have hm:=zd2 h.ok hP;have hlen:=h.len;rw[hP] at hi;clear hP h;unfold ptr at hi ⊢
  go_enter func40,ntmps40
  go_wp2_with fail
  refine (uh hi).mono ?_
  rintro e w1 ⟨rfl,b1⟩;have h1:=(uh HH).below b1;obtain⟨cap,-,d1,f1,-⟩:=h1.c01;have HT:=Hi (h1.tak hm);have hn:(c.ix:Int)+1<9223372036854775807:=by omega
  clear hi h1;obtain⟨ix,hix⟩:∃ ix,ix=c.ix:=⟨_,rfl⟩;rw[←hix] at d1 HT hn;clear hix
  go_wp2_with fail
  go_ret
  exact⟨rfl,by rw[uh hs];exact uh HT,(Kp.of b1).trans ((Kp.refl _ _).set 1 _)⟩
theorem zgN(B p:Nat)(c:Cu)(w:World)(h:RurAt w B p c):Calls prog 52 #[ptr B] w fun e w'=>e = .returned (.tuple #[])∧RurAt w' B p (c.stop 70)∧Kp B w w':=by
 have hS:=Hi (zbQ B p c 70 w h);clear h;unfold ptr at hS ⊢
 go_enter func52,ntmps52
 go_wp2_with fail
 refine (uh hS).mono ?_
 rintro e w1 ⟨rfl,hc,hk⟩
 go_wp2_with fail
 go_end0
 exact⟨rfl,hc,hk⟩
theorem zdm(B p:Nat)(c:Cu)(w:World)(h:RurAt w B p c):Calls prog 30 #[ptr B] w fun e w'=>e = .returned (.agg c.tok.cells.toArray)∧Below w.heap.size w w':=by
 have hlt:=h.lt;have hplt:=h.plt;have hix:=h.ok.lt;have hlen:=h.len;have hr:=h.tk;obtain⟨cap,d0,d1,-,-⟩:=h.c01;have bA:=qA w;obtain⟨ix,hk⟩:∃ ix,ix=c.ix:=⟨_,rfl⟩;obtain⟨n,hk2⟩:∃ n,n=c.ts.length:=⟨_,rfl⟩;obtain⟨t,hk3⟩:∃ t,t=c.tok:=⟨_,rfl⟩;rw[←hk,←hk2] at hix;rw[←hk2] at d0 hlen;rw[←hk] at d1 hr;rw[←hk3] at hr ⊢;clear h hk hk2 hk3;have ii:(ix:Int)<(n:Int):=by omega
 have D0:=qc hlt d0;have D1:=qc hlt d1;have HR:=Hi (fun o=>hr.below ((uh bA) o))
 have E:=qg hr;obtain⟨e0,e1,e2,e3,e4,e5,e6⟩:=qe E;clear d0 d1 hr E HR;unfold ptr
 go_enter func30,ntmps30
 go_wp2_with fail
 go_region
 go_wp2_with fail
 have hQ:∀ o,(w.alloc o).drew.heap[w.heap.size]? = some o:=fun o=>heap_alloc_new w o
 refine bodyPost_ret (rgn.zai rfl _ _ w.heap.size 0 [.int .i64 t.k,.int .i64 t.ln,.int .i64 t.co,.int .i64 t.fr,.int .i64 t.to,.string t.tx,.string t.va] _ rfl (dt.zap (hQ _) 0 [.int .i64 t.k,.int .i64 t.ln,.int .i64 t.co,.int .i64 t.fr,.int .i64 t.to,.string t.tx,.string t.va] (fun j u hu=>by rw[Nat.zero_add];simpa using hu)) underlying77 rfl lx.infoTk) rfl ?_
 exact⟨rfl,Go.below_drewN ((uh bA) _) 1⟩
theorem zeS(B p:Nat)(c:Cu)(b n cp:Nat)(ws:List ByteArray)(w:World)(h:RurAt w B p c)(hw:Wds w b n cp ws)(hn:n≤1048576) :
  Calls prog 44 #[ptr B,.slice (some ⟨b,0,none⟩) n cp] w fun e w'=>e = .returned (.tuple #[.agg (nmV c.tok (c.isW ws)).toArray,.bool (c.isW ws)])∧RurAt w' B p (c.nmC (c.isW ws))∧Kp B w w':=by
 have hI:=Hi (fun W (bb:Below w.heap.size w W)=>zcD B p c b n cp ws W (h.below bb) (hw.below bb) hn)
 have hN:=Hi (fun W (bb:Below w.heap.size w W)=>zd6 B p c (c.isW ws) W (h.below bb) (fun e=>zd2 h.ok e))
 have hV3:=zfb c.tok (c.isW ws);have hlt:=h.lt;have hplt:=h.plt;have hne:B≠w.heap.size:=by omega
 have hnp:p≠w.heap.size:=by omega
 have hs1:(if c.isW ws then [Value.string c.tok.tx,.int .i64 c.tok.ln,.int .i64 c.tok.co] else [.string em,.int .i64 0,.int .i64 0])=nmV c.tok (c.isW ws):=rfl
 have hs2:(if c.isW ws then c.take else c.stop 70)=c.nmC (c.isW ws):=rfl
 rw[hs1,hs2] at hN;obtain⟨R,hR⟩:∃ R,R=c.isW ws:=⟨_,rfl⟩;rw[←hR] at hI hN hV3 ⊢;obtain⟨V,hV⟩:∃ V,V=nmV c.tok R:=⟨_,rfl⟩;rw[←hV] at hN hV3 ⊢;obtain⟨x,y,z,hxyz⟩:∃ x y z,V=[.string x,.int .i64 y,.int .i64 z]:=by rw[hV];unfold nmV;cases R <;> exact⟨_,_,_,rfl⟩
 subst hxyz;obtain⟨C,hC⟩:∃ C,C=c.nmC R:=⟨_,rfl⟩;rw[←hC] at hN ⊢;have bA:=qA w;clear h hw hR hV hC hs1 hs2 hV3;unfold ptr at hI hN ⊢
 go_enter func44,ntmps44
 go_wp2_with fail
 refine ((uh hI) _ ((uh bA) _)).mono ?_
 rintro e w1 ⟨rfl,b1⟩;have b01:=((uh bA) (.cells #[Value.string { data:=#[] },.int .i64 0,.int .i64 0] 84)).trans (b1.mono ((uh bA) _).size);have hs1:w.heap.size<w1.heap.size:=by have:=b1.size;simp at this;omega
 have hZ1:=(b1.block w.heap.size (by simp)).trans (heap_alloc_new w _)
 have HB:=Hi b01;clear b01 b1
 go_wp2_with fail
 refine ((uh hN) w1 (uh HB)).mono ?_
 rintro e w2 ⟨rfl,hc2,hk2,-⟩;have HT:=Hi (show w2.there w.heap.size 0 3 from dt.zac ((hk2.block w.heap.size hs1 (fun e=>hne e.symm)).trans hZ1) (by decide))
 have HC:=Hi hc2;have HK:=Hi ((Kp.of (uh HB)).trans hk2);clear hI hN hc2 hk2 hZ1
 go_wp2_with (first
  | refine wpList_store_mid (by rfl) 84 _ _ (by rfl) w.heap.size 0 #[.string x,.int .i64 y,.int .i64 z] (by rfl) (by rfl) (uh HT) infoNm (dt.zab (cs:=[.string x,.int .i64 y,.int .i64 z]) (by rfl)) ?_)
 refine bodyPost_ret (rgn.zaa rfl _ _ w.heap.size 0 [.string x,.int .i64 y,.int .i64 z] _ rfl (World.rangeAt_setCells_same _ _ _ _ (uh HT)) underlying84 rfl infoNm) rfl ?_
 exact⟨rfl,(uh HC).out hne hnp 0 _,(uh HK).out (lr _) 0 _⟩
theorem zjo(B p:Nat)(c:Cu)(b n0 cp:Nat)(ws:List ByteArray)(w:World)(h:RurAt w B p c)(hw:Wds w b n0 cp ws)(hn0:n0≤1048576):Calls prog 46 #[ptr B,.slice (some ⟨b,0,none⟩) n0 cp] w fun e w' =>
  e = .returned (.tuple #[.agg (nmV c.tok (c.isN && !inW ws c.tok.tx)).toArray,.bool (c.isN && !inW ws c.tok.tx)])∧RurAt w' B p (c.nmC (c.isN && !inW ws c.tok.tx))∧Kp B w w':=by
 obtain⟨so,hso⟩:∃ so,so=(c.isN && !inW ws c.tok.tx):=⟨_,rfl⟩;rw[←hso];have hn:=Hi (fun W (hc:RurAt W B p c)=>zd6 B p c so W hc (fun e=>zbu h.ok (by rw[hso] at e;simp only[Bool.and_eq_true] at e;exact e.1)))
 have hs:=Hi (show c.nmC so=if so then c.take else c.stop 70 from rfl)
 have hs2:=Hi (show nmV c.tok so=if so then [.string c.tok.tx,.int .i64 c.tok.ln,.int .i64 c.tok.co] else [.string em,.int .i64 0,.int .i64 0] from rfl)
 have hV3:=Hi (zfb c.tok so).1;have hV1:=Hi (zfb c.tok so).2;have hIW:=Hi (fun W (bb:Below w.heap.size w W)=>zcD B p c b n0 cp ws W (h.below bb) (hw.below bb) hn0)
 have hRW:c.isW ws=(c.isN && inW ws c.tok.tx):=rfl;obtain⟨RW,eRW⟩:∃ RW,RW=c.isW ws:=⟨_,rfl⟩;rw[←eRW] at hIW hRW;have hlt:=h.lt;have hplt:=h.plt;have hix:=h.ok.lt;have hlen:=h.len;have hne:B≠w.heap.size:=by omega
 have hnp:p≠w.heap.size:=by omega
 have HH:=Hi h;obtain⟨V,hV⟩:∃ V,V=nmV c.tok so:=⟨_,rfl⟩;obtain⟨C,hC⟩:∃ C,C=c.nmC so:=⟨_,rfl⟩;rw[←hV] at hs2 hV3 hV1 ⊢;rw[←hC] at hs ⊢;rw[←uh hs,←uh hs2] at hn
 have hP0:so=(decide (c.kd=0∧c.tok.k=3) && !RW):=by
  rw[hso,hRW,show c.isN=decide (c.kd=0∧c.tok.k=3) from rfl]
  cases decide (c.kd=0∧c.tok.k=3) <;> cases inW ws c.tok.tx <;> rfl
 have hP:=Hi hP0;clear hP0 hso hRW eRW;obtain⟨R,hR⟩:∃ R,R=so:=⟨_,rfl⟩;rw[←hR] at hn hP hs2 ⊢;have hr:=h.tk;obtain⟨cap,d0,d1,-,-⟩:=h.c01;obtain⟨-,-,-,d4⟩:=h.c2;obtain⟨ix,hk⟩:∃ ix,ix=c.ix:=⟨_,rfl⟩;obtain⟨n,hk2⟩:∃ n,n=c.ts.length:=⟨_,rfl⟩;obtain⟨t,hk3⟩:∃ t,t=c.tok:=⟨_,rfl⟩;obtain⟨kd,hk4⟩:∃ kd,kd=c.kd:=⟨_,rfl⟩;rw[←hk,←hk2] at hix
 rw[←hk2] at d0 hlen;rw[←hk] at d1 hr;rw[←hk3] at hr hP hs2;rw[←hk4] at hP d4;have e0:w.cell? ⟨p,ix * 7,none⟩=some (.int .i64 t.k):=hr 0 _ rfl;have hpB:=h.box.choose_spec.2.1;have hVT:=Hi (show (R=true→V=[.string t.tx,.int .i64 t.ln,.int .i64 t.co])∧(R=false→V=[.string em,.int .i64 0,.int .i64 0]) from ⟨fun e=>by rw[uh hs2,e];rfl,fun e=>by rw[uh hs2,e];rfl⟩)
 clear h hw hR hV hC hs hs2 hk hk2 hk3 hk4 hr;have ii:(ix:Int)<(n:Int):=by omega
 have hR0:=Hi (show kd≠0→R=false from fun e=>by rw[uh hP];simp[e])
 have hR1:=Hi (show t.k≠3→R=false from fun e=>by rw[uh hP];simp[e])
 have hR2:=Hi (show kd=0→t.k=3→R = !RW from fun e e2=>by rw[uh hP];simp[e,e2])
 by_cases h0:kd=0
 ·by_cases h1:t.k=3
  ·cases RW with
   | false =>
    obtain rfl:R=true:=(uh hR2) h0 h1;have HV:=Hi (show V=[Value.string t.tx,.int .i64 t.ln,.int .i64 t.co] from (uh hVT).1 rfl)
    have b1:(t.k==3)=true:=by simpa using h1
    subst h0;clear h1 hR0 hR1 hR2 hVT;obtain rfl:=uh HV;unfold ptr at hn ⊢;have hW:=hIW;unfold ptr at hW
    go_enter func46,ntmps46
    go_wp2_with fail
    have bA0:Below w.heap.size w (w.alloc (.cells #[Value.string { data:=#[] },.int .i64 0,.int .i64 0] 84)):=ba;have hZ:=(fun W (hk:Kp B (w.alloc (.cells #[Value.string { data:=#[] },.int .i64 0,.int .i64 0] 84)) W)=>show W.heap[w.heap.size]? = some (.cells #[Value.string { data:=#[] },.int .i64 0,.int .i64 0] 84 (0,0)) from (hk.block w.heap.size (by simp) (by omega)).trans (heap_alloc_new w _))
    obtain⟨wA,hwA⟩:∃ wA,wA=w.alloc (.cells #[Value.string { data:=#[] },.int .i64 0,.int .i64 0] 84):=⟨_,rfl⟩;rw[←hwA] at bA0 hZ ⊢;clear hwA;refine ((uh hW) wA bA0).mono ?_
    rintro e w1 ⟨rfl,b1w⟩;have bA0:=bA0.trans (b1w.mono bA0.size);have hZ:=fun W (hk:Kp B w1 W)=>hZ W ((Kp.of b1w).trans hk)
    have D0:=(bA0.cell (p:=⟨B,0,none⟩) hlt).trans d0;have D1:=(bA0.cell (p:=⟨B,1,none⟩) hlt).trans d1;have D4:=(bA0.cell (p:=⟨B,4,none⟩) hlt).trans d4;have E0:=(bA0.cell (p:=⟨p,ix * 7,none⟩) hplt).trans e0;clear d0 d1 d4 e0 hW hIW b1w;clear hV3 hV1 hP
    go_wp2_with fail
    have bd:Below w1.heap.size w1 { w1 with drawn:=w1.drawn+1 }:=(Below.refl _ _).drew
    have bD:Below w.heap.size w { w1 with drawn:=w1.drawn+1 }:=bA0.trans (bd.mono bA0.size)
    have hkD:Kp B w1 { w1 with drawn:=w1.drawn+1 }:=Kp.of bd
    have hS0:({ w1 with drawn:=w1.drawn+1 }:World).cell? ⟨B,0,none⟩=some (.slice (some ⟨p,0,none⟩) n cap)∧({ w1 with drawn:=w1.drawn+1 }:World).cell? ⟨p,ix * 7,none⟩=some (.int .i64 t.k):=⟨(bd.cell (p:=⟨B,0,none⟩) (Nat.lt_of_lt_of_le hlt bA0.size)).trans D0,(bd.cell (p:=⟨p,ix * 7,none⟩) (Nat.lt_of_lt_of_le hplt bA0.size)).trans E0⟩
    have G1:=(bd.cell (p:=⟨B,1,none⟩) (Nat.lt_of_lt_of_le hlt bA0.size)).trans D1;have G4:=(bd.cell (p:=⟨B,4,none⟩) (Nat.lt_of_lt_of_le hlt bA0.size)).trans D4;refine wp_region_noPanic ?_
    refine wp_region_held (S:=fun w'=>w'.cell? ⟨B,0,none⟩=some (.slice (some ⟨p,0,none⟩) n cap)∧w'.cell? ⟨p,ix * 7,none⟩=some (.int .i64 t.k)) mixed ?_
    refine rgn.u 0 (v:=?v1) ?h1 hS0 ?_
    case h1=>(intro w' hw';go_simp;try with_reducible rfl)
    simp only[zA,zB,zC,Act.put,zD,zE,zF];refine rgn.u 1 (v:=?v2) ?h2 hS0 ?_
    case h2=>(intro w' hw';go_simp;try with_reducible rfl)
    simp only[zA,zB,zC,Act.put,zD,zE,zF];refine rgn.u 2 (v:=?v3) ?h3 hS0 ?_
    case h3=>(intro w' hw';go_simp;try with_reducible rfl)
    simp only[zA,zB,zC,Act.put,zD,zE,zF];refine rgn.u 3 (v:=?v4) ?h4 hS0 ?_
    case h4=>(intro w' hw';go_simp;try with_reducible rfl)
    simp only[zA,zB,zC,Act.put,zD,zE,zF];refine rgn.oneV (i:=4) (v:=?v5) _ rfl (by kernel_rfl) (by rfl) ?hy5 hS0 ?_
    case hy5=>(skip;go_simp;try with_reducible rfl)
    simp only[zA,zB,zC,Act.put,zD,zE,zF];refine rgn.u 5 (v:=?v6) ?h6 hS0 ?_
    case h6=>(intro w' hw';go_simp;try with_reducible rfl)
    simp only[zA,zB,zC,Act.put,zD,zE,zF];refine rgn.u 6 (v:=?v7) ?h7 hS0 ?_
    case h7=>(intro w' hw';go_simp;try with_reducible rfl)
    simp only[zA,zB,zC,Act.put,zD,zE,zF];refine rgn.u 7 (v:=?v8) ?h8 hS0 ?_
    case h8=>(intro w' hw';go_simp;try with_reducible rfl)
    simp only[zA,zB,zC,Act.put,zD,zE,zF];refine rgn.u 8 (v:=?v9) ?h9 hS0 ?_
    case h9=>(intro w' hw';go_simp;try with_reducible rfl)
    simp only[zA,zB,zC,Act.put,zD,zE,zF];refine rgn.u 9 (v:=?v10) ?h10 hS0 ?_
    case h10=>(intro w' hw';go_simp;try with_reducible rfl)
    simp only[zA,zB,zC,Act.put,zD,zE,zF];refine rgn.u 10 (v:=?v11) ?h11 hS0 ?_
    case h11=>(intro w' hw';have q0:=hw'.1;go_simp;try with_reducible rfl)
    simp only[zA,zB,zC,Act.put,zD,zE,zF];refine rgn.u 11 (v:=?v12) ?h12 hS0 ?_
    case h12=>(intro w' hw';go_simp;try with_reducible rfl)
    simp only[zA,zB,zC,Act.put,zD,zE,zF];refine rgn.u 12 (v:=?v13) ?h13 hS0 ?_
    case h13=>(intro w' hw';go_simp;try with_reducible rfl)
    simp only[zA,zB,zC,Act.put,zD,zE,zF];refine rgn.u 13 (v:=?v14) ?h14 hS0 ?_
    case h14=>(intro w' hw';go_simp;try with_reducible rfl)
    simp only[zA,zB,zC,Act.put,zD,zE,zF];refine rgn.oneV (i:=14) (v:=?v15) _ rfl (by kernel_rfl) (by rfl) ?hy15 hS0 ?_
    case hy15=>(skip;go_simp;try with_reducible rfl)
    simp only[zA,zB,zC,Act.put,zD,zE,zF];refine rgn.u 15 (v:=?v16) ?h16 hS0 ?_
    case h16=>(intro w' hw';go_simp;try with_reducible rfl)
    simp only[zA,zB,zC,Act.put,zD,zE,zF];refine rgn.u 16 (v:=?v17) ?h17 hS0 ?_
    case h17=>(intro w' hw';go_simp;try with_reducible rfl)
    simp only[zA,zB,zC,Act.put,zD,zE,zF];refine rgn.u 17 (v:=?v18) ?h18 hS0 ?_
    case h18=>(intro w' hw';have q0:=hw'.2;go_simp;try with_reducible rfl)
    simp only[zA,zB,zC,Act.put,zD,zE,zF];refine rgn.u 18 (v:=?v19) ?h19 hS0 ?_
    case h19=>(intro w' hw';go_simp;try with_reducible rfl)
    simp only[zA,zB,zC,Act.put,zD,zE,zF];refine rgn.u 19 (v:=?v20) ?h20 hS0 ?_
    case h20=>(intro w' hw';go_simp;try with_reducible rfl)
    simp only[zA,zB,zC,Act.put,zD,zE,zF];refine rgn.u 20 (v:=?v21) ?h21 hS0 ?_
    case h21=>(intro w' hw';go_simp;try with_reducible rfl)
    simp only[zA,zB,zC,Act.put,zD,zE,zF];refine rgn.u 21 (v:=?v22) ?h22 hS0 ?_
    case h22=>(intro w' hw';go_simp;try with_reducible rfl)
    simp only[zA,zB,zC,Act.put,zD,zE,zF];refine rgn.u 22 (v:=?v23) ?h23 hS0 ?_
    case h23=>(intro w' hw';go_simp;try with_reducible rfl)
    simp only[zA,zB,zC,Act.put,zD,zE,zF];refine rgn.u 23 (v:=?v24) ?h24 hS0 ?_
    case h24=>(intro w' hw';go_simp;try with_reducible rfl)
    simp only[zA,zB,zC,Act.put,zD,zE,zF];refine rgn.one (i:=24) _ rfl (by kernel_rfl) (by rfl) ?_
    simp only[zA,zB,zC,Act.put,zD,zE,zF];refine rgn.zat _ _ _ _ rfl func85 (by kernel_rfl) (by kernel_rfl) #[.pointer (some ⟨B,0,none⟩),.bool true] (by first | kernel_rfl | (simp only[List.map_toArray,List.map_cons,List.map_nil];rfl)) ?_
    refine ((uh hn) _ ((uh HH).below bD)).mono ?_
    rintro e wN ⟨rfl,hcN,hkN,hz0⟩;have hk3:=hkD.trans hkN;have hbk:=hZ wN hk3;have hth:wN.there w.heap.size 0 3:=dt.zac hbk (by decide)
    have HK:=(Kp.of bA0).trans hk3;have hSN:wN.cell? ⟨B,0,none⟩=some (.slice (some ⟨p,0,none⟩) n cap)∧wN.cell? ⟨p,ix * 7,none⟩=some (.int .i64 t.k):=⟨hz0.trans hS0.1,(hkN.cell (Nat.lt_of_lt_of_le hplt (Nat.le_trans bA0.size bd.size)) hpB).trans hS0.2⟩;refine⟨_,rfl,hSN,?_⟩
    clear hS0 G1 G4;have hS0:=hSN;simp only[zA,zB,zC,Act.put,zD,zE,zF];refine rgn.u 25 (v:=?v25) ?h25 hS0 ?_
    case h25=>(intro w' hw';go_simp;try with_reducible rfl)
    simp only[zA,zB,zC,Act.put,zD,zE,zF];refine rgn.u 26 (v:=?v26) ?h26 hS0 ?_
    case h26=>(intro w' hw';go_simp;try with_reducible rfl)
    simp only[zA,zB,zC,Act.put,zD,zE,zF];refine rgn.one (i:=27) _ rfl (by kernel_rfl) (by rfl) ?_
    simp only[zA,zB,zC,Act.put,zD,zE,zF];refine wp_store_mid 84 _ _ (by rfl) w.heap.size 0 ([Value.string t.tx,.int .i64 t.ln,.int .i64 t.co]).toArray (by rfl) (by rfl) hth infoNm (dt.zab (cs:=[Value.string t.tx,.int .i64 t.ln,.int .i64 t.co]) (by rfl)) ?_
    have hS3:(wN.setCells w.heap.size 0 [Value.string t.tx,.int .i64 t.ln,.int .i64 t.co]).cell? ⟨B,0,none⟩=some (.slice (some ⟨p,0,none⟩) n cap)∧(wN.setCells w.heap.size 0 [Value.string t.tx,.int .i64 t.ln,.int .i64 t.co]).cell? ⟨p,ix * 7,none⟩=some (.int .i64 t.k):=⟨(dt.zaf (dt.zae w.heap.size B hne _ 0 _) _).trans hS0.1,(dt.zaf (dt.zae w.heap.size p hnp _ 0 _) _).trans hS0.2⟩
    refine⟨hS3,?_⟩
    clear hS0;have hS0:=hS3
    try simp only[zA,zB,zC,Act.put,zD,zE,zF]
    refine rgn.u 28 (v:=?v27) ?h27 hS0 ?_
    case h27=>(intro w' hw';go_simp;try with_reducible rfl)
    simp only[zA,zB,zC,Act.put,zD,zE,zF];refine wpAnyH_done (by kernel_rfl) ?_ _;refine NoPanic.normal ?_
    go_wp2_with fail
    refine bodyPost_ret (rgn.zaa rfl _ _ w.heap.size 0 [Value.string t.tx,.int .i64 t.ln,.int .i64 t.co] _ rfl (World.rangeAt_setCells_same _ _ _ _ hth) underlying84 rfl infoNm) rfl ?_
    exact⟨rfl,hcN.out hne hnp 0 [Value.string t.tx,.int .i64 t.ln,.int .i64 t.co],HK.out (lr _) 0 [Value.string t.tx,.int .i64 t.ln,.int .i64 t.co]⟩
   | true =>
    obtain rfl:R=false:=(uh hR2) h0 h1;have HV:=Hi (show V=[Value.string em,.int .i64 0,.int .i64 0] from (uh hVT).2 rfl)
    have b1:(t.k==3)=true:=by simpa using h1
    subst h0;clear h1 hR0 hR1 hR2 hVT;obtain rfl:=uh HV;unfold ptr at hn ⊢;have hW:=hIW;unfold ptr at hW
    go_enter func46,ntmps46
    go_wp2_with fail
    have bA0:Below w.heap.size w (w.alloc (.cells #[Value.string { data:=#[] },.int .i64 0,.int .i64 0] 84)):=ba;have hZ:=(fun W (hk:Kp B (w.alloc (.cells #[Value.string { data:=#[] },.int .i64 0,.int .i64 0] 84)) W)=>show W.heap[w.heap.size]? = some (.cells #[Value.string { data:=#[] },.int .i64 0,.int .i64 0] 84 (0,0)) from (hk.block w.heap.size (by simp) (by omega)).trans (heap_alloc_new w _))
    obtain⟨wA,hwA⟩:∃ wA,wA=w.alloc (.cells #[Value.string { data:=#[] },.int .i64 0,.int .i64 0] 84):=⟨_,rfl⟩;rw[←hwA] at bA0 hZ ⊢;clear hwA;refine ((uh hW) wA bA0).mono ?_
    rintro e w1 ⟨rfl,b1w⟩;have bA0:=bA0.trans (b1w.mono bA0.size);have hZ:=fun W (hk:Kp B w1 W)=>hZ W ((Kp.of b1w).trans hk)
    have D0:=(bA0.cell (p:=⟨B,0,none⟩) hlt).trans d0;have D1:=(bA0.cell (p:=⟨B,1,none⟩) hlt).trans d1;have D4:=(bA0.cell (p:=⟨B,4,none⟩) hlt).trans d4;have E0:=(bA0.cell (p:=⟨p,ix * 7,none⟩) hplt).trans e0;clear d0 d1 d4 e0 hW hIW b1w;clear hV3 hV1 hP
    go_wp2_with fail
    have bd:Below w1.heap.size w1 { w1 with drawn:=w1.drawn+1 }:=(Below.refl _ _).drew
    have bD:Below w.heap.size w { w1 with drawn:=w1.drawn+1 }:=bA0.trans (bd.mono bA0.size)
    have hkD:Kp B w1 { w1 with drawn:=w1.drawn+1 }:=Kp.of bd
    have hS0:({ w1 with drawn:=w1.drawn+1 }:World).cell? ⟨B,0,none⟩=some (.slice (some ⟨p,0,none⟩) n cap)∧({ w1 with drawn:=w1.drawn+1 }:World).cell? ⟨p,ix * 7,none⟩=some (.int .i64 t.k):=⟨(bd.cell (p:=⟨B,0,none⟩) (Nat.lt_of_lt_of_le hlt bA0.size)).trans D0,(bd.cell (p:=⟨p,ix * 7,none⟩) (Nat.lt_of_lt_of_le hplt bA0.size)).trans E0⟩
    have G1:=(bd.cell (p:=⟨B,1,none⟩) (Nat.lt_of_lt_of_le hlt bA0.size)).trans D1;have G4:=(bd.cell (p:=⟨B,4,none⟩) (Nat.lt_of_lt_of_le hlt bA0.size)).trans D4;refine wp_region_noPanic ?_
    refine wp_region_held (S:=fun w'=>w'.cell? ⟨B,0,none⟩=some (.slice (some ⟨p,0,none⟩) n cap)∧w'.cell? ⟨p,ix * 7,none⟩=some (.int .i64 t.k)) mixed ?_
    refine rgn.u 0 (v:=?v28) ?h28 hS0 ?_
    case h28=>(intro w' hw';go_simp;try with_reducible rfl)
    simp only[zA,zB,zC,Act.put,zD,zE,zF];refine rgn.u 1 (v:=?v29) ?h29 hS0 ?_
    case h29=>(intro w' hw';go_simp;try with_reducible rfl)
    simp only[zA,zB,zC,Act.put,zD,zE,zF];refine rgn.u 2 (v:=?v30) ?h30 hS0 ?_
    case h30=>(intro w' hw';go_simp;try with_reducible rfl)
    simp only[zA,zB,zC,Act.put,zD,zE,zF];refine rgn.u 3 (v:=?v31) ?h31 hS0 ?_
    case h31=>(intro w' hw';go_simp;try with_reducible rfl)
    simp only[zA,zB,zC,Act.put,zD,zE,zF];refine rgn.oneV (i:=4) (v:=?v32) _ rfl (by kernel_rfl) (by rfl) ?hy32 hS0 ?_
    case hy32=>(skip;go_simp;try with_reducible rfl)
    simp only[zA,zB,zC,Act.put,zD,zE,zF];refine rgn.u 5 (v:=?v33) ?h33 hS0 ?_
    case h33=>(intro w' hw';go_simp;try with_reducible rfl)
    simp only[zA,zB,zC,Act.put,zD,zE,zF];refine rgn.u 6 (v:=?v34) ?h34 hS0 ?_
    case h34=>(intro w' hw';go_simp;try with_reducible rfl)
    simp only[zA,zB,zC,Act.put,zD,zE,zF];refine rgn.u 7 (v:=?v35) ?h35 hS0 ?_
    case h35=>(intro w' hw';go_simp;try with_reducible rfl)
    simp only[zA,zB,zC,Act.put,zD,zE,zF];refine rgn.u 8 (v:=?v36) ?h36 hS0 ?_
    case h36=>(intro w' hw';go_simp;try with_reducible rfl)
    simp only[zA,zB,zC,Act.put,zD,zE,zF];refine rgn.u 9 (v:=?v37) ?h37 hS0 ?_
    case h37=>(intro w' hw';go_simp;try with_reducible rfl)
    simp only[zA,zB,zC,Act.put,zD,zE,zF];refine rgn.u 10 (v:=?v38) ?h38 hS0 ?_
    case h38=>(intro w' hw';have q0:=hw'.1;go_simp;try with_reducible rfl)
    simp only[zA,zB,zC,Act.put,zD,zE,zF];refine rgn.u 11 (v:=?v39) ?h39 hS0 ?_
    case h39=>(intro w' hw';go_simp;try with_reducible rfl)
    simp only[zA,zB,zC,Act.put,zD,zE,zF];refine rgn.u 12 (v:=?v40) ?h40 hS0 ?_
    case h40=>(intro w' hw';go_simp;try with_reducible rfl)
    simp only[zA,zB,zC,Act.put,zD,zE,zF];refine rgn.u 13 (v:=?v41) ?h41 hS0 ?_
    case h41=>(intro w' hw';go_simp;try with_reducible rfl)
    simp only[zA,zB,zC,Act.put,zD,zE,zF];refine rgn.oneV (i:=14) (v:=?v42) _ rfl (by kernel_rfl) (by rfl) ?hy42 hS0 ?_
    case hy42=>(skip;go_simp;try with_reducible rfl)
    simp only[zA,zB,zC,Act.put,zD,zE,zF];refine rgn.u 15 (v:=?v43) ?h43 hS0 ?_
    case h43=>(intro w' hw';go_simp;try with_reducible rfl)
    simp only[zA,zB,zC,Act.put,zD,zE,zF];refine rgn.u 16 (v:=?v44) ?h44 hS0 ?_
    case h44=>(intro w' hw';go_simp;try with_reducible rfl)
    simp only[zA,zB,zC,Act.put,zD,zE,zF];refine rgn.u 17 (v:=?v45) ?h45 hS0 ?_
    case h45=>(intro w' hw';have q0:=hw'.2;go_simp;try with_reducible rfl)
    simp only[zA,zB,zC,Act.put,zD,zE,zF];refine rgn.u 18 (v:=?v46) ?h46 hS0 ?_
    case h46=>(intro w' hw';go_simp;try with_reducible rfl)
    simp only[zA,zB,zC,Act.put,zD,zE,zF];refine rgn.u 19 (v:=?v47) ?h47 hS0 ?_
    case h47=>(intro w' hw';go_simp;try with_reducible rfl)
    simp only[zA,zB,zC,Act.put,zD,zE,zF];refine rgn.u 20 (v:=?v48) ?h48 hS0 ?_
    case h48=>(intro w' hw';go_simp;try with_reducible rfl)
    simp only[zA,zB,zC,Act.put,zD,zE,zF];refine rgn.u 21 (v:=?v49) ?h49 hS0 ?_
    case h49=>(intro w' hw';go_simp;try with_reducible rfl)
    simp only[zA,zB,zC,Act.put,zD,zE,zF];refine rgn.u 22 (v:=?v50) ?h50 hS0 ?_
    case h50=>(intro w' hw';go_simp;try with_reducible rfl)
    simp only[zA,zB,zC,Act.put,zD,zE,zF];refine rgn.u 23 (v:=?v51) ?h51 hS0 ?_
    case h51=>(intro w' hw';go_simp;try with_reducible rfl)
    simp only[zA,zB,zC,Act.put,zD,zE,zF];refine rgn.one (i:=24) _ rfl (by kernel_rfl) (by rfl) ?_
    simp only[zA,zB,zC,Act.put,zD,zE,zF];refine rgn.zat _ _ _ _ rfl func85 (by kernel_rfl) (by kernel_rfl) #[.pointer (some ⟨B,0,none⟩),.bool false] (by first | kernel_rfl | (simp only[List.map_toArray,List.map_cons,List.map_nil];rfl)) ?_
    refine ((uh hn) _ ((uh HH).below bD)).mono ?_
    rintro e wN ⟨rfl,hcN,hkN,hz0⟩;have hk3:=hkD.trans hkN;have hbk:=hZ wN hk3;have hth:wN.there w.heap.size 0 3:=dt.zac hbk (by decide)
    have HK:=(Kp.of bA0).trans hk3;have hSN:wN.cell? ⟨B,0,none⟩=some (.slice (some ⟨p,0,none⟩) n cap)∧wN.cell? ⟨p,ix * 7,none⟩=some (.int .i64 t.k):=⟨hz0.trans hS0.1,(hkN.cell (Nat.lt_of_lt_of_le hplt (Nat.le_trans bA0.size bd.size)) hpB).trans hS0.2⟩;refine⟨_,rfl,hSN,?_⟩
    clear hS0 G1 G4;have hS0:=hSN;simp only[zA,zB,zC,Act.put,zD,zE,zF];refine rgn.u 25 (v:=?v52) ?h52 hS0 ?_
    case h52=>(intro w' hw';go_simp;try with_reducible rfl)
    simp only[zA,zB,zC,Act.put,zD,zE,zF];refine rgn.u 26 (v:=?v53) ?h53 hS0 ?_
    case h53=>(intro w' hw';go_simp;try with_reducible rfl)
    simp only[zA,zB,zC,Act.put,zD,zE,zF];refine rgn.one (i:=27) _ rfl (by kernel_rfl) (by rfl) ?_
    simp only[zA,zB,zC,Act.put,zD,zE,zF];refine wp_store_mid 84 _ _ (by rfl) w.heap.size 0 ([Value.string em,.int .i64 0,.int .i64 0]).toArray (by rfl) (by rfl) hth infoNm (dt.zab (cs:=[Value.string em,.int .i64 0,.int .i64 0]) (by rfl)) ?_
    have hS3:(wN.setCells w.heap.size 0 [Value.string em,.int .i64 0,.int .i64 0]).cell? ⟨B,0,none⟩=some (.slice (some ⟨p,0,none⟩) n cap)∧(wN.setCells w.heap.size 0 [Value.string em,.int .i64 0,.int .i64 0]).cell? ⟨p,ix * 7,none⟩=some (.int .i64 t.k):=⟨(dt.zaf (dt.zae w.heap.size B hne _ 0 _) _).trans hS0.1,(dt.zaf (dt.zae w.heap.size p hnp _ 0 _) _).trans hS0.2⟩;refine⟨hS3,?_⟩
    clear hS0;have hS0:=hS3
    try simp only[zA,zB,zC,Act.put,zD,zE,zF]
    refine rgn.u 28 (v:=?v54) ?h54 hS0 ?_
    case h54=>(intro w' hw';go_simp;try with_reducible rfl)
    simp only[zA,zB,zC,Act.put,zD,zE,zF];refine wpAnyH_done (by kernel_rfl) ?_ _;refine NoPanic.normal ?_
    go_wp2_with fail
    refine bodyPost_ret (rgn.zaa rfl _ _ w.heap.size 0 [Value.string em,.int .i64 0,.int .i64 0] _ rfl (World.rangeAt_setCells_same _ _ _ _ hth) underlying84 rfl infoNm) rfl ?_
    exact⟨rfl,hcN.out hne hnp 0 [Value.string em,.int .i64 0,.int .i64 0],HK.out (lr _) 0 [Value.string em,.int .i64 0,.int .i64 0]⟩
  ·obtain rfl:=(uh hR1) h1
   have HV:=Hi (show V=[Value.string em,.int .i64 0,.int .i64 0] from (uh hVT).2 rfl)
   have b1:(t.k==3)=false:=by simpa using h1
   subst h0;clear h1 hR0 hR1 hR2 hVT;obtain rfl:=uh HV;unfold ptr at hn ⊢;have hW:=hIW;unfold ptr at hW
   go_enter func46,ntmps46
   go_wp2_with fail
   have bA0:Below w.heap.size w (w.alloc (.cells #[Value.string { data:=#[] },.int .i64 0,.int .i64 0] 84)):=ba;have hZ:=(fun W (hk:Kp B (w.alloc (.cells #[Value.string { data:=#[] },.int .i64 0,.int .i64 0] 84)) W)=>show W.heap[w.heap.size]? = some (.cells #[Value.string { data:=#[] },.int .i64 0,.int .i64 0] 84 (0,0)) from (hk.block w.heap.size (by simp) (by omega)).trans (heap_alloc_new w _))
   obtain⟨wA,hwA⟩:∃ wA,wA=w.alloc (.cells #[Value.string { data:=#[] },.int .i64 0,.int .i64 0] 84):=⟨_,rfl⟩;rw[←hwA] at bA0 hZ ⊢;clear hwA;refine ((uh hW) wA bA0).mono ?_
   rintro e w1 ⟨rfl,b1w⟩;have bA0:=bA0.trans (b1w.mono bA0.size);have hZ:=fun W (hk:Kp B w1 W)=>hZ W ((Kp.of b1w).trans hk)
   have D0:=(bA0.cell (p:=⟨B,0,none⟩) hlt).trans d0;have D1:=(bA0.cell (p:=⟨B,1,none⟩) hlt).trans d1;have D4:=(bA0.cell (p:=⟨B,4,none⟩) hlt).trans d4;have E0:=(bA0.cell (p:=⟨p,ix * 7,none⟩) hplt).trans e0;clear d0 d1 d4 e0 hW hIW b1w;clear hV3 hV1 hP
   go_wp2_with fail
   have bd:Below w1.heap.size w1 { w1 with drawn:=w1.drawn+1 }:=(Below.refl _ _).drew
   have bD:Below w.heap.size w { w1 with drawn:=w1.drawn+1 }:=bA0.trans (bd.mono bA0.size)
   have hkD:Kp B w1 { w1 with drawn:=w1.drawn+1 }:=Kp.of bd
   have hS0:({ w1 with drawn:=w1.drawn+1 }:World).cell? ⟨B,0,none⟩=some (.slice (some ⟨p,0,none⟩) n cap)∧({ w1 with drawn:=w1.drawn+1 }:World).cell? ⟨p,ix * 7,none⟩=some (.int .i64 t.k):=⟨(bd.cell (p:=⟨B,0,none⟩) (Nat.lt_of_lt_of_le hlt bA0.size)).trans D0,(bd.cell (p:=⟨p,ix * 7,none⟩) (Nat.lt_of_lt_of_le hplt bA0.size)).trans E0⟩
   have G1:=(bd.cell (p:=⟨B,1,none⟩) (Nat.lt_of_lt_of_le hlt bA0.size)).trans D1;have G4:=(bd.cell (p:=⟨B,4,none⟩) (Nat.lt_of_lt_of_le hlt bA0.size)).trans D4;refine wp_region_noPanic ?_
   refine wp_region_held (S:=fun w'=>w'.cell? ⟨B,0,none⟩=some (.slice (some ⟨p,0,none⟩) n cap)∧w'.cell? ⟨p,ix * 7,none⟩=some (.int .i64 t.k)) mixed ?_
   refine rgn.u 0 (v:=?v55) ?h55 hS0 ?_
   case h55=>(intro w' hw';go_simp;try with_reducible rfl)
   simp only[zA,zB,zC,Act.put,zD,zE,zF];refine rgn.u 1 (v:=?v56) ?h56 hS0 ?_
   case h56=>(intro w' hw';go_simp;try with_reducible rfl)
   simp only[zA,zB,zC,Act.put,zD,zE,zF];refine rgn.u 2 (v:=?v57) ?h57 hS0 ?_
   case h57=>(intro w' hw';go_simp;try with_reducible rfl)
   simp only[zA,zB,zC,Act.put,zD,zE,zF];refine rgn.u 3 (v:=?v58) ?h58 hS0 ?_
   case h58=>(intro w' hw';go_simp;try with_reducible rfl)
   simp only[zA,zB,zC,Act.put,zD,zE,zF];refine rgn.oneV (i:=4) (v:=?v59) _ rfl (by kernel_rfl) (by rfl) ?hy59 hS0 ?_
   case hy59=>(skip;go_simp;try with_reducible rfl)
   simp only[zA,zB,zC,Act.put,zD,zE,zF];refine rgn.u 5 (v:=?v60) ?h60 hS0 ?_
   case h60=>(intro w' hw';go_simp;try with_reducible rfl)
   simp only[zA,zB,zC,Act.put,zD,zE,zF];refine rgn.u 6 (v:=?v61) ?h61 hS0 ?_
   case h61=>(intro w' hw';go_simp;try with_reducible rfl)
   simp only[zA,zB,zC,Act.put,zD,zE,zF];refine rgn.u 7 (v:=?v62) ?h62 hS0 ?_
   case h62=>(intro w' hw';go_simp;try with_reducible rfl)
   simp only[zA,zB,zC,Act.put,zD,zE,zF];refine rgn.u 8 (v:=?v63) ?h63 hS0 ?_
   case h63=>(intro w' hw';go_simp;try with_reducible rfl)
   simp only[zA,zB,zC,Act.put,zD,zE,zF];refine rgn.u 9 (v:=?v64) ?h64 hS0 ?_
   case h64=>(intro w' hw';go_simp;try with_reducible rfl)
   simp only[zA,zB,zC,Act.put,zD,zE,zF];refine rgn.u 10 (v:=?v65) ?h65 hS0 ?_
   case h65=>(intro w' hw';have q0:=hw'.1;go_simp;try with_reducible rfl)
   simp only[zA,zB,zC,Act.put,zD,zE,zF];refine rgn.u 11 (v:=?v66) ?h66 hS0 ?_
   case h66=>(intro w' hw';go_simp;try with_reducible rfl)
   simp only[zA,zB,zC,Act.put,zD,zE,zF];refine rgn.u 12 (v:=?v67) ?h67 hS0 ?_
   case h67=>(intro w' hw';go_simp;try with_reducible rfl)
   simp only[zA,zB,zC,Act.put,zD,zE,zF];refine rgn.u 13 (v:=?v68) ?h68 hS0 ?_
   case h68=>(intro w' hw';go_simp;try with_reducible rfl)
   simp only[zA,zB,zC,Act.put,zD,zE,zF];refine rgn.oneV (i:=14) (v:=?v69) _ rfl (by kernel_rfl) (by rfl) ?hy69 hS0 ?_
   case hy69=>(skip;go_simp;try with_reducible rfl)
   simp only[zA,zB,zC,Act.put,zD,zE,zF];refine rgn.u 15 (v:=?v70) ?h70 hS0 ?_
   case h70=>(intro w' hw';go_simp;try with_reducible rfl)
   simp only[zA,zB,zC,Act.put,zD,zE,zF];refine rgn.u 16 (v:=?v71) ?h71 hS0 ?_
   case h71=>(intro w' hw';go_simp;try with_reducible rfl)
   simp only[zA,zB,zC,Act.put,zD,zE,zF];refine rgn.u 17 (v:=?v72) ?h72 hS0 ?_
   case h72=>(intro w' hw';have q0:=hw'.2;go_simp;try with_reducible rfl)
   simp only[zA,zB,zC,Act.put,zD,zE,zF];refine rgn.u 18 (v:=?v73) ?h73 hS0 ?_
   case h73=>(intro w' hw';go_simp;try with_reducible rfl)
   simp only[zA,zB,zC,Act.put,zD,zE,zF];refine rgn.u 19 (v:=?v74) ?h74 hS0 ?_
   case h74=>(intro w' hw';go_simp;try with_reducible rfl)
   simp only[zA,zB,zC,Act.put,zD,zE,zF];refine rgn.u 20 (v:=?v75) ?h75 hS0 ?_
   case h75=>(intro w' hw';go_simp;try with_reducible rfl)
   simp only[zA,zB,zC,Act.put,zD,zE,zF];refine rgn.tk (i:=21) (v:=undef) rfl (by kernel_rfl) (fun _ _ _ h=>h) (Or.inr ⟨by rfl,rfl⟩) hS0 ?_
   simp only[zA,zB,zC,Act.put,zD,zE,zF];refine rgn.tk (i:=22) (v:=undef) rfl (by kernel_rfl) (fun _ _ _ h=>h) (Or.inr ⟨by rfl,rfl⟩) hS0 ?_
   simp only[zA,zB,zC,Act.put,zD,zE,zF];refine rgn.u 23 (v:=?v76) ?h76 hS0 ?_
   case h76=>(intro w' hw';go_simp;try with_reducible rfl)
   simp only[zA,zB,zC,Act.put,zD,zE,zF];refine rgn.one (i:=24) _ rfl (by kernel_rfl) (by rfl) ?_
   simp only[zA,zB,zC,Act.put,zD,zE,zF];refine rgn.zat _ _ _ _ rfl func85 (by kernel_rfl) (by kernel_rfl) #[.pointer (some ⟨B,0,none⟩),.bool false] (by first | kernel_rfl | (simp only[List.map_toArray,List.map_cons,List.map_nil];rfl)) ?_
   refine ((uh hn) _ ((uh HH).below bD)).mono ?_
   rintro e wN ⟨rfl,hcN,hkN,hz0⟩;have hk3:=hkD.trans hkN;have hbk:=hZ wN hk3;have hth:wN.there w.heap.size 0 3:=dt.zac hbk (by decide)
   have HK:=(Kp.of bA0).trans hk3;have hSN:wN.cell? ⟨B,0,none⟩=some (.slice (some ⟨p,0,none⟩) n cap)∧wN.cell? ⟨p,ix * 7,none⟩=some (.int .i64 t.k):=⟨hz0.trans hS0.1,(hkN.cell (Nat.lt_of_lt_of_le hplt (Nat.le_trans bA0.size bd.size)) hpB).trans hS0.2⟩;refine⟨_,rfl,hSN,?_⟩
   clear hS0 G1 G4;have hS0:=hSN;simp only[zA,zB,zC,Act.put,zD,zE,zF];refine rgn.u 25 (v:=?v77) ?h77 hS0 ?_
   case h77=>(intro w' hw';go_simp;try with_reducible rfl)
   simp only[zA,zB,zC,Act.put,zD,zE,zF];refine rgn.u 26 (v:=?v78) ?h78 hS0 ?_
   case h78=>(intro w' hw';go_simp;try with_reducible rfl)
   simp only[zA,zB,zC,Act.put,zD,zE,zF];refine rgn.one (i:=27) _ rfl (by kernel_rfl) (by rfl) ?_
   simp only[zA,zB,zC,Act.put,zD,zE,zF];refine wp_store_mid 84 _ _ (by rfl) w.heap.size 0 ([Value.string em,.int .i64 0,.int .i64 0]).toArray (by rfl) (by rfl) hth infoNm (dt.zab (cs:=[Value.string em,.int .i64 0,.int .i64 0]) (by rfl)) ?_
   have hS3:(wN.setCells w.heap.size 0 [Value.string em,.int .i64 0,.int .i64 0]).cell? ⟨B,0,none⟩=some (.slice (some ⟨p,0,none⟩) n cap)∧(wN.setCells w.heap.size 0 [Value.string em,.int .i64 0,.int .i64 0]).cell? ⟨p,ix * 7,none⟩=some (.int .i64 t.k):=⟨(dt.zaf (dt.zae w.heap.size B hne _ 0 _) _).trans hS0.1,(dt.zaf (dt.zae w.heap.size p hnp _ 0 _) _).trans hS0.2⟩;refine⟨hS3,?_⟩
   clear hS0;have hS0:=hS3
   try simp only[zA,zB,zC,Act.put,zD,zE,zF]
   refine rgn.u 28 (v:=?v79) ?h79 hS0 ?_
   case h79=>(intro w' hw';go_simp;try with_reducible rfl)
   simp only[zA,zB,zC,Act.put,zD,zE,zF];refine wpAnyH_done (by kernel_rfl) ?_ _;refine NoPanic.normal ?_
   go_wp2_with fail
   refine bodyPost_ret (rgn.zaa rfl _ _ w.heap.size 0 [Value.string em,.int .i64 0,.int .i64 0] _ rfl (World.rangeAt_setCells_same _ _ _ _ hth) underlying84 rfl infoNm) rfl ?_
   exact⟨rfl,hcN.out hne hnp 0 [Value.string em,.int .i64 0,.int .i64 0],HK.out (lr _) 0 [Value.string em,.int .i64 0,.int .i64 0]⟩
 ·obtain rfl:=(uh hR0) h0
  have HV:=Hi (show V=[Value.string em,.int .i64 0,.int .i64 0] from (uh hVT).2 rfl)
  have b0:(kd==0)=false:=by simpa using h0
  clear h0 hR0 hR1 hR2 hVT;obtain rfl:=uh HV;unfold ptr at hn ⊢;have hW:=hIW;unfold ptr at hW
  go_enter func46,ntmps46
  go_wp2_with fail
  have bA0:Below w.heap.size w (w.alloc (.cells #[Value.string { data:=#[] },.int .i64 0,.int .i64 0] 84)):=ba;have hZ:=(fun W (hk:Kp B (w.alloc (.cells #[Value.string { data:=#[] },.int .i64 0,.int .i64 0] 84)) W)=>show W.heap[w.heap.size]? = some (.cells #[Value.string { data:=#[] },.int .i64 0,.int .i64 0] 84 (0,0)) from (hk.block w.heap.size (by simp) (by omega)).trans (heap_alloc_new w _))
  obtain⟨wA,hwA⟩:∃ wA,wA=w.alloc (.cells #[Value.string { data:=#[] },.int .i64 0,.int .i64 0] 84):=⟨_,rfl⟩;rw[←hwA] at bA0 hZ ⊢;clear hwA;refine ((uh hW) wA bA0).mono ?_
  rintro e w1 ⟨rfl,b1w⟩;have bA0:=bA0.trans (b1w.mono bA0.size);have hZ:=fun W (hk:Kp B w1 W)=>hZ W ((Kp.of b1w).trans hk)
  have D0:=(bA0.cell (p:=⟨B,0,none⟩) hlt).trans d0;have D1:=(bA0.cell (p:=⟨B,1,none⟩) hlt).trans d1;have D4:=(bA0.cell (p:=⟨B,4,none⟩) hlt).trans d4;have E0:=(bA0.cell (p:=⟨p,ix * 7,none⟩) hplt).trans e0;clear d0 d1 d4 e0 hW hIW b1w;clear hV3 hV1 hP
  go_wp2_with fail
  have bd:Below w1.heap.size w1 { w1 with drawn:=w1.drawn+1 }:=(Below.refl _ _).drew
  have bD:Below w.heap.size w { w1 with drawn:=w1.drawn+1 }:=bA0.trans (bd.mono bA0.size)
  have hkD:Kp B w1 { w1 with drawn:=w1.drawn+1 }:=Kp.of bd
  have hS0:({ w1 with drawn:=w1.drawn+1 }:World).cell? ⟨B,0,none⟩=some (.slice (some ⟨p,0,none⟩) n cap)∧({ w1 with drawn:=w1.drawn+1 }:World).cell? ⟨p,ix * 7,none⟩=some (.int .i64 t.k):=⟨(bd.cell (p:=⟨B,0,none⟩) (Nat.lt_of_lt_of_le hlt bA0.size)).trans D0,(bd.cell (p:=⟨p,ix * 7,none⟩) (Nat.lt_of_lt_of_le hplt bA0.size)).trans E0⟩
  have G1:=(bd.cell (p:=⟨B,1,none⟩) (Nat.lt_of_lt_of_le hlt bA0.size)).trans D1;have G4:=(bd.cell (p:=⟨B,4,none⟩) (Nat.lt_of_lt_of_le hlt bA0.size)).trans D4;refine wp_region_noPanic ?_
  refine wp_region_held (S:=fun w'=>w'.cell? ⟨B,0,none⟩=some (.slice (some ⟨p,0,none⟩) n cap)∧w'.cell? ⟨p,ix * 7,none⟩=some (.int .i64 t.k)) mixed ?_
  refine rgn.u 0 (v:=?v80) ?h80 hS0 ?_
  case h80=>(intro w' hw';go_simp;try with_reducible rfl)
  simp only[zA,zB,zC,Act.put,zD,zE,zF];refine rgn.u 1 (v:=?v81) ?h81 hS0 ?_
  case h81=>(intro w' hw';go_simp;try with_reducible rfl)
  simp only[zA,zB,zC,Act.put,zD,zE,zF];refine rgn.u 2 (v:=?v82) ?h82 hS0 ?_
  case h82=>(intro w' hw';go_simp;try with_reducible rfl)
  simp only[zA,zB,zC,Act.put,zD,zE,zF];refine rgn.u 3 (v:=?v83) ?h83 hS0 ?_
  case h83=>(intro w' hw';go_simp;try with_reducible rfl)
  simp only[zA,zB,zC,Act.put,zD,zE,zF];refine rgn.oneV (i:=4) (v:=?v84) _ rfl (by kernel_rfl) (by rfl) ?hy84 hS0 ?_
  case hy84=>(skip;go_simp;try with_reducible rfl)
  simp only[zA,zB,zC,Act.put,zD,zE,zF];refine rgn.u 5 (v:=?v85) ?h85 hS0 ?_
  case h85=>(intro w' hw';go_simp;try with_reducible rfl)
  simp only[zA,zB,zC,Act.put,zD,zE,zF];refine rgn.u 6 (v:=?v86) ?h86 hS0 ?_
  case h86=>(intro w' hw';go_simp;try with_reducible rfl)
  simp only[zA,zB,zC,Act.put,zD,zE,zF];refine rgn.tk (i:=7) (v:=undef) rfl (by kernel_rfl) (fun _ _ _ h=>h) (Or.inr ⟨by rfl,rfl⟩) hS0 ?_
  simp only[zA,zB,zC,Act.put,zD,zE,zF];refine rgn.tk (i:=8) (v:=undef) rfl (by kernel_rfl) (fun _ _ _ h=>h) (Or.inr ⟨by rfl,rfl⟩) hS0 ?_
  simp only[zA,zB,zC,Act.put,zD,zE,zF];refine rgn.tk (i:=9) (v:=undef) rfl (by kernel_rfl) (fun _ _ _ h=>h) (Or.inr ⟨by rfl,rfl⟩) hS0 ?_
  simp only[zA,zB,zC,Act.put,zD,zE,zF];refine rgn.tk (i:=10) (v:=undef) rfl (by kernel_rfl) (fun _ _ _ h=>h) (Or.inr ⟨by rfl,rfl⟩) hS0 ?_
  simp only[zA,zB,zC,Act.put,zD,zE,zF];refine rgn.tk (i:=11) (v:=undef) rfl (by kernel_rfl) (fun _ _ _ h=>h) (Or.inr ⟨by rfl,rfl⟩) hS0 ?_
  simp only[zA,zB,zC,Act.put,zD,zE,zF];refine rgn.tk (i:=12) (v:=undef) rfl (by kernel_rfl) (fun _ _ _ h=>h) (Or.inr ⟨by rfl,rfl⟩) hS0 ?_
  simp only[zA,zB,zC,Act.put,zD,zE,zF];refine rgn.tk (i:=13) (v:=undef) rfl (by kernel_rfl) (fun _ _ _ h=>h) (Or.inr ⟨by rfl,rfl⟩) hS0 ?_
  simp only[zA,zB,zC,Act.put,zD,zE,zF];refine rgn.tk (i:=14) (v:=undef) rfl (by kernel_rfl) (fun _ _ _ h=>h) (Or.inr ⟨by rfl,rfl⟩) hS0 ?_
  simp only[zA,zB,zC,Act.put,zD,zE,zF];refine rgn.tk (i:=15) (v:=undef) rfl (by kernel_rfl) (fun _ _ _ h=>h) (Or.inr ⟨by rfl,rfl⟩) hS0 ?_
  simp only[zA,zB,zC,Act.put,zD,zE,zF];refine rgn.tk (i:=16) (v:=undef) rfl (by kernel_rfl) (fun _ _ _ h=>h) (Or.inr ⟨by rfl,rfl⟩) hS0 ?_
  simp only[zA,zB,zC,Act.put,zD,zE,zF];refine rgn.tk (i:=17) (v:=undef) rfl (by kernel_rfl) (fun _ _ _ h=>h) (Or.inr ⟨by rfl,rfl⟩) hS0 ?_
  simp only[zA,zB,zC,Act.put,zD,zE,zF];refine rgn.tk (i:=18) (v:=undef) rfl (by kernel_rfl) (fun _ _ _ h=>h) (Or.inr ⟨by rfl,rfl⟩) hS0 ?_
  simp only[zA,zB,zC,Act.put,zD,zE,zF];refine rgn.u 19 (v:=?v87) ?h87 hS0 ?_
  case h87=>(intro w' hw';go_simp;try with_reducible rfl)
  simp only[zA,zB,zC,Act.put,zD,zE,zF];refine rgn.u 20 (v:=?v88) ?h88 hS0 ?_
  case h88=>(intro w' hw';go_simp;try with_reducible rfl)
  simp only[zA,zB,zC,Act.put,zD,zE,zF];refine rgn.tk (i:=21) (v:=undef) rfl (by kernel_rfl) (fun _ _ _ h=>h) (Or.inr ⟨by rfl,rfl⟩) hS0 ?_
  simp only[zA,zB,zC,Act.put,zD,zE,zF];refine rgn.tk (i:=22) (v:=undef) rfl (by kernel_rfl) (fun _ _ _ h=>h) (Or.inr ⟨by rfl,rfl⟩) hS0 ?_
  simp only[zA,zB,zC,Act.put,zD,zE,zF];refine rgn.u 23 (v:=?v89) ?h89 hS0 ?_
  case h89=>(intro w' hw';go_simp;try with_reducible rfl)
  simp only[zA,zB,zC,Act.put,zD,zE,zF];refine rgn.one (i:=24) _ rfl (by kernel_rfl) (by rfl) ?_
  simp only[zA,zB,zC,Act.put,zD,zE,zF];refine rgn.zat _ _ _ _ rfl func85 (by kernel_rfl) (by kernel_rfl) #[.pointer (some ⟨B,0,none⟩),.bool false] (by first | kernel_rfl | (simp only[List.map_toArray,List.map_cons,List.map_nil];rfl)) ?_
  refine ((uh hn) _ ((uh HH).below bD)).mono ?_
  rintro e wN ⟨rfl,hcN,hkN,hz0⟩;have hk3:=hkD.trans hkN;have hbk:=hZ wN hk3;have hth:wN.there w.heap.size 0 3:=dt.zac hbk (by decide)
  have HK:=(Kp.of bA0).trans hk3;have hSN:wN.cell? ⟨B,0,none⟩=some (.slice (some ⟨p,0,none⟩) n cap)∧wN.cell? ⟨p,ix * 7,none⟩=some (.int .i64 t.k):=⟨hz0.trans hS0.1,(hkN.cell (Nat.lt_of_lt_of_le hplt (Nat.le_trans bA0.size bd.size)) hpB).trans hS0.2⟩;refine⟨_,rfl,hSN,?_⟩
  clear hS0 G1 G4;have hS0:=hSN;simp only[zA,zB,zC,Act.put,zD,zE,zF];refine rgn.u 25 (v:=?v90) ?h90 hS0 ?_
  case h90=>(intro w' hw';go_simp;try with_reducible rfl)
  simp only[zA,zB,zC,Act.put,zD,zE,zF];refine rgn.u 26 (v:=?v91) ?h91 hS0 ?_
  case h91=>(intro w' hw';go_simp;try with_reducible rfl)
  simp only[zA,zB,zC,Act.put,zD,zE,zF];refine rgn.one (i:=27) _ rfl (by kernel_rfl) (by rfl) ?_
  simp only[zA,zB,zC,Act.put,zD,zE,zF];refine wp_store_mid 84 _ _ (by rfl) w.heap.size 0 ([Value.string em,.int .i64 0,.int .i64 0]).toArray (by rfl) (by rfl) hth infoNm (dt.zab (cs:=[Value.string em,.int .i64 0,.int .i64 0]) (by rfl)) ?_
  have hS3:(wN.setCells w.heap.size 0 [Value.string em,.int .i64 0,.int .i64 0]).cell? ⟨B,0,none⟩=some (.slice (some ⟨p,0,none⟩) n cap)∧(wN.setCells w.heap.size 0 [Value.string em,.int .i64 0,.int .i64 0]).cell? ⟨p,ix * 7,none⟩=some (.int .i64 t.k):=⟨(dt.zaf (dt.zae w.heap.size B hne _ 0 _) _).trans hS0.1,(dt.zaf (dt.zae w.heap.size p hnp _ 0 _) _).trans hS0.2⟩;refine⟨hS3,?_⟩
  clear hS0;have hS0:=hS3
  try simp only[zA,zB,zC,Act.put,zD,zE,zF]
  refine rgn.u 28 (v:=?v92) ?h92 hS0 ?_
  case h92=>(intro w' hw';go_simp;try with_reducible rfl)
  simp only[zA,zB,zC,Act.put,zD,zE,zF];refine wpAnyH_done (by kernel_rfl) ?_ _;refine NoPanic.normal ?_
  go_wp2_with fail
  refine bodyPost_ret (rgn.zaa rfl _ _ w.heap.size 0 [Value.string em,.int .i64 0,.int .i64 0] _ rfl (World.rangeAt_setCells_same _ _ _ _ hth) underlying84 rfl infoNm) rfl ?_
  exact⟨rfl,hcN.out hne hnp 0 [Value.string em,.int .i64 0,.int .i64 0],HK.out (lr _) 0 [Value.string em,.int .i64 0,.int .i64 0]⟩
def _root_.Go.Proofs.YtepmbmbnlmbhhaaGreat.cu.Cu.isS(c:Cu):Bool:=decide (c.kd=0∧(c.tok.k=6∨c.tok.k=7))
def noteZ(c:Cu):(Bool × Bool × ByteArray) × Cu:=if c.isS then ((true,decide (c.tok.k=7),c.tok.va),c.take) else ((false,false,em),c)
theorem zmL{c:Cu}(h:c.isS=true):c.kd=0∧(c.tok.k=6∨c.tok.k=7):=of_decide_eq_true h
theorem infoNt:(prog.info? 89).map (·.size)=some 3:=by kernel_rfl
theorem zjD(B p:Nat)(c:Cu)(w:World)(h:CurAt w B p c):Calls prog 53 #[.pointer (some ⟨B,0,none⟩)] w fun e w'=>∃ (n1 n2:Bool) (n3:ByteArray) (c':Cu),noteZ c=((n1,n2,n3),c')∧e = .returned (.tuple #[.agg #[.bool n1,.bool n2,.string n3],.bool (decide (c.kd=0))])∧CurAt w' B p c'∧Kp B w w':=by
 have hlt:=h.lt;have hplt:=h.plt;have hd:=Hi (fun W (hc:CurAt W B p c)=>zbE B p c W hc)
 have ht:=Hi (fun W (hc:CurAt W B p c)=>zaM B p c W hc)
 have hm:=Hi (fun (hS:c.isS=true) W (hc:CurAt W B p c)=>zcH B p c W hc (zaJ h.ok (by have:=(zmL hS).2;omega) (by have:=(zmL hS).2;omega)))
 have hN:noteZ c=if c.isS then ((true,decide (c.tok.k=7),c.tok.va),c.take) else ((false,false,em),c):=rfl
 obtain⟨V,hV⟩:∃ V,V=noteZ c:=⟨_,rfl⟩;rw[←hV] at hN ⊢;clear hV;have hS:c.isS=decide (c.kd=0∧(c.tok.k=6∨c.tok.k=7)):=rfl;unfold Tk.cells at ht hm;unfold ptr at hd ht hm;obtain⟨t,et⟩:∃ t,t=c.tok:=⟨_,rfl⟩;rw[←et] at ht hm hN hS;clear et;have hf1:=zdY t;obtain⟨S,eS⟩:∃ S,S=c.isS:=⟨_,rfl⟩;rw[←eS] at hm hN hS;clear eS;obtain⟨OK,hOK⟩:∃ OK,OK=decide (c.kd=0):=⟨_,rfl⟩
 rw[←hOK]
 by_cases hk:c.kd=0
 ·obtain rfl:OK=true:=by rw[hOK];exact decide_eq_true hk
  clear hOK
  by_cases h6:t.k=6
  ·have e6:(t.k==6)=true:=by rw[h6];rfl
   have e7:(t.k==7)=false:=by rw[h6];rfl
   have hSt:S=true:=by rw[hS];exact decide_eq_true ⟨hk,by omega⟩
   have hm2:=Hi ((uh hm) hSt);have hv:=Hi (show V=((true,false,t.va),c.take) from by rw[hN,if_pos hSt,h6];rfl)
   rw[show (c.kd != 0)=false by simpa using hk] at hd
   clear hm hSt h6;clear hN hS hk
   go_enter func53,ntmps53
   go_wp2_with fail
   obtain⟨W1,hW1⟩:∃ W1,W1=w.alloc (.cells #[.bool false,.bool false,.string ⟨#[]⟩] 89):=⟨_,rfl⟩;have gW1:W1=(w.alloc (.cells #[.bool false,.bool false,.string ⟨#[]⟩] 89)):=hW1;have fR1:W1.heap[w.heap.size]? = some (.cells #[.bool false,.bool false,.string ⟨#[]⟩] 89 (0,0)):=by rw[hW1];exact heap_alloc_new w _
   have bw:Below w.heap.size w W1:=by rw[hW1];exact ba
   have sz1:w.heap.size+1≤W1.heap.size:=by rw[hW1];simp
   have K1:Kp B w W1:=Kp.of bw;have C1:=h.below bw;rw[←gW1];clear gW1 hW1 bw h;refine ((uh hd) _ C1).mono ?_
   rintro e w2 ⟨rfl,hw⟩;obtain rfl:=hw.symm;clear hd
   go_wp2_with fail
   refine ((uh ht) _ C1).mono ?_
   rintro e W2 ⟨rfl,bb2⟩;have J2:Kp B W1 W2:=Kp.of bb2;have C2:=C1.below bb2;have sz2:=J2.size;have fR2:W2.heap[w.heap.size]? = some (.cells #[.bool false,.bool false,.string ⟨#[]⟩] 89 (0,0)):=(J2.block _ (by omega) (by omega)).trans fR1
   have K2:=K1.trans J2;clear fR1 K1 C1 J2;clear ht;have HH3:=Hi (an fR2 (an C2 (K2)));clear fR2 C2 K2
   go_wp2_with fail
   obtain⟨fR2,C2,K2⟩:=uh HH3;clear HH3;refine ((uh hm2) _ C2).mono ?_
   rintro e W4 ⟨rfl,c4,J4⟩;have C4:=c4;clear c4;have sz4:=J4.size;have fR4:W4.heap[w.heap.size]? = some (.cells #[.bool false,.bool false,.string ⟨#[]⟩] 89 (0,0)):=(J4.block _ (by omega) (by omega)).trans fR2
   have K4:=K2.trans J4;clear fR2 K2 C2 J4;clear hm2;have fR5:(W4.alloc (.cells #[.int .i64 t.k,.int .i64 t.ln,.int .i64 t.co,.int .i64 t.fr,.int .i64 t.to,.string t.tx,.string t.va] 77)).heap[w.heap.size]? = some (.cells #[.bool false,.bool false,.string ⟨#[]⟩] 89 (0,0)):=(Below.heap_alloc W4 _ _ (by omega)).trans fR4
   have fK5:(W4.alloc (.cells #[.int .i64 t.k,.int .i64 t.ln,.int .i64 t.co,.int .i64 t.fr,.int .i64 t.to,.string t.tx,.string t.va] 77)).heap[W4.heap.size]? = some (.cells #[.int .i64 t.k,.int .i64 t.ln,.int .i64 t.co,.int .i64 t.fr,.int .i64 t.to,.string t.tx,.string t.va] 77 (0,0)):=heap_alloc_new _ _;have bb5:Below W4.heap.size W4 (W4.alloc (.cells #[.int .i64 t.k,.int .i64 t.ln,.int .i64 t.co,.int .i64 t.fr,.int .i64 t.to,.string t.tx,.string t.va] 77)):=ba
   have C5:=C4.below bb5;have K5:=K4.trans (Kp.of bb5);have cK6_0:(W4.alloc (.cells #[.int .i64 t.k,.int .i64 t.ln,.int .i64 t.co,.int .i64 t.fr,.int .i64 t.to,.string t.tx,.string t.va] 77)).cell? ⟨W4.heap.size,0,none⟩=some (.int .i64 t.k):=(zG fK5 0).trans rfl;have cK6_6:(W4.alloc (.cells #[.int .i64 t.k,.int .i64 t.ln,.int .i64 t.co,.int .i64 t.fr,.int .i64 t.to,.string t.tx,.string t.va] 77)).cell? ⟨W4.heap.size,6,none⟩=some (.string t.va):=(zG fK5 6).trans rfl
   have HT:=Hi (dt.zac fR5 (o:=0) (n:=3) (by decide))
   have HF:=Hi (an C5 (K5));clear C5 K5 fR4 K4 C4
   go_wp2_with (first
    | refine wpList_store_mid (by rfl) 89 _ _ (by rfl) w.heap.size 0 ([.bool true,.bool false,.string t.va]:List Value).toArray (by rfl) (by rfl) (uh HT) infoNt (dt.zab (cs:=[.bool true,.bool false,.string t.va]) (by rfl)) ?_)
   refine bodyPost_ret (rgn.zaa rfl _ _ w.heap.size 0 [.bool true,.bool false,.string t.va] _ rfl (World.rangeAt_setCells_same _ _ _ _ (uh HT)) underlying89 rfl infoNt) rfl ?_
   obtain⟨C5,K5⟩:=uh HF;have hC:=C5.out (b:=w.heap.size) (by omega) (by omega) 0 [.bool true,.bool false,.string t.va]
   have hK:=K5.out (b:=w.heap.size) (by omega) 0 [.bool true,.bool false,.string t.va]
   exact⟨true,false,t.va,c.take,uh hv,rfl,hC,hK⟩
  by_cases h7:t.k=7
  ·have e6:(t.k==6)=false:=by rw[h7];rfl
   have e7:(t.k==7)=true:=by rw[h7];rfl
   have hSt:S=true:=by rw[hS];exact decide_eq_true ⟨hk,by omega⟩
   have hm2:=Hi ((uh hm) hSt);have hv:=Hi (show V=((true,true,t.va),c.take) from by rw[hN,if_pos hSt,h7];rfl)
   rw[show (c.kd != 0)=false by simpa using hk] at hd
   clear hm hSt h7 h6;clear hN hS hk
   go_enter func53,ntmps53
   go_wp2_with fail
   obtain⟨W1,hW1⟩:∃ W1,W1=w.alloc (.cells #[.bool false,.bool false,.string ⟨#[]⟩] 89):=⟨_,rfl⟩;have gW1:W1=(w.alloc (.cells #[.bool false,.bool false,.string ⟨#[]⟩] 89)):=hW1;have fR1:W1.heap[w.heap.size]? = some (.cells #[.bool false,.bool false,.string ⟨#[]⟩] 89 (0,0)):=by rw[hW1];exact heap_alloc_new w _
   have bw:Below w.heap.size w W1:=by rw[hW1];exact ba
   have sz1:w.heap.size+1≤W1.heap.size:=by rw[hW1];simp
   have K1:Kp B w W1:=Kp.of bw;have C1:=h.below bw;rw[←gW1];clear gW1 hW1 bw h;refine ((uh hd) _ C1).mono ?_
   rintro e w2 ⟨rfl,hw⟩;obtain rfl:=hw.symm;clear hd
   go_wp2_with fail
   refine ((uh ht) _ C1).mono ?_
   rintro e W2 ⟨rfl,bb2⟩;have J2:Kp B W1 W2:=Kp.of bb2;have C2:=C1.below bb2;have sz2:=J2.size;have fR2:W2.heap[w.heap.size]? = some (.cells #[.bool false,.bool false,.string ⟨#[]⟩] 89 (0,0)):=(J2.block _ (by omega) (by omega)).trans fR1
   have K2:=K1.trans J2;clear fR1 K1 C1 J2;clear ht;have HH3:=Hi (an fR2 (an C2 (K2)));clear fR2 C2 K2
   go_wp2_with fail
   obtain⟨fR2,C2,K2⟩:=uh HH3;clear HH3;refine ((uh hm2) _ C2).mono ?_
   rintro e W4 ⟨rfl,c4,J4⟩;have C4:=c4;clear c4;have sz4:=J4.size;have fR4:W4.heap[w.heap.size]? = some (.cells #[.bool false,.bool false,.string ⟨#[]⟩] 89 (0,0)):=(J4.block _ (by omega) (by omega)).trans fR2
   have K4:=K2.trans J4;clear fR2 K2 C2 J4;clear hm2;have fR5:(W4.alloc (.cells #[.int .i64 t.k,.int .i64 t.ln,.int .i64 t.co,.int .i64 t.fr,.int .i64 t.to,.string t.tx,.string t.va] 77)).heap[w.heap.size]? = some (.cells #[.bool false,.bool false,.string ⟨#[]⟩] 89 (0,0)):=(Below.heap_alloc W4 _ _ (by omega)).trans fR4
   have fK5:(W4.alloc (.cells #[.int .i64 t.k,.int .i64 t.ln,.int .i64 t.co,.int .i64 t.fr,.int .i64 t.to,.string t.tx,.string t.va] 77)).heap[W4.heap.size]? = some (.cells #[.int .i64 t.k,.int .i64 t.ln,.int .i64 t.co,.int .i64 t.fr,.int .i64 t.to,.string t.tx,.string t.va] 77 (0,0)):=heap_alloc_new _ _;have bb5:Below W4.heap.size W4 (W4.alloc (.cells #[.int .i64 t.k,.int .i64 t.ln,.int .i64 t.co,.int .i64 t.fr,.int .i64 t.to,.string t.tx,.string t.va] 77)):=ba
   have C5:=C4.below bb5;have K5:=K4.trans (Kp.of bb5);have cK6_0:(W4.alloc (.cells #[.int .i64 t.k,.int .i64 t.ln,.int .i64 t.co,.int .i64 t.fr,.int .i64 t.to,.string t.tx,.string t.va] 77)).cell? ⟨W4.heap.size,0,none⟩=some (.int .i64 t.k):=(zG fK5 0).trans rfl;have cK6_6:(W4.alloc (.cells #[.int .i64 t.k,.int .i64 t.ln,.int .i64 t.co,.int .i64 t.fr,.int .i64 t.to,.string t.tx,.string t.va] 77)).cell? ⟨W4.heap.size,6,none⟩=some (.string t.va):=(zG fK5 6).trans rfl
   have HT:=Hi (dt.zac fR5 (o:=0) (n:=3) (by decide))
   have HF:=Hi (an C5 (K5));clear C5 K5 fR4 K4 C4
   go_wp2_with (first
    | refine wpList_store_mid (by rfl) 89 _ _ (by rfl) w.heap.size 0 ([.bool true,.bool true,.string t.va]:List Value).toArray (by rfl) (by rfl) (uh HT) infoNt (dt.zab (cs:=[.bool true,.bool true,.string t.va]) (by rfl)) ?_)
   refine bodyPost_ret (rgn.zaa rfl _ _ w.heap.size 0 [.bool true,.bool true,.string t.va] _ rfl (World.rangeAt_setCells_same _ _ _ _ (uh HT)) underlying89 rfl infoNt) rfl ?_
   obtain⟨C5,K5⟩:=uh HF;have hC:=C5.out (b:=w.heap.size) (by omega) (by omega) 0 [.bool true,.bool true,.string t.va]
   have hK:=K5.out (b:=w.heap.size) (by omega) 0 [.bool true,.bool true,.string t.va]
   exact⟨true,true,t.va,c.take,uh hv,rfl,hC,hK⟩
  ·have e6:(t.k==6)=false:=by simpa using h6
   have e7:(t.k==7)=false:=by simpa using h7
   have hv:=Hi (show V=((false,false,em),c) from by rw[hN,hS,if_neg (by simp[hk,h6,h7])])
   rw[show (c.kd != 0)=false by simpa using hk] at hd
   clear hm h6 h7;clear hN hS hk
   go_enter func53,ntmps53
   go_wp2_with fail
   obtain⟨W1,hW1⟩:∃ W1,W1=w.alloc (.cells #[.bool false,.bool false,.string ⟨#[]⟩] 89):=⟨_,rfl⟩;have gW1:W1=(w.alloc (.cells #[.bool false,.bool false,.string ⟨#[]⟩] 89)):=hW1;have fR1:W1.heap[w.heap.size]? = some (.cells #[.bool false,.bool false,.string ⟨#[]⟩] 89 (0,0)):=by rw[hW1];exact heap_alloc_new w _
   have bw:Below w.heap.size w W1:=by rw[hW1];exact ba
   have sz1:w.heap.size+1≤W1.heap.size:=by rw[hW1];simp
   have K1:Kp B w W1:=Kp.of bw;have C1:=h.below bw;rw[←gW1];clear gW1 hW1 bw h;refine ((uh hd) _ C1).mono ?_
   rintro e w2 ⟨rfl,hw⟩;obtain rfl:=hw.symm;clear hd
   go_wp2_with fail
   refine ((uh ht) _ C1).mono ?_
   rintro e W2 ⟨rfl,bb2⟩;have J2:Kp B W1 W2:=Kp.of bb2;have C2:=C1.below bb2;have sz2:=J2.size;have fR2:W2.heap[w.heap.size]? = some (.cells #[.bool false,.bool false,.string ⟨#[]⟩] 89 (0,0)):=(J2.block _ (by omega) (by omega)).trans fR1
   have K2:=K1.trans J2;clear fR1 K1 C1 J2;clear ht;have HT:=Hi (dt.zac fR2 (o:=0) (n:=3) (by decide))
   have HF:=Hi (an C2 (K2));clear C2 K2
   go_wp2_with (first
    | refine wpList_store_mid (by rfl) 89 _ _ (by rfl) w.heap.size 0 ([.bool false,.bool false,.string ⟨#[]⟩]:List Value).toArray (by rfl) (by rfl) (uh HT) infoNt (dt.zab (cs:=[.bool false,.bool false,.string ⟨#[]⟩]) (by rfl)) ?_)
   refine bodyPost_ret (rgn.zaa rfl _ _ w.heap.size 0 [.bool false,.bool false,.string ⟨#[]⟩] _ rfl (World.rangeAt_setCells_same _ _ _ _ (uh HT)) underlying89 rfl infoNt) rfl ?_
   obtain⟨C2,K2⟩:=uh HF;have hC:=C2.out (b:=w.heap.size) (by omega) (by omega) 0 [.bool false,.bool false,.string ⟨#[]⟩]
   have hK:=K2.out (b:=w.heap.size) (by omega) 0 [.bool false,.bool false,.string ⟨#[]⟩]
   exact⟨false,false,em,c,uh hv,rfl,hC,hK⟩
 ·obtain rfl:OK=false:=by rw[hOK];exact decide_eq_false hk
  clear hOK;have hv:=Hi (show V=((false,false,em),c) from by rw[hN,hS,if_neg (by simp[hk])])
  rw[show (c.kd != 0)=true by simpa using hk] at hd
  clear ht hm;clear hN hS hk
  go_enter func53,ntmps53
  go_wp2_with fail
  obtain⟨W1,hW1⟩:∃ W1,W1=w.alloc (.cells #[.bool false,.bool false,.string ⟨#[]⟩] 89):=⟨_,rfl⟩;have gW1:W1=(w.alloc (.cells #[.bool false,.bool false,.string ⟨#[]⟩] 89)):=hW1;have fR1:W1.heap[w.heap.size]? = some (.cells #[.bool false,.bool false,.string ⟨#[]⟩] 89 (0,0)):=by rw[hW1];exact heap_alloc_new w _
  have bw:Below w.heap.size w W1:=by rw[hW1];exact ba
  have sz1:w.heap.size+1≤W1.heap.size:=by rw[hW1];simp
  have K1:Kp B w W1:=Kp.of bw;have C1:=h.below bw;rw[←gW1];clear gW1 hW1 bw h;refine ((uh hd) _ C1).mono ?_
  rintro e w2 ⟨rfl,hw⟩;obtain rfl:=hw.symm;clear hd;have HT:=Hi (dt.zac fR1 (o:=0) (n:=3) (by decide))
  have HF:=Hi (an C1 (K1));clear C1 K1
  go_wp2_with (first
   | refine wpList_store_mid (by rfl) 89 _ _ (by rfl) w.heap.size 0 ([.bool false,.bool false,.string ⟨#[]⟩]:List Value).toArray (by rfl) (by rfl) (uh HT) infoNt (dt.zab (cs:=[.bool false,.bool false,.string ⟨#[]⟩]) (by rfl)) ?_)
  refine bodyPost_ret (rgn.zaa rfl _ _ w.heap.size 0 [.bool false,.bool false,.string ⟨#[]⟩] _ rfl (World.rangeAt_setCells_same _ _ _ _ (uh HT)) underlying89 rfl infoNt) rfl ?_
  obtain⟨C1,K1⟩:=uh HF;have hC:=C1.out (b:=w.heap.size) (by omega) (by omega) 0 [.bool false,.bool false,.string ⟨#[]⟩]
  have hK:=K1.out (b:=w.heap.size) (by omega) 0 [.bool false,.bool false,.string ⟨#[]⟩]
  exact⟨false,false,em,c,uh hv,rfl,hC,hK⟩
set_option maxRecDepth 20000 in
theorem zgL(B p:Nat)(c:Cu)(w:World)(h:RurAt w B p c)(hkd:c.kd≠0):Calls prog 54 #[ptr B] w fun e w'=>e = .returned (.tuple #[.agg #[.bool false,.bool false,.string em],.bool false])∧RurAt w' B p c∧Kp B w w':=by
 have hlt:=h.lt;have hplt:=h.plt;have hix:=h.ok.lt;have hlen:=h.len;have hr:=h.tk;have hne:B≠w.heap.size:=by omega
 have hnp:p≠w.heap.size:=by omega
 obtain⟨cap,d0,d1,f1,-⟩:=h.c01;obtain⟨-,-,-,d4⟩:=h.c2;have bA:=qA w;have bB:=qB w;have HH:=Hi (fun o o'=>h.below (Go.below_drewN ((uh bB) o o') 1))
 have HB:=Hi (fun o o'=>show Below w.heap.size w (((w.alloc o).alloc o').drew) from Go.below_drewN ((uh bB) o o') 1)
 have HZ:=Hi (fun o o'=>show (((w.alloc o).alloc o').drew).heap[w.heap.size]? = some o from (Below.heap_alloc (w.alloc o) o' w.heap.size (by simp)).trans (heap_alloc_new w o))
 skip
 obtain⟨ix,hk⟩:∃ ix,ix=c.ix:=⟨_,rfl⟩;obtain⟨n,hk2⟩:∃ n,n=c.ts.length:=⟨_,rfl⟩;obtain⟨t,hk3⟩:∃ t,t=c.tok:=⟨_,rfl⟩;obtain⟨kd,hk4⟩:∃ kd,kd=c.kd:=⟨_,rfl⟩;rw[←hk,←hk2] at hix;rw[←hk2] at d0 hlen;rw[←hk] at d1 hr ;rw[←hk3] at hr;rw[←hk4] at d4 hkd;clear h hk hk2 hk3 hk4;have ii:(ix:Int)<(n:Int):=by omega
 have hn1:(ix:Int)+1<9223372036854775807:=by omega
 have D0:=qc hlt d0;have D1:=qc hlt d1;have D4':∀ o o',((w.alloc o).alloc o').cell? ⟨B,4,none⟩=some (.int .i64 kd):=fun o o'=>(((uh bB) o o').cell (p:=⟨B,4,none⟩) hlt).trans d4
 have D1':∀ o o',((w.alloc o).alloc o').cell? ⟨B,1,none⟩=some (.int .i64 ix):=fun o o'=>(((uh bB) o o').cell (p:=⟨B,1,none⟩) hlt).trans d1
 have F1':∀ o o',((w.alloc o).alloc o').frozen? ⟨B,1,none⟩=false:=fun o o'=>by
  have e:=((uh bB) o o').block B hlt;rw[World.frozen?_of_block (w:=w) (a:=⟨B,1,none⟩) e];exact f1
 have E:=qg hr;obtain⟨e0,e1,e2,e3,e4,e5,e6⟩:=qe E;clear E hr d0 d1 d4 f1 bB;have b0:(kd != 0)=true:=by simpa using hkd
 have b1:(kd==0)=false:=by simpa using hkd
 clear hkd;unfold ptr
 go_enter func54,ntmps54
 go_wp2_with fail
 go_region
 have HT:=Hi (fun o=>show (((w.alloc (.cells #[.bool false,.bool false,.string ⟨#[]⟩] 89)).alloc o).drew).there w.heap.size 0 3 from dt.zac ((uh HZ) _ _) (by decide))
 go_wp2_with (first
  | refine wpList_store_mid (by rfl) 89 _ _ (by rfl) w.heap.size 0 #[.bool false,.bool false,.string ⟨#[]⟩] (by rfl) (by rfl) ((uh HT) _) infoNt (dt.zab (cs:=[.bool false,.bool false,.string ⟨#[]⟩]) (by rfl)) ?_)
 refine bodyPost_ret (rgn.zaa rfl _ _ w.heap.size 0 [.bool false,.bool false,.string ⟨#[]⟩] _ rfl (World.rangeAt_setCells_same _ _ _ _ ((uh HT) _)) underlying89 rfl infoNt) rfl ?_
 exact⟨rfl,((uh HH) _ _).out hne hnp 0 _,(Kp.of ((uh HB) _ _)).out (lr _) 0 _⟩
set_option maxRecDepth 20000 in
theorem zjO(B p:Nat)(c:Cu)(w:World)(h:RurAt w B p c)(hkd:c.kd=0)(h6:c.tok.k≠6)(h7:c.tok.k≠7):Calls prog 54 #[ptr B] w fun e w'=>e = .returned (.tuple #[.agg #[.bool false,.bool false,.string em],.bool true])∧RurAt w' B p c∧Kp B w w':=by
 have hlt:=h.lt;have hplt:=h.plt;have hix:=h.ok.lt;have hlen:=h.len;have hr:=h.tk;have hne:B≠w.heap.size:=by omega
 have hnp:p≠w.heap.size:=by omega
 obtain⟨cap,d0,d1,f1,-⟩:=h.c01;obtain⟨-,-,-,d4⟩:=h.c2;have bA:=qA w;have bB:=qB w;have HH:=Hi (fun o o'=>h.below (Go.below_drewN ((uh bB) o o') 1))
 have HB:=Hi (fun o o'=>show Below w.heap.size w (((w.alloc o).alloc o').drew) from Go.below_drewN ((uh bB) o o') 1)
 have HZ:=Hi (fun o o'=>show (((w.alloc o).alloc o').drew).heap[w.heap.size]? = some o from (Below.heap_alloc (w.alloc o) o' w.heap.size (by simp)).trans (heap_alloc_new w o))
 skip
 obtain⟨ix,hk⟩:∃ ix,ix=c.ix:=⟨_,rfl⟩;obtain⟨n,hk2⟩:∃ n,n=c.ts.length:=⟨_,rfl⟩;obtain⟨t,hk3⟩:∃ t,t=c.tok:=⟨_,rfl⟩;obtain⟨kd,hk4⟩:∃ kd,kd=c.kd:=⟨_,rfl⟩;rw[←hk,←hk2] at hix;rw[←hk2] at d0 hlen;rw[←hk] at d1 hr ;rw[←hk3] at hr h6 h7;rw[←hk4] at d4 hkd;clear h hk hk2 hk3 hk4;have ii:(ix:Int)<(n:Int):=by omega
 have hn1:(ix:Int)+1<9223372036854775807:=by omega
 have D0:=qc hlt d0;have D1:=qc hlt d1;have D4':∀ o o',((w.alloc o).alloc o').cell? ⟨B,4,none⟩=some (.int .i64 kd):=fun o o'=>(((uh bB) o o').cell (p:=⟨B,4,none⟩) hlt).trans d4
 have D1':∀ o o',((w.alloc o).alloc o').cell? ⟨B,1,none⟩=some (.int .i64 ix):=fun o o'=>(((uh bB) o o').cell (p:=⟨B,1,none⟩) hlt).trans d1
 have F1':∀ o o',((w.alloc o).alloc o').frozen? ⟨B,1,none⟩=false:=fun o o'=>by
  have e:=((uh bB) o o').block B hlt;rw[World.frozen?_of_block (w:=w) (a:=⟨B,1,none⟩) e];exact f1
 have E:=qg hr;obtain⟨e0,e1,e2,e3,e4,e5,e6⟩:=qe E;clear E hr d0 d1 d4 f1 bB;subst hkd;have n6:(t.k != 6)=true:=by simpa using h6
 have n7:(t.k != 7)=true:=by simpa using h7
 clear h6 h7;unfold ptr
 go_enter func54,ntmps54
 go_wp2_with fail
 go_region
 have HT:=Hi (fun o=>show (((w.alloc (.cells #[.bool false,.bool false,.string ⟨#[]⟩] 89)).alloc o).drew).there w.heap.size 0 3 from dt.zac ((uh HZ) _ _) (by decide))
 go_wp2_with (first
  | refine wpList_store_mid (by rfl) 89 _ _ (by rfl) w.heap.size 0 #[.bool false,.bool false,.string ⟨#[]⟩] (by rfl) (by rfl) ((uh HT) _) infoNt (dt.zab (cs:=[.bool false,.bool false,.string ⟨#[]⟩]) (by rfl)) ?_)
 refine bodyPost_ret (rgn.zaa rfl _ _ w.heap.size 0 [.bool false,.bool false,.string ⟨#[]⟩] _ rfl (World.rangeAt_setCells_same _ _ _ _ ((uh HT) _)) underlying89 rfl infoNt) rfl ?_
 exact⟨rfl,((uh HH) _ _).out hne hnp 0 _,(Kp.of ((uh HB) _ _)).out (lr _) 0 _⟩
set_option maxRecDepth 20000 in
theorem zih(B p:Nat)(c:Cu)(w:World)(h:RurAt w B p c)(hkd:c.kd=0)(hK:c.tok.k=6):Calls prog 54 #[ptr B] w fun e w'=>e = .returned (.tuple #[.agg #[.bool true,.bool false,.string c.tok.va],.bool true])∧RurAt w' B p c.take∧Kp B w w':=by
 have hlt:=h.lt;have hplt:=h.plt;have hix:=h.ok.lt;have hlen:=h.len;have hr:=h.tk;have hne:B≠w.heap.size:=by omega
 have hnp:p≠w.heap.size:=by omega
 obtain⟨cap,d0,d1,f1,-⟩:=h.c01;obtain⟨-,-,-,d4⟩:=h.c2;have bA:=qA w;have bB:=qB w;have HH:=Hi (fun o o'=>h.below (Go.below_drewN ((uh bB) o o') 1))
 have HB:=Hi (fun o o'=>show Below w.heap.size w (((w.alloc o).alloc o').drew) from Go.below_drewN ((uh bB) o o') 1)
 have HZ:=Hi (fun o o'=>show (((w.alloc o).alloc o').drew).heap[w.heap.size]? = some o from (Below.heap_alloc (w.alloc o) o' w.heap.size (by simp)).trans (heap_alloc_new w o))
 have hm:=zaJ h.ok (by rw[hK];decide) (by rw[hK];decide)
 have HMM:=Hi (fun o o'=>show ((((w.setCell ⟨B,1,none⟩ (.int .i64 ((c.ix:Int)+1))).alloc o).alloc o').drew).heap[w.heap.size]? = some o∧RurAt ((((w.setCell ⟨B,1,none⟩ (.int .i64 ((c.ix:Int)+1))).alloc o).alloc o').drew) B p c.take∧Kp B w ((((w.setCell ⟨B,1,none⟩ (.int .i64 ((c.ix:Int)+1))).alloc o).alloc o').drew) from by
  obtain⟨W,hW⟩:∃ W,W=w.setCell ⟨B,1,none⟩ (.int .i64 ((c.ix:Int)+1)):=⟨_,rfl⟩;have hsz:W.heap.size=w.heap.size:=by rw[hW];simp
  have hC:RurAt W B p c.take:=by rw[hW];exact h.tak hm
  have hK:Kp B w W:=by rw[hW];exact (Kp.refl B _).set 1 _
  rw[←hW];have b1:Below W.heap.size W ((W.alloc o).alloc o'):=((Below.refl _ _).alloc (lr _) o).alloc (by simp) o'
  have b2:Below W.heap.size W (((W.alloc o).alloc o').drew):=Go.below_drewN b1 1;refine⟨?_,hC.below b2,hK.trans (Kp.of b2)⟩
  have:=(Below.heap_alloc (W.alloc o) o' W.heap.size (by simp)).trans (heap_alloc_new W o)
  rw[hsz] at this
  exact this)
 obtain⟨ix,hk⟩:∃ ix,ix=c.ix:=⟨_,rfl⟩;obtain⟨n,hk2⟩:∃ n,n=c.ts.length:=⟨_,rfl⟩;obtain⟨t,hk3⟩:∃ t,t=c.tok:=⟨_,rfl⟩;obtain⟨kd,hk4⟩:∃ kd,kd=c.kd:=⟨_,rfl⟩;rw[←hk,←hk2] at hix;rw[←hk2] at d0 hlen;rw[←hk] at d1 hr HMM;rw[←hk3] at hr hK ⊢;rw[←hk4] at d4 hkd;clear h hk hk2 hk3 hk4;have ii:(ix:Int)<(n:Int):=by omega
 have hn1:(ix:Int)+1<9223372036854775807:=by omega
 have D0:=qc hlt d0;have D1:=qc hlt d1;have D4':∀ o o',((w.alloc o).alloc o').cell? ⟨B,4,none⟩=some (.int .i64 kd):=fun o o'=>(((uh bB) o o').cell (p:=⟨B,4,none⟩) hlt).trans d4
 have D1':∀ o o',((w.alloc o).alloc o').cell? ⟨B,1,none⟩=some (.int .i64 ix):=fun o o'=>(((uh bB) o o').cell (p:=⟨B,1,none⟩) hlt).trans d1
 have F1':∀ o o',((w.alloc o).alloc o').frozen? ⟨B,1,none⟩=false:=fun o o'=>by
  have e:=((uh bB) o o').block B hlt;rw[World.frozen?_of_block (w:=w) (a:=⟨B,1,none⟩) e];exact f1
 have E:=qg hr;obtain⟨e0,e1,e2,e3,e4,e5,e6⟩:=qe E;clear E hr d0 d1 d4 f1 bB;subst hkd;rw[hK] at e0;unfold ptr
 go_enter func54,ntmps54
 go_wp2_with fail
 go_region
 go_wp2_with fail
 refine bodyPost_ret (rgn.zaa rfl _ _ w.heap.size 0 [.bool true,.bool false,.string t.va] _ rfl (dt.zap ((uh HMM) _ _).1 0 [.bool true,.bool false,.string t.va] (fun j u hu=>by rw[Nat.zero_add];simpa using hu)) underlying89 rfl infoNt) rfl ?_
 exact⟨rfl,((uh HMM) _ _).2.1,((uh HMM) _ _).2.2⟩
set_option maxRecDepth 20000 in
theorem zig(B p:Nat)(c:Cu)(w:World)(h:RurAt w B p c)(hkd:c.kd=0)(hK:c.tok.k=7):Calls prog 54 #[ptr B] w fun e w'=>e = .returned (.tuple #[.agg #[.bool true,.bool true,.string c.tok.va],.bool true])∧RurAt w' B p c.take∧Kp B w w':=by
 have hlt:=h.lt;have hplt:=h.plt;have hix:=h.ok.lt;have hlen:=h.len;have hr:=h.tk;have hne:B≠w.heap.size:=by omega
 have hnp:p≠w.heap.size:=by omega
 obtain⟨cap,d0,d1,f1,-⟩:=h.c01;obtain⟨-,-,-,d4⟩:=h.c2;have bA:=qA w;have bB:=qB w;have HH:=Hi (fun o o'=>h.below (Go.below_drewN ((uh bB) o o') 1))
 have HB:=Hi (fun o o'=>show Below w.heap.size w (((w.alloc o).alloc o').drew) from Go.below_drewN ((uh bB) o o') 1)
 have HZ:=Hi (fun o o'=>show (((w.alloc o).alloc o').drew).heap[w.heap.size]? = some o from (Below.heap_alloc (w.alloc o) o' w.heap.size (by simp)).trans (heap_alloc_new w o))
 have hm:=zaJ h.ok (by rw[hK];decide) (by rw[hK];decide)
 have HMM:=Hi (fun o o'=>show ((((w.setCell ⟨B,1,none⟩ (.int .i64 ((c.ix:Int)+1))).alloc o).alloc o').drew).heap[w.heap.size]? = some o∧RurAt ((((w.setCell ⟨B,1,none⟩ (.int .i64 ((c.ix:Int)+1))).alloc o).alloc o').drew) B p c.take∧Kp B w ((((w.setCell ⟨B,1,none⟩ (.int .i64 ((c.ix:Int)+1))).alloc o).alloc o').drew) from by
  obtain⟨W,hW⟩:∃ W,W=w.setCell ⟨B,1,none⟩ (.int .i64 ((c.ix:Int)+1)):=⟨_,rfl⟩;have hsz:W.heap.size=w.heap.size:=by rw[hW];simp
  have hC:RurAt W B p c.take:=by rw[hW];exact h.tak hm
  have hK:Kp B w W:=by rw[hW];exact (Kp.refl B _).set 1 _
  rw[←hW];have b1:Below W.heap.size W ((W.alloc o).alloc o'):=((Below.refl _ _).alloc (lr _) o).alloc (by simp) o'
  have b2:Below W.heap.size W (((W.alloc o).alloc o').drew):=Go.below_drewN b1 1;refine⟨?_,hC.below b2,hK.trans (Kp.of b2)⟩
  have:=(Below.heap_alloc (W.alloc o) o' W.heap.size (by simp)).trans (heap_alloc_new W o)
  rw[hsz] at this
  exact this)
 obtain⟨ix,hk⟩:∃ ix,ix=c.ix:=⟨_,rfl⟩;obtain⟨n,hk2⟩:∃ n,n=c.ts.length:=⟨_,rfl⟩;obtain⟨t,hk3⟩:∃ t,t=c.tok:=⟨_,rfl⟩;obtain⟨kd,hk4⟩:∃ kd,kd=c.kd:=⟨_,rfl⟩;rw[←hk,←hk2] at hix;rw[←hk2] at d0 hlen;rw[←hk] at d1 hr HMM;rw[←hk3] at hr hK ⊢;rw[←hk4] at d4 hkd;clear h hk hk2 hk3 hk4;have ii:(ix:Int)<(n:Int):=by omega
 have hn1:(ix:Int)+1<9223372036854775807:=by omega
 have D0:=qc hlt d0;have D1:=qc hlt d1;have D4':∀ o o',((w.alloc o).alloc o').cell? ⟨B,4,none⟩=some (.int .i64 kd):=fun o o'=>(((uh bB) o o').cell (p:=⟨B,4,none⟩) hlt).trans d4
 have D1':∀ o o',((w.alloc o).alloc o').cell? ⟨B,1,none⟩=some (.int .i64 ix):=fun o o'=>(((uh bB) o o').cell (p:=⟨B,1,none⟩) hlt).trans d1
 have F1':∀ o o',((w.alloc o).alloc o').frozen? ⟨B,1,none⟩=false:=fun o o'=>by
  have e:=((uh bB) o o').block B hlt;rw[World.frozen?_of_block (w:=w) (a:=⟨B,1,none⟩) e];exact f1
 have E:=qg hr;obtain⟨e0,e1,e2,e3,e4,e5,e6⟩:=qe E;clear E hr d0 d1 d4 f1 bB;subst hkd;rw[hK] at e0;unfold ptr
 go_enter func54,ntmps54
 go_wp2_with fail
 go_region
 go_wp2_with fail
 refine bodyPost_ret (rgn.zaa rfl _ _ w.heap.size 0 [.bool true,.bool true,.string t.va] _ rfl (dt.zap ((uh HMM) _ _).1 0 [.bool true,.bool true,.string t.va] (fun j u hu=>by rw[Nat.zero_add];simpa using hu)) underlying89 rfl infoNt) rfl ?_
 exact⟨rfl,((uh HMM) _ _).2.1,((uh HMM) _ _).2.2⟩
theorem zjP(B p:Nat)(c:Cu)(w:World)(h:RurAt w B p c):Calls prog 54 #[ptr B] w fun e w'=>∃ (n1 n2:Bool) (n3:ByteArray) (c':Cu),noteZ c=((n1,n2,n3),c')∧e = .returned (.tuple #[.agg #[.bool n1,.bool n2,.string n3],.bool (decide (c.kd=0))])∧RurAt w' B p c'∧Kp B w w':=by
 by_cases hk:c.kd=0
 ·by_cases h6:c.tok.k=6
  ·refine (zih B p c w h hk h6).mono fun e w' ⟨h1,h2,h3⟩=>⟨_,_,_,_,?_,by rw[decide_eq_true hk];exact h1,h2,h3⟩
   unfold noteZ;rw[show c.isS=true from decide_eq_true ⟨hk,.inl h6⟩,h6]
   rfl
  by_cases h7:c.tok.k=7
  ·refine (zig B p c w h hk h7).mono fun e w' ⟨h1,h2,h3⟩=>⟨_,_,_,_,?_,by rw[decide_eq_true hk];exact h1,h2,h3⟩
   unfold noteZ;rw[show c.isS=true from decide_eq_true ⟨hk,.inr h7⟩,h7]
   rfl
  ·refine (zjO B p c w h hk h6 h7).mono fun e w' ⟨h1,h2,h3⟩=>⟨_,_,_,_,?_,by rw[decide_eq_true hk];exact h1,h2,h3⟩
   unfold noteZ;rw[show c.isS=false from decide_eq_false (fun e=>by rcases e.2 with e | e;exact h6 e;exact h7 e)]
   rfl
 ·refine (zgL B p c w h hk).mono fun e w' ⟨h1,h2,h3⟩=>⟨_,_,_,_,?_,by rw[decide_eq_false hk];exact h1,h2,h3⟩
  unfold noteZ;rw[show c.isS=false from decide_eq_false (fun e=>hk e.1)]
  rfl
theorem zjC(B p:Nat)(c:Cu)(w:World)(h:CurAt w B p c):Calls prog 32 #[ptr B] w fun e w'=>e = .returned (.int .i64 c.op)∧w'=w:=by
 obtain⟨cap,h1,h2,h3,h4⟩:=h.box;have d2:w.cell? ⟨B,2,none⟩=some (.int .i64 c.op):=(zG h1 2).trans rfl;clear h h1 h4;unfold ptr
 go_enter func32,ntmps32
 go_wp2_with fail
 go_ret
 exact⟨rfl,rfl⟩
open dt (Dt Kp RowAt Ow OwL OwIn Grow)
theorem zfC(ct:Bool):∀ (f:Nat) {c:Cu},c.kd≠0→litF ct f c=(none,c)
 | 0,c,h=>rfl
 | f+1,c,h=>by
  show litS (litF ct f) ct c=_
  unfold litS;rw[if_pos h]
theorem zg2{c:Cu}(h:c.kd≠0):c.name=c:=by
 unfold Cu.name;rw[show c.isN=false from decide_eq_false (fun e=>h e.1)]
 exact if_neg h
theorem zg4{c:Cu}(h:c.kd≠0)(q:ByteArray):c.want q=c:=by
 unfold Cu.want;rw[show c.isP q=false from decide_eq_false (fun e=>h e.1)]
 exact if_neg h
theorem ziU{c:Cu}(h:c.kd≠0)(q:ByteArray):c.cls q=c:=by
 unfold Cu.cls;rw[show c.isP q=false from decide_eq_false (fun e=>h e.1)]
 exact if_neg h
theorem ziS(ct:Bool)(f:Nat){c:Cu}(h:c.kd≠0):argS (litF ct f) c=(none,c):=by
 unfold argS;rw[zg2 h,zg4 h,zfC ct f h]
theorem ziT(ct:Bool)(f:Nat){c:Cu}(h:c.kd≠0)(g:Nat)(l:List Dt):brkF (argS (litF ct f)) bRp 1 g l c=(none,c):=by
 cases g with
 | zero=>rfl
 | succ g =>
  rw[brkF,if_pos (.inr (decide_eq_false (fun e=>h e.1))),ziS ct f h]
def ASt(ct:Bool)(f:Nat)(TT:Option (List Dt) × Cu)(N gk:Nat)(l:List Dt)(cc:Cu):Prop:=
 (cc.kd=0∧l.length<cc.ix∧N+1≤gk+cc.ix∧∃ g,TT=brkF (argS (litF ct f)) bRp 1 g l cc∧N≤g+cc.ix)∨(cc.kd≠0∧TT=(none,cc)∧l.length≤N)
theorem ASt.next{ct:Bool}{f:Nat}{TT:Option (List Dt) × Cu}{N gk g:Nat}{l:List Dt}{cc:Cu}(hok:cc.Ok)(hN:cc.ts.length=N)(hf:N≤f+cc.ix)(hl:l.length<cc.ix)(hgk:N+1≤gk+cc.ix)(hT:TT=brkF (argS (litF ct f)) bRp 1 g l cc)(hg:N≤g+cc.ix)(hc:l.length<1∨cc.isP bRp=false)(NA:ByteArray)(NX NY:Int)
  (hA:(cc.name.want bCol).kd=0→(NA,NX,NY)=(cc.tok.tx,cc.tok.ln,cc.tok.co)):ASt ct f TT N (gk-1) (l++[fldD NA ((litF ct f (cc.name.want bCol)).1.getD zeroD) NX NY]) (litF ct f (cc.name.want bCol)).2:=by
 have hlt:=hok.lt;obtain⟨g',rfl⟩:∃ g',g=g'+1:=⟨g-1,by omega⟩
 have s1:=zan hok;have s2:=s1.trans (zaV s1.ok bCol);have hgo:=zas ct f _ s2.ok;have hix:=s2.ix;rw[brkF,if_pos hc] at hT;unfold argS at hT
 cases hr:(litF ct f (cc.name.want bCol)).1 with
 | none =>
  rw[hr] at hT
  right
  refine⟨zbZ ct f _ s2.ok (by rw[s2.ts];omega) hr,hT,by simp;omega⟩
 | some v =>
  rw[hr] at hT;have h2:=hgo.2 (by rw[hr];rfl)
  by_cases hk:(litF ct f (cc.name.want bCol)).2.kd=0
  ·left
   have hal:(cc.name.want bCol).kd=0:=by
    by_cases e:(cc.name.want bCol).kd=0
    ·exact e
    ·rw[zfC ct f e] at hr;cases hr
   have e3:=hA hal
   injection e3 with e1 e3
   injection e3 with e2 e3
   rw[e1,e2,e3];exact⟨hk,by simp;omega,by omega,g',hT,by omega⟩
  ·right
   refine⟨hk,?_,by simp;omega⟩
   rw[hT];exact ziT ct f hk _ _
theorem buildA(NA:ByteArray)(k1:Int)(tx:ByteArray)(bl:Bool)(a1:Option Addr)(n1 c1:Nat)(a2:Option Addr)(n2 c2:Nat)(ln co NX NY:Int)(w:World):(Instr.buildSlice 92 1 #[(0,.agg #[.string NA,.int .i64 k1,.string tx,.bool bl,.slice a1 n1 c1,.slice a2 n2 c2,.int .i64 ln,.int .i64 co,.int .i64 NX,.int .i64 NY])]).run prog w = .ok (.slice (some ⟨w.heap.size,0,none⟩) 1 1) (w.alloc (.cells #[.string NA,.int .i64 k1,.string tx,.bool bl,.slice a1 n1 c1,.slice a2 n2 c2,.int .i64 ln,.int .i64 co,.int .i64 NX,.int .i64 NY] 123)):=by go_simp
theorem zf2(B p:Nat)(c:Cu)(ct:Bool)(w:World)(h:RurAt w B p c)(f:Nat)(hf:c.ts.length≤f+c.ix):Calls prog 56 #[ptr B,.bool ct] w fun e w'=>∃ sl,e = .returned (.tuple #[sl,.bool (argsS (litF ct f) c).1.isSome])∧BrkPA (argsS (litF ct f) c).1 w.heap.size w' sl∧RurAt w' B p (argsS (litF ct f) c).2∧Kp B w w':=by
 have hlt:=h.lt;have hplt:=h.plt;have hlen:=h.len;have hix:=h.ok.lt;have hip:=Hi (zam B p c bLp w h);have hop:=Hi (fun W (hc:RurAt W B p c)=>zbb B p c bLp W hc)
 have hst:=za2 h.ok bLp;obtain⟨-,-,-,d4⟩:=h.c2;have HH:=Hi h;unfold argsS
 by_cases hk:c.kd=0
 ·cases hP:c.isP bLp with
  | false =>
   have k0:(c.kd != 0)=false:=by simpa using hk
   rw[hk] at d4;rw[hP] at hip;rw[if_neg (by decide),if_pos hk]
   clear h hop hst hP;unfold ptr at hip ⊢;unfold bLp at hip
   go_enter func56,ntmps56
   go_wp2_with fail
   refine (uh hip).mono ?_
   rintro e w1 ⟨rfl,b1⟩
   go_wp2_with fail
   go_ret2
   exact⟨_,rfl,⟨[],Grow.nil⟩,(uh HH).below b1,Kp.of b1⟩
  | true =>
   rw[hk] at d4;rw[hP] at hip;rw[if_pos rfl];obtain⟨TT,hT⟩:∃ TT,TT=brk (argS (litF ct f)) bLp bRp 1 c:=⟨_,rfl⟩;rw[←hT];obtain⟨N,hN⟩:∃ N,N=c.ts.length:=⟨_,rfl⟩;have HNN:=Hi hN
   have HS0:=Hi (show ASt ct f TT N (N+1) [] (c.opn bLp) from by
    cases hO:c.opB bLp with
    | true =>
     left
     have hi:=zbL hO;refine⟨?_,by rw[hi];simp,by omega,c.ts.length,by rw[hT];unfold brk;rw[hO];rfl,by omega⟩
     unfold Cu.opB at hO;simp only[Bool.and_eq_true,decide_eq_true_eq] at hO;unfold Cu.opn;rw[if_pos hO.1,if_pos hO.2];exact hk
    | false =>
     right
     exact⟨zkA hO,by rw[hT];unfold brk;rw[hO];rfl,Nat.zero_le _⟩)
   rw[←hN] at hf hlen hix;obtain⟨C0,hC0⟩:∃ C0,C0=c.opn bLp:=⟨_,rfl⟩;rw[←hC0] at HS0 hop hst;have Hts0:=Hi hst.ts;have hx0:=hst.ix;clear h hP hk hT hN hC0 hst;unfold ptr at hip hop ⊢;unfold bLp at hip hop
   go_enter func56,ntmps56
   go_wp2_with fail
   refine (uh hip).mono ?_
   rintro e w1 ⟨rfl,b1⟩
   go_wp2_with fail
   refine ((uh hop) w1 ((uh HH).below b1)).mono ?_
   rintro e w2 ⟨rfl,hc2,hk2⟩;have HC2:=Hi hc2;have HK2:=Hi ((Kp.of b1).trans hk2);clear hip hop hc2 hk2 b1 d4
   go_wp2_with fail
   go_loopg [7] (N+1) (fun gk sl wr=>∃ (l:List Dt) (cc:Cu) (Gs:List Nat),Hid (ASt ct f TT N gk l cc)∧Hid (RurAt wr B p cc)∧Hid (Grow 123 10 wr w.heap.size l sl Gs)∧Hid (Kp B w wr)∧Hid (cc.ts=c.ts)∧c.ix≤cc.ix)
   case atStart=>exact⟨[],C0,[],HS0,HC2,Hi Grow.nil,HK2,Hts0,hx0⟩
   case round =>
    obtain⟨l,cc,Gs,HS,HR,HG,HK,Hts,hxc⟩:=hrel;have hixc:=(uh HR).ok.lt;rw[uh Hts,←uh HNN] at hixc;obtain⟨al,cl,hsl⟩:=Grow.form (uh HG);subst hsl;obtain⟨-,-,-,d4⟩:=(uh HR).c2;have hcl:=Hi (fun W (hc:RurAt W B p cc)=>zaL B p cc bRp W hc)
    have hiq:=Hi (fun W (hc:RurAt W B p cc)=>zam B p cc bRp W hc)
    unfold ptr bRp at hcl hiq
    rcases uh HS with ⟨hk0,hl1,hgk,gg,hTT,hgg⟩ | ⟨hk0,hTT,hlN⟩
    ·rw[hk0] at d4
     by_cases hl0:l.length=0
     ·obtain rfl:=List.eq_nil_of_length_eq_zero hl0
      clear hl0;simp only[List.length_nil] at hl1 ⊢;have HRx:=HR;have HKx:=HK;have HKy:=Hi (Kp.refl B wr);have hstC:=(zan (uh HR).ok).trans (zaV (zan (uh HR).ok).ok bCol);have NM:=Hi (fun W (hc:RurAt W B p cc)=>za6 B p cc W hc)
      have WT:=Hi (fun W (hc:RurAt W B p cc.name)=>zbB B p cc.name bCol W hc)
      have LT:=Hi (fun W (hc:RurAt W B p (cc.name.want bCol))=>zeG B p (cc.name.want bCol) ct W hc f (by rw[hstC.ts,uh Hts,←uh HNN];have:=hstC.ix;omega))
      rw[zaW] at NM;obtain⟨NA,hA⟩:∃ A,A=if cc.isN then cc.tok.tx else em:=⟨_,rfl⟩
      obtain⟨NX,hX⟩:∃ A,A=if cc.isN then cc.tok.ln else 0:=⟨_,rfl⟩
      obtain⟨NY,hY⟩:∃ A,A=if cc.isN then cc.tok.co else 0:=⟨_,rfl⟩
      rw[←hA,←hX,←hY] at NM;have HNX:=Hi (ASt.next (ct:=ct) (l:=[]) (uh HR).ok (by rw[uh Hts,←uh HNN]) (by omega) hl1 hgk hTT hgg (.inl (by simp)) NA NX NY (fun h=>by rw[hA,hX,hY,zcA h];rfl))
      have hgo:=(zas ct f (cc.name.want bCol) hstC.ok).1;obtain⟨U,hU⟩:∃ U,U=litF ct f (cc.name.want bCol):=⟨_,rfl⟩;rw[←hU] at LT HNX hgo;have hx3:=Nat.le_trans hstC.ix hgo.ix;have Hts3:=Hi (show U.2.ts=c.ts from by rw[hgo.ts,hstC.ts];exact uh Hts)
      obtain⟨C3,hC3⟩:∃ C3,C3=cc.name.want bCol:=⟨_,rfl⟩;rw[←hC3] at WT LT;obtain⟨C1,hC1⟩:∃ C1,C1=cc.name:=⟨_,rfl⟩;rw[←hC1] at NM WT;unfold ptr at NM WT LT;unfold bCol at WT;clear hA hX hY hU hC3 hC1 hgo hstC HS hTT hgg hcl
      go_wp2_with fail
      refine ((uh NM) _ (uh HRx)).mono ?_
      rintro e w3 ⟨rfl,hc3,hk3⟩;have HC3:=Hi hc3;have HK3:=Hi hk3;clear NM hc3 hk3
      go_wp2_with fail
      refine ((uh WT) _ ((uh HC3).below (ba))).mono ?_
      rintro e w4 ⟨rfl,hc4,hk4⟩;have HC4:=Hi hc4;have hs34:w3.heap.size+1≤w4.heap.size:=by have:=hk4.size;simpa using this
      have hNB:w4.heap[w3.heap.size]? = some (.cells #[.string NA,.int .i64 NX,.int .i64 NY] 84):=(hk4.block _ (by simp) (by have:=(uh HC3).lt;omega)).trans (heap_alloc_new w3 _)
      have HK34:=Hi (show Kp B w3 w4 from (Kp.of (ba)).trans hk4)
      clear WT hc4 hk4
      go_wp2_with fail
      refine ((uh LT) w4 (uh HC4)).mono ?_
      rintro e w5 ⟨cs,F,rfl,hpo,hc5,hk5⟩;obtain⟨kk,tt,bl,ai,ni,ci,af,nf,cf,lnv,cov,rfl⟩:=hpo.shape;have HP:=Hi hpo;have HC5:=Hi hc5;have HK5:=Hi hk5;have hs45:=hk5.size;have hBw:=(uh HC4).lt;have hKx:=(uh HKx);have HKr:=Hi (hKx.trans ((uh HK3).trans ((uh HK34).trans hk5)));have hG5:=(uh HG).kp ((uh HKy).trans ((uh HK3).trans ((uh HK34).trans hk5))) (by omega)
      obtain⟨xss,hr5,hol5,hx5⟩:=hG5.row;have hN5:w5.heap[w3.heap.size]? = some (.cells #[.string NA,.int .i64 NX,.int .i64 NY] 84):=(hk5.block _ (by omega) (by have:=(uh HC3).lt;omega)).trans hNB
      obtain⟨W6,e6⟩:∃ W6,W6=w5.alloc (.cells #[.int .i64 kk,.string tt,.bool bl,.slice ai ni ci,.slice af nf cf,.int .i64 lnv,.int .i64 cov] 33):=⟨_,rfl⟩;have b56:Below w5.heap.size w5 W6:=by rw[e6];exact ba
      have hs6:W6.heap.size=w5.heap.size+1:=by rw[e6];simp
      have hN6:=(b56.block w3.heap.size (by omega)).trans hN5
      have y0:W6.cell? ⟨w3.heap.size,0,none⟩=some (.string NA):=(zG hN6 0).trans rfl;have y1:W6.cell? ⟨w3.heap.size,1,none⟩=some (.int .i64 NX):=(zG hN6 1).trans rfl;have y2:W6.cell? ⟨w3.heap.size,2,none⟩=some (.int .i64 NY):=(zG hN6 2).trans rfl;have hV6:W6.heap[w5.heap.size]? = some (.cells #[.int .i64 kk,.string tt,.bool bl,.slice ai ni ci,.slice af nf cf,.int .i64 lnv,.int .i64 cov] 33):=by rw[e6];exact heap_alloc_new w5 _
      have HXV:=Hi (show W6.rangeAt w5.heap.size 0 [.int .i64 kk,.string tt,.bool bl,.slice ai ni ci,.slice af nf cf,.int .i64 lnv,.int .i64 cov] from dt.zap hV6 0 [.int .i64 kk,.string tt,.bool bl,.slice ai ni ci,.slice af nf cf,.int .i64 lnv,.int .i64 cov] (fun j u hu=>by rw[Nat.zero_add];simpa using hu))
      have hG6:=hG5.keep b56.size (fun b hb _=>b56.block b hb)
      have HR6:=Hi (show W6.ownsRow w.heap.size 123 10 (.slice al 0 cl) 0 xss.flatten from dt.zaA hr5 (fun b h1 h2 h3=>b56.block b h1))
      have HOL:=Hi (show OwL Ow W6 [] xss Gs from OwL.agree (fun w w' e cs F=>Ow.agree e cs F) (fun b hb j=>dt.zaf (b56.block b (hG5.rng b hb).2) j) hol5)
      have HG6:=Hi (an hG6 hx5);have HOW:=Hi (show Ow W6 (fldD NA (U.1.getD zeroD) NX NY) [.string NA,.int .i64 kk,.string tt,.bool bl,.slice ai ni ci,.slice af nf cf,.int .i64 lnv,.int .i64 cov,.int .i64 NX,.int .i64 NY] F from zdx (nm:=NA) (zaX hpo.own b56 (fun b hb=>(hpo.rng b hb).2)) NX NY)
      have hFr:Hid (∀ b∈F,w.heap.size≤b∧b<W6.heap.size∧b ∉ Gs∧(Value.slice al 0 cl).ownBlock≠some b):=Hi (fun b hb=>by
       have h1:=hpo.rng b hb;have h2:=(uh HK3).size;have h3:=(uh HK34).size;have h4:=(uh HKy).size;have h5:=(uh HK).size;obtain⟨_,hr0,_⟩:=(uh HG).row
       exact⟨by omega,by omega,fun hm=>by have:=((uh HG).rng b hm).2;omega,fun e=>by have:=(hr0.lt b e).2;omega⟩)
      have hND:=Hi hpo.nodup;obtain⟨it,zt,q1,q2,q3,q4,q5⟩:=infoAz;have HQ:=Hi (an q1 (an q2 (an q3 (an q4 q5))));have hone:Hid (∀ u∈([.string NA,.int .i64 kk,.string tt,.bool bl,.slice ai ni ci,.slice af nf cf,.int .i64 lnv,.int .i64 cov,.int .i64 NX,.int .i64 NY]:List Value),u.oneCell'=true):=Hi (by intro u hu;simp at hu;rcases hu with rfl | rfl | rfl | rfl | rfl | rfl | rfl | rfl | rfl | rfl <;> rfl)
      have hbyt:=Hi (show (0+1) * 128≤140737488355328∧0+1≤maxLen from ⟨by omega,by unfold maxLen;omega⟩)
      have hsz6:=Hi (show w.heap.size≤W6.heap.size from by have h1:=(uh HKr).size;omega)
      have HB6:=Hi b56;have E6:=Hi e6;clear q1 q2 q3 q4 q5 hpo hc5 hk5 hKx hG5 hr5 hol5 hx5 hN5 hN6 hNB hG6 b56 e6 LT hV6
      go_wp2_with (first
       | (refine wpList_load_mid (by rfl) 33 _ (by rfl) w5.heap.size 0 (by rfl) [.int .i64 kk,.string tt,.bool bl,.slice ai ni ci,.slice af nf cf,.int .i64 lnv,.int .i64 cov] _ (uh HXV) underlying33 (by rfl) infoLt ?_)
       | (refine dt.zal (by rfl) 92 _ (by rfl) (.agg #[.string NA,.int .i64 kk,.string tt,.bool bl,.slice ai ni ci,.slice af nf cf,.int .i64 lnv,.int .i64 cov,.int .i64 NX,.int .i64 NY]) _ (by rfl) (buildA NA kk tt bl ai ni ci af nf cf lnv cov NX NY W6) ?_)
       | (at_builtin;refine dt.zaq (by rfl) _ _ (by rfl) underlying92 (uh HQ).1 (uh HQ).2.1 (uh HQ).2.2.1 (uh HQ).2.2.2.1 (uh HQ).2.2.2.2 (by omega) w.heap.size 0 xss.flatten _ (by rfl) (uh HR6) [.string NA,.int .i64 kk,.string tt,.bool bl,.slice ai ni ci,.slice af nf cf,.int .i64 lnv,.int .i64 cov,.int .i64 NX,.int .i64 NY] (by rfl) (uh hone) W6.heap.size rfl (by rfl) (uh hbyt).1 (uh hbyt).2 (uh hsz6) ?_;intro sl' w7 hr7 b7 hold7 hat7;have R7:=Hi (an hr7 (an b7 (an hold7 hat7)));clear hr7 b7 hold7 hat7)
       | (rw[←uh E6]))
      go_roundg (gk-1)
      case rel =>
       obtain⟨hr7,b7,hold7,hat7⟩:=uh R7;obtain⟨hG6,hx5⟩:=uh HG6;have hmore:=hG6.more (uh HOL) hx5 (uh HOW) (uh hND) (uh hFr) (by rfl) hr7 (by have:=b7.size;exact this) hold7 hat7
       exact⟨_,_,_,HNX,Hi (((uh HC5).below (uh HB6)).low b7 (by omega) (by omega)),Hi hmore,Hi (((uh HKr).trans (Kp.of (uh HB6))).low b7),Hts3,by omega⟩
      case measure=>omega
     ·have hlz:((l.length:Int)==0)=false:=by simpa using hl0
      cases hq:cc.isP bRp with
      | false =>
       have hq2:cc.isP ⟨#[41]⟩=false:=hq;rw[hq2] at hiq;have hstC:=(zan (uh HR).ok).trans (zaV (zan (uh HR).ok).ok bCol);have NM:=Hi (fun W (hc:RurAt W B p cc)=>za6 B p cc W hc)
       have WT:=Hi (fun W (hc:RurAt W B p cc.name)=>zbB B p cc.name bCol W hc)
       have LT:=Hi (fun W (hc:RurAt W B p (cc.name.want bCol))=>zeG B p (cc.name.want bCol) ct W hc f (by rw[hstC.ts,uh Hts,←uh HNN];have:=hstC.ix;omega))
       rw[zaW] at NM;obtain⟨NA,hA⟩:∃ A,A=if cc.isN then cc.tok.tx else em:=⟨_,rfl⟩
       obtain⟨NX,hX⟩:∃ A,A=if cc.isN then cc.tok.ln else 0:=⟨_,rfl⟩
       obtain⟨NY,hY⟩:∃ A,A=if cc.isN then cc.tok.co else 0:=⟨_,rfl⟩
       rw[←hA,←hX,←hY] at NM;have HNX:=Hi (ASt.next (ct:=ct) (uh HR).ok (by rw[uh Hts,←uh HNN]) (by omega) hl1 hgk hTT hgg (.inr hq) NA NX NY (fun h=>by rw[hA,hX,hY,zcA h];rfl))
       have hgo:=(zas ct f (cc.name.want bCol) hstC.ok).1;obtain⟨U,hU⟩:∃ U,U=litF ct f (cc.name.want bCol):=⟨_,rfl⟩;rw[←hU] at LT HNX hgo;have hx3:=Nat.le_trans hstC.ix hgo.ix;have Hts3:=Hi (show U.2.ts=c.ts from by rw[hgo.ts,hstC.ts];exact uh Hts)
       obtain⟨C3,hC3⟩:∃ C3,C3=cc.name.want bCol:=⟨_,rfl⟩;rw[←hC3] at WT LT;obtain⟨C1,hC1⟩:∃ C1,C1=cc.name:=⟨_,rfl⟩;rw[←hC1] at NM WT;unfold ptr at NM WT LT;unfold bCol at WT;clear hA hX hY hU hC3 hC1 hgo hstC HS hTT hgg hcl;clear hq hq2
       go_wp2_with fail
       refine ((uh hiq) wr (uh HR)).mono ?_
       rintro e wq ⟨rfl,bq⟩;have HRx:=Hi ((uh HR).below bq);have HKx:=Hi ((uh HK).trans (Kp.of bq));have HKy:=Hi (show Kp B wr wq from Kp.of bq)
       clear hiq bq
       go_wp2_with fail
       refine ((uh NM) _ (uh HRx)).mono ?_
       rintro e w3 ⟨rfl,hc3,hk3⟩;have HC3:=Hi hc3;have HK3:=Hi hk3;clear NM hc3 hk3
       go_wp2_with fail
       refine ((uh WT) _ ((uh HC3).below (ba))).mono ?_
       rintro e w4 ⟨rfl,hc4,hk4⟩;have HC4:=Hi hc4;have hs34:w3.heap.size+1≤w4.heap.size:=by have:=hk4.size;simpa using this
       have hNB:w4.heap[w3.heap.size]? = some (.cells #[.string NA,.int .i64 NX,.int .i64 NY] 84):=(hk4.block _ (by simp) (by have:=(uh HC3).lt;omega)).trans (heap_alloc_new w3 _)
       have HK34:=Hi (show Kp B w3 w4 from (Kp.of (ba)).trans hk4)
       clear WT hc4 hk4
       go_wp2_with fail
       refine ((uh LT) w4 (uh HC4)).mono ?_
       rintro e w5 ⟨cs,F,rfl,hpo,hc5,hk5⟩;obtain⟨kk,tt,bl,ai,ni,ci,af,nf,cf,lnv,cov,rfl⟩:=hpo.shape;have HP:=Hi hpo;have HC5:=Hi hc5;have HK5:=Hi hk5;have hs45:=hk5.size;have hBw:=(uh HC4).lt;have hKx:=(uh HKx);have HKr:=Hi (hKx.trans ((uh HK3).trans ((uh HK34).trans hk5)));have hG5:=(uh HG).kp ((uh HKy).trans ((uh HK3).trans ((uh HK34).trans hk5))) (by omega)
       obtain⟨xss,hr5,hol5,hx5⟩:=hG5.row;have hN5:w5.heap[w3.heap.size]? = some (.cells #[.string NA,.int .i64 NX,.int .i64 NY] 84):=(hk5.block _ (by omega) (by have:=(uh HC3).lt;omega)).trans hNB
       obtain⟨W6,e6⟩:∃ W6,W6=w5.alloc (.cells #[.int .i64 kk,.string tt,.bool bl,.slice ai ni ci,.slice af nf cf,.int .i64 lnv,.int .i64 cov] 33):=⟨_,rfl⟩;have b56:Below w5.heap.size w5 W6:=by rw[e6];exact ba
       have hs6:W6.heap.size=w5.heap.size+1:=by rw[e6];simp
       have hN6:=(b56.block w3.heap.size (by omega)).trans hN5
       have y0:W6.cell? ⟨w3.heap.size,0,none⟩=some (.string NA):=(zG hN6 0).trans rfl;have y1:W6.cell? ⟨w3.heap.size,1,none⟩=some (.int .i64 NX):=(zG hN6 1).trans rfl;have y2:W6.cell? ⟨w3.heap.size,2,none⟩=some (.int .i64 NY):=(zG hN6 2).trans rfl;have hV6:W6.heap[w5.heap.size]? = some (.cells #[.int .i64 kk,.string tt,.bool bl,.slice ai ni ci,.slice af nf cf,.int .i64 lnv,.int .i64 cov] 33):=by rw[e6];exact heap_alloc_new w5 _
       have HXV:=Hi (show W6.rangeAt w5.heap.size 0 [.int .i64 kk,.string tt,.bool bl,.slice ai ni ci,.slice af nf cf,.int .i64 lnv,.int .i64 cov] from dt.zap hV6 0 [.int .i64 kk,.string tt,.bool bl,.slice ai ni ci,.slice af nf cf,.int .i64 lnv,.int .i64 cov] (fun j u hu=>by rw[Nat.zero_add];simpa using hu))
       have hG6:=hG5.keep b56.size (fun b hb _=>b56.block b hb)
       have HR6:=Hi (show W6.ownsRow w.heap.size 123 10 (.slice al l.length cl) l.length xss.flatten from dt.zaA hr5 (fun b h1 h2 h3=>b56.block b h1))
       have HOL:=Hi (show OwL Ow W6 l xss Gs from OwL.agree (fun w w' e cs F=>Ow.agree e cs F) (fun b hb j=>dt.zaf (b56.block b (hG5.rng b hb).2) j) hol5)
       have HG6:=Hi (an hG6 hx5);have HOW:=Hi (show Ow W6 (fldD NA (U.1.getD zeroD) NX NY) [.string NA,.int .i64 kk,.string tt,.bool bl,.slice ai ni ci,.slice af nf cf,.int .i64 lnv,.int .i64 cov,.int .i64 NX,.int .i64 NY] F from zdx (nm:=NA) (zaX hpo.own b56 (fun b hb=>(hpo.rng b hb).2)) NX NY)
       have hFr:Hid (∀ b∈F,w.heap.size≤b∧b<W6.heap.size∧b ∉ Gs∧(Value.slice al l.length cl).ownBlock≠some b):=Hi (fun b hb=>by
        have h1:=hpo.rng b hb;have h2:=(uh HK3).size;have h3:=(uh HK34).size;have h4:=(uh HKy).size;have h5:=(uh HK).size;obtain⟨_,hr0,_⟩:=(uh HG).row
        exact⟨by omega,by omega,fun hm=>by have:=((uh HG).rng b hm).2;omega,fun e=>by have:=(hr0.lt b e).2;omega⟩)
       have hND:=Hi hpo.nodup;obtain⟨it,zt,q1,q2,q3,q4,q5⟩:=infoAz;have HQ:=Hi (an q1 (an q2 (an q3 (an q4 q5))));have hone:Hid (∀ u∈([.string NA,.int .i64 kk,.string tt,.bool bl,.slice ai ni ci,.slice af nf cf,.int .i64 lnv,.int .i64 cov,.int .i64 NX,.int .i64 NY]:List Value),u.oneCell'=true):=Hi (by intro u hu;simp at hu;rcases hu with rfl | rfl | rfl | rfl | rfl | rfl | rfl | rfl | rfl | rfl <;> rfl)
       have hbyt:=Hi (show (l.length+1) * 128≤140737488355328∧l.length+1≤maxLen from ⟨by omega,by unfold maxLen;omega⟩)
       have hsz6:=Hi (show w.heap.size≤W6.heap.size from by have h1:=(uh HKr).size;omega)
       have HB6:=Hi b56;have E6:=Hi e6;clear q1 q2 q3 q4 q5 hpo hc5 hk5 hKx hG5 hr5 hol5 hx5 hN5 hN6 hNB hG6 b56 e6 LT hV6
       go_wp2_with (first
        | (refine wpList_load_mid (by rfl) 33 _ (by rfl) w5.heap.size 0 (by rfl) [.int .i64 kk,.string tt,.bool bl,.slice ai ni ci,.slice af nf cf,.int .i64 lnv,.int .i64 cov] _ (uh HXV) underlying33 (by rfl) infoLt ?_)
        | (refine dt.zal (by rfl) 92 _ (by rfl) (.agg #[.string NA,.int .i64 kk,.string tt,.bool bl,.slice ai ni ci,.slice af nf cf,.int .i64 lnv,.int .i64 cov,.int .i64 NX,.int .i64 NY]) _ (by rfl) (buildA NA kk tt bl ai ni ci af nf cf lnv cov NX NY W6) ?_)
        | (at_builtin;refine dt.zaq (by rfl) _ _ (by rfl) underlying92 (uh HQ).1 (uh HQ).2.1 (uh HQ).2.2.1 (uh HQ).2.2.2.1 (uh HQ).2.2.2.2 (by omega) w.heap.size l.length xss.flatten _ (by rfl) (uh HR6) [.string NA,.int .i64 kk,.string tt,.bool bl,.slice ai ni ci,.slice af nf cf,.int .i64 lnv,.int .i64 cov,.int .i64 NX,.int .i64 NY] (by rfl) (uh hone) W6.heap.size rfl (by rfl) (uh hbyt).1 (uh hbyt).2 (uh hsz6) ?_;intro sl' w7 hr7 b7 hold7 hat7;have R7:=Hi (an hr7 (an b7 (an hold7 hat7)));clear hr7 b7 hold7 hat7)
        | (rw[←uh E6]))
       go_roundg (gk-1)
       case rel =>
        obtain⟨hr7,b7,hold7,hat7⟩:=uh R7;obtain⟨hG6,hx5⟩:=uh HG6;have hmore:=hG6.more (uh HOL) hx5 (uh HOW) (uh hND) (uh hFr) (by rfl) hr7 (by have:=b7.size;exact this) hold7 hat7
        exact⟨_,_,_,HNX,Hi (((uh HC5).below (uh HB6)).low b7 (by omega) (by omega)),Hi hmore,Hi (((uh HKr).trans (Kp.of (uh HB6))).low b7),Hts3,by omega⟩
       case measure=>omega
      | true =>
       have hq2:cc.isP ⟨#[41]⟩=true:=hq;rw[hq2] at hiq hcl
       have HTT:=Hi (show TT=(some l,cc.cls bRp) from by
        rw[hTT];obtain⟨g',rfl⟩:∃ g',gg=g'+1:=⟨gg-1,by omega⟩
        rw[brkF,if_neg (by rw[hq];rintro (e | e);omega;cases e)])
       clear hq hq2 HS hTT
       go_wp2_with fail
       refine ((uh hiq) wr (uh HR)).mono ?_
       rintro e w3 ⟨rfl,b3⟩
       go_wp2_with fail
       refine ((uh hcl) w3 ((uh HR).below b3)).mono ?_
       rintro e w4 ⟨rfl,hc4,hk4⟩;have HF:=Hi (an ((uh HG).kp ((Kp.of b3).trans hk4) hlt) (an hc4 ((uh HK).trans ((Kp.of b3).trans hk4))));clear hc4 hk4 b3 hcl hiq
       go_wp2_with fail
       go_ret2
       rw[uh HTT];exact⟨_,rfl,⟨Gs,(uh HF).1⟩,(uh HF).2.1,(uh HF).2.2⟩
    ·have b0:(cc.kd==0)=false:=by simpa using hk0
     have hq2:cc.isP ⟨#[41]⟩=false:=decide_eq_false (fun e=>hk0 e.1)
     have hcls:=Hi (show cc.cls ⟨#[41]⟩=cc from ziU hk0 _)
     rw[hq2] at hcl;have HTT:=Hi hTT;obtain⟨kd,hkd⟩:∃ kd,kd=cc.kd:=⟨_,rfl⟩;rw[←hkd] at b0 d4;clear hk0 hTT HS hq2 hkd
     go_wp2_with fail
     refine ((uh hcl) wr (uh HR)).mono ?_
     rintro e w4 ⟨rfl,hc4,hk4⟩;have HF:=Hi (an hc4 hk4);clear hc4 hk4 hcl hiq
     go_wp2_with fail
     go_ret2
     rw[uh HTT];have h4:=(uh HF).1;rw[uh hcls] at h4;exact⟨_,rfl,rfl,h4,(uh HK).trans (uh HF).2⟩
 ·have k0:(c.kd != 0)=true:=by simpa using hk
  have hs:=Hi (show c.isP bLp=false from decide_eq_false (fun e=>hk e.1))
  rw[uh hs,if_neg (by decide),if_neg hk]
  obtain⟨kd,hkd⟩:∃ kd,kd=c.kd:=⟨_,rfl⟩;rw[←hkd] at k0 d4;clear h hop hst hip hk hkd hs;unfold ptr
  go_enter func56,ntmps56
  go_wp2_with fail
  go_ret2
  exact⟨_,rfl,rfl,uh HH,Kp.refl _ _⟩
theorem zem(ct:Bool)(f:Nat)(c:Cu)(h:c.Ok)(hf:c.ts.length≤f+c.ix)(hn:(argsS (litF ct f) c).1=none):(argsS (litF ct f) c).2.kd≠0:=by
 unfold argsS at hn ⊢
 by_cases hp:c.isP bLp=true
 ·rw[if_pos hp] at hn ⊢
  exact zcp (zbi (zas ct f)) f (zc0 f (zbZ ct f)) bLp bRp 1 c h (by omega) hn
 ·rw[if_neg hp] at hn ⊢
  by_cases hk:c.kd=0
  ·rw[if_pos hk] at hn;cases hn
  ·exact hk
def DSt(ct:Bool)(f:Nat)(TT:Option (List Dt) × Cu)(N gk:Nat)(l:List Dt)(cc:Cu):Prop:=
 (cc.kd=0∧l.length≤cc.ix∧N+1≤gk+cc.ix∧∃ g,TT=dirsF (litF ct f) (g+1) l cc∧N≤g+1+cc.ix)∨(cc.kd≠0∧TT=(none,cc)∧l.length≤N+1)
theorem DSt.next{ct:Bool}{f:Nat}{TT:Option (List Dt) × Cu}{N gk g:Nat}{l:List Dt}{cc:Cu}(hok:cc.Ok)(hN:cc.ts.length=N)(hf:N≤f+cc.ix)(hl:l.length≤cc.ix)(hgk:N+1≤gk+cc.ix)(hT:TT=dirsF (litF ct f) (g+1) l cc)(hg:N≤g+1+cc.ix)(hc:cc.isP bAt=true)(NA:ByteArray)
  (hA:cc.take.isN=true→NA=cc.take.tok.tx):DSt ct f TT N (gk-1) (l++[dirD NA ((argsS (litF ct f) cc.take.name).1.getD []) cc.tok.ln cc.tok.co]) (argsS (litF ct f) cc.take.name).2:=by
 have hlt:=hok.lt;have s0:=takeP hok hc;have s1:=s0.trans (zan s0.ok);have s2:=s1.trans (zb4 (zas ct f) s1.ok);have h0:cc.ix+1≤cc.take.name.ix:=(zan s0.ok).ix;have h2:=(zb4 (zas ct f) s1.ok).ix;have hmore:=zaF hok hc;have hlt2:=s2.ok.lt;rw[s2.ts] at hlt2;rw[dirsF,if_pos hc] at hT;unfold dirS at hT
 cases hr:(argsS (litF ct f) cc.take.name).1 with
 | none =>
  rw[hr] at hT
  right
  exact⟨zem ct f _ s1.ok (by rw[s1.ts];omega) hr,hT,by simp;omega⟩
 | some la =>
  rw[hr] at hT
  left
  have hN2:=zkr (litF ct f) cc.take (by rw[hr];rfl)
  rw[hA hN2];refine⟨zc1 (by rw[hr];rfl),by simp;omega,by omega,g-1,?_,by omega⟩
  rw[show g-1+1=g by omega]
  exact hT
theorem buildD(NA:ByteArray)(a1:Option Addr)(n1 c1:Nat)(NX NY:Int)(w:World):(Instr.buildSlice 96 1 #[(0,.agg #[.string NA,.slice a1 n1 c1,.int .i64 NX,.int .i64 NY])]).run prog w = .ok (.slice (some ⟨w.heap.size,0,none⟩) 1 1) (w.alloc (.cells #[.string NA,.slice a1 n1 c1,.int .i64 NX,.int .i64 NY] 126)):=by go_simp
theorem zjH(B p:Nat)(c:Cu)(ct:Bool)(w:World)(h:RurAt w B p c)(f:Nat)(hf:c.ts.length≤f+c.ix):Calls prog 59 #[ptr B,.bool ct] w fun e w'=>∃ sl,e = .returned (.tuple #[sl,.bool (dirs (litF ct f) c).1.isSome])∧BrkPD (dirs (litF ct f) c).1 w.heap.size w' sl∧RurAt w' B p (dirs (litF ct f) c).2∧Kp B w w':=by
 have hlt:=h.lt;have hplt:=h.plt;have hlen:=h.len;have hix:=h.ok.lt;obtain⟨TT,hT⟩:∃ TT,TT=dirs (litF ct f) c:=⟨_,rfl⟩;rw[←hT];obtain⟨N,hN⟩:∃ N,N=c.ts.length:=⟨_,rfl⟩;have HNN:=Hi hN
 have HS0:=Hi (show DSt ct f TT N (N+1) [] c from by
  by_cases hk:c.kd=0
  ·left
   refine⟨hk,Nat.zero_le _,by omega,N-1,?_,by omega⟩
   rw[hT,show N-1+1=N by omega,hN]
   rfl
  ·right
   refine⟨hk,?_,Nat.zero_le _⟩
   rw[hT];unfold dirs;rw[←hN];obtain⟨g,hg⟩:∃ g,N=g+1:=⟨N-1,by omega⟩
   rw[hg,dirsF,if_neg (by rw[show c.isP bAt=false from decide_eq_false (fun e=>hk e.1)];decide),if_neg hk])
 rw[←hN] at hf hlen hix;have HC0:=Hi h;clear h hT hN;unfold ptr
 go_enter func59,ntmps59
 go_wp2_with fail
 go_loopg [6] (N+1) (fun gk sl wr=>∃ (l:List Dt) (cc:Cu) (Gs:List Nat),Hid (DSt ct f TT N gk l cc)∧Hid (RurAt wr B p cc)∧Hid (Grow 126 4 wr w.heap.size l sl Gs)∧Hid (Kp B w wr)∧Hid (cc.ts=c.ts)∧c.ix≤cc.ix)
 case atStart=>exact⟨[],c,[],HS0,HC0,Hi Grow.nil,Hi (Kp.refl _ _),Hi rfl,lr _⟩
 case round =>
  obtain⟨l,cc,Gs,HS,HR,HG,HK,Hts,hxc⟩:=hrel;have hixc:=(uh HR).ok.lt;rw[uh Hts,←uh HNN] at hixc;obtain⟨al,cl,hsl⟩:=Grow.form (uh HG);subst hsl;have hiq:=Hi (fun W (hc:RurAt W B p cc)=>zam B p cc bAt W hc)
  unfold ptr bAt at hiq
  cases hq:cc.isP bAt with
  | false =>
   have hq2:cc.isP ⟨#[64]⟩=false:=hq;rw[hq2] at hiq
   by_cases hk0:cc.kd=0
   ·have HTT:=Hi (show TT=(some l,cc) from by
     rcases uh HS with ⟨_,_,_,g,e,_⟩ | ⟨e,_⟩
     ·rw[e,dirsF,if_neg (by rw[hq];decide),if_pos hk0]
     ·exact absurd hk0 e)
    clear hq hq2 HS
    go_wp2_with fail
    refine ((uh hiq) wr (uh HR)).mono ?_
    rintro e w3 ⟨rfl,b3⟩;obtain⟨-,-,-,d4⟩:=((uh HR).below b3).c2;rw[hk0] at d4;have HF:=Hi (an ((uh HG).kp (Kp.of b3) hlt) (an ((uh HR).below b3) ((uh HK).trans (Kp.of b3))));clear hk0 b3
    go_wp2_with fail
    go_ret2
    rw[uh HTT];exact⟨_,rfl,⟨Gs,(uh HF).1⟩,(uh HF).2.1,(uh HF).2.2⟩
   ·have HTT:=Hi (show TT=(none,cc) from by
     rcases uh HS with ⟨e,_⟩ | ⟨_,e,_⟩
     ·exact absurd e hk0
     ·exact e)
    have b0:(cc.kd != 0)=true:=by simpa using hk0
    clear hq hq2 HS hk0
    go_wp2_with fail
    refine ((uh hiq) wr (uh HR)).mono ?_
    rintro e w3 ⟨rfl,b3⟩;obtain⟨-,-,-,d4⟩:=((uh HR).below b3).c2;have HF:=Hi (an ((uh HR).below b3) ((uh HK).trans (Kp.of b3)));obtain⟨kd,hkd⟩:∃ kd,kd=cc.kd:=⟨_,rfl⟩;rw[←hkd] at b0 d4;clear hkd b3
    go_wp2_with fail
    go_ret2
    rw[uh HTT];exact⟨_,rfl,rfl,(uh HF).1,(uh HF).2⟩
  | true =>
   have hq2:cc.isP ⟨#[64]⟩=true:=hq;rw[hq2] at hiq
   rcases uh HS with ⟨hk0,hl1,hgk,gg,hTT,hgg⟩ | ⟨hk0,_⟩
   ·have hm:=zaF (uh HR).ok hq
    have NM:=Hi (fun W (hc:RurAt W B p cc.take)=>za6 B p cc.take W hc)
    have s0:=takeP (uh HR).ok hq;have s1:=s0.trans (zan s0.ok);have s2:=s1.trans (zb4 (zas ct f) s1.ok);have AG:=Hi (fun W (hc:RurAt W B p cc.take.name)=>zf2 B p cc.take.name ct W hc f (by rw[s1.ts,uh Hts,←uh HNN];have:=s1.ix;omega))
    rw[zaW] at NM;obtain⟨NA,hA⟩:∃ A,A=if cc.take.isN then cc.take.tok.tx else em:=⟨_,rfl⟩
    obtain⟨NX,hX⟩:∃ A,A=if cc.take.isN then cc.take.tok.ln else 0:=⟨_,rfl⟩
    obtain⟨NY,hY⟩:∃ A,A=if cc.take.isN then cc.take.tok.co else 0:=⟨_,rfl⟩
    rw[←hA,←hX,←hY] at NM;have HNX:=Hi (DSt.next (ct:=ct) (uh HR).ok (by rw[uh Hts,←uh HNN]) (by omega) hl1 hgk hTT hgg hq NA (fun h=>by rw[hA,h];rfl))
    obtain⟨U,hU⟩:∃ U,U=argsS (litF ct f) cc.take.name:=⟨_,rfl⟩;rw[←hU] at AG HNX s2;have hx3:=s2.ix;have Hts3:=Hi (show U.2.ts=c.ts from by rw[s2.ts];exact uh Hts)
    obtain⟨C1,hC1⟩:∃ C1,C1=cc.take.name:=⟨_,rfl⟩;rw[←hC1] at NM AG;unfold ptr at NM AG;clear hA hX hY hU hC1 s0 s1 s2 HS hTT hgg hq hq2
    go_wp2_with fail
    refine ((uh hiq) wr (uh HR)).mono ?_
    rintro e wq ⟨rfl,bq⟩;have hR:=(uh HR).below bq;obtain⟨cap,d0,d1,f1,-⟩:=hR.c01;have hrow:=hR.tk;have hBq:=hR.lt;have hpq:=hR.plt;have e1:wq.cell? ⟨p,cc.ix * 7+1,none⟩=some (.int .i64 cc.tok.ln):=hrow 1 _ rfl;have e2:wq.cell? ⟨p,cc.ix * 7+2,none⟩=some (.int .i64 cc.tok.co):=hrow 2 _ rfl;have HTK:=Hi (hR.tak hm);have HRq:=Hi hR;rw[uh Hts,←uh HNN] at d0;obtain⟨ix,hixx⟩:∃ ix,ix=cc.ix:=⟨_,rfl⟩
    obtain⟨LN,hLN⟩:∃ LN,LN=cc.tok.ln:=⟨_,rfl⟩;obtain⟨CO,hCO⟩:∃ CO,CO=cc.tok.co:=⟨_,rfl⟩;rw[←hLN] at e1 HNX;rw[←hCO] at e2 HNX;rw[←hixx] at d1 e1 e2 HTK hixc hl1 hgk hx3 hxc;have ii:(ix:Int)<(N:Int):=by omega
    have hn1:(ix:Int)+1<9223372036854775807:=by omega
    have HBq:=Hi bq;clear hLN hCO hixx hrow hR hiq bq hm hk0
    go_wp2_with fail
    go_region
    go_wp2_with fail
    obtain⟨W3,e3⟩:∃ W3,W3=((wq.setCell ⟨B,1,none⟩ (.int .i64 ((ix:Int)+1))).alloc (.cells #[.int .i64 LN,.int .i64 CO] 31)).drew:=⟨_,rfl⟩;have hszs:(wq.setCell ⟨B,1,none⟩ (.int .i64 ((ix:Int)+1))).heap.size=wq.heap.size:=by simp
    have b3:Below wq.heap.size (wq.setCell ⟨B,1,none⟩ (.int .i64 ((ix:Int)+1))) W3:=by rw[e3];have:=Go.below_drewN ((Below.refl (wq.setCell ⟨B,1,none⟩ (.int .i64 ((ix:Int)+1))).heap.size (wq.setCell ⟨B,1,none⟩ (.int .i64 ((ix:Int)+1)))).alloc (lr _) (.cells #[.int .i64 LN,.int .i64 CO] 31)) 1;rw[hszs] at this;exact this
    have hR3:RurAt W3 B p cc.take:=(uh HTK).below (by rw[hszs];exact b3)
    have hK3:Kp B wq W3:=((Kp.refl B wq).set 1 _).trans (Kp.of (by rw[hszs];exact b3))
    have hP3:W3.heap[wq.heap.size]? = some (.cells #[.int .i64 LN,.int .i64 CO] 31):=by rw[e3];have:=heap_alloc_new (wq.setCell ⟨B,1,none⟩ (.int .i64 ((ix:Int)+1))) (.cells #[.int .i64 LN,.int .i64 CO] 31);rw[hszs] at this;exact this
    have hs3:wq.heap.size+1=W3.heap.size:=by rw[e3];simp[World.drew]
    rw[←e3];clear e3 b3 hszs d0 d1 f1 e1 e2 HTK;refine ((uh NM) W3 hR3).mono ?_
    rintro e w4 ⟨rfl,hc4,hk4⟩;have HC4:=Hi hc4;have HK4:=Hi (hK3.trans hk4);have hs4:=hk4.size;have hP4:=(hk4.block wq.heap.size (by omega) (by omega)).trans hP3
    clear NM hc4 hk4 hR3 hK3 hP3
    go_wp2_with fail
    refine ((uh AG) _ ((uh HC4).below (ba))).mono ?_
    rintro e w5 ⟨sl,rfl,hbr,hc5,hk5⟩;have hs45:w4.heap.size+1≤w5.heap.size:=by have:=hk5.size;simpa using this
    have hB4:=(uh HC4).lt;have hN5:w5.heap[w4.heap.size]? = some (.cells #[.string NA,.int .i64 NX,.int .i64 NY] 84):=(hk5.block _ (by simp) (by omega)).trans (heap_alloc_new w4 _)
    have hP5:w5.heap[wq.heap.size]? = some (.cells #[.int .i64 LN,.int .i64 CO] 31):=(hk5.block _ (by simp;omega) (by omega)).trans ((Below.heap_alloc w4 _ _ (by omega)).trans hP4)
    have hKq5:Kp B wq w5:=(uh HK4).trans ((Kp.of (ba)).trans hk5);have HKr:=Hi (((uh HK).trans (Kp.of (uh HBq))).trans hKq5);have hKy:Kp B wr w5:=(Kp.of (uh HBq)).trans hKq5
    obtain⟨GA,hGA⟩:∃ GA,Grow 123 10 w5 (w4.heap.size+1) (U.1.getD []) sl GA:=by
     cases hu:U.1 with
     | none =>
      rw[hu] at hbr;have e:sl = .slice none 0 0:=hbr;rw[e];exact⟨[],Grow.nil⟩
     | some la =>
      rw[hu] at hbr;obtain⟨G,hG⟩:=hbr;exact⟨G,by simpa using hG⟩
    obtain⟨aa,na,ca,F,hsl,how,hnd,hrF⟩:=zg7 hGA NA LN CO;subst hsl;have HOW:=Hi how;have hG5:=(uh HG).kp hKy hlt;obtain⟨xss,hr5,hol5,hx5⟩:=hG5.row;have HR5:=Hi hr5;have HG5:=Hi (an hG5 (an hol5 hx5));have y0:w5.cell? ⟨w4.heap.size,0,none⟩=some (.string NA):=(zG hN5 0).trans rfl;have z0:w5.cell? ⟨wq.heap.size,0,none⟩=some (.int .i64 LN):=(zG hP5 0).trans rfl;have z1:w5.cell? ⟨wq.heap.size,1,none⟩=some (.int .i64 CO):=(zG hP5 1).trans rfl
    have hFr:Hid (∀ b∈F,w.heap.size≤b∧b<w5.heap.size∧b ∉ Gs∧(Value.slice al l.length cl).ownBlock≠some b):=Hi (fun b hb=>by
     have h1:=hrF b hb;have h4:=(uh HBq).size;have h5:=(uh HK).size;obtain⟨_,hr0,_⟩:=(uh HG).row
     exact⟨by omega,by omega,fun hm=>by have:=((uh HG).rng b hm).2;omega,fun e=>by have:=(hr0.lt b e).2;omega⟩)
    have hND:=Hi hnd;obtain⟨it,zt,q1,q2,q3,q4,q5⟩:=infoDz;have HQ:=Hi (an q1 (an q2 (an q3 (an q4 q5))));have hone:Hid (∀ u∈([.string NA,.slice aa na ca,.int .i64 LN,.int .i64 CO]:List Value),u.oneCell'=true):=Hi (by intro u hu;simp at hu;rcases hu with rfl | rfl | rfl | rfl <;> rfl)
    have hbyt:=Hi (show (l.length+1) * 56≤140737488355328∧l.length+1≤maxLen from ⟨by omega,by unfold maxLen;omega⟩)
    have hsz5:=Hi (show w.heap.size≤w5.heap.size from (uh HKr).size)
    have HC5:=Hi hc5;clear q1 q2 q3 q4 q5 hc5 hk5 hG5 hr5 hol5 hx5 hN5 hP5 hP4 hKq5 hKy hbr hGA how hnd hrF AG
    go_wp2_with (first
     | (refine dt.zal (by rfl) 96 _ (by rfl) (.agg #[.string NA,.slice aa na ca,.int .i64 LN,.int .i64 CO]) _ (by rfl) (buildD NA aa na ca LN CO w5) ?_)
     | (at_builtin;refine dt.zaq (by rfl) _ _ (by rfl) underlying96 (uh HQ).1 (uh HQ).2.1 (uh HQ).2.2.1 (uh HQ).2.2.2.1 (uh HQ).2.2.2.2 (by omega) w.heap.size l.length xss.flatten _ (by rfl) (uh HR5) [.string NA,.slice aa na ca,.int .i64 LN,.int .i64 CO] (by rfl) (uh hone) w5.heap.size rfl (by rfl) (uh hbyt).1 (uh hbyt).2 (uh hsz5) ?_;intro sl' w7 hr7 b7 hold7 hat7;have R7:=Hi (an hr7 (an b7 (an hold7 hat7)));clear hr7 b7 hold7 hat7))
    go_roundg (gk-1)
    case rel =>
     obtain⟨hr7,b7,hold7,hat7⟩:=uh R7;obtain⟨hG5,hol5,hx5⟩:=uh HG5;have hmore:=hG5.more hol5 hx5 (uh HOW) (uh hND) (uh hFr) (by rfl) hr7 (by have:=b7.size;exact this) hold7 hat7
     exact⟨_,_,_,HNX,Hi ((uh HC5).low b7 (by omega) (by omega)),Hi hmore,Hi ((uh HKr).low b7),Hts3,by omega⟩
    case measure=>omega
   ·exact absurd (ze7 hq).1 hk0
end cr
namespace cu
open ints (Hi uh)
open dt (Dt Kp RowAt Ow Grow)
open mem (Row)
end cu
end Go.Proofs.YtepmbmbnlmbhhaaGreat
