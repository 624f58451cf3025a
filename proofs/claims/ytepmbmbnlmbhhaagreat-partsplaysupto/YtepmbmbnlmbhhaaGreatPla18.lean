import Derived.Test.YtepmbmbnlmbhhaaGreatPla14
import Derived.Test.YtepmbmbnlmbhhaaGreatPla17
set_option linter.unusedVariables false
set_option linter.unusedSimpArgs false
set_option maxHeartbeats 16000000
set_option maxRecDepth 8000
open Go.Proofs.Tryz
namespace Go.Proofs.YtepmbmbnlmbhhaaGreat
open Go.ChangeShapes Go.WideShapes Go.ChangeAt Go.RowKit
namespace cr
open ints (Hi uh)
open dt (Dt Kp RowAt)
open cu
def bang(r:ByteArray × ByteArray)(c:Cu):Option (ByteArray × ByteArray) × Cu:=if c.isP bBang then (some (r.1,r.2++bBang),c.punct bBang) else (some r,c.punct bBang)
def up(x:Option (ByteArray × ByteArray) × Cu):Option (ByteArray × ByteArray) × Cu:=match x.1 with
 | none=>(none,x.2)
 | some it=>if x.2.isP bRb then bang (it.1,it.2++bRb) (x.2.cls bRb) else (none,x.2.cls bRb)
def upN:Nat→Option (ByteArray × ByteArray) × Cu→Option (ByteArray × ByteArray) × Cu
 | 0,x=>x
 | k+1,x=>upN k (up x)
theorem zck:∀ (k:Nat) (c:Cu),upN k (none,c)=(none,c)
 | 0,c=>rfl
 | k+1,c=>zck k c
theorem ziA(f:Nat)(c:Cu)(hp:c.isP bLb=true)(ho:c.opB bLb=true):typF (f+1) c=up (typF f (c.opn bLb)):=by
 show typ (unm (typF f)) c=_
 unfold typ unm up;rw[if_pos hp,if_pos ho]
 cases h:(typF f (c.opn bLb)).1 with
 | none=>rfl
 | some it =>
  simp only
  cases h2:(typF f (c.opn bLb)).2.isP bRb with
  | false=>rfl
  | true=>rfl
theorem ziB(f:Nat)(c:Cu)(hp:c.isP bLb=true)(ho:c.opB bLb=false):typF (f+1) c=(none,c.opn bLb):=by
 show typ (unm (typF f)) c=_
 unfold typ unm;rw[if_pos hp,ho];rfl
theorem ziz(f:Nat)(c:Cu)(hp:c.isP bLb=false):typF (f+1) c=if c.isN then bang (c.tok.tx,em) c.name else (none,c.name):=by
 show typ (unm (typF f)) c=_
 unfold typ unm;rw[hp]
 cases h:c.isN with
 | false=>rfl
 | true=>rfl
theorem zl1(B p:Nat)(c:Cu)(w:World)(h:RurAt w B p c)(f:Nat)(hf:c.ts.length≤f+c.ix):Calls prog 26 #[ptr B] w fun e w'=>e = .returned (.tuple #[.agg (trC (typF f c).1).toArray,.bool (typF f c).1.isSome])∧RurAt w' B p (typF f c).2∧Kp B w w':=by
 have hlt:=h.lt;have hplt:=h.plt;have hlen:=h.len;have hne:B≠w.heap.size:=by omega
 have hnp:p≠w.heap.size:=by omega
 obtain⟨TT,hT⟩:∃ TT,TT=typF f c:=⟨_,rfl⟩;rw[←hT];have HTT:=Hi hT;obtain⟨N,hN⟩:∃ N,N=c.ts.length:=⟨_,rfl⟩;have HNN:=Hi hN;rw[←hN] at hf hlen;have bA:Below w.heap.size w (w.alloc (.cells #[Value.string ⟨#[]⟩,.string ⟨#[]⟩] 44)):=ba;have hR0:=heap_alloc_new w (.cells #[Value.string ⟨#[]⟩,.string ⟨#[]⟩] 44);have hsz0:w.heap.size<(w.alloc (.cells #[Value.string ⟨#[]⟩,.string ⟨#[]⟩] 44)).heap.size:=by simp
 have hRA:=h.below bA;have hix:=h.ok.lt;rw[←hN] at hix;clear hN hT;unfold ptr
 go_enter func26,ntmps26
 go_wp2_with fail
 obtain⟨w0,hw0⟩:∃ w0,w0=w.alloc (.cells #[Value.string ⟨#[]⟩,.string ⟨#[]⟩] 44):=⟨_,rfl⟩;rw[←hw0] at bA hR0 hsz0 hRA ⊢;have HRA:=Hi hRA;have HBA:=Hi bA;have HR0:=Hi hR0;clear hw0 hRA bA hR0 h;have FIN:=Hi (show ∀ (W:World) (C:Cu),RurAt W B p C→Kp B w0 W→W.there w.heap.size 0 2∧RurAt (W.setCells w.heap.size 0 [.string em,.string em]) B p C∧Kp B w (W.setCells w.heap.size 0 [.string em,.string em]) from fun W C hC hk=>⟨dt.zac ((hk.block w.heap.size hsz0 (by omega)).trans (uh HR0)) (by decide),hC.out hne hnp 0 _,((Kp.of (uh HBA)).trans hk).out (lr _) 0 _⟩)
 go_loopg [4] (N+1) (fun g vo wr=>∃ (k f':Nat) (c':Cu),vo = .int .i64 (k:Nat)∧k≤c'.ix∧c'.ix<N∧N+1≤g+c'.ix∧N≤f'+c'.ix∧Hid (c'.ts=c.ts)∧Hid (TT=upN k (typF f' c'))∧Hid (RurAt wr B p c')∧Hid (Kp B w0 wr))
 case atStart=>exact⟨0,f,c,rfl,Nat.zero_le _,hix,by omega,hf,Hi rfl,HTT,HRA,Hi (Kp.refl _ _)⟩
 case round =>
  obtain⟨k,f',c',rfl,hkix,hixN,hg,hf',Hts,HT,HR,HK⟩:=hrel;have I:=Hi (zam B p c' bLb wr (uh HR));obtain⟨f2,rfl⟩:∃ f2,f'=f2+1:=⟨f'-1,by omega⟩
  unfold ptr bLb at I
  cases hP:c'.isP bLb with
  | true =>
   have hP2:c'.isP ⟨#[91]⟩=true:=hP;rw[hP2] at I;have O:=Hi (fun W (hc:RurAt W B p c')=>zbb B p c' bLb W hc)
   unfold ptr at O;rw[show bLb=(⟨#[91]⟩:ByteArray) from rfl] at O
   cases hO:c'.opB bLb with
   | true =>
    have hO2:c'.opB ⟨#[91]⟩=true:=hO;rw[hO2] at O;have HT2:=Hi (show TT=upN (k+1) (typF f2 (c'.opn bLb)) from by rw[uh HT,ziA f2 c' hP hO];rfl)
    have hix2:=zbL hO;have hst:=(za2 (uh HR).ok bLb);have hlt2:=hst.ok.lt;rw[hst.ts,uh Hts,←uh HNN] at hlt2;have Hts2:=Hi (show (c'.opn bLb).ts=c.ts from by rw[hst.ts,uh Hts])
    have HR2:=Hi (show ∀ W,RurAt W B p (c'.opn ⟨#[91]⟩)→RurAt W B p (c'.opn bLb) from fun W h=>h)
    clear hP hP2 hO hO2 hst HT;obtain⟨C2,hC2⟩:∃ C2,C2=c'.opn bLb:=⟨_,rfl⟩;rw[←hC2] at HT2 hix2 hlt2 Hts2 HR2;clear hC2
    go_wp2_with fail
    refine (uh I).mono ?_
    rintro e w1 ⟨rfl,b1⟩
    go_wp2_with fail
    refine ((uh O) _ ((uh HR).below b1)).mono ?_
    rintro e w2 ⟨rfl,hc2,hk2⟩;have HC2:=Hi ((uh HR2) _ hc2);have HK2:=Hi ((uh HK).trans ((Kp.of b1).trans hk2));clear I O hc2 hk2 b1
    go_wp2_with fail
    go_roundg (gk-1)
    case rel=>exact⟨k+1,f2,C2,by go_num,by omega,hlt2,by omega,by omega,Hts2,HT2,HC2,HK2⟩
    case measure=>omega
   | false =>
    have hO2:c'.opB ⟨#[91]⟩=false:=hO;rw[hO2] at O;have HT2:=Hi (show TT=(none,c'.opn bLb) from by rw[uh HT,ziB f2 c' hP hO,zck])
    clear hP hP2 hO hO2 HT
    go_wp2_with fail
    refine (uh I).mono ?_
    rintro e w1 ⟨rfl,b1⟩
    go_wp2_with fail
    refine ((uh O) _ ((uh HR).below b1)).mono ?_
    rintro e w2 ⟨rfl,hc2,hk2⟩;have HF:=Hi ((uh FIN) w2 _ hc2 ((uh HK).trans ((Kp.of b1).trans hk2)));clear I O hc2 hk2 b1
    go_wp2_with (first
     | refine wpList_store_mid (by rfl) 44 _ _ (by rfl) w.heap.size 0 #[.string em,.string em] (by rfl) (by rfl) (uh HF).1 infoTr (dt.zab (cs:=[.string em,.string em]) (by rfl)) ?_)
    refine bodyPost_ret (rgn.zaa rfl _ _ w.heap.size 0 [.string em,.string em] _ rfl (World.rangeAt_setCells_same _ _ _ _ (uh HF).1) underlying44 rfl infoTr) rfl ?_
    rw[uh HT2];exact⟨rfl,(uh HF).2.1,(uh HF).2.2⟩
  | false =>
   have hP2:c'.isP ⟨#[91]⟩=false:=hP;rw[hP2] at I;have HT1:=Hi (show TT=upN k (if c'.isN then bang (c'.tok.tx,em) c'.name else (none,c'.name)) from by rw[uh HT,ziz f2 c' hP])
   have M:=Hi (fun W (hc:RurAt W B p c')=>za6 B p c' W hc)
   unfold ptr at M;rw[zaW] at M;obtain⟨X,hX⟩:∃ X,X=if c'.isN then c'.tok.ln else 0:=⟨_,rfl⟩
   obtain⟨Y,hY⟩:∃ Y,Y=if c'.isN then c'.tok.co else 0:=⟨_,rfl⟩
   rw[←hX,←hY] at M;clear hX hY hP hP2 HT
   cases hN:c'.isN with
   | false =>
    rw[hN] at M HT1;have HT2:=Hi (show TT=(none,c'.name) from by rw[uh HT1];exact zck k _)
    clear hN HT1
    go_wp2_with fail
    refine (uh I).mono ?_
    rintro e w1 ⟨rfl,b1⟩
    go_wp2_with fail
    refine ((uh M) _ ((uh HR).below b1)).mono ?_
    rintro e w2 ⟨rfl,hc2,hk2⟩;have HF:=Hi (fun o=>(uh FIN) (w2.alloc o) _ (hc2.below (ba)) (((uh HK).trans ((Kp.of b1).trans hk2)).trans (Kp.of (ba))))
    clear I M hc2 hk2 b1
    go_wp2_with (first
     | refine wpList_store_mid (by rfl) 44 _ _ (by rfl) w.heap.size 0 #[.string em,.string em] (by rfl) (by rfl) ((uh HF) _).1 infoTr (dt.zab (cs:=[.string em,.string em]) (by rfl)) ?_)
    refine bodyPost_ret (rgn.zaa rfl _ _ w.heap.size 0 [.string em,.string em] _ rfl (World.rangeAt_setCells_same _ _ _ _ ((uh HF) _).1) underlying44 rfl infoTr) rfl ?_
    rw[uh HT2];exact⟨rfl,((uh HF) _).2.1,((uh HF) _).2.2⟩
   | true =>
    rw[hN] at M HT1;have HT2:=Hi (show TT=upN k (bang (c'.tok.tx,em) c'.name) from uh HT1)
    have hst:=zan (uh HR).ok;have hlt2:=hst.ok.lt;rw[hst.ts,uh Hts,←uh HNN] at hlt2;have Hts2:=Hi (show (c'.name).ts=c.ts from by rw[hst.ts,uh Hts])
    clear hN HT1;obtain⟨A,hA⟩:∃ A,A=c'.tok.tx:=⟨_,rfl⟩;simp only[if_true] at M;rw[←hA] at M HT2;obtain⟨C1,hC1⟩:∃ C1,C1=c'.name:=⟨_,rfl⟩;rw[←hC1] at M HT2 hlt2 Hts2;clear hst hA hC1
    go_wp2_with fail
    refine (uh I).mono ?_
    rintro e w1 ⟨rfl,b1⟩
    go_wp2_with fail
    refine ((uh M) _ ((uh HR).below b1)).mono ?_
    rintro e w2 ⟨rfl,hc2,hk2⟩;have HC2:=Hi hc2;have HK2:=Hi ((uh HK).trans ((Kp.of b1).trans hk2));clear I M hc2 hk2 b1
    go_wp2_with fail
    obtain⟨w3,hw3⟩:∃ w3,w3=(w2.alloc (.cells #[Value.string A,.int .i64 X,.int .i64 Y] 84)).alloc (.cells #[Value.string A,.string ⟨#[]⟩] 44):=⟨_,rfl⟩;have b23:Below w2.heap.size w2 w3:=by rw[hw3];exact (ba).alloc (by simp) _
    have hM3:w3.heap[w2.heap.size+1]? = some (.cells #[Value.string A,.string ⟨#[]⟩] 44 (0,0)):=by rw[hw3];simpa using heap_alloc_new (w2.alloc (.cells #[Value.string A,.int .i64 X,.int .i64 Y] 84)) (.cells #[Value.string A,.string ⟨#[]⟩] 44)
    have hs3:w2.heap.size+1<w3.heap.size:=by rw[hw3];simp
    rw[←hw3];have hsK:=(uh HK2).size;have HC3:=Hi ((uh HC2).below b23);have HK3:=Hi ((uh HK2).trans (Kp.of b23));have HM3:=Hi hM3;clear hw3 hM3 b23 HC2 HK2;obtain⟨m,hm⟩:∃ m,m=w2.heap.size+1:=⟨_,rfl⟩;rw[←hm] at HM3 hs3 ⊢;have hm0:w.heap.size<m:=by omega
    have hmK:w0.heap.size≤m:=by omega
    clear hm;have hmB:m≠B:=by omega
    have hmp:m≠p:=by omega
    have hkN:k≤N:=by omega
    go_loopg [4] (k+1) (fun g vo wr=>∃ (j:Nat) (c2:Cu) (r1 r2:ByteArray),vo = .int .i64 (j:Nat)∧j+1≤g∧r2.size≤c2.ix∧c2.ix<N∧j≤N∧m<wr.heap.size∧Hid (c2.ts=c.ts)∧Hid (TT=upN j (bang (r1,r2) c2))∧Hid (RurAt wr B p c2)∧Hid (Kp B w0 wr)∧Hid (wr.heap[m]? = some (.cells #[Value.string r1,.string r2] 44 (0,0))))
    case atStart=>exact⟨k,C1,A,em,rfl,by omega,Nat.zero_le _,hlt2,hkN,hs3,Hts2,HT2,HC3,HK3,HM3⟩
    case round =>
     clear HT2 HC3 HK3 HM3 hlt2 Hts2 hs3;obtain⟨j,c2,r1,r2,rfl,hg2,hrs,hix2,hjN,hms,Hts2,HT2,HR2,HK2,HM2⟩:=hrel;have P:=Hi (fun W (hc:RurAt W B p c2)=>zbe B p c2 bBang W hc)
     unfold ptr at P;rw[show bBang=(⟨#[33]⟩:ByteArray) from rfl] at P
     cases hB0:c2.isP bBang with
     | true =>
      have hB:c2.isP bBang=true:=hB0;rw[show (⟨#[33]⟩:ByteArray)=bBang from rfl] at P
      clear hB0;rw[hB] at P
      skip
      have HT3:=Hi (show TT=upN j (some (r1,(r2++bBang)),c2.punct bBang) from by rw[uh HT2];unfold bang;rw[hB];rfl)
      have hst:=zdi (uh HR2).ok bBang;have hlt3:=hst.ok.lt;rw[hst.ts,uh Hts2,←uh HNN] at hlt3;have Hts3:=Hi (show (c2.punct bBang).ts=c.ts from by rw[hst.ts,uh Hts2])
      have hix3:c2.ix+1≤(c2.punct bBang).ix:=by unfold Cu.punct;rw[if_pos hB];exact lr _
      have hok3:=Hi hst.ok;clear hB HT2 hst;obtain⟨C3,hC3⟩:∃ C3,C3=c2.punct bBang:=⟨_,rfl⟩;rw[←hC3] at P HT3 hlt3 Hts3 hix3 hok3;clear hC3;have hsr:r2.size≤1099511627777:=by omega
      cases j with
      | zero =>
       have HT4:=Hi (show TT=(some (r1,(r2++bBang)),C3) from uh HT3)
       clear HT3
       go_wp2_with fail
       refine ((uh P) _ (uh HR2)).mono ?_
       rintro e w4 ⟨rfl,hc4,hk4⟩;have hM4:=(hk4.block m hms (by omega)).trans (uh HM2)
       have k04:=(uh HK2).trans hk4;have m0:w4.cell? ⟨m,0,none⟩=some (.string r1):=(zG hM4 0).trans rfl;have m1:w4.cell? ⟨m,1,none⟩=some (.string r2):=(zG hM4 1).trans rfl;have f1:w4.frozen? ⟨m,1,none⟩=false:=dt.zak hM4 1;have hth:w4.there w.heap.size 0 2:=dt.zac ((k04.block w.heap.size hsz0 (by omega)).trans (uh HR0)) (by decide)
       have j0:∀ v,(w4.setCell ⟨m,1,none⟩ v).cell? ⟨m,0,none⟩=some (.string r1):=fun v=>(zG (dt.zaj hM4 1 v) 0).trans rfl
       have hX:Hid (∀ v,(w4.setCell ⟨m,1,none⟩ v).there w.heap.size 0 2):=Hi (fun v=>dt.zac ((Below.heap_setCell w4 ⟨m,1,none⟩ v w.heap.size (by show w.heap.size≠m;omega)).trans ((k04.block w.heap.size hsz0 (by omega)).trans (uh HR0))) (o:=0) (n:=2) (by decide))
       have HC4:=Hi hc4;have HK4:=Hi ((Kp.of (uh HBA)).trans k04);clear P hc4 hk4 k04 hM4
       go_wp2_with (first
        | refine wpList_store_mid (by rfl) 44 _ _ (by rfl) w.heap.size 0 #[.string r1,.string (r2++bBang)] (by rfl) (by rfl) ((uh hX) _) infoTr (dt.zab (cs:=[.string r1,.string (r2++bBang)]) (by rfl)) ?_)
       refine bodyPost_ret (rgn.zaa rfl _ _ w.heap.size 0 [.string r1,.string (r2++bBang)] _ rfl (World.rangeAt_setCells_same _ _ _ _ ((uh hX) _)) underlying44 rfl infoTr) rfl ?_
       rw[uh HT4];exact⟨rfl,((uh HC4).out (b:=m) (by omega) (by omega) 1 [.string (r2++bBang)]).out hne hnp 0 _,((uh HK4).out (b:=m) (by omega) 1 [.string (r2++bBang)]).out (lr _) 0 _⟩
      | succ i =>
       have jz:((((i+1:Nat):Int))==0)=false:=by simp;omega
       have jz2:¬(((i+1:Nat):Int))=0:=by omega
       have Q:=Hi (fun W (hc:RurAt W B p C3)=>zaL B p C3 bRb W hc)
       unfold ptr at Q;rw[show bRb=(⟨#[93]⟩:ByteArray) from rfl] at Q
       obtain⟨J,hJ⟩:∃ J,J=i+1:=⟨_,rfl⟩;have HJ:=Hi hJ;rw[←hJ] at jz jz2 ⊢;have hJl:J≤N:=by omega
       clear hJ
       cases hB2:C3.isP bRb with
       | false =>
        have hB3:C3.isP ⟨#[93]⟩=false:=hB2;rw[hB3] at Q;have HT4:=Hi (show TT=(none,C3.cls bRb) from by rw[uh HT3];show upN i (up _)=_;unfold up;simp only[hB2];exact zck i _)
        clear HT3 hB2 hB3
        go_wp2_with fail
        refine ((uh P) _ (uh HR2)).mono ?_
        rintro e w4 ⟨rfl,hc4,hk4⟩;have hM4:=(hk4.block m hms (by omega)).trans (uh HM2)
        have k04:=(uh HK2).trans hk4;have m1:w4.cell? ⟨m,1,none⟩=some (.string r2):=(zG hM4 1).trans rfl;have f1:w4.frozen? ⟨m,1,none⟩=false:=dt.zak hM4 1;have HC4:=Hi hc4;have HK4:=Hi k04;clear P hc4 hk4 k04 hM4
        go_wp2_with fail
        refine ((uh Q) _ ((uh HC4).out (b:=m) (by omega) (by omega) 1 [.string (r2++bBang)])).mono ?_
        rintro e w5 ⟨rfl,hc5,hk5⟩;have HF:=Hi ((uh FIN) w5 _ hc5 (((uh HK4).out (b:=m) (by omega) 1 [.string (r2++bBang)]).trans hk5))
        clear Q hc5 hk5
        go_wp2_with (first
         | refine wpList_store_mid (by rfl) 44 _ _ (by rfl) w.heap.size 0 #[.string em,.string em] (by rfl) (by rfl) (uh HF).1 infoTr (dt.zab (cs:=[.string em,.string em]) (by rfl)) ?_)
        refine bodyPost_ret (rgn.zaa rfl _ _ w.heap.size 0 [.string em,.string em] _ rfl (World.rangeAt_setCells_same _ _ _ _ (uh HF).1) underlying44 rfl infoTr) rfl ?_
        rw[uh HT4];exact⟨rfl,(uh HF).2.1,(uh HF).2.2⟩
       | true =>
        have hB3:C3.isP ⟨#[93]⟩=true:=hB2;rw[hB3] at Q;have HT4:=Hi (show TT=upN i (bang (r1,(r2++bBang)++bRb) (C3.cls bRb)) from by rw[uh HT3];show upN i (up _)=_;unfold up;simp only[hB2];rfl)
        have hst:=zbV (uh hok3) bRb;have hlt4:=hst.ok.lt;rw[hst.ts,uh Hts3,←uh HNN] at hlt4;have Hts4:=Hi (show (C3.cls bRb).ts=c.ts from by rw[hst.ts,uh Hts3])
        have hix4:(C3.cls bRb).ix=C3.ix+1:=by unfold Cu.cls;rw[if_pos hB2]
        clear HT3 hB2 hB3 hst;have HCC:=Hi (show ∀ W,RurAt W B p (C3.cls ⟨#[93]⟩)→RurAt W B p (C3.cls bRb) from fun W h=>h)
        obtain⟨C4,hC4⟩:∃ C4,C4=C3.cls bRb:=⟨_,rfl⟩;rw[←hC4] at HT4 hlt4 Hts4 hix4 HCC;clear hC4;have hsz4:(r2++bBang).size≤C3.ix:=by first | (rw[zbx];show r2.size+1≤_;omega) | omega
        have hsr4:(r2++bBang).size≤1099511627777:=by omega
        go_wp2_with fail
        refine ((uh P) _ (uh HR2)).mono ?_
        rintro e w4 ⟨rfl,hc4,hk4⟩;have hM4:=(hk4.block m hms (by omega)).trans (uh HM2)
        have k04:=(uh HK2).trans hk4;have m1:w4.cell? ⟨m,1,none⟩=some (.string r2):=(zG hM4 1).trans rfl;have f1:w4.frozen? ⟨m,1,none⟩=false:=dt.zak hM4 1;have HM4:=Hi ((dt.zaj hM4 1 (.string (r2++bBang))).trans rfl);have hms4:m<w4.heap.size:=Nat.lt_of_lt_of_le hms hk4.size;have HC4:=Hi hc4;have HK4:=Hi k04;clear P hc4 hk4 k04 hM4
        go_wp2_with fail
        refine ((uh Q) _ ((uh HC4).out (b:=m) (by omega) (by omega) 1 [.string (r2++bBang)])).mono ?_
        rintro e w5 ⟨rfl,hc5,hk5⟩;have hM5:=(hk5.block m (by first | exact hms4 | (rw[dt.zag];exact hms4)) (by omega)).trans (uh HM4)
        have n1:w5.cell? ⟨m,1,none⟩=some (.string (r2++bBang)):=(zG hM5 1).trans rfl;have f15:w5.frozen? ⟨m,1,none⟩=false:=dt.zak hM5 1;have HM5:=Hi ((dt.zaj hM5 1 (.string ((r2++bBang)++bRb))).trans rfl);have HC5:=Hi (((uh HCC) _ hc5).out (b:=m) (by omega) (by omega) 1 [.string ((r2++bBang)++bRb)])
        have HK5:=Hi ((((uh HK4).out (b:=m) (by omega) 1 [.string (r2++bBang)]).trans hk5).out (b:=m) (by omega) 1 [.string ((r2++bBang)++bRb)])
        have hms5:m<w5.heap.size:=by have:=hk5.size;first | omega | (rw[dt.zag] at this;omega)
        clear Q hc5 hk5 hM5 HM4 HC4 HK4;obtain⟨R3,hR3⟩:∃ R3,R3=r2++bBang:=⟨_,rfl⟩;rw[←hR3] at n1 HM5 HC5 HK5 HT4 hsz4 hsr4;clear hR3
        go_wp2_with fail
        go_roundg (gk-1)
        case rel=>exact⟨i,C4,r1,R3++bRb,by have:=uh HJ;subst this;go_num,by have:=uh HJ;omega,by rw[zbx];show R3.size+1≤_;omega,hlt4,by have:=uh HJ;omega,by simpa using hms5,Hts4,HT4,HC5,HK5,HM5⟩
        case measure=>omega
     | false =>
      have hB:c2.isP bBang=false:=hB0;rw[show (⟨#[33]⟩:ByteArray)=bBang from rfl] at P
      clear hB0;rw[hB] at P
      skip
      have HT3:=Hi (show TT=upN j (some (r1,r2),c2.punct bBang) from by rw[uh HT2];unfold bang;rw[hB];rfl)
      have hst:=zdi (uh HR2).ok bBang;have hlt3:=hst.ok.lt;rw[hst.ts,uh Hts2,←uh HNN] at hlt3;have Hts3:=Hi (show (c2.punct bBang).ts=c.ts from by rw[hst.ts,uh Hts2])
      have hix3:c2.ix≤(c2.punct bBang).ix:=hst.ix;have hok3:=Hi hst.ok;clear hB HT2 hst;obtain⟨C3,hC3⟩:∃ C3,C3=c2.punct bBang:=⟨_,rfl⟩;rw[←hC3] at P HT3 hlt3 Hts3 hix3 hok3;clear hC3;have hsr:r2.size≤1099511627777:=by omega
      cases j with
      | zero =>
       have HT4:=Hi (show TT=(some (r1,r2),C3) from uh HT3)
       clear HT3
       go_wp2_with fail
       refine ((uh P) _ (uh HR2)).mono ?_
       rintro e w4 ⟨rfl,hc4,hk4⟩;have hM4:=(hk4.block m hms (by omega)).trans (uh HM2)
       have k04:=(uh HK2).trans hk4;have m0:w4.cell? ⟨m,0,none⟩=some (.string r1):=(zG hM4 0).trans rfl;have m1:w4.cell? ⟨m,1,none⟩=some (.string r2):=(zG hM4 1).trans rfl;have f1:w4.frozen? ⟨m,1,none⟩=false:=dt.zak hM4 1;have hth:w4.there w.heap.size 0 2:=dt.zac ((k04.block w.heap.size hsz0 (by omega)).trans (uh HR0)) (by decide)
       have j0:∀ v,(w4.setCell ⟨m,1,none⟩ v).cell? ⟨m,0,none⟩=some (.string r1):=fun v=>(zG (dt.zaj hM4 1 v) 0).trans rfl
       have hX:Hid (∀ v,(w4.setCell ⟨m,1,none⟩ v).there w.heap.size 0 2):=Hi (fun v=>dt.zac ((Below.heap_setCell w4 ⟨m,1,none⟩ v w.heap.size (by show w.heap.size≠m;omega)).trans ((k04.block w.heap.size hsz0 (by omega)).trans (uh HR0))) (o:=0) (n:=2) (by decide))
       have HC4:=Hi hc4;have HK4:=Hi ((Kp.of (uh HBA)).trans k04);clear P hc4 hk4 k04 hM4
       go_wp2_with (first
        | refine wpList_store_mid (by rfl) 44 _ _ (by rfl) w.heap.size 0 #[.string r1,.string r2] (by rfl) (by rfl) hth infoTr (dt.zab (cs:=[.string r1,.string r2]) (by rfl)) ?_)
       refine bodyPost_ret (rgn.zaa rfl _ _ w.heap.size 0 [.string r1,.string r2] _ rfl (World.rangeAt_setCells_same _ _ _ _ hth) underlying44 rfl infoTr) rfl ?_
       rw[uh HT4];exact⟨rfl,(uh HC4).out hne hnp 0 _,(uh HK4).out (lr _) 0 _⟩
      | succ i =>
       have jz:((((i+1:Nat):Int))==0)=false:=by simp;omega
       have jz2:¬(((i+1:Nat):Int))=0:=by omega
       have Q:=Hi (fun W (hc:RurAt W B p C3)=>zaL B p C3 bRb W hc)
       unfold ptr at Q;rw[show bRb=(⟨#[93]⟩:ByteArray) from rfl] at Q
       obtain⟨J,hJ⟩:∃ J,J=i+1:=⟨_,rfl⟩;have HJ:=Hi hJ;rw[←hJ] at jz jz2 ⊢;have hJl:J≤N:=by omega
       clear hJ
       cases hB2:C3.isP bRb with
       | false =>
        have hB3:C3.isP ⟨#[93]⟩=false:=hB2;rw[hB3] at Q;have HT4:=Hi (show TT=(none,C3.cls bRb) from by rw[uh HT3];show upN i (up _)=_;unfold up;simp only[hB2];exact zck i _)
        clear HT3 hB2 hB3
        go_wp2_with fail
        refine ((uh P) _ (uh HR2)).mono ?_
        rintro e w4 ⟨rfl,hc4,hk4⟩;have hM4:=(hk4.block m hms (by omega)).trans (uh HM2)
        have k04:=(uh HK2).trans hk4;have m1:w4.cell? ⟨m,1,none⟩=some (.string r2):=(zG hM4 1).trans rfl;have f1:w4.frozen? ⟨m,1,none⟩=false:=dt.zak hM4 1;have HC4:=Hi hc4;have HK4:=Hi k04;clear P hc4 hk4 k04 hM4
        go_wp2_with fail
        refine ((uh Q) _ (uh HC4)).mono ?_
        rintro e w5 ⟨rfl,hc5,hk5⟩;have HF:=Hi ((uh FIN) w5 _ hc5 (((uh HK4)).trans hk5));clear Q hc5 hk5
        go_wp2_with (first
         | refine wpList_store_mid (by rfl) 44 _ _ (by rfl) w.heap.size 0 #[.string em,.string em] (by rfl) (by rfl) (uh HF).1 infoTr (dt.zab (cs:=[.string em,.string em]) (by rfl)) ?_)
        refine bodyPost_ret (rgn.zaa rfl _ _ w.heap.size 0 [.string em,.string em] _ rfl (World.rangeAt_setCells_same _ _ _ _ (uh HF).1) underlying44 rfl infoTr) rfl ?_
        rw[uh HT4];exact⟨rfl,(uh HF).2.1,(uh HF).2.2⟩
       | true =>
        have hB3:C3.isP ⟨#[93]⟩=true:=hB2;rw[hB3] at Q;have HT4:=Hi (show TT=upN i (bang (r1,r2++bRb) (C3.cls bRb)) from by rw[uh HT3];show upN i (up _)=_;unfold up;simp only[hB2];rfl)
        have hst:=zbV (uh hok3) bRb;have hlt4:=hst.ok.lt;rw[hst.ts,uh Hts3,←uh HNN] at hlt4;have Hts4:=Hi (show (C3.cls bRb).ts=c.ts from by rw[hst.ts,uh Hts3])
        have hix4:(C3.cls bRb).ix=C3.ix+1:=by unfold Cu.cls;rw[if_pos hB2]
        clear HT3 hB2 hB3 hst;have HCC:=Hi (show ∀ W,RurAt W B p (C3.cls ⟨#[93]⟩)→RurAt W B p (C3.cls bRb) from fun W h=>h)
        obtain⟨C4,hC4⟩:∃ C4,C4=C3.cls bRb:=⟨_,rfl⟩;rw[←hC4] at HT4 hlt4 Hts4 hix4 HCC;clear hC4;have hsz4:r2.size≤C3.ix:=by first | (rw[zbx];show r2.size+1≤_;omega) | omega
        have hsr4:r2.size≤1099511627777:=by omega
        go_wp2_with fail
        refine ((uh P) _ (uh HR2)).mono ?_
        rintro e w4 ⟨rfl,hc4,hk4⟩;have hM4:=(hk4.block m hms (by omega)).trans (uh HM2)
        have k04:=(uh HK2).trans hk4;have m1:w4.cell? ⟨m,1,none⟩=some (.string r2):=(zG hM4 1).trans rfl;have f1:w4.frozen? ⟨m,1,none⟩=false:=dt.zak hM4 1;have HM4:=Hi hM4;have hms4:m<w4.heap.size:=Nat.lt_of_lt_of_le hms hk4.size;have HC4:=Hi hc4;have HK4:=Hi k04;clear P hc4 hk4 k04 hM4
        go_wp2_with fail
        refine ((uh Q) _ (uh HC4)).mono ?_
        rintro e w5 ⟨rfl,hc5,hk5⟩;have hM5:=(hk5.block m (by first | exact hms4 | (rw[dt.zag];exact hms4)) (by omega)).trans (uh HM4)
        have n1:w5.cell? ⟨m,1,none⟩=some (.string r2):=(zG hM5 1).trans rfl;have f15:w5.frozen? ⟨m,1,none⟩=false:=dt.zak hM5 1;have HM5:=Hi ((dt.zaj hM5 1 (.string (r2++bRb))).trans rfl);have HC5:=Hi (((uh HCC) _ hc5).out (b:=m) (by omega) (by omega) 1 [.string (r2++bRb)])
        have HK5:=Hi ((((uh HK4)).trans hk5).out (b:=m) (by omega) 1 [.string (r2++bRb)])
        have hms5:m<w5.heap.size:=by have:=hk5.size;first | omega | (rw[dt.zag] at this;omega)
        clear Q hc5 hk5 hM5 HM4 HC4 HK4
        skip
        go_wp2_with fail
        go_roundg (gk-1)
        case rel=>exact⟨i,C4,r1,r2++bRb,by have:=uh HJ;subst this;go_num,by have:=uh HJ;omega,by rw[zbx];show r2.size+1≤_;omega,hlt4,by have:=uh HJ;omega,by simpa using hms5,Hts4,HT4,HC5,HK5,HM5⟩
        case measure=>omega
open mem (Row)
theorem zlK(a:Option Addr)(n c:Nat)(l:List Int)(d:Int)(w:World)(h:Row .u8 w a n c l)(hn:n≤1099511627776)(hz:mem.Byt l)(hd:(Lit.int .i64 d).wf=true) :
  Calls prog 13 #[.slice a n c,.int .i64 d] w fun e w'=>∃ B p,e = .returned (ptr B)∧w.heap.size≤B∧w.heap.size≤p∧RurAt w' B p (newG l d)∧Below w.heap.size w w':=by
 have hT:=Hi (fun W (bb:Below w.heap.size w W)=>lx.zgO a n c l W (h.below bb) hn hz)
 have hok:=Hi (zfV l d);have hlen:=zgg l hz;rw[h.len] at hlen
 go_enter func13,ntmps13
 go_wp2_with fail
 refine ((uh hT) w (Below.refl _ _)).mono ?_
 rintro e w1 ⟨p,cap,rfl,hp1,hp2,hrows,b1⟩;have HR:=Hi hrows;clear hT hrows
 go_wp2_with fail
 go_ret
 have hmo:(min (max d 0) 200)=((mostS d:Nat):Int):=by unfold mostS;omega
 first | rw[hmo] | rw[show (min 200 (max 0 d))=((mostS d:Nat):Int) by unfold mostS;omega] | rw[show (min (max 0 d) 200)=((mostS d:Nat):Int) by unfold mostS;omega] | rw[show (min 200 (max d 0))=((mostS d:Nat):Int) by unfold mostS;omega]
 have bX:∀ o,Below w1.heap.size w1 (w1.alloc o):=fun o=>ba
 refine⟨w1.heap.size,p,rfl,b1.size,hp1,⟨uh hok,?_,cap,heap_alloc_new w1 _,by omega,?_,fun i t ht=>((uh HR) i t ht).below (bX _)⟩,b1.alloc b1.size _⟩
 ·show (lx.toks l).length≤_
  omega
 ·simp;omega
theorem zie(B p:Nat)(c:Cu)(w:World)(h:RurAt w B p c):Calls prog 22 #[ptr B] w fun e w'=>∃ fs,e = .returned (.tuple #[.agg fs.toArray,.bool (c.kd != 0)])∧FltAt w.heap.size w' c fs∧Below w.heap.size w w':=by
 have hlt:=h.lt;have hplt:=h.plt;have hix:=h.ok.lt;have hlen:=h.len;have hr:=h.tk;obtain⟨cap,d0,d1,-,-⟩:=h.c01;obtain⟨-,-,-,d4⟩:=h.c2;have bA:=qA w;have hFL:=Hi (show ∀ W fs,FltAt w.heap.size W c fs=(if c.kd=0 then fs=[.int .i64 0,.slice none 0 0,.slice none 0 0] else ∃ b,w.heap.size≤b∧b<W.heap.size∧fs=[.int .i64 c.kd,.slice (some ⟨b,0,none⟩) 1 1,.slice none 0 0]∧W.cell? ⟨b,0,none⟩=some (.int .i64 c.tok.ln)∧W.cell? ⟨b,1,none⟩=some (.int .i64 c.tok.co)) from fun W fs=>rfl)
 obtain⟨ix,hk⟩:∃ ix,ix=c.ix:=⟨_,rfl⟩;obtain⟨n,hk2⟩:∃ n,n=c.ts.length:=⟨_,rfl⟩;obtain⟨t,hk3⟩:∃ t,t=c.tok:=⟨_,rfl⟩;obtain⟨kd,hk4⟩:∃ kd,kd=c.kd:=⟨_,rfl⟩;rw[←hk,←hk2] at hix;rw[←hk2] at d0 hlen;rw[←hk] at d1 hr;rw[←hk3] at hr hFL;rw[←hk4] at d4 hFL ⊢;clear h hk hk2 hk3 hk4;have ii:(ix:Int)<(n:Int):=by omega
 have D0:=qc hlt d0;have D1:=qc hlt d1;have D4:=qc hlt d4;have e1:∀ o,(w.alloc o).cell? ⟨p,ix * 7+1,none⟩=some (.int .i64 t.ln):=fun o=>(hr.below ((uh bA) o)) 1 _ rfl
 have e2:∀ o,(w.alloc o).cell? ⟨p,ix * 7+2,none⟩=some (.int .i64 t.co):=fun o=>(hr.below ((uh bA) o)) 2 _ rfl
 clear d0 d1 d4 hr;unfold ptr
 by_cases h0:kd=0
 ·have b0:(kd==0)=true:=by simpa using h0
  subst h0;have HT:=Hi (fun o=>show (w.alloc o).heap[w.heap.size]? = some o from heap_alloc_new w o)
  go_enter func22,ntmps22
  go_wp2_with fail
  refine bodyPost_ret (rgn.zaa rfl _ _ w.heap.size 0 [.int .i64 0,.slice none 0 0,.slice none 0 0] _ rfl (dt.zap (heap_alloc_new w _) 0 [.int .i64 0,.slice none 0 0,.slice none 0 0] (fun j u hu=>by rw[Nat.zero_add];simpa using hu)) underlying38 rfl infoFl) rfl ?_
  exact⟨_,rfl,by rw[uh hFL];simp,(uh bA) _⟩
 ·have b0:(kd==0)=false:=by simpa using h0
  have H0:=Hi h0;clear h0
  go_enter func22,ntmps22
  go_wp2_with fail
  go_region
  go_wp2_with fail
  have hQ:∀ o o',((w.alloc o).alloc o').drew.heap[w.heap.size]? = some o:=fun o o'=>(Below.heap_alloc (w.alloc o) o' w.heap.size (by simp)).trans (heap_alloc_new w o)
  have hQ2:∀ o o',((w.alloc o).alloc o').drew.heap[w.heap.size+1]? = some o':=fun o o'=>by
   have e:((w.alloc o).alloc o').heap[w.heap.size+1]? = some o':=by simpa using heap_alloc_new (w.alloc o) o'
   exact e
  have hS:∀ o o',((w.alloc o).alloc o').drew.heap.size=w.heap.size+2:=fun o o'=>by simp[World.drew]
  have hb2:∀ o o',Below w.heap.size w ((w.alloc o).alloc o').drew:=fun o o'=>Go.below_drewN (((uh bA) o).alloc ((uh bA) o).size o') 1
  refine bodyPost_ret (rgn.zaa rfl _ _ w.heap.size 0 [.int .i64 kd,.slice (some ⟨w.heap.size+1,0,none⟩) 1 1,.slice none 0 0] _ rfl (dt.zap (hQ _ _) 0 [.int .i64 kd,.slice (some ⟨w.heap.size+1,0,none⟩) 1 1,.slice none 0 0] (fun j u hu=>by rw[Nat.zero_add];simpa using hu)) underlying38 rfl infoFl) rfl ?_
  refine⟨_,by rw[show (kd != 0)=true from by simpa using uh H0];rfl,?_,hb2 _ _⟩
  rw[uh hFL,if_neg (uh H0)];exact⟨w.heap.size+1,by omega,by rw[hS];omega,rfl,(zG (hQ2 _ _) 0).trans rfl,(zG (hQ2 _ _) 1).trans rfl⟩
open dt (Dt Kp RowAt Ow Grow)
end cr
end Go.Proofs.YtepmbmbnlmbhhaaGreat
