import Derived.Test.YtifbkdicglcogaaGreatSjo17
import Derived.Lib.SlBytesConst
set_option linter.unusedVariables false
set_option linter.unusedSimpArgs false
namespace Go.Proofs.YtifbkdicglcogaaGreat.cu
open Go.ChangeShapes Go.WideShapes Go.ChangeAt Go.RowKit
open ints (Hi uh)
open dt (Dt Kp RowAt Ow Grow OwIn)
section
variable (N:Nat)
theorem ziU (s:Sy):Dm (nmdT s):=zdL.bnd fun _=>za3 _
theorem zru (s:Sy):Dm (schT (litF true N) s):=(zbU _).bnd fun _=>(zjP _).bnd fun q=>(zbs (zmn _ _ _) (za3 _)).bnd fun _=>za3 _
theorem zrp (s:Sy):Dm (scaT (litF true N) s):=(ziU s).bnd fun _=>(zbU _).bnd fun _=>za3 _
theorem zp3 (s:Sy):Dm (objT (typF N) (litF true N) N s):=(ziU s).bnd fun _=>(zcZ _).bnd fun q=>(zbs (zkq zdL N bAmp) (za3 _)).bnd fun _=>(zbU _).bnd fun _=>(ze9 _ _ _).bnd fun _=>za3 _
theorem zrC (s:Sy):Dm (uniT (litF true N) N s):=(ziU s).bnd fun _=>(zbU _).bnd fun _=>(zcf _).bnd fun q=>(zbs (zkq zdL N bPipe) (za3 _)).bnd fun _=>za3 _
theorem zqU (s:Sy):Dm (enuT (litF true N) s):=(ziU s).bnd fun _=>(zbU _).bnd fun _=>(ze9 _ _ _).bnd fun _=>za3 _
theorem zq3 (s:Sy):Dm (inuT (typF N) (litF true N) s):=(ziU s).bnd fun _=>(zbU _).bnd fun _=>(ze9 _ _ _).bnd fun _=>za3 _
theorem zpr (s:Sy):Dm (dirT (typF N) (litF true N) N s):=(zcA _).bnd fun _=>(ziU s).bnd fun _=>(ze9 _ _ _).bnd fun _=>(zcZ _).bnd fun _=>(zqA _).bnd fun _=>(zkq (zoT _) N bPipe).bnd fun _=>za3 _
theorem kw_m {q:ByteArray} {E F:Cu→Sy × Cu} (h:Dm E) (k:Dm F):Dm (kwT q E F):=(zcZ q).bnd fun _=>zbs h k
theorem zq8 (s:Sy):Dm (keyT (typF N) (litF true N) N s):=zqj.bnd fun t =>
 kw_m (zru N _) (kw_m (zrp N _) (kw_m (zp3 N _) (kw_m (zp3 N _) (kw_m (zrC N _) (kw_m (zqU N _) (kw_m (zq3 N _) (zbs (zcV _) (kw_m (zpr N _) (zcV _)))))))))
end
theorem zqN (N:Nat):Dm (defT (typF N) (litF true N) N):=zdx.bnd fun n=>(zbs (za3 _) (zcZ _)).bnd fun x=>(zq8 N _).bnd fun s=>zbs (zcV _) (za3 _)
theorem infoSyz:∃ i z,Tryz.prog.info? 62=some i∧i.zero=some z∧i.size=17∧i.bytes=272∧z.cells.size=17:=by
 have hin:(Tryz.prog.info? 62).map (fun i=>(i.bytes,i.size,i.zero.map (·.cells.size)))=some (272,17,some 17):=by kernel_rfl
 cases hq:Tryz.prog.info? 62 with
 | none=>simp[hq] at hin
 | some i =>
  simp[hq] at hin;obtain⟨h1,h2,z,hz,h3⟩:=hin;exact⟨i,z,rfl,hz,h2,h1,h3⟩
set_option maxRecDepth 4000 in
set_option maxHeartbeats 8000000 in
theorem znC {N B p:Nat} {c:Cu} {w:World} (hN:N≤4294967296) (h:CurN N w B p c) :
  Calls Tryz.prog 21 #[.agg #[.pointer (some ⟨B,0,none⟩)]] w fun e w'=>∃ (r:Option (List Dt)) (c':Cu) (a:Option Addr) (n cp:Nat) (F:List Nat),defsF (sdN N) c.ts.length [] c=(r,c')∧e = .returned (.slice a n cp)∧Sh w' 17 (r.getD []) w.heap.size w'.heap.size a n cp F∧CurN N w' B p c'∧Kp B w w':=by
 have hB:=h.lt;have hp:=h.plt;have hm:=h.m;have hc0:=h.at_.ok;have hG:∀ cc:Cu,cc.Ok→Stp cc (defT (typF N) (litF true N) N cc).2∧((defT (typF N) (litF true N) N cc).2.kd=0→cc.ix<(defT (typF N) (litF true N) N cc).2.ix):=fun cc hcc=>⟨zmt N cc hcc,zju N cc hcc⟩
 obtain⟨E,hE⟩:∃ E,E=defT (typF N) (litF true N) N:=⟨_,rfl⟩;have hRd:=Hi (fun cc W (hc:CurN N W B p cc)=>zpk hN hc)
 have hDm:Dm E:=by rw[hE];exact (zqN N)
 rw[show sdN N=optR (defT (typF N) (litF true N) N) from rfl,← hE]
 rw[← hE] at hRd hG;clear hE;obtain⟨w0,hw0⟩:∃ w0,w0=w.alloc (.cells #[.pointer (some ⟨B,0,none⟩)] 74):=⟨_,rfl⟩;have b0:Below w.heap.size w w0:=by rw[hw0];exact ba
 have z0:w.heap.size+1≤w0.heap.size:=by rw[hw0];simp
 have p0:w0.heap[w.heap.size]? = some (.cells #[.pointer (some ⟨B,0,none⟩)] 74 (0,0)):=by rw[hw0];exact heap_alloc_new _ _
 have hc0':=h.below b0;have hPc:=Hi (fun (W:World) (hk:W.heap[w.heap.size]? = some (.cells #[.pointer (some ⟨B,0,none⟩)] 74 (0,0)))=>show W.cell? ⟨w.heap.size,0,none⟩=some (.pointer (some ⟨B,0,none⟩)) from (zG hk 0).trans rfl)
 obtain⟨R,hR⟩:∃ R,R=defsF (optR E) c.ts.length [] c:=⟨_,rfl⟩;have HR:=Hi hR.symm;have HR':=Hi hR.symm;clear h hR;have hip:=Hi (fun W (cc:Cu) (hc:CurN N W B p cc)=>zaZ B p cc W hc.at_)
 have hsp:=Hi (fun W (cc:Cu) (hc:CurN N W B p cc)=>zbZ hc)
 unfold Tk.cells at hip;unfold ptr at hip
 go_enter Tryz.func21,Tryz.ntmps21
 go_wp2_with fail
 rw[← hw0];have K1:Kp B w w0:=Kp.of b0;clear hw0 b0
 go_loopg [3] c.ts.length (fun g sl wr=>∃ (l:List Dt) (cc:Cu) (Gs:List Nat),Hid (defsF (optR E) g l cc=R)∧CurN N wr B p cc∧Hid (Grow 62 17 wr (w.heap.size+1) l sl Gs)∧Kp B w wr∧Hid (cc.ts=c.ts)∧c.ts.length≤g+cc.ix∧l.length+c.ix≤cc.ix∧Hid (l ≠ []→cc.kd=0)∧Hid (wr.heap[w.heap.size]? = some (.cells #[.pointer (some ⟨B,0,none⟩)] 74 (0,0)))∧w.heap.size+1≤wr.heap.size)
 case atStart=>exact⟨[],c,[],HR,hc0',Hi Grow.nil,K1,Hi rfl,Nat.le_add_right _ _,by simp,Hi (fun h=>absurd rfl h),Hi p0,by omega⟩
 case round =>
  obtain⟨l,cc,Gs,hrun,hcc,hgr,hkr,hts,hfu,hll,hal,hpr,hzr⟩:=hrel;have hixl:=hcc.at_.ok.lt;rw[uh hts] at hixl;obtain⟨al,cl,hsl⟩:=(uh hgr).form;subst hsl;have cP:=(uh hPc) wr (uh hpr);obtain⟨g',rfl⟩:∃ g',gk=g'+1:=⟨gk - 1,by omega⟩
  by_cases hl0:l.length=0
  ·obtain rfl:l=[]:=List.eq_nil_of_length_eq_zero hl0
   obtain⟨w2,hw2⟩:∃ w2,w2=wr:=⟨_,rfl⟩;subst hw2;have b2:=Below.refl w2.heap.size w2;have hc2:=hcc;have hgr2:=hgr;have hk2:=hkr;have hp2:=hpr;clear hl0
   have hrun2:=Hi (show (match (optR E cc).1 with | none=>(none,(optR E cc).2) | some d=>defsF (optR E) g' ([] ++ [d]) (optR E cc).2)=R from by
    have e:=uh hrun;rw[defsF,if_pos (.inl rfl)] at e
    exact e)
   have hgo:=hG cc hcc.at_.ok;have hcall:=Hi ((uh hRd) cc w2 hc2)
   go_wp2_with fail
   refine (uh hcall).mono ?_
   rintro e w3 ⟨d,C,k,ex,n1,n2,n3,nm,a1,m1,c1,a2,m2,c2,a3,m3,c3,a4,m4,c4,a5,m5,c5,a6,m6,c6,a7,m7,c7,rp,a8,m8,c8,ln,co,F,hEq,rfl,hho,hc3,hk3⟩;rw[hEq] at hgo;have hon:∀ (hk:C.kd ≠ 0),optR E cc=(none,C):=fun hk=>(zaS (by rw[hEq];exact hk)).trans (by rw[hEq])
   have hos:∀ (hk:C.kd=0),optR E cc=(some d,C):=fun hk=>(zaY (by rw[hEq];exact hk)).trans (by rw[hEq])
   have HO:=Hi (an hon hos);have HP:=Hi hho;have HC3:=Hi hc3;have HK3:=Hi hk3;have hz3:=hk3.size;have hp3:=Hi ((hk3.block w.heap.size (by omega) (by omega)).trans (uh hp2))
   have hgr3:=(uh hgr2).kp (uh HK3) (by omega)
   obtain⟨it,zt,q1,q2,q3,q4,q5⟩:=infoSyz;have HQ:=Hi (an q1 (an q2 (an q3 (an q4 q5))));clear q1 q2 q3 q4 q5;obtain⟨xss,hr3,hol3,hx3⟩:=hgr3.row;have hr4:=Hi hr3;have hbyt:=Hi (show (([]:List Dt).length+1) * 272≤140737488355328∧([]:List Dt).length+1≤maxLen from ⟨by omega,by unfold maxLen;omega⟩)
   have hsz4:=Hi (show w.heap.size+1≤w3.heap.size from by have:=hz3;have:=b2.size;omega)
   have hone:=Hi (hho.ow.one);have HG:=Hi (an hgr3 (an hol3 hx3));have hGO:=Hi hgo;clear hgo hgr3 hr3 hol3 hx3 hcall hEq hon hos hho hc3 hk3 hrun;unfold sysC at HP hone;unfold sysC
   go_wp2_with (first
    | (at_builtin;refine dt.zaG (by rfl) _ _ (by rfl) Tryz.underlying24 (uh HQ).1 (uh HQ).2.1 (uh HQ).2.2.1 (uh HQ).2.2.2.1 (uh HQ).2.2.2.2 (by omega) (w.heap.size+1) ([]:List Dt).length xss.flatten _ (by rfl) (uh hr4) [.int .i64 k,.bool ex,.bool n1,.bool n2,.string n3,.string nm,.slice a1 m1 c1,.slice a2 m2 c2,.slice a3 m3 c3,.slice a4 m4 c4,.slice a5 m5 c5,.slice a6 m6 c6,.slice a7 m7 c7,.bool rp,.slice a8 m8 c8,.int .i64 ln,.int .i64 co] (by rfl) (uh hone) w3.heap.size (by rfl) (by rfl) (uh hbyt).1 (uh hbyt).2 (uh hsz4) ?_;intro sl' w7 hr7 b7 hold7 hat7;have cP7:=(uh hPc) w7 ((b7.block w.heap.size (Nat.lt_succ_self _)).trans (uh hp3));have H7:=Hi (an hr7 (an b7 (an hold7 hat7)));clear hr7 b7 hold7 hat7))
   obtain⟨hr7,b7,hold7,hat7⟩:=uh H7;obtain⟨hgr3,hol3,hx3⟩:=uh HG;have HPo:=uh HP;have hown:=fun b (hb:(Value.slice al ([]:List Dt).length cl).ownBlock=some b)=>(let ⟨_,hr,_⟩:=(uh hgr2).row;(hr.lt b hb).2)
   have hsz:w.heap.size≤w2.heap.size:=hk2.size;have hmore:=hgr3.more hol3 hx3 HPo.ow HPo.nd (fun b hb=>⟨by have:=(HPo.rng b hb).1;omega,by have:=(HPo.rng b hb).2;omega,fun hm=>by have:=((uh hgr2).rng b hm).2;have:=(HPo.rng b hb).1;omega,fun e=>by have:=hown b e;have:=(HPo.rng b hb).1;omega⟩) (by rfl) hr7 (by have:=(hr7.lt);have:=b7.size;exact this) hold7 hat7
   have hBs:B<w3.heap.size:=by omega
   have b7':=b7.mono (Nat.le_succ w.heap.size);have C7:=(uh HC3).low b7' hB hp;have K7:=(hk2.trans (uh HK3)).low b7';have p7:=(b7.block w.heap.size (Nat.lt_succ_self _)).trans (uh hp3);have z7:w.heap.size+1≤w7.heap.size:=by have:=b7.size;omega
   have hst7:=(uh hsp) w7 C C7
   by_cases hk:C.kd=0
   ·rw[show (C.kd != 0)=false by simpa using hk] at hst7
    have hrun3:=Hi (show defsF (optR E) g' ([] ++ [d]) C=R from by have e:=uh hrun2;rw[(uh HO).2 hk] at e;exact e)
    have hix3:cc.ix<C.ix:=(uh hGO).2 hk;have hts3:=(uh hGO).1.ts;have hlt3:=(uh hGO).1.ok.lt;have hTS:=Hi hts3;have HKD:=Hi hk;have HM:=Hi hmore;rw[hts3,uh hts] at hlt3;clear hr7 b7 hold7 hat7 hgr3 hol3 hx3 hown hmore hts3 HO hGO hrun2 H7 hr4 HQ hbyt hsz4 hone b7';refine hst7.mono ?_
    rintro e w8 ⟨rfl,C8,K8⟩;have z8:=K8.size;clear hst7 C7 hk
    go_wp2_with fail
    go_roundg g'
    case rel =>
     refine⟨[] ++ [d],C,Gs ++ F,hrun3,C8,Hi ((uh HM).kp K8 (by omega)),K7.trans K8,Hi ((uh hTS).trans (uh hts)),by omega,by rw[List.length_append];simp;omega,Hi (fun _=>uh HKD),Hi ((K8.block w.heap.size (by omega) (by omega)).trans p7),by omega⟩
    case measure=>exact Nat.lt_succ_self _
   ·rw[show (C.kd != 0)=true by simpa using hk] at hst7
    have hrun3:=Hi (show (none,C)=R from by have e:=uh hrun2;rw[(uh HO).1 hk] at e;exact e)
    clear hr7 b7 hold7 hat7 hgr3 hol3 hx3 hown hmore HO hGO hrun2 H7 hr4 HQ hbyt hsz4 hone b7';refine hst7.mono ?_
    rintro e w8 ⟨rfl,C8,K8⟩;clear hst7 C7 hk
    go_wp2_with fail
    go_ret
    exact⟨none,C,none,0,0,[],(uh HR').trans (uh hrun3).symm,rfl,Sh.nil (lr _),C8,K7.trans K8⟩
  ·have hlz:¬ ((l.length:Int)=0):=by omega
   have hlz1:¬ (l=[]):=fun e=>hl0 (by rw[e];rfl)
   obtain⟨t,et⟩:∃ t,t=cc.tok:=⟨_,rfl⟩;have hip2:=Hi ((uh hip) wr cc hcc);have hf1:=zfx t;rw[← et] at hip2;have hkd0:=(uh hal) hlz1
   by_cases hQ0:t.k=0
   ·have et0:(t.k != 0)=false:=by rw[hQ0];rfl
    have hrun2:=Hi (show (some l,cc)=R from by
     have e:=uh hrun;rw[defsF,if_neg (fun e=>by rcases e with e | e;exact hl0 e;exact e (et ▸ hQ0))] at e
     have hb:cc.finB=true:=decide_eq_true ⟨hkd0,et ▸ hQ0⟩;rw[hb] at e;have hf:cc.fin=cc:=by unfold Cu.fin;rw[if_pos hb]
     rw[hf] at e
     exact e)
    clear hrun hQ0 et hkd0
    go_wp2_with fail
    refine (uh hip2).mono ?_
    rintro e w2 ⟨rfl,b2⟩;have hc2:=hcc.below b2;have hgr2:=Hi ((uh hgr).keep b2.size (fun b hb _=>b2.block b hb))
    have hk2:=hkr.trans (Kp.of b2);clear hip2
    go_wp2_with fail
    go_ret
    obtain⟨a',n',c',F',he',hSh⟩:=Sh.of ((uh hgr2).lo (Nat.le_succ _))
    injection he' with e1 e2 e3
    subst e1 e2 e3;exact⟨some l,cc,_,_,_,F',(uh HR').trans (uh hrun2).symm,rfl,hSh,hc2,hk2⟩
   have hQ:cc.tok.k ≠ 0:=by rw[← et];exact hQ0
   have et1:(t.k != 0)=true:=by simpa using hQ0
   clear hQ0 hkd0;clear et
   go_wp2_with fail
   refine (uh hip2).mono ?_
   rintro e w2 ⟨rfl,b2⟩;have hc2:=hcc.below b2;have hgr2:=Hi ((uh hgr).keep b2.size (fun b hb _=>b2.block b hb))
   have hk2:=hkr.trans (Kp.of b2);have hs2:=b2.size;have hp2:=Hi ((b2.block w.heap.size (by omega)).trans (uh hpr))
   have cP2:=(uh hPc) w2 (uh hp2);clear hip2
   have hrun2:=Hi (show (match (optR E cc).1 with | none=>(none,(optR E cc).2) | some d=>defsF (optR E) g' (l ++ [d]) (optR E cc).2)=R from by
    have e:=uh hrun;rw[defsF,if_pos (.inr hQ)] at e
    exact e)
   have hgo:=hG cc hcc.at_.ok;have hcall:=Hi ((uh hRd) cc w2 hc2)
   go_wp2_with fail
   refine (uh hcall).mono ?_
   rintro e w3 ⟨d,C,k,ex,n1,n2,n3,nm,a1,m1,c1,a2,m2,c2,a3,m3,c3,a4,m4,c4,a5,m5,c5,a6,m6,c6,a7,m7,c7,rp,a8,m8,c8,ln,co,F,hEq,rfl,hho,hc3,hk3⟩;rw[hEq] at hgo;have hon:∀ (hk:C.kd ≠ 0),optR E cc=(none,C):=fun hk=>(zaS (by rw[hEq];exact hk)).trans (by rw[hEq])
   have hos:∀ (hk:C.kd=0),optR E cc=(some d,C):=fun hk=>(zaY (by rw[hEq];exact hk)).trans (by rw[hEq])
   have HO:=Hi (an hon hos);have HP:=Hi hho;have HC3:=Hi hc3;have HK3:=Hi hk3;have hz3:=hk3.size;have hp3:=Hi ((hk3.block w.heap.size (by omega) (by omega)).trans (uh hp2))
   have hgr3:=(uh hgr2).kp (uh HK3) (by omega)
   obtain⟨it,zt,q1,q2,q3,q4,q5⟩:=infoSyz;have HQ:=Hi (an q1 (an q2 (an q3 (an q4 q5))));clear q1 q2 q3 q4 q5;obtain⟨xss,hr3,hol3,hx3⟩:=hgr3.row;have hr4:=Hi hr3;have hbyt:=Hi (show (l.length+1) * 272≤140737488355328∧l.length+1≤maxLen from ⟨by omega,by unfold maxLen;omega⟩)
   have hsz4:=Hi (show w.heap.size+1≤w3.heap.size from by have:=hz3;have:=b2.size;omega)
   have hone:=Hi (hho.ow.one);have HG:=Hi (an hgr3 (an hol3 hx3));have hGO:=Hi hgo;clear hgo hgr3 hr3 hol3 hx3 hcall hEq hon hos hho hc3 hk3 hrun;unfold sysC at HP hone;unfold sysC
   go_wp2_with (first
    | (at_builtin;refine dt.zaG (by rfl) _ _ (by rfl) Tryz.underlying24 (uh HQ).1 (uh HQ).2.1 (uh HQ).2.2.1 (uh HQ).2.2.2.1 (uh HQ).2.2.2.2 (by omega) (w.heap.size+1) l.length xss.flatten _ (by rfl) (uh hr4) [.int .i64 k,.bool ex,.bool n1,.bool n2,.string n3,.string nm,.slice a1 m1 c1,.slice a2 m2 c2,.slice a3 m3 c3,.slice a4 m4 c4,.slice a5 m5 c5,.slice a6 m6 c6,.slice a7 m7 c7,.bool rp,.slice a8 m8 c8,.int .i64 ln,.int .i64 co] (by rfl) (uh hone) w3.heap.size (by rfl) (by rfl) (uh hbyt).1 (uh hbyt).2 (uh hsz4) ?_;intro sl' w7 hr7 b7 hold7 hat7;have cP7:=(uh hPc) w7 ((b7.block w.heap.size (Nat.lt_succ_self _)).trans (uh hp3));have H7:=Hi (an hr7 (an b7 (an hold7 hat7)));clear hr7 b7 hold7 hat7))
   obtain⟨hr7,b7,hold7,hat7⟩:=uh H7;obtain⟨hgr3,hol3,hx3⟩:=uh HG;have HPo:=uh HP;have hown:=fun b (hb:(Value.slice al l.length cl).ownBlock=some b)=>(let ⟨_,hr,_⟩:=(uh hgr2).row;(hr.lt b hb).2)
   have hsz:w.heap.size≤w2.heap.size:=hk2.size;have hmore:=hgr3.more hol3 hx3 HPo.ow HPo.nd (fun b hb=>⟨by have:=(HPo.rng b hb).1;omega,by have:=(HPo.rng b hb).2;omega,fun hm=>by have:=((uh hgr2).rng b hm).2;have:=(HPo.rng b hb).1;omega,fun e=>by have:=hown b e;have:=(HPo.rng b hb).1;omega⟩) (by rfl) hr7 (by have:=(hr7.lt);have:=b7.size;exact this) hold7 hat7
   have hBs:B<w3.heap.size:=by omega
   have b7':=b7.mono (Nat.le_succ w.heap.size);have C7:=(uh HC3).low b7' hB hp;have K7:=(hk2.trans (uh HK3)).low b7';have p7:=(b7.block w.heap.size (Nat.lt_succ_self _)).trans (uh hp3);have z7:w.heap.size+1≤w7.heap.size:=by have:=b7.size;omega
   have hst7:=(uh hsp) w7 C C7
   by_cases hk:C.kd=0
   ·rw[show (C.kd != 0)=false by simpa using hk] at hst7
    have hrun3:=Hi (show defsF (optR E) g' (l ++ [d]) C=R from by have e:=uh hrun2;rw[(uh HO).2 hk] at e;exact e)
    have hix3:cc.ix<C.ix:=(uh hGO).2 hk;have hts3:=(uh hGO).1.ts;have hlt3:=(uh hGO).1.ok.lt;have hTS:=Hi hts3;have HKD:=Hi hk;have HM:=Hi hmore;rw[hts3,uh hts] at hlt3;clear hr7 b7 hold7 hat7 hgr3 hol3 hx3 hown hmore hts3 HO hGO hrun2 H7 hr4 HQ hbyt hsz4 hone b7';refine hst7.mono ?_
    rintro e w8 ⟨rfl,C8,K8⟩;have z8:=K8.size;clear hst7 C7 hk
    go_wp2_with fail
    go_roundg g'
    case rel =>
     refine⟨l ++ [d],C,Gs ++ F,hrun3,C8,Hi ((uh HM).kp K8 (by omega)),K7.trans K8,Hi ((uh hTS).trans (uh hts)),by omega,by rw[List.length_append];simp;omega,Hi (fun _=>uh HKD),Hi ((K8.block w.heap.size (by omega) (by omega)).trans p7),by omega⟩
    case measure=>exact Nat.lt_succ_self _
   ·rw[show (C.kd != 0)=true by simpa using hk] at hst7
    have hrun3:=Hi (show (none,C)=R from by have e:=uh hrun2;rw[(uh HO).1 hk] at e;exact e)
    clear hr7 b7 hold7 hat7 hgr3 hol3 hx3 hown hmore HO hGO hrun2 H7 hr4 HQ hbyt hsz4 hone b7';refine hst7.mono ?_
    rintro e w8 ⟨rfl,C8,K8⟩;clear hst7 C7 hk
    go_wp2_with fail
    go_ret
    exact⟨none,C,none,0,0,[],(uh HR').trans (uh hrun3).symm,rfl,Sh.nil (lr _),C8,K7.trans K8⟩
open mem (Row)
theorem zeV {P:Program} {fn:Func} {p u:Tmp} {ty:TypeId} (h:fn.results = #[.tmp u,.cell p ty]) (tmps:Array Value) (w:World) (b o:Nat) (cs:List Value) (d:TypeDesc) (hp:tmps.getD p undef = .pointer (some ⟨b,o,none⟩)) (hc:w.rangeAt b o cs)
  (hu:P.underlying ty=some d) (hd:d.isRow=true) (hi:(P.info? ty).map (·.size)=some cs.length):(results fn tmps).run P w = .ok (.tuple #[tmps.getD u undef,.agg cs.toArray]) w:=by
 have:=run_loadVar_mid (P:=P) w b o ty cs d hc hu hd hi;have hp':tmps[p]?.getD undef = .pointer (some ⟨b,o,none⟩):=by simpa using hp
 simp[results,h,hp',asAddr,this]
theorem FltAt.below {lo:Nat} {w w':World} {c:Cu} {fs:List Value} (h:FltAt lo w c fs) (b:Below w.heap.size w w'):FltAt lo w' c fs:=by
 unfold FltAt at h ⊢
 split
 ·rename_i hk;rw[if_pos hk] at h;exact h
 ·rename_i hk
  rw[if_neg hk] at h;obtain⟨x,y1,y2,y3,y4,y5⟩:=h;exact⟨x,y1,Nat.lt_of_lt_of_le y2 b.size,y3,(b.cell (p:=⟨x,0,none⟩) y2).trans y4,(b.cell (p:=⟨x,1,none⟩) y2).trans y5⟩
theorem FltAt.lo {lo lo':Nat} {w:World} {c:Cu} {fs:List Value} (h:FltAt lo w c fs) (hl:lo'≤lo):FltAt lo' w c fs:=by
 unfold FltAt at h ⊢
 split
 ·rename_i hk;rw[if_pos hk] at h;exact h
 ·rename_i hk
  rw[if_neg hk] at h;obtain⟨x,y1,y2,y3,y4,y5⟩:=h;exact⟨x,by omega,y2,y3,y4,y5⟩
theorem FltAt.outC {lo:Nat} {w:World} {c:Cu} {fs:List Value} (h:FltAt lo w c fs) {b:Nat} (hb:b<lo) (o:Nat) (v:Value):FltAt lo (w.setCell ⟨b,o,none⟩ v) c fs:=by
 unfold FltAt at h ⊢
 split
 ·rename_i hk;rw[if_pos hk] at h;exact h
 ·rename_i hk
  rw[if_neg hk] at h;obtain⟨x,y1,y2,y3,y4,y5⟩:=h;exact⟨x,y1,by rw[zaf];exact y2,y3,(dt.zat (Below.heap_setCell w _ _ _ (by show x ≠ b;omega)) 0).trans y4,(dt.zat (Below.heap_setCell w _ _ _ (by show x ≠ b;omega)) 1).trans y5⟩
set_option maxRecDepth 4000 in
set_option maxHeartbeats 2000000 in
theorem zfL (a:Option Addr) (n c:Nat) (z:List Int) (d:Int) (w:World) (h:Row .u8 w a n c z) (hn:n≤1073741824) (hz:mem.Byt z) (hd:(Lit.int .i64 d).wf=true) :
  Calls Tryz.prog 9 #[.slice a n c,.int .i64 d] w fun e w'=>∃ (r:Option (List Dt)) (C:Cu) (a':Option Addr) (n' c':Nat) (F:List Nat) (fs:List Value),sdocS (newG z d)=(r,C)∧e = .returned (.tuple #[.slice a' n' c',.agg fs.toArray])∧Sh w' 17 (r.getD []) w.heap.size w'.heap.size a' n' c' F∧FltAt w.heap.size w' C fs∧Below w.heap.size w w':=by
 have hN:=Hi (fun W (bb:Below w.heap.size w W)=>zn9 a n c z d W (h.below bb) (by omega) hz hd)
 have hl:(newG z d).ts.length≤4294967296:=by have:=zir z hz;rw[h.len] at this;show (lx.toks z).length≤_;omega
 have hD:=Hi (fun B p W (hc:CurAt W B p (newG z d))=>znC (N:=(newG z d).ts.length) hl (⟨hc,lr _,hl⟩:CurN (newG z d).ts.length W B p (newG z d)))
 have hS:=Hi (show sdocS (newG z d)=defsF (sdN (newG z d).ts.length) (newG z d).ts.length [] (newG z d) from rfl)
 obtain⟨C0,hC0⟩:∃ C0,C0=newG z d:=⟨_,rfl⟩;rw[← hC0] at hN hD hS ⊢;obtain⟨NN,hNN⟩:∃ NN,NN=C0.ts.length:=⟨_,rfl⟩;rw[← hNN] at hD hS;clear h hC0 hNN hl
 go_enter Tryz.func9,Tryz.ntmps9
 go_wp2_with fail
 obtain⟨W0,gW0⟩:∃ W0,W0=w.alloc (.cells #[.int .i64 0,.slice none 0 0,.slice none 0 0] 29):=⟨_,rfl⟩;have f0:W0.heap[w.heap.size]? = some (.cells #[.int .i64 0,.slice none 0 0,.slice none 0 0] 29 (0,0)):=by rw[gW0];exact heap_alloc_new _ _
 have bw:Below w.heap.size w W0:=by rw[gW0];exact ba
 have sz0:w.heap.size+1≤W0.heap.size:=by rw[gW0];simp
 rw[← gW0];clear gW0;refine ((uh hN) W0 bw).mono ?_
 rintro e w1 ⟨B,p,rfl,hB,hp0,hc1,b1⟩;have hBl:=hc1.lt;have hpl:=hc1.plt;have sz1:=b1.size;obtain⟨W2,hW2⟩:∃ W2,W2=w1.alloc (.cells #[.pointer (some ⟨B,0,none⟩)] 74):=⟨_,rfl⟩;have b2:Below w1.heap.size w1 W2:=by rw[hW2];exact ba
 have g2:W2.heap[w1.heap.size]? = some (.cells #[.pointer (some ⟨B,0,none⟩)] 74 (0,0)):=by rw[hW2];exact heap_alloc_new _ _
 have sz2:w1.heap.size+1≤W2.heap.size:=by rw[hW2];simp
 have hc2:=hc1.below b2;have bw2:=b1.trans (b2.mono b1.size);clear hN hc1;unfold ptr
 go_wp2_with fail
 rw[← hW2];clear hW2;refine ((uh hD) B p W2 hc2).mono ?_
 rintro e w3 ⟨r,C,a',n',c',F,qE,rfl,hsh,hc3,hk3⟩;have hfin:=Hi ((uh hS).trans qE);have sz3:=hk3.size;have b03:Below W0.heap.size W0 w3:=bw2.trans (hk3.below (by omega) (by omega))
 have F0:=(b03.block w.heap.size (by omega)).trans f0
 have G2:=(hk3.block w1.heap.size (by omega) (by omega)).trans g2
 have cP:w3.cell? ⟨w1.heap.size,0,none⟩=some (.pointer (some ⟨B,0,none⟩)):=(zG G2 0).trans rfl;have BW:=bw.trans (b03.mono bw.size);have hFl:=Hi (zgj B p C w3 hc3.at_);have HH:=Hi (an F0 (an hsh BW));clear f0 g2 bw b1 b2 bw2 b03 F0 G2 BW hc2 hD hk3 qE hS hsh hc3;unfold ptr at hFl
 go_wp2_with fail
 refine (uh hFl).mono ?_
 rintro e w4 ⟨k,fa,fn,fc,rfl,hflt,b4⟩;clear hFl cP;obtain⟨F0,hsh,BW⟩:=uh HH;have sz4:=b4.size;obtain⟨W5,hW5⟩:∃ W5,W5=w4.alloc (.cells #[.int .i64 k,.slice fa fn fc,.slice none 0 0] 29):=⟨_,rfl⟩;have b5:Below w4.heap.size w4 W5:=by rw[hW5];exact ba
 have b45:=b4.trans (b5.mono b4.size);have g5:W5.heap[w4.heap.size]? = some (.cells #[.int .i64 k,.slice fa fn fc,.slice none 0 0] 29 (0,0)):=by rw[hW5];exact heap_alloc_new _ _
 have sz5:w4.heap.size+1≤W5.heap.size:=by rw[hW5];simp
 have hfl5:=hflt.below b5;have hsh5:=hsh.below b45;have F5:=(b45.block w.heap.size (by omega)).trans F0
 have BW5:=BW.trans (b45.mono BW.size);clear HH F0 hsh BW hflt b4 b5 b45;have HH:=Hi (an g5 (an hfl5 (an hsh5 (an F5 BW5))));have d0:W5.cell? ⟨w4.heap.size,0,none⟩=some (.int .i64 k):=(zG g5 0).trans rfl;have d1:W5.cell? ⟨w4.heap.size,1,none⟩=some (.slice fa fn fc):=(zG g5 1).trans rfl;have d2:W5.cell? ⟨w4.heap.size,2,none⟩=some (.slice none 0 0):=(zG g5 2).trans rfl;have r0:W5.cell? ⟨w.heap.size,0,none⟩=some (.int .i64 0):=(zG F5 0).trans rfl
 have r1:W5.cell? ⟨w.heap.size,1,none⟩=some (.slice none 0 0):=(zG F5 1).trans rfl;have r2:W5.cell? ⟨w.heap.size,2,none⟩=some (.slice none 0 0):=(zG F5 2).trans rfl;have z0:W5.frozen? ⟨w.heap.size,0,none⟩=false:=dt.zag F5 0;have z1:W5.frozen? ⟨w.heap.size,1,none⟩=false:=dt.zag F5 1;have z2:W5.frozen? ⟨w.heap.size,2,none⟩=false:=dt.zag F5 2;have HW5:=Hi hW5
 clear g5 hfl5 hsh5 F5 BW5 hW5
 go_wp2_with fail
 rw[← uh HW5]
 go_region
 obtain⟨g5,hfl5,hsh5,F5,BW5⟩:=uh HH;obtain⟨X,hX⟩:∃ X,X=((W5.setCell ⟨w.heap.size,0,none⟩ (.int .i64 k)).setCell ⟨w.heap.size,1,none⟩ (.slice fa fn fc)).setCell ⟨w.heap.size,2,none⟩ (.slice none 0 0):=⟨_,rfl⟩;have h1:(W5.setCell ⟨w.heap.size,0,none⟩ (.int .i64 k)).heap[w.heap.size]? = some (.cells #[.int .i64 k,.slice none 0 0,.slice none 0 0] 29 (0,0)):=(dt.zac F5 0 _).trans (by kernel_rfl)
 have h2:=(dt.zac h1 1 (.slice fa fn fc)).trans (show _=some (Obj.cells #[.int .i64 k,.slice fa fn fc,.slice none 0 0] 29 (0,0)) by kernel_rfl)
 have h3:=(dt.zac h2 2 (.slice none 0 0)).trans (show _=some (Obj.cells #[.int .i64 k,.slice fa fn fc,.slice none 0 0] 29 (0,0)) by kernel_rfl)
 have fl3:=((hfl5.outC (b:=w.heap.size) (by omega) 0 (.int .i64 k)).outC (b:=w.heap.size) (by omega) 1 (.slice fa fn fc)).outC (b:=w.heap.size) (by omega) 2 (.slice none 0 0)
 have sh3:=((hsh5.outC (b:=w.heap.size) (.inl (by omega)) 0 (.int .i64 k)).outC (b:=w.heap.size) (.inl (by omega)) 1 (.slice fa fn fc)).outC (b:=w.heap.size) (.inl (by omega)) 2 (.slice none 0 0)
 have bw3:=dt.zan w.heap.size [.slice none 0 0] 2 _ (dt.zan w.heap.size [.slice fa fn fc] 1 _ (dt.zan w.heap.size [.int .i64 k] 0 _ BW5 (lr _)) (lr _)) (lr _);have szx:X.heap.size=W5.heap.size:=by rw[hX];simp only[zaf]
 have bX:Below w.heap.size w X:=by rw[hX];exact bw3
 rw[← hX] at h3 fl3 sh3 ⊢;have bD:Below X.heap.size X X.drew:=(Below.refl _ _).drew;clear hX bw3 h1 h2
 go_wp2_with fail
 refine bodyPost_ret (zeV rfl _ _ w.heap.size 0 [.int .i64 k,.slice fa fn fc,.slice none 0 0] _ rfl (dt.zav ((bD.block _ (by omega)).trans h3) 0 [.int .i64 k,.slice fa fn fc,.slice none 0 0] (fun j u hu=>by rw[Nat.zero_add];simpa using hu)) Tryz.underlying29 rfl infoFl) rfl ?_
 have shD:=(sh3.below bD).lo (lo':=w.heap.size) (by omega)
 have hszD:=bD.size;exact⟨r,C,a',n',c',F,_,uh hfin,rfl,⟨shD.nc,shD.cm,shD.no,shD.nd,fun b hb=>⟨(shD.rng b hb).1,by have:=(shD.rng b hb).2;omega⟩,lr _,shD.len,shD.at_⟩,(fl3.below bD).lo (by omega),bX.trans (bD.mono bX.size)⟩
end Go.Proofs.YtifbkdicglcogaaGreat.cu
namespace Go.Proofs.YtifbkdicglcogaaGreat.mem
open Go.ChangeShapes Go.WideShapes Go.ChangeAt Go.RowKit
open ints (Hi uh)
end Go.Proofs.YtifbkdicglcogaaGreat.mem
namespace Go.Proofs.YtifbkdicglcogaaGreat.cu
open Go.ChangeShapes Go.WideShapes Go.ChangeAt Go.RowKit
open ints (Hi uh)
open mem (Row)
open lx (toks chs cln)
structure Bsl (w:World) (base g n cap:Nat) (zs:List Int):Prop where
 len:zs.length=n
 nc:n≤cap
 cm:cap≤maxLen
 bs:base≤g
 lt:g<w.heap.size
 there:w.there g 0 cap
 cells:∀ i,i<n→w.cell? ⟨g,i,none⟩=some (.int .u8 (zs.getD i 0))
theorem Bsl.row {w:World} {base g n cap:Nat} {zs:List Int} (h:Bsl w base g n cap zs):Row .u8 w (some ⟨g,0,none⟩) n cap zs:=
 ⟨h.len,h.nc,(fun e=>by cases e),.inr ⟨g,0,rfl,h.lt,fun i hi=>by rw[Nat.zero_add];exact h.cells i hi⟩⟩
theorem ziL {w w':World} {b:Nat} (h:w'.heap[b]? = w.heap[b]?) (j:Nat):w'.frozen? ⟨b,j,none⟩=w.frozen? ⟨b,j,none⟩:=by unfold World.frozen?;rw[h]
theorem Bsl.below {w w':World} {base g n cap:Nat} {zs:List Int} (h:Bsl w base g n cap zs) (hb:Below w.heap.size w w'):Bsl w' base g n cap zs:=by
 have hk:=hb.block g h.lt;exact⟨h.len,h.nc,h.cm,h.bs,Nat.lt_of_lt_of_le h.lt hb.size,fun j hj=>⟨by rw[dt.zat hk];exact (h.there j hj).1,by rw[ziL hk];exact (h.there j hj).2⟩,fun i hi=>(dt.zat hk i).trans (h.cells i hi)⟩
theorem Bsl.own {w:World} {base:Nat} {e:TypeId} {g n cap:Nat} {zs:List Int} (h:w.ownsRow base e 1 (.slice (some ⟨g,0,none⟩) n cap) n (zs.map (Value.int .u8))):Bsl w base g n cap zs:=by
 rcases h.2 with ⟨h0,_⟩ | ⟨g',cap',cur,hv,hb,hg,hnc,hcm,hcs,ht⟩
 ·cases h0
 ·injection hv with e1 e2 e3
  injection e1 with e1
  injection e1 with e1
  subst e1 e3;have hl:zs.length=n:=by have:=h.1;simpa using this
  refine⟨hl,hnc,hcm,hb,(Array.getElem?_eq_some_iff.1 hg).1,dt.zab hg (by omega),fun i hi=>?_⟩
  rw[zG hg i]
  have:cur.toList[i]? = some (.int .u8 (zs.getD i 0)):=by
   have h2:(cur.toList.take (n * 1))[i]? = (zs.map (Value.int .u8))[i]? := by rw[ht]
   rw[List.getElem?_take,if_pos (by omega)] at h2
   rw[h2];simp[List.getD,hl,hi]
  simpa using this
theorem zk9 {w:World} {b:Nat} (vs:List Value) (o i:Nat) (hs:∀ j,j<vs.length→(w.cell? ⟨b,o+j,none⟩).isSome=true):(w.setCells b o vs).cell? ⟨b,i,none⟩=if o≤i∧i<o+vs.length then vs[i - o]? else w.cell? ⟨b,i,none⟩:=by
 split
 ·rename_i h
  have hj:i - o<vs.length:=by omega
  have:=World.cell?_setCells_in b vs o w hs (i - o) hj
  rw[show o+(i - o)=i by omega] at this
  rw[this,List.getElem?_eq_getElem hj]
 ·rename_i h
  exact World.cell?_setCells_out b vs o w ⟨b,i,none⟩ (fun _ _=>by show i<o∨o+vs.length≤i;omega)
theorem zeW {P:Program} {t e:TypeId} {i0:TypeInfo} {z:Value} (ty:TypeId) (ht:P.underlying t=some (.slice e)) (hi:P.info? e=some i0) (hz:i0.zero=some z) (hsize:i0.size=1) (hby:i0.bytes=1) (hzs:z.cells.size=1)
  {w:World} {base g n cap:Nat} {zs:List Int} (h:Bsl w base g n cap zs) {a:Option Addr} {m c:Nat} {ns:List Int} (hr:Row .u8 w a m c ns) (hn:n+m≤4294967296) (hb:base≤w.heap.size) :
  ∃ g' cap' w',(Builtin.append_ #[t,t] ty #[.slice (some ⟨g,0,none⟩) n cap,.slice a m c]).run P w = .ok (.slice (some ⟨g',0,none⟩) (n+m) cap') w'∧Bsl w' base g' (n+m) cap' (zs ++ ns)∧Below base w w':=by
 have hnc:=h.nc
 cases a with
 | none =>
  have hc:=hr.nil rfl;have hm:m=0:=by have:=hr.le;omega
  have hns:ns=[]:=List.eq_nil_of_length_eq_zero (by rw[hr.len];exact hm)
  subst hm hns;refine⟨g,cap,w,?_,by simpa using h,Below.refl _ _⟩
  simp[Builtin.append_,run_underlying ht,sizeOf,typeInfo,hi,Builtin.lenOf,hnc,Builtin.firstCells,storeCells]
 | some ad =>
  have hl:(ns.map (Value.int .u8)).length=m * i0.size:=by rw[hsize];simp[hr.len]
  have hnews:=hr.cells ad rfl
  have h1:∀ u ∈ ns.map (Value.int .u8),u.oneCell'=true:=fun u hu=>by
   obtain⟨x,_,rfl⟩:=List.mem_map.1 hu;rfl
  by_cases hroom:n+m≤cap
  ·have hf:=run_firstCells_some (P:=P) w i0.size m ad m c _ hl hnews
   have hst:=run_storeCells_cells (P:=P) g n (ns.map (Value.int .u8)) 0 w (fun j hj=>by have:=(h.there (n+j) (by simp[hr.len] at hj;omega)).1;simpa using this) (fun j hj=>by have:=(h.there (n+j) (by simp[hr.len] at hj;omega)).2;simpa using this) h1
   simp only[Nat.add_zero] at hst;refine⟨g,cap,w.setCells g n (ns.map (Value.int .u8)),?_,?_,?_⟩
   ·rw[hsize] at hf
    simp[Builtin.append_,run_underlying ht,sizeOf,typeInfo,hi,Builtin.lenOf,hroom,hsize,hf,Addr.add_mid,hst]
   ·have hcs:=fun i=>zk9 (w:=w) (b:=g) (ns.map (Value.int .u8)) n i (fun j hj=>by have:=(h.there (n+j) (by simp[hr.len] at hj;omega)).1;simpa using this)
    have hlm:(ns.map (Value.int .u8)).length=m:=by simp[hr.len]
    refine⟨by simp[h.len,hr.len],hroom,h.cm,h.bs,by rw[dt.zaa];exact h.lt,fun j hj=>⟨?_,?_⟩,fun i hi=>?_⟩
    ·rw[Nat.zero_add,hcs j]
     split
     ·rename_i hq
      rw[hlm] at hq;rw[List.getElem?_eq_getElem (by omega)]
      rfl
     ·have:=(h.there j hj).1;simpa using this
    ·have:=(h.there j hj).2
     rw[World.frozen?_setCells]
     exact this
    ·rw[hcs i,hlm]
     by_cases hq:n≤i∧i<n+m
     ·rw[if_pos hq,List.getElem?_map,List.getElem?_eq_getElem (by rw[hr.len];omega)]
      simp[List.getD,List.getElem?_append_right (show zs.length≤i by rw[h.len];omega),h.len,hr.len,show i - n<m by omega]
     ·rw[if_neg hq,h.cells i (by omega)]
      simp[List.getD,List.getElem?_append_left (show i<zs.length by rw[h.len];omega)]
   ·exact dt.zan g _ n w (Below.refl _ _) h.bs
  ·have holds:∀ j u,(zs.map (Value.int .u8))[j]? = some u→w.cell? ((⟨g,0,none⟩:Addr).add j)=some u:=fun j u hu=>h.row.cells ⟨g,0,none⟩ rfl j u hu
   have hr2:=run_append_grow (P:=P) w t ty e i0 z ht hi hz ⟨g,0,none⟩ n cap (zs.map (Value.int .u8)) (by rw[hsize];simp[h.len]) holds ad m c _ hl hnews (by omega) (by omega) (growslice_fits (by omega) (by rw[hby];omega))
   have hge:=grownCap_ge w (n+m) cap e;have hcm:grownCap w (n+m) cap e≤maxLen:=grownCap_le_maxLen w (n+m) cap e (by unfold maxLen;omega)
   refine⟨_,_,_,hr2,?_,(Below.refl _ _).drew.alloc hb _⟩
   have hnew:=heap_alloc_new w.drew (.cells ((zs.map (Value.int .u8)).toArray ++ (ns.map (Value.int .u8)).toArray ++ Builtin.zeroCells z.cells (grownCap w (n+m) cap e - (n+m))) e);refine⟨by simp[h.len,hr.len],hge,hcm,hb,by simp,dt.zab hnew (by simp[size_zeroCells,hzs,h.len,hr.len];omega),fun i hi=>?_⟩
   refine (zG hnew i).trans ?_
   have e1:((zs.map (Value.int .u8)).toArray ++ (ns.map (Value.int .u8)).toArray).size=n+m:=by simp[h.len,hr.len]
   rw[Array.getElem?_append_left (by rw[e1];exact hi)]
   have e2:((zs.map (Value.int .u8)).toArray ++ (ns.map (Value.int .u8)).toArray)[i]? = ((zs ++ ns).map (Value.int .u8))[i]? := by simp
   have hlt:i<(zs ++ ns).length:=by simp[h.len,hr.len];exact hi
   rw[e2,List.getElem?_map,List.getD_eq_getElem?_getD,List.getElem?_eq_getElem hlt]
   rfl
open dt (Dt Kp RowAt Ow Grow OwIn)
open mem (Row belowNone)
set_option maxHeartbeats 800000 in
set_option maxRecDepth 4000 in
theorem zd7 (a:Option Addr) (n c:Nat) (zs:List Int) (w:World) (h:Row .u8 w a n c zs) (hn:n≤281474976710656) :
  Calls Tryz.prog 10 #[.slice a n c] w fun e w'=>e = .returned (.slice (some ⟨w.heap.size,0,none⟩) n n)∧Bsl w' w.heap.size w.heap.size n n zs∧Below w.heap.size w w':=by
 obtain⟨i0,hi,hz0,hz1,hz2⟩:=info_parts mem.info8
 go_enter Tryz.func10,Tryz.ntmps10
 have hl:(zs.map (Value.int .u8)).length=n * 1:=by simp[h.len]
 have h00:=h.nil;have hle:=h.le
 go_wp2_with (first
  | (refine wpList_make_own _ rfl _ _ 22 rfl w.heap.size 5 i0 (.int .u8 0) 1 Tryz.underlying22 hi hz0 hz1 .i64 .i64 _ n rfl rfl rfl (by rw[hz2];omega) (by unfold maxLen;omega) (lr _) ?_;intro w1 hown hgrow)
  | (at_builtin;refine wpList_append_fits_any _ rfl (.tmp 7) (.tmp 8) 22 rfl w.heap.size 5 i0 1 Tryz.underlying22 hi hz1 w.heap.size 0 n [] rfl hown a n c (zs.map (Value.int .u8)) rfl hl (fun e=>⟨by have:=h00 e;omega,h00 e⟩) (h.below (belowNone hgrow)).cells (ints_oneCell _ _) (by omega) ?_;intro w2 hown2 hgrow2))
 go_ret
 simp only[Nat.zero_add,List.nil_append] at hown2 ⊢;exact⟨rfl,Bsl.own hown2,(belowNone hgrow).grown hgrow2 hgrow.size (fun k hk=>by obtain rfl:=Option.some.inj hk;exact lr _)⟩

def ssrc1:ByteArray:=⟨#[34,100,34,32,116,121,112,101,32,116,121,112,101,123,116,121,112,101,58,116,121,112,101,125]⟩
def ssrc2:ByteArray:=⟨#[101,120,116,101,110,100,32,116,121,112,101,32,84,32,116,121,112,101,32,85]⟩
def ns:ByteArray:=⟨#[100]⟩
def sy1:Sy:=⟨3,false,(true,false,ns),bType,[],[],[fdD (false,false,em) (bType,1,15) [] bType em []],[],[],[],[],false,[],1,10⟩
theorem sdoc1:(sdocG (mem.bytesZ ssrc1) 9).1=some [sy1.d]:=by kernel_rfl
theorem sdoc1k:(sdocG (mem.bytesZ ssrc1) 9).2.kd=0:=by kernel_rfl
theorem sdoc2:(sdocG (mem.bytesZ ssrc2) 9).1=none:=by kernel_rfl
theorem sdoc2k:(sdocG (mem.bytesZ ssrc2) 9).2.kd=70∧(sdocG (mem.bytesZ ssrc2) 9).2.tok.ln=1∧(sdocG (mem.bytesZ ssrc2) 9).2.tok.co=15:=by refine⟨?_,?_,?_⟩ <;> kernel_rfl
theorem zba {w:World} {v:Value} {r:Dt} {cs:List Value} {F:List Nat} (h:Ow w (.val v r) cs F):∃ ds,cs=v :: ds∧Ow w r ds F:=by
 unfold Ow at h;obtain⟨ds,h1,_,h2⟩:=h;exact⟨ds,h1,h2⟩
theorem zn5 {w:World} {k:Nat} {e r:Dt} {cs:List Value} {F:List Nat} (h:Ow w (.lst k (Dt.of [e]) r) cs F):∃ p c ds cs' G F2,cs = .slice (some ⟨p,0,none⟩) 1 c :: ds∧RowAt w p 0 cs'∧Ow w e cs' G∧Ow w r ds F2:=by
 unfold Ow at h;obtain⟨a,n,c,ds,F1,F2,rfl,_,_,_,h4,h5,rfl⟩:=h
 rcases h4 with ⟨_,h4,_⟩ | ⟨p,G,rfl,rfl,h4⟩
 ·exact absurd h4 (by unfold Dt.of;intro e;cases e)
 ·unfold Dt.of OwIn at h4
  obtain⟨m,cs',G1,G2,rfl,h6,_,h7,h8,rfl⟩:=h4;unfold Dt.of OwIn at h8;obtain⟨rfl,_⟩:=h8;exact⟨p,c,ds,cs',G1,F2,rfl,h6,h7,h5⟩
theorem zcu {w:World} {k:Nat} {r:Dt} {cs:List Value} {F:List Nat} (h:Ow w (.lst k (Dt.of []) r) cs F):∃ a c ds F2,cs = .slice a 0 c :: ds∧Ow w r ds F2:=by
 unfold Ow at h;obtain⟨a,n,c,ds,F1,F2,rfl,_,_,_,h4,h5,rfl⟩:=h
 rcases h4 with ⟨_,_,rfl,_⟩ | ⟨p,G,rfl,rfl,h4⟩
 ·exact⟨a,c,ds,F2,rfl,h5⟩
 ·unfold Dt.of OwIn at h4
  obtain⟨rfl,_⟩:=h4;exact⟨_,c,ds,F2,rfl,h5⟩
theorem zof {w:World} {k:Nat} {d:Dt} {lo hi:Nat} {a:Option Addr} {n c:Nat} {F:List Nat} (h:Sh w k [d] lo hi a n c F):∃ p cs G,a=some ⟨p,0,none⟩∧n=1∧RowAt w p 0 cs∧Ow w d cs G:=by
 rcases h.at_ with ⟨_,h4,_⟩ | ⟨p,G,rfl,rfl,h4⟩
 ·exact absurd h4 (by unfold Dt.of;intro e;cases e)
 ·unfold Dt.of OwIn at h4
  obtain⟨m,cs',G1,G2,h5,h6,_,h7,h8,rfl⟩:=h4;exact⟨p,cs',G1,rfl,h.len,h6,h7⟩
theorem zkD {w:World} {lo hi:Nat} {a:Option Addr} {n c:Nat} {F:List Nat} (h:Sh w 17 [sy1.d] lo hi a n c F):∃ p pf cf,a=some ⟨p,0,none⟩∧n=1∧p<w.heap.size∧pf<w.heap.size∧w.cell? ⟨p,0,none⟩=some (.int .i64 3)∧w.cell? ⟨p,2,none⟩=some (.bool true)∧w.cell? ⟨p,4,none⟩=some (.string ns)∧w.cell? ⟨p,5,none⟩=some (.string bType)∧w.cell? ⟨p,8,none⟩=some (.slice (some ⟨pf,0,none⟩) 1 cf)∧w.cell? ⟨p,15,none⟩=some (.int .i64 1)∧w.cell? ⟨p,16,none⟩=some (.int .i64 10)∧w.cell? ⟨pf,5,none⟩=some (.string bType):=by
 obtain⟨p,cs,G1,rfl,rfl,hr,how⟩:=zof h;unfold sy1 Sy.d ntD at how;obtain⟨d1,rfl,w1⟩:=zba how;obtain⟨d2,rfl,w2⟩:=zba w1;obtain⟨d3,rfl,w3⟩:=zba w2;obtain⟨d4,rfl,w4⟩:=zba w3;obtain⟨d5,rfl,w5⟩:=zba w4;obtain⟨d6,rfl,w6⟩:=zba w5;obtain⟨a1,c1,d7,F1,rfl,w7⟩:=zcu w6;obtain⟨a2,c2,d8,F2,rfl,w8⟩:=zcu w7;obtain⟨pf,cf,d9,csf,Gf,Ff,rfl,hrf,hof,w9⟩:=zn5 w8
 obtain⟨a4,c4,d10,F4,rfl,w10⟩:=zcu w9;obtain⟨a5,c5,d11,F5,rfl,w11⟩:=zcu w10;obtain⟨a6,c6,d12,F6,rfl,w12⟩:=zcu w11;obtain⟨a7,c7,d13,F7,rfl,w13⟩:=zcu w12;obtain⟨d14,rfl,w14⟩:=zba w13;obtain⟨a8,c8,d15,F8,rfl,w15⟩:=zcu w14;obtain⟨d16,rfl,w16⟩:=zba w15;obtain⟨d17,rfl,w17⟩:=zba w16;unfold fdD ntD at hof;obtain⟨f1,rfl,y1⟩:=zba hof;obtain⟨f2,rfl,y2⟩:=zba y1
 obtain⟨f3,rfl,y3⟩:=zba y2;obtain⟨f4,rfl,y4⟩:=zba y3;obtain⟨b5,e5,f5,G5,rfl,y5⟩:=zcu y4;obtain⟨f6,rfl,y6⟩:=zba y5;have e0:=hr 0 _ rfl;have e2:=hr 2 _ rfl;have e4:=hr 4 _ rfl;have e5':=hr 5 _ rfl;have e8:=hr 8 _ rfl;have e15:=hr 15 _ rfl;have e16:=hr 16 _ rfl;have g5:=hrf 5 _ rfl;simp only[Nat.zero_add] at e0 e2 e4 e5' e8 e15 e16 g5;exact⟨p,pf,cf,rfl,rfl,World.block_lt_of_cell? w _ e0,World.block_lt_of_cell? w _ g5,e0,e2,e4,e5',e8,e15,e16,g5⟩
theorem zfR (W:World) (zs:List Int) (t:TypeId) (fr:Nat × Nat):Row .u8 (W.alloc (.cells (zs.map (Value.int .u8)).toArray t fr)) (some ⟨W.heap.size,0,none⟩) zs.length zs.length zs:=by
 refine⟨rfl,lr _,(fun e=>by cases e),.inr ⟨W.heap.size,0,rfl,by simp,fun i hi=>?_⟩⟩
 have e:(W.alloc (.cells (zs.map (Value.int .u8)).toArray t fr)).cell? ⟨W.heap.size,0+i,none⟩=(zs.map (Value.int .u8)).toArray[0+i]? := World.cell?_alloc_mark _ _ _ _ _
 rw[e];simp[List.getD,hi]
theorem zi1 (W:World) (N:Nat) (hN:N=W.heap.size):Calls Tryz.prog 9 #[.slice (some ⟨N,0,none⟩) 24 24,.int .i64 9] (W.alloc (.cells #[Value.int .u8 34,Value.int .u8 100,Value.int .u8 34,Value.int .u8 32,Value.int .u8 116,Value.int .u8 121,Value.int .u8 112,Value.int .u8 101,Value.int .u8 32,Value.int .u8 116,Value.int .u8 121,Value.int .u8 112,Value.int .u8 101,Value.int .u8 123,Value.int .u8 116,Value.int .u8 121,Value.int .u8 112,Value.int .u8 101,Value.int .u8 58,Value.int .u8 116,Value.int .u8 121,Value.int .u8 112,Value.int .u8 101,Value.int .u8 125] 5 (24,25))) fun e w'=>∃ p pf cf c,e = .returned (.tuple #[.slice (some ⟨p,0,none⟩) 1 c,.agg #[.int .i64 0,.slice none 0 0,.slice none 0 0]])∧p<w'.heap.size∧pf<w'.heap.size∧w'.cell? ⟨p,0,none⟩=some (.int .i64 3)∧w'.cell? ⟨p,2,none⟩=some (.bool true)∧w'.cell? ⟨p,4,none⟩=some (.string ns)∧w'.cell? ⟨p,5,none⟩=some (.string bType)∧w'.cell? ⟨p,8,none⟩=some (.slice (some ⟨pf,0,none⟩) 1 cf)∧w'.cell? ⟨p,15,none⟩=some (.int .i64 1)∧w'.cell? ⟨p,16,none⟩=some (.int .i64 10)∧w'.cell? ⟨pf,5,none⟩=some (.string bType)∧Below W.heap.size W w':=by
 subst hN;have hb:Below W.heap.size W (W.alloc (.cells #[Value.int .u8 34,Value.int .u8 100,Value.int .u8 34,Value.int .u8 32,Value.int .u8 116,Value.int .u8 121,Value.int .u8 112,Value.int .u8 101,Value.int .u8 32,Value.int .u8 116,Value.int .u8 121,Value.int .u8 112,Value.int .u8 101,Value.int .u8 123,Value.int .u8 116,Value.int .u8 121,Value.int .u8 112,Value.int .u8 101,Value.int .u8 58,Value.int .u8 116,Value.int .u8 121,Value.int .u8 112,Value.int .u8 101,Value.int .u8 125] 5 (24,25))):=ba
 refine (zfL (some ⟨W.heap.size,0,none⟩) 24 24 (mem.bytesZ ssrc1) 9 _ (zfR W (mem.bytesZ ssrc1) 5 (24,25)) (by decide) (mem.zbb _) (by rfl)).mono ?_
 rintro e w2 ⟨r,C,a',n',c',F,fs,hq,rfl,hsh,hfl,b2⟩;have h1:(sdocG (mem.bytesZ ssrc1) 9).1=r:=congrArg Prod.fst hq;have h2:(sdocG (mem.bytesZ ssrc1) 9).2=C:=congrArg Prod.snd hq;rw[sdoc1] at h1;subst h1;have hk:=sdoc1k;rw[h2] at hk;unfold FltAt at hfl;rw[if_pos hk] at hfl;subst hfl;obtain⟨p,pf,cf,rfl,rfl,l1,l2,q0,q2,q4,q5,q8,q15,q16,g5⟩:=zkD hsh;exact⟨p,pf,cf,c',rfl,l1,l2,q0,q2,q4,q5,q8,q15,q16,g5,hb.trans (b2.mono hb.size)⟩
theorem zi2 (W:World) (N:Nat) (hN:N=W.heap.size):Calls Tryz.prog 9 #[.slice (some ⟨N,0,none⟩) 20 20,.int .i64 9] (W.alloc (.cells #[Value.int .u8 101,Value.int .u8 120,Value.int .u8 116,Value.int .u8 101,Value.int .u8 110,Value.int .u8 100,Value.int .u8 32,Value.int .u8 116,Value.int .u8 121,Value.int .u8 112,Value.int .u8 101,Value.int .u8 32,Value.int .u8 84,Value.int .u8 32,Value.int .u8 116,Value.int .u8 121,Value.int .u8 112,Value.int .u8 101,Value.int .u8 32,Value.int .u8 85] 5 (20,21))) fun e w'=>∃ b a c,e = .returned (.tuple #[.slice a 0 c,.agg #[.int .i64 70,.slice (some ⟨b,0,none⟩) 1 1,.slice none 0 0]])∧W.heap.size≤b∧b<w'.heap.size∧w'.cell? ⟨b,0,none⟩=some (.int .i64 1)∧w'.cell? ⟨b,1,none⟩=some (.int .i64 15)∧Below W.heap.size W w':=by
 subst hN;have hb:Below W.heap.size W (W.alloc (.cells #[Value.int .u8 101,Value.int .u8 120,Value.int .u8 116,Value.int .u8 101,Value.int .u8 110,Value.int .u8 100,Value.int .u8 32,Value.int .u8 116,Value.int .u8 121,Value.int .u8 112,Value.int .u8 101,Value.int .u8 32,Value.int .u8 84,Value.int .u8 32,Value.int .u8 116,Value.int .u8 121,Value.int .u8 112,Value.int .u8 101,Value.int .u8 32,Value.int .u8 85] 5 (20,21))):=ba
 refine (zfL (some ⟨W.heap.size,0,none⟩) 20 20 (mem.bytesZ ssrc2) 9 _ (zfR W (mem.bytesZ ssrc2) 5 (20,21)) (by decide) (mem.zbb _) (by rfl)).mono ?_
 rintro e w2 ⟨r,C,a',n',c',F,fs,hq,rfl,hsh,hfl,b2⟩;have h1:(sdocG (mem.bytesZ ssrc2) 9).1=r:=congrArg Prod.fst hq;have h2:(sdocG (mem.bytesZ ssrc2) 9).2=C:=congrArg Prod.snd hq;rw[sdoc2] at h1;subst h1;obtain⟨e1,e2,e3⟩:=sdoc2k;rw[h2] at e1 e2 e3;unfold FltAt at hfl;rw[if_neg (by rw[e1];decide),e1,e2,e3] at hfl
 obtain⟨b,h3,h4,rfl,h5,h6⟩:=hfl;have hl:=hsh.len;simp at hl;subst hl;exact⟨b,a',c',rfl,Nat.le_trans hb.size h3,h4,h5,h6,hb.trans (b2.mono hb.size)⟩
set_option maxHeartbeats 4000000 in
set_option maxRecDepth 10000 in
theorem ziy (w:World):Calls Tryz.prog 8 #[] w fun e w'=>e = .returned (.bool true)∧Below w.heap.size w w':=by
 have kc:=fun (w:World) (C:Array Value) (n c:Nat)=>Lib.run_convert_bytes_const (P:=Tryz.prog) w 22 5 C n c Tryz.underlying22 Tryz.underlying5
 go_enter Tryz.func8,Tryz.ntmps8
 go_wp2_with fail
 refine (zi1 w w.heap.size rfl).mono ?_
 rintro e w2 ⟨p,pf,cf,c,rfl,l1,l2,q0,q2,q4,q5,q8,q15,q16,g5,bw2⟩;obtain⟨X,hX⟩:∃ X,X=w2.alloc (.cells #[.int .i64 0,.slice none 0 0,.slice none 0 0] 29):=⟨_,rfl⟩;have bX:Below w2.heap.size w2 X:=by rw[hX];exact ba
 have hat:X.heap[w2.heap.size]? = some (.cells #[.int .i64 0,.slice none 0 0,.slice none 0 0] 29 (0,0)):=by rw[hX];exact heap_alloc_new _ _
 have zX:w2.heap.size+1=X.heap.size:=by rw[hX];simp
 have bw2s:=bw2.size;have BW:=bw2.trans (bX.mono bw2.size);have T:=fun o (b i:Nat) (v:Value) (hb:b<w2.heap.size) (h:w2.cell? ⟨b,i,none⟩=some v)=>(((Below.refl w2.heap.size w2).alloc (lr _) o).cell (p:=⟨b,i,none⟩) hb).trans h
 have r0:=fun o=>T o _ _ _ l1 q0
 have r2:=fun o=>T o _ _ _ l1 q2
 have r4:=fun o=>T o _ _ _ l1 q4
 have r5:=fun o=>T o _ _ _ l1 q5
 have r8:=fun o=>T o _ _ _ l1 q8
 have r15:=fun o=>T o _ _ _ l1 q15
 have r16:=fun o=>T o _ _ _ l1 q16
 have rg:=fun o=>T o _ _ _ l2 g5
 unfold ns at r4;unfold bType at r5 rg;have HX:=Hi (an hX (an bX (an hat (an zX BW))));have kc1:=fun (o:Obj) (C:Array Value) (n c:Nat)=>by simpa using kc (w2.alloc o) C n c
 clear T q0 q2 q4 q5 q8 q15 q16 g5 bw2 hX bX hat zX BW
 go_wp2_with fail
 obtain⟨hX,bX,hat,zX,BW⟩:=uh HX;rw[← hX];refine (zi2 X _ zX).mono ?_
 rintro e w4 ⟨b,a5,c5,rfl,lb0,lb,c0,c1,b4⟩;have hF:=(b4.block w2.heap.size (by omega)).trans hat
 have HT2:=Hi (show w4.there w2.heap.size 0 3 from dt.zab hF (by decide))
 obtain⟨W7,e7⟩:∃ W7,W7=w4.setCells w2.heap.size 0 (#[.int .i64 70,.slice (some ⟨b,0,none⟩) 1 1,.slice none 0 0]:Array Value).toList:=⟨_,rfl⟩;have hF7:W7.heap[w2.heap.size]? = some (.cells #[.int .i64 70,.slice (some ⟨b,0,none⟩) 1 1,.slice none 0 0] 29 (0,0)):=by rw[e7];exact (dt.zaD [.int .i64 70,.slice (some ⟨b,0,none⟩) 1 1,.slice none 0 0] 0 w4 _ hF).trans (by kernel_rfl)
 have hb7:W7.heap[b]? = w4.heap[b]? := by rw[e7];exact dt.zai w2.heap.size b (by omega) _ 0 w4
 have C0:=(dt.zat hb7 0).trans c0;have C1:=(dt.zat hb7 1).trans c1
 have BW7:Below w.heap.size w W7:=by
  rw[e7];have h0:=BW.trans (b4.mono BW.size);exact dt.zan _ _ _ _ h0 (by omega)
 have f0:W7.cell? ⟨w2.heap.size,0,none⟩=some (.int .i64 70):=(zG hF7 0).trans rfl;have f1:W7.cell? ⟨w2.heap.size,1,none⟩=some (.slice (some ⟨b,0,none⟩) 1 1):=(zG hF7 1).trans rfl;have E7:=Hi e7;have HB:=Hi BW7;clear hF hF7 hb7 BW7 e7 c0 c1 b4 hat bX BW HX hX zX kc kc1 r0 r2 r4 r5 r8 r15 r16 rg lb lb0 bw2s
 go_wp2_with (first
  | (refine wpList_store_mid (by rfl) 29 _ _ (by rfl) w2.heap.size 0 #[.int .i64 70,.slice (some ⟨b,0,none⟩) 1 1,.slice none 0 0] (by rfl) (by rfl) (uh HT2) infoFl (dt.zae (cs:=[.int .i64 70,.slice (some ⟨b,0,none⟩) 1 1,.slice none 0 0]) (by rfl)) ?_;rw[← uh E7]))
 go_ret
 exact⟨rfl,uh HB⟩
open dt (Dt Kp RowAt Ow Grow)
def dlt (t:Tk):Int:=if t.k=2 then (if t.tx=bLp∨t.tx=bLb∨t.tx=bLc then 1 else if t.tx=bRp∨t.tx=bRb∨t.tx=bRc then -1 else 0) else 0
def dpt (ts:List Tk):Nat→Int
 | 0=>0
 | i+1=>dpt ts i+dlt (ts.getD i Tk.zero)
theorem zcq (c:Cu):dpt c.ts (c.ix+1)=dpt c.ts c.ix+dlt c.tok:=rfl
def pk (p:ByteArray):Tk:=⟨2,0,0,0,0,p,em⟩
theorem zpw {t:Tk} {p:ByteArray} (hk:t.k=2) (hp:t.tx=p):dlt t=dlt (pk p):=by unfold dlt pk;rw[hk,hp]
theorem znH {t:Tk} (hk:t.k ≠ 2):dlt t=0:=if_neg hk
theorem zcp {c:Cu} {p:ByteArray} (h:c.isP p=true):dlt c.tok=dlt (pk p):=zpw (zep h).2.1 (zep h).2.2
theorem zjC {c:Cu} (h:c.isN=true):dlt c.tok=0:=znH (by rw[(zg5 h).2];decide)
def Low (M:Nat) (ts:List Tk) (i:Nat):Prop:=∀ j,j<i→dpt ts (j+1)≤(M:Int)
theorem Low.top {M:Nat} {ts:List Tk} {i:Nat} (h:Low M ts i):dpt ts i≤(M:Int):=by
 cases i with
 | zero=>exact Int.natCast_nonneg M
 | succ i=>exact h i (Nat.lt_succ_self _)
theorem Low.succ {M:Nat} {ts:List Tk} {i:Nat} (h:Low M ts i) (h1:dpt ts (i+1)≤(M:Int)):Low M ts (i+1):=by
 intro j hj
 rcases Nat.lt_or_ge j i with g | g
 ·exact h j g
 ·obtain rfl:j=i:=by omega
  exact h1
def Cu.at (c:Cu) (M:Nat):Cu:=⟨c.ts,c.ix,c.op,M,c.kd⟩
def Inv (c:Cu):Prop:=(c.op:Int)=dpt c.ts c.ix
def Dd (M:Nat) (c:Cu) (e:Nat) (u:Cu):Prop:=∃ j o,c.ix≤j∧j<e∧Low M c.ts j∧(M:Int)<dpt c.ts (j+1)∧u=⟨c.ts,j,o,M,71⟩
theorem Dd.dead {M:Nat} {c:Cu} {e:Nat} {u:Cu} (h:Dd M c e u):u.kd ≠ 0:=by
 obtain⟨j,o,_,_,_,_,rfl⟩:=h
 show (71:Int) ≠ 0
 decide
theorem Dd.to {M:Nat} {c:Cu} {e e':Nat} {u:Cu} (h:Dd M c e u) (he:e≤e'):Dd M c e' u:=by
 obtain⟨j,o,h1,h2,h3,h4,h5⟩:=h;exact⟨j,o,h1,by omega,h3,h4,h5⟩
theorem Dd.of {M:Nat} {a c:Cu} {e:Nat} {u:Cu} (s:Stp a c) (h:Dd M c e u):Dd M a e u:=by
 obtain⟨j,o,h1,h2,h3,h4,h5⟩:=h;rw[s.ts] at h3 h4 h5;exact⟨j,o,Nat.le_trans s.ix h1,h2,h3,h4,h5⟩
def Sti {A:Type} (E:Cu→A × Cu):Prop:=∀ c,c.kd ≠ 0→(E c).2=c
def Bal {A:Type} (E:Cu→A × Cu) (b:Nat):Prop:=∀ c,c.Ok→c.ts.length≤b+c.ix→Inv c→c.kd=0→(E c).2.kd=0→(E c).2.op=c.op∧Inv (E c).2
def Dep {A:Type} (M:Nat) (E:Cu→A × Cu) (b:Nat):Prop:=∀ c,c.Ok→c.ts.length≤b+c.ix→Inv c→c.kd=0→(E c).2.kd=0→Low M c.ts c.ix→(Low M c.ts (E c).2.ix∧E (c.at M)=((E c).1,(E c).2.at M))∨Dd M c (E c).2.ix (E (c.at M)).2
structure Ok3 {A:Type} (M:Nat) (E:Cu→A × Cu) (b:Nat):Prop where
 st:St E
 sti:Sti E
 bal:Bal E b
 dep:Dep M E b
section
variable {M b:Nat}
theorem Ok3.bnd {A X:Type} {E:Cu→A × Cu} {F:A→Cu→X × Cu} (h:Ok3 M E b) (k:∀ a,Ok3 M (F a) b):Ok3 M (bnd E F) b:=by
 have live:∀ c,(F (E c).1 (E c).2).2.kd=0→(E c).2.kd=0:=fun c hk=>Classical.byContradiction fun x=>by rw[(k _).sti _ x] at hk;exact x hk
 refine⟨h.st.bnd fun a=>(k a).st,fun c hc=>?_,fun c hc hb hi h0 hk=>?_,fun c hc hb hi h0 hk hl=>?_⟩
 ·show (F (E c).1 (E c).2).2=c
  rw[h.sti c hc,(k _).sti c hc]
 ·have k0:=live c hk
  have s1:=h.st c hc;obtain⟨o1,i1⟩:=h.bal c hc hb hi h0 k0;obtain⟨o2,i2⟩:=(k (E c).1).bal (E c).2 s1.ok (by rw[s1.ts];have:=s1.ix;omega) i1 k0 hk
  exact⟨o2.trans o1,i2⟩
 ·have k0:=live c hk
  have s1:=h.st c hc;have s2:=(k (E c).1).st _ s1.ok;obtain⟨o1,i1⟩:=h.bal c hc hb hi h0 k0
  show (Low M c.ts (F (E c).1 (E c).2).2.ix∧F (E (c.at M)).1 (E (c.at M)).2=((F (E c).1 (E c).2).1,(F (E c).1 (E c).2).2.at M))∨Dd M c (F (E c).1 (E c).2).2.ix (F (E (c.at M)).1 (E (c.at M)).2).2
  rcases h.dep c hc hb hi h0 k0 hl with ⟨l1,e1⟩ | d1
  ·rw[e1]
   rcases (k (E c).1).dep (E c).2 s1.ok (by rw[s1.ts];have:=s1.ix;omega) i1 k0 hk (by rw[s1.ts];exact l1) with ⟨l2,e2⟩ | d2
   ·rw[s1.ts] at l2
    exact .inl ⟨l2,e2⟩
   ·exact .inr (d2.of s1)
  ·right
   rw[(k _).sti _ d1.dead];exact d1.to s2.ix
theorem Ok3.mono {A:Type} {E:Cu→A × Cu} {d:Nat} (h:Ok3 M E b) (hd:d≤b):Ok3 M E d:=⟨h.st,h.sti,fun c hc hb=>h.bal c hc (by omega),fun c hc hb=>h.dep c hc (by omega)⟩
theorem prim3 {A:Type} {E:Cu→A × Cu} (st:St E) (sti:Sti E) (h1:∀ c,c.kd=0→(E c).2.kd=0→(E c).2=c∨((E c).2=c.take∧dlt c.tok=0)) (h2:∀ c,E (Cu.at c M)=((E c).1,(E c).2.at M)):Ok3 M E b:=by
 refine⟨st,sti,fun c hc hb hi h0 hk=>?_,fun c hc hb hi h0 hk hl=>.inl ⟨?_,h2 c⟩⟩
 ·rcases h1 c h0 hk with e | ⟨e,hd⟩
  ·rw[e];exact⟨rfl,hi⟩
  ·rw[e]
   refine⟨rfl,?_⟩
   show (c.op:Int)=dpt c.ts (c.ix+1)
   rw[zcq,hd,Int.add_zero];exact hi
 ·rcases h1 c h0 hk with e | ⟨e,hd⟩
  ·rw[e];exact hl
  ·rw[e]
   refine hl.succ ?_
   rw[zcq,hd,Int.add_zero];exact hl.top
theorem id3 {A:Type} (f:Cu→A) (hf:∀ c,f (Cu.at c M)=f c):Ok3 M (fun c=>(f c,c)) b:=prim3 (fun c h=>Stp.refl h) (fun c h=>rfl) (fun c h0 hk=>.inl rfl) (fun c=>by rw[hf c])
theorem zaM {A:Type} (a:A):Ok3 M (ret a) b:=id3 _ fun c=>rfl
theorem zgO:Ok3 M tokR b:=id3 _ fun c=>rfl
theorem zdJ (p:ByteArray):Ok3 M (isPR p) b:=id3 _ fun c=>rfl
theorem zdQ:Ok3 M aliveR b:=id3 _ fun c=>rfl
theorem zho (c:Cu) (k:Int):(c.at M).stop k=(c.stop k).at M:=by
 show (if c.kd=0 then _ else c.at M)=_
 unfold Cu.stop
 split <;> rfl
theorem zfW {c:Cu} {k:Int} (hk:k ≠ 0) (h:(c.stop k).kd=0):False:=zbq c k hk h
theorem zgu (c:Cu) (so:Bool):(c.at M).nmC so=(c.nmC so).at M:=by
 cases so
 ·exact zho c 70
 ·rfl
theorem zkb {c:Cu} {so:Bool} (hs:so=true→c.isN=true) (hk:(c.nmC so).kd=0):c.nmC so=c∨(c.nmC so=c.take∧dlt c.tok=0):=by
 cases so
 ·exact (zfW (by decide) hk).elim
 ·exact .inr ⟨rfl,zjC (hs rfl)⟩
theorem zhc {c:Cu} {so:Bool} (h:c.kd ≠ 0) (hs:so=true→c.isN=true):c.nmC so=c:=by
 cases so
 ·exact zaA _ _ h
 ·have:=hs rfl;rw[zcH h] at this;cases this
theorem nR_3:Ok3 M nR b:=prim3 zdP (fun c h=>zbX h) (fun c h0 hk=>zkb (fun e=>e) hk) (fun c=>by
 show ((c.isN,c.tok.tx),(c.at M).nmC c.isN)=((c.isN,c.tok.tx),(c.nmC c.isN).at M)
 rw[zgu])
theorem zqz (ws:List ByteArray):Ok3 M (wwR ws) b:=prim3 (zbB ws) (fun c h=>zhc h (fun e=>zeq e)) (fun c h0 hk=>zkb (fun e=>zeq e) hk) (fun c=>by
 show (c.isW ws,(c.at M).nmC _)=(c.isW ws,(c.nmC _).at M)
 rw[zgu];rfl)
theorem zeO (q:ByteArray):Ok3 M (wordR q) b:=prim3 (zaw q) (fun c h=>by
 show c.word q=c
 unfold Cu.word Cu.isW;rw[zcH h];rfl) (fun c h0 hk=>by
 show c.word q=c∨(c.word q=c.take∧dlt c.tok=0)
 unfold Cu.word
 split
 ·exact .inr ⟨rfl,zjC (zeq ‹_›)⟩
 ·exact .inl rfl) (fun c=>by
 show (c.isW [q],if c.isW [q] then (c.at M).take else c.at M)=(c.isW [q],(c.word q).at M)
 unfold Cu.word
 split <;> rfl)
theorem zbe (p:ByteArray) (hp:dlt (pk p)=0):Ok3 M (punctR p) b:=prim3 (zap p) (fun c h=>by
 show c.punct p=c
 unfold Cu.punct;rw[zaJ h];rfl) (fun c h0 hk=>by
 show c.punct p=c∨(c.punct p=c.take∧dlt c.tok=0)
 unfold Cu.punct
 split
 ·exact .inr ⟨rfl,(zcp ‹_›).trans hp⟩
 ·exact .inl rfl) (fun c=>by
 show (c.isP p,if c.isP p then (c.at M).take else c.at M)=(c.isP p,(c.punct p).at M)
 unfold Cu.punct
 split <;> rfl)
theorem zdF (p:ByteArray) (hp:dlt (pk p)=0):Ok3 M (wantR p) b:=prim3 (zaN p) (fun c h=>zgU h p) (fun c h0 hk=>by
 have hk':(c.want p).kd=0:=hk
 show c.want p=c∨(c.want p=c.take∧dlt c.tok=0)
 unfold Cu.want at hk' ⊢
 split
 ·exact .inr ⟨rfl,(zcp ‹_›).trans hp⟩
 ·rename_i h;rw[if_neg h] at hk';exact (zfW (by decide) hk').elim) (fun c=>by
 show ((),if c.isP p then (c.at M).take else (c.at M).stop 70)=((),(c.want p).at M)
 unfold Cu.want
 split
 ·rfl
 ·rw[zho])
theorem zeI {A:Type} (a:A):Ok3 M (stopR a) b:=prim3 (za9 a) (fun c h=>zaA _ _ h) (fun c h0 hk=>(zfW (by decide) hk).elim) (fun c=>by
 show (a,(c.at M).stop 70)=(a,(c.stop 70).at M)
 rw[zho])
theorem zaP {A:Type} {q:Bool} {E F:Cu→A × Cu} (h:Ok3 M E b) (k:Ok3 M F b):Ok3 M (cond q E F) b:=by cases q;exact k;exact h
def takeK (k:Int):Cu→Unit × Cu:=fun c=>((),if c.kd=0∧c.tok.k=k then c.take else c)
theorem zdm (k:Int) (h0:k ≠ 0) (h1:k ≠ 1):St (takeK k):=fun c h=>by
 show Stp c (if c.kd=0∧c.tok.k=k then c.take else c)
 split
 ·rename_i e;exact zd1 h (by rw[e.2];exact h0) (by rw[e.2];exact h1)
 ·exact Stp.refl h
theorem zkF (k:Int) (h0:k ≠ 0) (h1:k ≠ 1) (h2:k ≠ 2):Ok3 M (takeK k) b:=prim3 (zdm k h0 h1) (fun c h=>if_neg fun e=>h e.1) (fun c h0 hk=>by
 show (if c.kd=0∧c.tok.k=k then c.take else c)=c∨((if c.kd=0∧c.tok.k=k then c.take else c)=_∧_)
 split
 ·rename_i e;exact .inr ⟨rfl,znH (by rw[e.2];exact h2)⟩
 ·exact .inl rfl) (fun c=>by
 show ((),if c.kd=0∧c.tok.k=k then (c.at M).take else c.at M)=((),(if c.kd=0∧c.tok.k=k then c.take else c).at M)
 split <;> rfl)
theorem zc1 {E:LitR} (hE:Sti E) (r:ByteArray) (least:Nat) {c:Cu} (h:c.kd ≠ 0):∀ (g:Nat) (l:List Dt),(brkF E r least g l c).2=c
 | 0,l=>rfl
 | g+1,l=>by
  simp only[brkF];rw[if_pos (.inr (zaJ h r))]
  cases hq:(E c).1 with
  | none=>exact hE c h
  | some d=>dsimp only;rw[hE c h];exact zc1 hE r least h g _
theorem zcl {c:Cu} {r:ByteArray} (h:c.isP r=true):c.cls r=⟨c.ts,c.ix+1,c.op - 1,c.mo,c.kd⟩:=if_pos h
theorem zhw {E:LitR} (hG:Goes E) (hF:Faults E b) (hS:Sti E) (h:Bal E b) {r:ByteArray} (hr:dlt (pk r) = -1) (least:Nat):∀ (g:Nat) (l:List Dt) (c:Cu),c.Ok→c.ts.length≤b+c.ix→c.ts.length≤g+c.ix→Inv c→c.kd=0→1≤c.op→(brkF E r least g l c).2.kd=0→(brkF E r least g l c).2.op+1=c.op∧Inv (brkF E r least g l c).2
 | 0,l,c,hc,hb,hg,hi,h0,ho,hk=>by have:=hc.lt;omega
 | g+1,l,c,hc,hb,hg,hi,h0,ho,hk=>by
  simp only[brkF] at hk ⊢
  by_cases hq:l.length<least∨c.isP r=false
  ·rw[if_pos hq] at hk ⊢
   have hgo:=hG c hc
   cases he:(E c).1 with
   | none=>rw[he] at hk;exact absurd hk (hF c hc hb he)
   | some d =>
    rw[he] at hk
    have k0:(E c).2.kd=0:=Classical.byContradiction fun x=>by
     dsimp only at hk;rw[zc1 hS r least x] at hk;exact x hk
    obtain⟨o1,i1⟩:=h c hc hb hi h0 k0;have i2:=hgo.2 (by rw[he];rfl)
    have ih:=zhw hG hF hS h hr least g (l ++ [d]) (E c).2 hgo.1.ok (by rw[hgo.1.ts];omega) (by rw[hgo.1.ts];omega) i1 k0 (by rw[o1];exact ho) hk
    rw[o1] at ih;exact ih
  ·rw[if_neg hq] at hk ⊢
   have hp:c.isP r=true:=by
    cases hp:c.isP r with
    | true=>rfl
    | false=>exact absurd (.inr hp) hq
   dsimp only;rw[zcl hp];refine⟨by show c.op - 1+1=c.op;omega,?_⟩
   show ((c.op - 1:Nat):Int)=dpt c.ts (c.ix+1)
   rw[zcq,zcp hp,hr];have hi':(c.op:Int)=dpt c.ts c.ix:=hi;omega
theorem zhx {E:LitR} (hG:Goes E) (hF:Faults E b) (h:Ok3 M E b) {r:ByteArray} (hr:dlt (pk r) = -1) (least:Nat):∀ (g:Nat) (l:List Dt) (c:Cu),c.Ok→c.ts.length≤b+c.ix→c.ts.length≤g+c.ix→Inv c→c.kd=0→1≤c.op→(brkF E r least g l c).2.kd=0→Low M c.ts c.ix→(Low M c.ts (brkF E r least g l c).2.ix∧brkF E r least g l (c.at M)=((brkF E r least g l c).1,(brkF E r least g l c).2.at M))∨Dd M c (brkF E r least g l c).2.ix (brkF E r least g l (c.at M)).2
 | 0,l,c,hc,hb,hg,hi,h0,ho,hk,hl=>by have:=hc.lt;omega
 | g+1,l,c,hc,hb,hg,hi,h0,ho,hk,hl=>by
  have eP:(c.at M).isP r=c.isP r:=rfl;simp only[brkF] at hk ⊢;rw[eP]
  by_cases hq:l.length<least∨c.isP r=false
  ·rw[if_pos hq] at hk
   rw[if_pos hq,if_pos hq];have hgo:=hG c hc
   cases he:(E c).1 with
   | none=>rw[he] at hk;exact absurd hk (hF c hc hb he)
   | some d =>
    rw[he] at hk
    have k0:(E c).2.kd=0:=Classical.byContradiction fun x=>by
     dsimp only at hk;rw[zc1 h.sti r least x] at hk;exact x hk
    obtain⟨o1,i1⟩:=h.bal c hc hb hi h0 k0;have i2:=hgo.2 (by rw[he];rfl)
    have s2:=zbE hG r least g (l ++ [d]) _ hgo.1.ok
    rcases h.dep c hc hb hi h0 k0 hl with ⟨l1,e1⟩ | d1
    ·rw[e1,he]
     have ih:=zhx hG hF h hr least g (l ++ [d]) (E c).2 hgo.1.ok (by rw[hgo.1.ts];omega) (by rw[hgo.1.ts];omega) i1 k0 (by rw[o1];exact ho) hk (by rw[hgo.1.ts];exact l1)
     rcases ih with ⟨l2,e2⟩ | d2
     ·rw[hgo.1.ts] at l2
      exact .inl ⟨l2,e2⟩
     ·exact .inr (d2.of hgo.1)
    ·right
     dsimp only;have hdd:=d1.dead
     cases hx:(E (c.at M)).1 with
     | none=>exact d1.to s2.ix
     | some d'=>dsimp only;rw[zc1 h.sti r least hdd];exact d1.to s2.ix
  ·rw[if_neg hq] at hk
   rw[if_neg hq,if_neg hq]
   have hp:c.isP r=true:=by
    cases hp:c.isP r with
    | true=>rfl
    | false=>exact absurd (.inr hp) hq
   left
   rw[zcl hp,zcl (show (c.at M).isP r=true from hp)]
   refine⟨hl.succ ?_,rfl⟩
   rw[zcq,zcp hp,hr];have:=hl.top;omega
theorem zbQ {c:Cu} {p:ByteArray} (h:c.opB p=true):c.isP p=true∧c.op<c.mo∧c.opn p=⟨c.ts,c.ix+1,c.op+1,c.mo,c.kd⟩:=by
 unfold Cu.opB at h;simp only[Bool.and_eq_true,decide_eq_true_eq] at h;exact⟨h.1,h.2,by unfold Cu.opn;rw[if_pos h.1,if_pos h.2]⟩
theorem zdz {c:Cu} {p:ByteArray} (hp:dlt (pk p)=1) (h:c.opB p=true) (hi:Inv c):Inv (c.opn p):=by
 obtain⟨h1,h2,h3⟩:=zbQ h;rw[h3]
 show ((c.op+1:Nat):Int)=dpt c.ts (c.ix+1)
 rw[zcq,zcp h1,hp];have hi':(c.op:Int)=dpt c.ts c.ix:=hi;omega
theorem zkg {c:Cu} {p:ByteArray} (hp:dlt (pk p)=1) (h:c.opB p=true) (h0:c.kd=0) (hi:Inv c) (hl:Low M c.ts c.ix):(Low M c.ts (c.ix+1)∧(c.at M).opB p=true∧(c.at M).opn p=(c.opn p).at M)∨((c.at M).opB p=false∧∀ e,c.ix<e→Dd M c e ((c.at M).opn p)):=by
 obtain⟨h1,h2,h3⟩:=zbQ h;have hi':(c.op:Int)=dpt c.ts c.ix:=hi;have ht:=hl.top;have hd:dpt c.ts (c.ix+1)=(c.op:Int)+1:=by rw[zcq,zcp h1,hp,hi']
 by_cases hm:c.op<M
 ·left
  have hB:(c.at M).opB p=true:=by
   show (c.isP p && decide (c.op<M))=true
   rw[h1,decide_eq_true hm];rfl
  refine⟨hl.succ (by rw[hd];omega),hB,?_⟩
  rw[(zbQ hB).2.2,h3];rfl
 ·right
  have hB:(c.at M).opB p=false:=by
   show (c.isP p && decide (c.op<M))=false
   rw[decide_eq_false hm,Bool.and_false]
  refine⟨hB,fun e he=>⟨c.ix,c.op,lr _,he,hl,by rw[hd];omega,?_⟩⟩
  show (if c.isP p then (if c.op<M then _ else (c.at M).stop 71) else _)=_
  rw[if_pos h1,if_neg hm]
  show (if c.kd=0 then _ else _)=_
  rw[if_pos h0];rfl
theorem zjg {E:LitR} (hG:Goes E) (hF:Faults E b) (h:Ok3 M E b) {l r:ByteArray} (hl:dlt (pk l)=1) (hr:dlt (pk r) = -1) (n:Nat):Ok3 M (brk E l r n) (b+1):=by
 refine⟨(zaH hG l r n).st,fun c hc=>by rw[zfi E l r n hc],fun c hc hb hi h0 hk=>?_,fun c hc hb hi h0 hk hw=>?_⟩
 ·have ho:=zau hc l
  unfold brk at hk ⊢
  by_cases hB:c.opB l=true
  ·rw[if_pos hB] at hk ⊢
   obtain⟨h1,h2,h3⟩:=zbQ hB;have hI:=zdz hl hB hi;have hkd:(c.opn l).kd=0:=by rw[h3];exact h0
   have hop:(c.opn l).op=c.op+1:=by rw[h3]
   obtain⟨q1,q2⟩:=zhw hG hF h.sti h.bal hr n c.ts.length [] (c.opn l) ho.ok (by rw[ho.ts,zaL hB];omega) (by rw[ho.ts];omega) hI hkd (by omega) hk
   exact⟨by omega,q2⟩
  ·rw[if_neg hB] at hk
   exact absurd hk (zez (by simpa using hB))
 ·have ho:=zau hc l
  unfold brk at hk ⊢
  by_cases hB:c.opB l=true
  ·rw[if_pos hB] at hk ⊢
   obtain⟨h1,h2,h3⟩:=zbQ hB;have hI:=zdz hl hB hi;have hkd:(c.opn l).kd=0:=by rw[h3];exact h0
   have hop:(c.opn l).op=c.op+1:=by rw[h3]
   have hix:=zaL hB;have s2:=zbE hG r n c.ts.length [] (c.opn l) ho.ok
   rcases zkg hl hB h0 hi hw with ⟨l1,b1,e1⟩ | ⟨b1,d1⟩
   ·rw[if_pos b1,e1]
    have:=zhx hG hF h hr n c.ts.length [] (c.opn l) ho.ok (by rw[ho.ts,hix];omega) (by rw[ho.ts];omega) hI hkd (by omega) hk (by rw[ho.ts,hix];exact l1)
    rcases this with ⟨l2,e2⟩ | d2
    ·rw[ho.ts] at l2
     exact .inl ⟨l2,e2⟩
    ·exact .inr (d2.of ho)
   ·rw[if_neg (by rw[b1];decide)]
    exact .inr (d1 _ (by have:=s2.ix;omega))
  ·rw[if_neg hB] at hk
   exact absurd hk (zez (by simpa using hB))
end
theorem ziJ:dlt (pk bLp)=1:=by decide
theorem ziI:dlt (pk bLb)=1:=by decide
theorem zeS:dlt (pk bLc)=1:=by decide
theorem ziK:dlt (pk bRp) = -1:=by decide
theorem zlm:dlt (pk bRb) = -1:=by decide
theorem zeT:dlt (pk bRc) = -1:=by decide
theorem zlk:dlt (pk bAt)=0:=by decide
theorem zdH:dlt (pk bCol)=0:=by decide
theorem zmz:dlt (pk bDol)=0:=by decide
theorem zll:dlt (pk bEq)=0:=by decide
theorem zjB:dlt (pk bBang)=0:=by decide
theorem zc0 (L:LitR):argS L=bnd tokR fun t=>bnd nR fun _=>bnd (wantR bCol) fun _=>bnd L fun r=>ret (r.map fun v=>fldD t.tx v t.ln t.co):=by
 funext c
 simp only[argS,bnd,tokR,nR,wantR,ret]
 cases (L (c.name.want bCol)).1 <;> rfl
def litT (L:LitR) (ct:Bool) (t:Tk):LitR:=
 cond (decide (t.k=4)) (bnd (takeK 4) fun _=>ret (some (litD 2 t.tx false .nil .nil t.ln t.co)))
 (cond (decide (t.k=5)) (bnd (takeK 5) fun _=>ret (some (litD 3 t.tx false .nil .nil t.ln t.co)))
 (cond (decide (t.k=6)) (bnd (takeK 6) fun _=>ret (some (litD 4 t.va false .nil .nil t.ln t.co)))
 (cond (decide (t.k=7)) (bnd (takeK 7) fun _=>ret (some (litD 4 t.va true .nil .nil t.ln t.co)))
 (cond (decide (t.k=3)) (bnd (takeK 3) fun _=>ret (some (wordD t)))
 (bnd (isPR bDol) fun q=>cond (q && !ct) (bnd (punctR bDol) fun _=>bnd nR fun n=>ret (cond n.1 (some (litD 1 n.2 false .nil .nil t.ln t.co)) none))
 (bnd (isPR bLb) fun q=>cond q (bnd (brk L bLb bRb 0) fun r=>ret (r.map fun l=>litD 8 em false (Dt.of l) .nil t.ln t.co))
 (bnd (isPR bLc) fun q=>cond q (bnd (brk (argS L) bLc bRc 0) fun r=>ret (r.map fun l=>litD 9 em false .nil (Dt.of l) t.ln t.co))
 (stopR none))))))))
theorem zdl {c:Cu} {k:Int} (h0:c.kd=0) (h:c.tok.k=k):takeK k c=((),c.take):=by unfold takeK;rw[if_pos ⟨h0,h⟩]
theorem zeu (L:LitR) (ct:Bool):litS L ct=bnd aliveR fun al=>cond al (bnd tokR fun t=>litT L ct t) (ret none):=by
 funext c
 by_cases h0:c.kd=0
 ·have e0:(bnd aliveR fun al=>cond al (bnd tokR fun t=>litT L ct t) (ret none)) c=litT L ct c.tok c:=by
   show cond (decide (c.kd=0)) (bnd tokR fun t=>litT L ct t) (ret none) c=_
   rw[decide_eq_true h0];rfl
  rw[e0];unfold litS litT;rw[if_neg (by simpa using h0)]
  by_cases h4:c.tok.k=4
  ·rw[if_pos h4,decide_eq_true h4]
   simp only[cond_true,bnd,ret,zdl h0 h4]
  rw[if_neg h4,decide_eq_false h4];simp only[cond_false]
  by_cases h5:c.tok.k=5
  ·rw[if_pos h5,decide_eq_true h5]
   simp only[cond_true,bnd,ret,zdl h0 h5]
  rw[if_neg h5,decide_eq_false h5];simp only[cond_false]
  by_cases h6:c.tok.k=6
  ·rw[if_pos (.inl h6),decide_eq_true h6]
   have h7:¬ c.tok.k=7:=by omega
   simp only[cond_true,bnd,ret,zdl h0 h6,decide_eq_false h7]
  rw[decide_eq_false h6];simp only[cond_false]
  by_cases h7:c.tok.k=7
  ·rw[if_pos (.inr h7),decide_eq_true h7]
   simp only[cond_true,bnd,ret,zdl h0 h7]
  rw[if_neg (by omega),decide_eq_false h7]
  simp only[cond_false]
  by_cases h3:c.tok.k=3
  ·rw[if_pos h3,decide_eq_true h3]
   simp only[cond_true,bnd,ret,zdl h0 h3]
  rw[if_neg h3,decide_eq_false h3];simp only[cond_false]
  show _=(cond (c.isP bDol && !ct) _ _:Cu→Option Dt × Cu) c
  by_cases hd:c.isP bDol=true∧ct=false
  ·rw[if_pos hd,hd.1,hd.2]
   simp only[Bool.not_false,Bool.and_self,cond_true,bnd,punctR,nR,ret,Cu.punct,hd.1,if_true,varS]
   rcases bb c.take.isN with g | g <;> simp[g]
  rw[if_neg hd]
  have hd':(c.isP bDol && !ct)=false:=by
   cases h1:c.isP bDol
   ·rfl
   ·cases ct
    ·exact absurd ⟨h1,rfl⟩ hd
    ·rfl
  rw[hd'];simp only[cond_false]
  show _=(cond (c.isP bLb) _ _:Cu→Option Dt × Cu) c
  rcases bb (c.isP bLb) with g | g
  ·rw[g,if_neg (by decide)]
   simp only[cond_false]
   show _=(cond (c.isP bLc) _ _:Cu→Option Dt × Cu) c
   rcases bb (c.isP bLc) with k | k
   ·rw[k,if_neg (by decide)]
    rfl
   ·rw[k,if_pos rfl]
    simp only[cond_true,bnd,ret,objS]
    cases (brk (argS L) bLc bRc 0 c).1 <;> rfl
  ·rw[g,if_pos rfl]
   simp only[cond_true,bnd,ret,listS]
   cases (brk L bLb bRb 0 c).1 <;> rfl
 ·show litS L ct c=cond (decide (c.kd=0)) (bnd tokR fun t=>litT L ct t) (ret none) c
  rw[decide_eq_false h0];unfold litS;rw[if_pos h0];rfl
section
variable {M b:Nat}
theorem zmc {L:LitR} (h:Ok3 M L b):Ok3 M (argS L) b:=by
 rw[zc0];exact zgO.bnd fun _=>nR_3.bnd fun _=>(zdF _ zdH).bnd fun _=>h.bnd fun _=>zaM _
theorem zpM {L:LitR} (hG:Goes L) (hF:Faults L b) (h:Ok3 M L b) (ct:Bool):Ok3 M (litS L ct) (b+1):=by
 rw[zeu];have hK:∀ (k:Int) (v:Option Dt),k ≠ 0→k ≠ 1→k ≠ 2→Ok3 M (bnd (takeK k) fun _=>ret v) (b+1):=fun k v h0 h1 h2=>(zkF k h0 h1 h2).bnd fun _=>zaM _
 exact zdQ.bnd fun al=>zaP (zgO.bnd fun t=>zaP (hK _ _ (by decide) (by decide) (by decide)) (zaP (hK _ _ (by decide) (by decide) (by decide)) (zaP (hK _ _ (by decide) (by decide) (by decide)) (zaP (hK _ _ (by decide) (by decide) (by decide)) (zaP (hK _ _ (by decide) (by decide) (by decide))
  ((zdJ _).bnd fun q=>zaP ((zbe _ zmz).bnd fun _=>nR_3.bnd fun _=>zaM _) ((zdJ _).bnd fun q=>zaP ((zjg hG hF h ziI zlm 0).bnd fun _=>zaM _) ((zdJ _).bnd fun q=>zaP ((zjg (zas hG) (za1 b hF) (zmc h) zeS zeT 0).bnd fun _=>zaM _) (zeI _))))))))) (zaM _)
theorem zlF (ct:Bool) (f:Nat):Sti (litF ct f):=fun c h=>by
 cases f with
 | zero=>rfl
 | succ f=>show (litS _ ct c).2=c;unfold litS;rw[if_pos h]
theorem zgq (ct:Bool):∀ f,Ok3 M (litF ct f) f
 | 0=>⟨(zaj ct 0).st,zlF ct 0,fun c hc hb=>by have:=hc.lt;omega,fun c hc hb=>by have:=hc.lt;omega⟩
 | f+1=>zpM (zaj ct f) (zaQ ct f) (zgq ct f) ct
theorem zni {L:LitR} (hG:Goes L) (hF:Faults L b) (h:Ok3 M L b):Ok3 M (argsS L) b:=by
 rw[zbD];exact (zdJ _).bnd fun q=>zaP ((zjg (zas hG) (za1 b hF) (zmc h) ziJ ziK 1).mono (Nat.le_succ _)) (zdQ.bnd fun a=>zaM _)
theorem zmv {L:LitR} (hG:Goes L) (hF:Faults L b) (h:Ok3 M L b):Ok3 M (dirB L) b:=
 zgO.bnd fun t=>(zbe _ zlk).bnd fun _=>nR_3.bnd fun n=>(zni hG hF h).bnd fun r=>zaM _
theorem zgg {L:LitR} (hG:Goes L) (hF:Faults L b) (o:Ok3 M (dirB L) b):∀ (g:Nat) (l:List Dt) (c:Cu),c.Ok→c.ts.length≤b+c.ix→c.ts.length≤g+c.ix→Inv c→c.kd=0→(dirsF L g l c).2.kd=0→(dirsF L g l c).2.op=c.op∧Inv (dirsF L g l c).2
 | 0,l,c,hc,hb,hg,hi,h0,hk=>by have:=hc.lt;omega
 | g+1,l,c,hc,hb,hg,hi,h0,hk=>by
  simp only[dirsF] at hk ⊢
  by_cases hp:c.isP bAt=true
  ·rw[if_pos hp] at hk ⊢
   have hgo:=zbd hG hc hp;have eq1:dirB L c=dirS L c:=(zbm L c hp).symm;have hbal:=o.bal c hc hb hi h0;rw[eq1] at hbal
   cases hq:(dirS L c).1 with
   | none=>rw[hq] at hk;exact absurd hk (zee hG hF hc hp hb hq)
   | some d =>
    rw[hq] at hk
    have k0:(dirS L c).2.kd=0:=Classical.byContradiction fun x=>by
     dsimp only at hk;rw[zbx L x] at hk;exact x hk
    obtain⟨o1,i1⟩:=hbal k0;have ih:=zgg hG hF o g (l ++ [d]) (dirS L c).2 hgo.1.ok (by rw[hgo.1.ts];have:=hgo.2;omega) (by rw[hgo.1.ts];have:=hgo.2;omega) i1 k0 hk
    rw[o1] at ih;exact ih
  ·rw[if_neg hp]
   exact⟨rfl,hi⟩
theorem zgh {L:LitR} (hG:Goes L) (hF:Faults L b) (o:Ok3 M (dirB L) b):∀ (g:Nat) (l:List Dt) (c:Cu),c.Ok→c.ts.length≤b+c.ix→c.ts.length≤g+c.ix→Inv c→c.kd=0→(dirsF L g l c).2.kd=0→Low M c.ts c.ix→(Low M c.ts (dirsF L g l c).2.ix∧dirsF L g l (c.at M)=((dirsF L g l c).1,(dirsF L g l c).2.at M))∨Dd M c (dirsF L g l c).2.ix (dirsF L g l (c.at M)).2
 | 0,l,c,hc,hb,hg,hi,h0,hk,hl=>by have:=hc.lt;omega
 | g+1,l,c,hc,hb,hg,hi,h0,hk,hl=>by
  have eP:(c.at M).isP bAt=c.isP bAt:=rfl;simp only[dirsF] at hk ⊢;rw[eP]
  by_cases hp:c.isP bAt=true
  ·rw[if_pos hp] at hk
   rw[if_pos hp,if_pos hp];have hgo:=zbd hG hc hp;have eq1:dirB L c=dirS L c:=(zbm L c hp).symm;have eq2:dirB L (c.at M)=dirS L (c.at M):=(zbm L (c.at M) hp).symm;have hbal:=o.bal c hc hb hi h0;have hdep:=o.dep c hc hb hi h0;rw[eq1] at hbal;rw[eq1,eq2] at hdep
   cases hq:(dirS L c).1 with
   | none=>rw[hq] at hk;exact absurd hk (zee hG hF hc hp hb hq)
   | some d =>
    rw[hq] at hk
    have k0:(dirS L c).2.kd=0:=Classical.byContradiction fun x=>by
     dsimp only at hk;rw[zbx L x] at hk;exact x hk
    obtain⟨o1,i1⟩:=hbal k0;have s2:=zby hG g (l ++ [d]) _ hgo.1.ok
    rcases hdep k0 hl with ⟨l1,e1⟩ | d1
    ·rw[e1,hq]
     have ih:=zgh hG hF o g (l ++ [d]) (dirS L c).2 hgo.1.ok (by rw[hgo.1.ts];have:=hgo.2;omega) (by rw[hgo.1.ts];have:=hgo.2;omega) i1 k0 hk (by rw[hgo.1.ts];exact l1)
     rcases ih with ⟨l2,e2⟩ | d2
     ·rw[hgo.1.ts] at l2
      exact .inl ⟨l2,e2⟩
     ·exact .inr (d2.of hgo.1)
    ·right
     dsimp only
     cases hx:(dirS L (c.at M)).1 with
     | none=>exact d1.to s2.ix
     | some d'=>dsimp only;rw[zbx L d1.dead];exact d1.to s2.ix
  ·rw[if_neg hp,if_neg hp]
   exact .inl ⟨hl,rfl⟩
theorem zmx {L:LitR} (hG:Goes L) (hF:Faults L b) (h:Ok3 M L b):Ok3 M (dirs L) b:=
 ⟨zaI hG,fun c hc=>by rw[ze1 L hc],fun c hc hb hi h0 hk=>zgg hG hF (zmv hG hF h) _ [] c hc hb (by omega) hi h0 hk,fun c hc hb hi h0 hk hl=>zgh hG hF (zmv hG hF h) _ [] c hc hb (by omega) hi h0 hk hl⟩
end
end Go.Proofs.YtifbkdicglcogaaGreat.cu
