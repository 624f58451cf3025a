import Derived.Test.YtifbkdicglcogaaGreatSjo13
set_option linter.unusedVariables false
set_option linter.unusedSimpArgs false
namespace Go.Proofs.YtifbkdicglcogaaGreat.cu
open Go.ChangeShapes Go.WideShapes Go.ChangeAt Go.RowKit
open ints (Hi uh)
open dt (Dt Kp RowAt Ow Grow OwIn)
theorem infoIz:∃ i z,Tryz.prog.info? 101=some i∧i.zero=some z∧i.size=17∧i.bytes=216∧z.cells.size=17:=by
 have hin:(Tryz.prog.info? 101).map (fun i=>(i.bytes,i.size,i.zero.map (·.cells.size)))=some (216,17,some 17):=by kernel_rfl
 cases hq:Tryz.prog.info? 101 with
 | none=>simp[hq] at hin
 | some i =>
  simp[hq] at hin;obtain⟨h1,h2,z,hz,h3⟩:=hin;exact⟨i,z,rfl,hz,h2,h1,h3⟩
set_option maxRecDepth 4000 in
set_option maxHeartbeats 8000000 in
theorem zns {N B p:Nat} {c:Cu} {w:World} (left right:ByteArray) (h:CurN N w B p c) :
  Calls Tryz.prog 139 #[.agg #[.pointer (some ⟨B,0,none⟩)],.string left,.string right,.func (.func 119) #[.agg #[.pointer (some ⟨B,0,none⟩)]] #[]] w fun e w'=>∃ (l:List Dt) (c':Cu) (a:Option Addr) (n cp:Nat) (F:List Nat),brkT (inpT (typF N) (litF true N)) left right c=(l,c')∧e = .returned (.slice a n cp)∧Sh w' 17 l w.heap.size w'.heap.size a n cp F∧CurN N w' B p c'∧Kp B w w':=by
 have en:∀ args w,(callFunc 119 args).run Tryz.prog w = .ok (.enter 119 args) w:=fun _ _=>rfl
 have hB:=h.lt;have hp:=h.plt;have hm:=h.m;have hc0:=h.at_.ok;have hG:∀ cc:Cu,cc.Ok→Stp cc (inpT (typF N) (litF true N) cc).2∧((inpT (typF N) (litF true N) cc).2.kd=0→cc.ix<(inpT (typF N) (litF true N) cc).2.ix):=fun cc hcc=>⟨zmE N cc hcc,zjM N cc hcc⟩
 obtain⟨E,hE⟩:∃ E,E=inpT (typF N) (litF true N):=⟨_,rfl⟩;have hRd:=Hi (fun cc W (hc:CurN N W B p cc)=>zpE hc)
 have hDm:Dm E:=by rw[hE];exact (zqZ N)
 rw[← hE] at hRd hG ⊢;clear hE;obtain⟨w0,hw0⟩:∃ w0,w0=w.alloc (.cells #[.pointer (some ⟨B,0,none⟩)] 74):=⟨_,rfl⟩;have b0:Below w.heap.size w w0:=by rw[hw0];exact ba
 have z0:w.heap.size+1≤w0.heap.size:=by rw[hw0];simp
 have p0:w0.heap[w.heap.size]? = some (.cells #[.pointer (some ⟨B,0,none⟩)] 74 (0,0)):=by rw[hw0];exact heap_alloc_new _ _
 have ho:=Hi (zcv B p c left w0 (h.below b0).at_);have hPc:=Hi (fun (W:World) (hk:W.heap[w.heap.size]? = some (.cells #[.pointer (some ⟨B,0,none⟩)] 74 (0,0)))=>show W.cell? ⟨w.heap.size,0,none⟩=some (.pointer (some ⟨B,0,none⟩)) from (zG hk 0).trans rfl)
 have hst:=zau hc0 left;have hnx:=Hi (fun W (k:CurAt W B p (c.opn left))=>h.next k hst)
 obtain⟨R,hR⟩:∃ R,R=brkF (optR E) right 1 c.ts.length [] (c.opn left):=⟨_,rfl⟩;have hs:=Hi (show brk (optR E) left right 1 c=R from by rw[hR];exact zfj hDm hc0 left right)
 have HR:=Hi hR.symm;clear h hR;have hcl:=Hi (fun W (cc:Cu) (hc:CurN N W B p cc)=>an (zbF B p cc right W hc.at_) (zbv hc.at_.ok right))
 have hip:=Hi (fun W (cc:Cu) (hc:CurN N W B p cc)=>zax B p cc right W hc.at_)
 have hsp:=Hi (fun W (cc:Cu) (hc:CurN N W B p cc)=>zbZ hc)
 unfold ptr at ho hcl hip
 go_enter Tryz.func139,Tryz.ntmps139
 go_wp2_with fail
 rw[← hw0];refine (uh ho).mono ?_
 rintro e w1 ⟨rfl,hc1,hk1⟩;have hc1:=(uh hnx) _ hc1;have hz1:=hk1.size;have p1:=(hk1.block w.heap.size (by omega) (by omega)).trans p0
 have K1:=(Kp.of b0).trans hk1;clear ho hw0 p0 b0 hk1 hnx
 go_wp2_with fail
 go_loopg [9] c.ts.length (fun g sl wr=>∃ (l:List Dt) (cc:Cu) (Gs:List Nat),Hid (brkF (optR E) right 1 g l cc=R)∧CurN N wr B p cc∧Hid (Grow 101 17 wr (w.heap.size+1) l sl Gs)∧Kp B w wr∧Hid (cc.ts=c.ts)∧c.ts.length≤g+cc.ix∧l.length+c.ix≤cc.ix∧Hid (wr.heap[w.heap.size]? = some (.cells #[.pointer (some ⟨B,0,none⟩)] 74 (0,0)))∧w.heap.size+1≤wr.heap.size)
 case atStart=>exact⟨[],c.opn left,[],HR,hc1,Hi Grow.nil,K1,Hi hst.ts,Nat.le_add_right _ _,by simpa using hst.ix,Hi p1,by omega⟩
 case round =>
  obtain⟨l,cc,Gs,hrun,hcc,hgr,hkr,hts,hfu,hll,hpr,hzr⟩:=hrel;have hixl:=hcc.at_.ok.lt;rw[uh hts] at hixl;obtain⟨al,cl,hsl⟩:=(uh hgr).form;subst hsl;have cP:=(uh hPc) wr (uh hpr);obtain⟨g',rfl⟩:∃ g',gk=g'+1:=⟨gk - 1,by omega⟩
  by_cases hl0:l.length=0
  ·obtain rfl:l=[]:=List.eq_nil_of_length_eq_zero hl0
   obtain⟨w2,hw2⟩:∃ w2,w2=wr:=⟨_,rfl⟩;subst hw2;have b2:=Below.refl w2.heap.size w2;have hc2:=hcc;have hgr2:=hgr;have hk2:=hkr;have hp2:=hpr;clear hl0
   have hrun2:=Hi (show (match (optR E cc).1 with | none=>(none,(optR E cc).2) | some d=>brkF (optR E) right 1 g' ([] ++ [d]) (optR E cc).2)=R from by
    have e:=uh hrun;rw[brkF,if_pos (.inl (by decide))] at e
    exact e)
   have hgo:=hG cc hcc.at_.ok;have hcall:=Hi ((uh hRd) cc w2 hc2)
   go_wp2_with fail
   refine (uh hcall).mono ?_
   rintro e w3 ⟨d,C,n1,n2,n3,nm,tn,tw,hd,k,tx,bl,a1,m1,c1,a2,m2,c2,l1,o1,a3,m3,c3,ln,co,F,hEq,rfl,hho,hc3,hk3⟩;rw[hEq] at hgo;have hon:∀ (hk:C.kd ≠ 0),optR E cc=(none,C):=fun hk=>(zaS (by rw[hEq];exact hk)).trans (by rw[hEq])
   have hos:∀ (hk:C.kd=0),optR E cc=(some d,C):=fun hk=>(zaY (by rw[hEq];exact hk)).trans (by rw[hEq])
   have HO:=Hi (an hon hos);have HP:=Hi hho;have HC3:=Hi hc3;have HK3:=Hi hk3;have hz3:=hk3.size;have hp3:=Hi ((hk3.block w.heap.size (by omega) (by omega)).trans (uh hp2))
   have hgr3:=(uh hgr2).kp (uh HK3) (by omega)
   obtain⟨it,zt,q1,q2,q3,q4,q5⟩:=infoIz;have HQ:=Hi (an q1 (an q2 (an q3 (an q4 q5))));clear q1 q2 q3 q4 q5;obtain⟨xss,hr3,hol3,hx3⟩:=hgr3.row;have hr4:=Hi hr3;have hbyt:=Hi (show (([]:List Dt).length+1) * 216≤140737488355328∧([]:List Dt).length+1≤maxLen from ⟨by omega,by unfold maxLen;omega⟩)
   have hsz4:=Hi (show w.heap.size+1≤w3.heap.size from by have:=hz3;have:=b2.size;omega)
   have hone:=Hi (hho.ow.one);have HG:=Hi (an hgr3 (an hol3 hx3));have hGO:=Hi hgo;clear hgo hgr3 hr3 hol3 hx3 hcall hEq hon hos hho hc3 hk3 hrun;unfold inpC at HP hone;unfold inpC
   go_wp2_with (first
    | (at_builtin;refine dt.zaG (by rfl) _ _ (by rfl) Tryz.underlying58 (uh HQ).1 (uh HQ).2.1 (uh HQ).2.2.1 (uh HQ).2.2.2.1 (uh HQ).2.2.2.2 (by omega) (w.heap.size+1) ([]:List Dt).length xss.flatten _ (by rfl) (uh hr4) [.bool n1,.bool n2,.string n3,.string nm,.string tn,.string tw,.bool hd,.int .i64 k,.string tx,.bool bl,.slice a1 m1 c1,.slice a2 m2 c2,.int .i64 l1,.int .i64 o1,.slice a3 m3 c3,.int .i64 ln,.int .i64 co] (by rfl) (uh hone) w3.heap.size (by rfl) (by rfl) (uh hbyt).1 (uh hbyt).2 (uh hsz4) ?_;intro sl' w7 hr7 b7 hold7 hat7;have cP7:=(uh hPc) w7 ((b7.block w.heap.size (Nat.lt_succ_self _)).trans (uh hp3));have H7:=Hi (an hr7 (an b7 (an hold7 hat7)));clear hr7 b7 hold7 hat7))
   obtain⟨hr7,b7,hold7,hat7⟩:=uh H7;obtain⟨hgr3,hol3,hx3⟩:=uh HG;have HPo:=uh HP;have hown:=fun b (hb:(Value.slice al ([]:List Dt).length cl).ownBlock=some b)=>(let ⟨_,hr,_⟩:=(uh hgr2).row;(hr.lt b hb).2)
   have hsz:w.heap.size≤w2.heap.size:=hk2.size;have hmore:=hgr3.more hol3 hx3 HPo.ow HPo.nd (fun b hb=>⟨by have:=(HPo.rng b hb).1;omega,by have:=(HPo.rng b hb).2;omega,fun hm=>by have:=((uh hgr2).rng b hm).2;have:=(HPo.rng b hb).1;omega,fun e=>by have:=hown b e;have:=(HPo.rng b hb).1;omega⟩) (by rfl) hr7 (by have:=(hr7.lt);have:=b7.size;exact this) hold7 hat7
   have hBs:B<w3.heap.size:=by omega
   have b7':=b7.mono (Nat.le_succ w.heap.size);have C7:=(uh HC3).low b7' hB hp;have K7:=(hk2.trans (uh HK3)).low b7';have p7:=(b7.block w.heap.size (Nat.lt_succ_self _)).trans (uh hp3);have z7:w.heap.size+1≤w7.heap.size:=by have:=b7.size;omega
   have hst7:=(uh hsp) w7 C C7
   by_cases hk:C.kd=0
   ·rw[show (C.kd != 0)=false by simpa using hk] at hst7
    have hrun3:=Hi (show brkF (optR E) right 1 g' ([] ++ [d]) C=R from by have e:=uh hrun2;rw[(uh HO).2 hk] at e;exact e)
    have hix3:cc.ix<C.ix:=(uh hGO).2 hk;have hts3:=(uh hGO).1.ts;have hlt3:=(uh hGO).1.ok.lt;have hTS:=Hi hts3;have HM:=Hi hmore;rw[hts3,uh hts] at hlt3;clear hr7 b7 hold7 hat7 hgr3 hol3 hx3 hown hmore hts3 HO hGO hrun2 hk H7 hr4 HQ hbyt hsz4 hone b7';refine hst7.mono ?_
    rintro e w8 ⟨rfl,C8,K8⟩;have z8:=K8.size;clear hst7 C7
    go_wp2_with fail
    go_roundg g'
    case rel =>
     refine⟨[] ++ [d],C,Gs ++ F,hrun3,C8,Hi ((uh HM).kp K8 (by omega)),K7.trans K8,Hi ((uh hTS).trans (uh hts)),by omega,by rw[List.length_append];simp;omega,Hi ((K8.block w.heap.size (by omega) (by omega)).trans p7),by omega⟩
    case measure=>exact Nat.lt_succ_self _
   ·rw[show (C.kd != 0)=true by simpa using hk] at hst7
    have hrun3:=Hi (show (none,C)=R from by have e:=uh hrun2;rw[(uh HO).1 hk] at e;exact e)
    clear hr7 b7 hold7 hat7 hgr3 hol3 hx3 hown hmore HO hGO hrun2 hk H7 hr4 HQ hbyt hsz4 hone b7';refine hst7.mono ?_
    rintro e w8 ⟨rfl,C8,K8⟩;clear hst7 C7
    go_wp2_with fail
    go_ret
    exact⟨[],C,none,0,0,[],zah (show brk (optR E) left right 1 c=(none,C) from (uh hs).trans (uh hrun3).symm),rfl,Sh.nil (lr _),C8,K7.trans K8⟩
  ·have hlz:¬ ((l.length:Int)=0):=by omega
   have hlz1:¬ (l=[]):=fun e=>hl0 (by rw[e];rfl)
   have hip2:=Hi ((uh hip) wr cc hcc)
   go_wp2_with fail
   refine (uh hip2).mono ?_
   rintro e w2 ⟨rfl,b2⟩;have hc2:=hcc.below b2;have hgr2:=Hi ((uh hgr).keep b2.size (fun b hb _=>b2.block b hb))
   have hk2:=hkr.trans (Kp.of b2);have hs2:=b2.size;have hp2:=Hi ((b2.block w.heap.size (by omega)).trans (uh hpr))
   have cP2:=(uh hPc) w2 (uh hp2)
   cases hQ:cc.isP right
   ·clear hip2
    have hrun2:=Hi (show (match (optR E cc).1 with | none=>(none,(optR E cc).2) | some d=>brkF (optR E) right 1 g' (l ++ [d]) (optR E cc).2)=R from by
     have e:=uh hrun;rw[brkF,if_pos (.inr hQ)] at e
     exact e)
    have hgo:=hG cc hcc.at_.ok;have hcall:=Hi ((uh hRd) cc w2 hc2)
    go_wp2_with fail
    refine (uh hcall).mono ?_
    rintro e w3 ⟨d,C,n1,n2,n3,nm,tn,tw,hd,k,tx,bl,a1,m1,c1,a2,m2,c2,l1,o1,a3,m3,c3,ln,co,F,hEq,rfl,hho,hc3,hk3⟩;rw[hEq] at hgo;have hon:∀ (hk:C.kd ≠ 0),optR E cc=(none,C):=fun hk=>(zaS (by rw[hEq];exact hk)).trans (by rw[hEq])
    have hos:∀ (hk:C.kd=0),optR E cc=(some d,C):=fun hk=>(zaY (by rw[hEq];exact hk)).trans (by rw[hEq])
    have HO:=Hi (an hon hos);have HP:=Hi hho;have HC3:=Hi hc3;have HK3:=Hi hk3;have hz3:=hk3.size;have hp3:=Hi ((hk3.block w.heap.size (by omega) (by omega)).trans (uh hp2))
    have hgr3:=(uh hgr2).kp (uh HK3) (by omega)
    obtain⟨it,zt,q1,q2,q3,q4,q5⟩:=infoIz;have HQ:=Hi (an q1 (an q2 (an q3 (an q4 q5))));clear q1 q2 q3 q4 q5;obtain⟨xss,hr3,hol3,hx3⟩:=hgr3.row;have hr4:=Hi hr3;have hbyt:=Hi (show (l.length+1) * 216≤140737488355328∧l.length+1≤maxLen from ⟨by omega,by unfold maxLen;omega⟩)
    have hsz4:=Hi (show w.heap.size+1≤w3.heap.size from by have:=hz3;have:=b2.size;omega)
    have hone:=Hi (hho.ow.one);have HG:=Hi (an hgr3 (an hol3 hx3));have hGO:=Hi hgo;clear hgo hgr3 hr3 hol3 hx3 hcall hEq hon hos hho hc3 hk3 hrun;unfold inpC at HP hone;unfold inpC
    go_wp2_with (first
     | (at_builtin;refine dt.zaG (by rfl) _ _ (by rfl) Tryz.underlying58 (uh HQ).1 (uh HQ).2.1 (uh HQ).2.2.1 (uh HQ).2.2.2.1 (uh HQ).2.2.2.2 (by omega) (w.heap.size+1) l.length xss.flatten _ (by rfl) (uh hr4) [.bool n1,.bool n2,.string n3,.string nm,.string tn,.string tw,.bool hd,.int .i64 k,.string tx,.bool bl,.slice a1 m1 c1,.slice a2 m2 c2,.int .i64 l1,.int .i64 o1,.slice a3 m3 c3,.int .i64 ln,.int .i64 co] (by rfl) (uh hone) w3.heap.size (by rfl) (by rfl) (uh hbyt).1 (uh hbyt).2 (uh hsz4) ?_;intro sl' w7 hr7 b7 hold7 hat7;have cP7:=(uh hPc) w7 ((b7.block w.heap.size (Nat.lt_succ_self _)).trans (uh hp3));have H7:=Hi (an hr7 (an b7 (an hold7 hat7)));clear hr7 b7 hold7 hat7))
    obtain⟨hr7,b7,hold7,hat7⟩:=uh H7;obtain⟨hgr3,hol3,hx3⟩:=uh HG;have HPo:=uh HP;have hown:=fun b (hb:(Value.slice al l.length cl).ownBlock=some b)=>(let ⟨_,hr,_⟩:=(uh hgr2).row;(hr.lt b hb).2)
    have hsz:w.heap.size≤w2.heap.size:=hk2.size;have hmore:=hgr3.more hol3 hx3 HPo.ow HPo.nd (fun b hb=>⟨by have:=(HPo.rng b hb).1;omega,by have:=(HPo.rng b hb).2;omega,fun hm=>by have:=((uh hgr2).rng b hm).2;have:=(HPo.rng b hb).1;omega,fun e=>by have:=hown b e;have:=(HPo.rng b hb).1;omega⟩) (by rfl) hr7 (by have:=(hr7.lt);have:=b7.size;exact this) hold7 hat7
    have hBs:B<w3.heap.size:=by omega
    have b7':=b7.mono (Nat.le_succ w.heap.size);have C7:=(uh HC3).low b7' hB hp;have K7:=(hk2.trans (uh HK3)).low b7';have p7:=(b7.block w.heap.size (Nat.lt_succ_self _)).trans (uh hp3);have z7:w.heap.size+1≤w7.heap.size:=by have:=b7.size;omega
    have hst7:=(uh hsp) w7 C C7
    by_cases hk:C.kd=0
    ·rw[show (C.kd != 0)=false by simpa using hk] at hst7
     have hrun3:=Hi (show brkF (optR E) right 1 g' (l ++ [d]) C=R from by have e:=uh hrun2;rw[(uh HO).2 hk] at e;exact e)
     have hix3:cc.ix<C.ix:=(uh hGO).2 hk;have hts3:=(uh hGO).1.ts;have hlt3:=(uh hGO).1.ok.lt;have hTS:=Hi hts3;have HM:=Hi hmore;rw[hts3,uh hts] at hlt3;clear hr7 b7 hold7 hat7 hgr3 hol3 hx3 hown hmore hts3 HO hGO hrun2 hk H7 hr4 HQ hbyt hsz4 hone b7';refine hst7.mono ?_
     rintro e w8 ⟨rfl,C8,K8⟩;have z8:=K8.size;clear hst7 C7
     go_wp2_with fail
     go_roundg g'
     case rel =>
      refine⟨l ++ [d],C,Gs ++ F,hrun3,C8,Hi ((uh HM).kp K8 (by omega)),K7.trans K8,Hi ((uh hTS).trans (uh hts)),by omega,by rw[List.length_append];simp;omega,Hi ((K8.block w.heap.size (by omega) (by omega)).trans p7),by omega⟩
     case measure=>exact Nat.lt_succ_self _
    ·rw[show (C.kd != 0)=true by simpa using hk] at hst7
     have hrun3:=Hi (show (none,C)=R from by have e:=uh hrun2;rw[(uh HO).1 hk] at e;exact e)
     clear hr7 b7 hold7 hat7 hgr3 hol3 hx3 hown hmore HO hGO hrun2 hk H7 hr4 HQ hbyt hsz4 hone b7';refine hst7.mono ?_
     rintro e w8 ⟨rfl,C8,K8⟩;clear hst7 C7
     go_wp2_with fail
     go_ret
     exact⟨[],C,none,0,0,[],zah (show brk (optR E) left right 1 c=(none,C) from (uh hs).trans (uh hrun3).symm),rfl,Sh.nil (lr _),C8,K7.trans K8⟩
   ·have hrun2:=Hi (show (some l,cc.cls right)=R from by
     have e:=uh hrun;rw[brkF,if_neg (fun e=>by rcases e with e | e;omega;rw[hQ] at e;cases e)] at e
     exact e)
    obtain⟨hcl2,hcs⟩:=(uh hcl) w2 cc hc2;rw[hQ] at hcl2;have hcl2:=Hi hcl2;have hNX:=Hi (fun W (k:CurAt W B p (cc.cls right))=>hc2.next k hcs)
    clear hrun hip2 hcs
    go_wp2_with fail
    refine (uh hcl2).mono ?_
    rintro e w3 ⟨rfl,hc3,hk3⟩;have hc3:=(uh hNX) _ hc3;clear hcl2
    go_wp2_with fail
    go_ret
    obtain⟨a',n',c',F',he',hSh⟩:=Sh.of (((uh hgr2).kp hk3 (by omega)).lo (Nat.le_succ _))
    injection he' with e1 e2 e3
    subst e1 e2 e3;exact⟨l,_,_,_,_,F',zah (show brk (optR E) left right 1 c=(some l,cc.cls right) from (uh hs).trans (uh hrun2).symm),rfl,hSh,hc3,hk2.trans hk3⟩
set_option maxRecDepth 4000 in
set_option maxHeartbeats 2000000 in
theorem zhg {N B p:Nat} {c:Cu} {w:World} (left right:ByteArray) (h:CurN N w B p c) :
  Calls Tryz.prog 118 #[.agg #[.pointer (some ⟨B,0,none⟩)],.string left,.string right,.func (.func 119) #[.agg #[.pointer (some ⟨B,0,none⟩)]] #[]] w fun e w'=>∃ (l:List Dt) (c':Cu) (a:Option Addr) (n cp:Nat) (F:List Nat),optT (inpT (typF N) (litF true N)) left right c=(l,c')∧e = .returned (.slice a n cp)∧Sh w' 17 l w.heap.size w'.heap.size a n cp F∧CurN N w' B p c'∧Kp B w w':=by
 have hlt:=h.lt;have hplt:=h.plt
 go_enter Tryz.func118,Tryz.ntmps118
 go_wp2_with fail
 obtain⟨W1,hW1⟩:∃ W1,W1=allocs w [(#[.pointer (some ⟨B,0,none⟩)],74)]:=⟨_,rfl⟩;have gW1:W1=(w.alloc (.cells #[.pointer (some ⟨B,0,none⟩)] 74)):=hW1;have aa:=zaq [(#[.pointer (some ⟨B,0,none⟩)],74)] w;have fP1:W1.heap[w.heap.size]? = some (.cells #[.pointer (some ⟨B,0,none⟩)] 74 (0,0)):=by rw[hW1];exact aa 0 _ rfl
 have bw:Below w.heap.size w W1:=by rw[hW1];exact zak _ _
 have sz1:w.heap.size+1≤W1.heap.size:=by rw[hW1,zal];exact lr _
 have K1:Kp B w W1:=Kp.of bw;have C1:=h.below bw;rw[← gW1];clear gW1 hW1 bw aa h;have cP2_0:W1.cell? ⟨w.heap.size,0,none⟩=some (.pointer (some ⟨B,0,none⟩)):=(zG fP1 0).trans rfl;have HH3:=Hi (an fP1 (an C1 (K1)));clear fP1 C1 K1
 go_wp2_with fail
 obtain⟨fP1,C1,K1⟩:=uh HH3;clear HH3;refine (zhX left C1).mono ?_
 rintro e W4 ⟨q,qE1,rfl,C4,J4⟩;have E1:=Hi qE1;clear qE1;have sz4:=J4.size;have fP4:W4.heap[w.heap.size]? = some (.cells #[.pointer (some ⟨B,0,none⟩)] 74 (0,0)):=(J4.block _ (by omega) (by omega)).trans fP1
 have K4:=K1.trans J4;clear fP1 K1 C1 J4 cP2_0
 cases q
 ·have HH5:=Hi (an fP4 (an C4 (K4)))
  clear fP4 C4 K4
  go_wp2_with fail
  obtain⟨fP4,C4,K4⟩:=uh HH5;clear HH5
  go_ret
  exact⟨[],c,none,0,0,[],zah (uh E1),rfl,Sh.nil (lr _),C4,K4⟩
 ·have cP5_0:W4.cell? ⟨w.heap.size,0,none⟩=some (.pointer (some ⟨B,0,none⟩)):=(zG fP4 0).trans rfl
  have HH6:=Hi (an fP4 (an C4 (K4)));clear fP4 C4 K4
  go_wp2_with fail
  obtain⟨fP4,C4,K4⟩:=uh HH6;clear HH6;refine (zns left right C4).mono ?_
  rintro e W7 ⟨l,u2,a,n,cp,F,qE2,rfl,sL7,C7,J7⟩;have E2:=Hi qE2;clear qE2;have sz7:=J7.size;have fP7:W7.heap[w.heap.size]? = some (.cells #[.pointer (some ⟨B,0,none⟩)] 74 (0,0)):=(J7.block _ (by omega) (by omega)).trans fP4
  have K7:=K4.trans J7;clear fP4 K4 C4 J7 cP5_0;have HH8:=Hi (an fP7 (an sL7 (an C7 (K7))));clear fP7 sL7 C7 K7
  go_wp2_with fail
  obtain⟨fP7,sL7,C7,K7⟩:=uh HH8;clear HH8
  go_ret
  exact⟨l,u2,a,n,cp,F,(zah (uh E1)).trans (uh E2),rfl,sL7.lo (by omega),C7,K7⟩
theorem infoFd:(Tryz.prog.info? 70).map (·.size)=some 10:=by kernel_rfl
def fdC (n1 n2:Bool) (n3 nm:ByteArray) (a1:Option Addr) (m1 c1:Nat) (tn tw:ByteArray) (a3:Option Addr) (m3 c3:Nat) (ln co:Int):List Value:=[.bool n1,.bool n2,.string n3,.string nm,.slice a1 m1 c1,.string tn,.string tw,.slice a3 m3 c3,.int .i64 ln,.int .i64 co]
theorem zpy {X:World} {n1 n2:Bool} {n3 nm tn tw:ByteArray} {a1:Option Addr} {m1 c1:Nat} {a3:Option Addr} {m3 c3:Nat} {ln co:Int} {F2 F3:List Nat} {lo lo1 hi1 lo2 hi2:Nat} {al ds:List Dt} (hA:Sh X 17 al lo1 hi1 a1 m1 c1 F2) (hD:Sh X 4 ds lo2 hi2 a3 m3 c3 F3) (g1:lo≤lo1) (g2:hi1≤lo2) (g3:lo≤lo2) (g4:lo2≤hi2) :
  ∃ F,Ho X (fdD (n1,n2,n3) (nm,ln,co) al tn tw ds) (fdC n1 n2 n3 nm a1 m1 c1 tn tw a3 m3 c3 ln co) F lo X.heap.size:=by
 have hh:=hD.hi;have h1:Ho X (.lst 4 (Dt.of ds) (.val (.int .i64 ln) (.val (.int .i64 co) .nil))) [.slice a3 m3 c3,.int .i64 ln,.int .i64 co] (F3 ++ []) lo2 X.heap.size:=Ho.lst hD (mid:=hi2) (Ho.val rfl (Ho.val rfl (Ho.nil (lr _)))) (lr _) (lr _) g4 hh;have h2:=Ho.val (x:=.string tn) rfl (Ho.val (x:=.string tw) rfl h1);have h3:=Ho.lst (lo:=lo) hA h2 g1 g2 g3 (by omega)
 exact⟨_,Ho.val (x:=.bool n1) rfl (Ho.val (x:=.bool n2) rfl (Ho.val (x:=.string n3) rfl (Ho.val (x:=.string nm) rfl h3)))⟩
section
variable {N B p:Nat} {c:Cu} {w:World}
set_option maxRecDepth 4000 in
set_option maxHeartbeats 4000000 in
theorem zqW (h:CurN N w B p c):Calls Tryz.prog 114 #[.agg #[.pointer (some ⟨B,0,none⟩)]] w fun e w'=>∃ (d:Dt) (c':Cu) (n1 n2:Bool) (n3 nm:ByteArray) (a1:Option Addr) (m1 c1:Nat) (tn tw:ByteArray) (a3:Option Addr) (m3 c3:Nat) (ln co:Int) (F:List Nat),fdT (typF N) (litF true N) c=(d,c')∧e = .returned (.agg (fdC n1 n2 n3 nm a1 m1 c1 tn tw a3 m3 c3 ln co).toArray)∧Ho w' d (fdC n1 n2 n3 nm a1 m1 c1 tn tw a3 m3 c3 ln co) F w.heap.size w'.heap.size∧CurN N w' B p c'∧Kp B w w':=by
 have hlt:=h.lt;have hplt:=h.plt
 go_enter Tryz.func114,Tryz.ntmps114
 go_wp2_with fail
 obtain⟨W1,hW1⟩:∃ W1,W1=allocs w [(#[.pointer (some ⟨B,0,none⟩)],74),(#[.bool false,.bool false,.string ⟨#[]⟩,.string ⟨#[]⟩,.slice none 0 0,.string ⟨#[]⟩,.string ⟨#[]⟩,.slice none 0 0,.int .i64 0,.int .i64 0],70)]:=⟨_,rfl⟩;have gW1:W1=((w.alloc (.cells #[.pointer (some ⟨B,0,none⟩)] 74)).alloc (.cells #[.bool false,.bool false,.string ⟨#[]⟩,.string ⟨#[]⟩,.slice none 0 0,.string ⟨#[]⟩,.string ⟨#[]⟩,.slice none 0 0,.int .i64 0,.int .i64 0] 70)):=hW1
 have aa:=zaq [(#[.pointer (some ⟨B,0,none⟩)],74),(#[.bool false,.bool false,.string ⟨#[]⟩,.string ⟨#[]⟩,.slice none 0 0,.string ⟨#[]⟩,.string ⟨#[]⟩,.slice none 0 0,.int .i64 0,.int .i64 0],70)] w;have fP1:W1.heap[w.heap.size]? = some (.cells #[.pointer (some ⟨B,0,none⟩)] 74 (0,0)):=by rw[hW1];exact aa 0 _ rfl
 have fR1:W1.heap[(w.heap.size+1)]? = some (.cells #[.bool false,.bool false,.string ⟨#[]⟩,.string ⟨#[]⟩,.slice none 0 0,.string ⟨#[]⟩,.string ⟨#[]⟩,.slice none 0 0,.int .i64 0,.int .i64 0] 70 (0,0)):=by rw[hW1];exact aa 1 _ rfl
 have bw:Below w.heap.size w W1:=by rw[hW1];exact zak _ _
 have sz1:w.heap.size+2≤W1.heap.size:=by rw[hW1,zal];exact lr _
 have K1:Kp B w W1:=Kp.of bw;have C1:=h.below bw;rw[← gW1];clear gW1 hW1 bw aa h;have cP2_0:W1.cell? ⟨w.heap.size,0,none⟩=some (.pointer (some ⟨B,0,none⟩)):=(zG fP1 0).trans rfl;have HH3:=Hi (an fP1 (an fR1 (an C1 (K1))));clear fP1 fR1 C1 K1
 go_wp2_with fail
 obtain⟨fP1,fR1,C1,K1⟩:=uh HH3;clear HH3;refine (zfJ C1).mono ?_
 rintro e W4 ⟨n1,n2,n3,k1,u1,qE1,rfl,C4,J4⟩;have E1:=Hi qE1;clear qE1;have sz4:=J4.size;have fP4:W4.heap[w.heap.size]? = some (.cells #[.pointer (some ⟨B,0,none⟩)] 74 (0,0)):=(J4.block _ (by omega) (by omega)).trans fP1
 have fR4:W4.heap[(w.heap.size+1)]? = some (.cells #[.bool false,.bool false,.string ⟨#[]⟩,.string ⟨#[]⟩,.slice none 0 0,.string ⟨#[]⟩,.string ⟨#[]⟩,.slice none 0 0,.int .i64 0,.int .i64 0] 70 (0,0)):=(J4.block _ (by omega) (by omega)).trans fR1
 have K4:=K1.trans J4;clear fP1 fR1 K1 C1 J4 cP2_0;have fP5:(W4.alloc (.cells #[.bool n1,.bool n2,.string n3] 54)).heap[w.heap.size]? = some (.cells #[.pointer (some ⟨B,0,none⟩)] 74 (0,0)):=(Below.heap_alloc W4 _ _ (by omega)).trans fP4
 have fR5:(W4.alloc (.cells #[.bool n1,.bool n2,.string n3] 54)).heap[(w.heap.size+1)]? = some (.cells #[.bool false,.bool false,.string ⟨#[]⟩,.string ⟨#[]⟩,.slice none 0 0,.string ⟨#[]⟩,.string ⟨#[]⟩,.slice none 0 0,.int .i64 0,.int .i64 0] 70 (0,0)):=(Below.heap_alloc W4 _ _ (by omega)).trans fR4
 have fN5:(W4.alloc (.cells #[.bool n1,.bool n2,.string n3] 54)).heap[W4.heap.size]? = some (.cells #[.bool n1,.bool n2,.string n3] 54 (0,0)):=heap_alloc_new _ _;have bb5:Below W4.heap.size W4 (W4.alloc (.cells #[.bool n1,.bool n2,.string n3] 54)):=ba;have C5:=C4.below bb5;have K5:=K4.trans (Kp.of bb5);have cP6_0:(W4.alloc (.cells #[.bool n1,.bool n2,.string n3] 54)).cell? ⟨w.heap.size,0,none⟩=some (.pointer (some ⟨B,0,none⟩)):=(zG fP5 0).trans rfl
 have HH7:=Hi (an fP5 (an fR5 (an fN5 (an C5 (an K5 (an fP4 (an fR4 (an K4 (C4)))))))));clear fP5 fR5 fN5 C5 K5 fP4 fR4 K4 C4
 go_wp2_with fail
 obtain⟨fP5,fR5,fN5,C5,K5,fP4,fR4,K4,C4⟩:=uh HH7;clear HH7;obtain⟨W8,hW8⟩:∃ W8,W8=(W4.alloc (.cells #[.bool n1,.bool n2,.string n3] 54)):=⟨_,rfl⟩;rw[← hW8] at fP5 fR5 fN5 C5 K5 ⊢;have sz8:W4.heap.size+1≤W8.heap.size:=by rw[hW8];simp only[zaf,dt.zaa,World.size_alloc];exact lr _
 clear hW8 cP6_0 fP4 fR4 K4 C4;refine (zex C5).mono ?_
 rintro e W9 ⟨nm,ln,co,u2,qE2,rfl,C9,J9⟩;have E2:=Hi qE2;clear qE2;have sz9:=J9.size;have fP9:W9.heap[w.heap.size]? = some (.cells #[.pointer (some ⟨B,0,none⟩)] 74 (0,0)):=(J9.block _ (by omega) (by omega)).trans fP5
 have fR9:W9.heap[(w.heap.size+1)]? = some (.cells #[.bool false,.bool false,.string ⟨#[]⟩,.string ⟨#[]⟩,.slice none 0 0,.string ⟨#[]⟩,.string ⟨#[]⟩,.slice none 0 0,.int .i64 0,.int .i64 0] 70 (0,0)):=(J9.block _ (by omega) (by omega)).trans fR5
 have fN9:W9.heap[W4.heap.size]? = some (.cells #[.bool n1,.bool n2,.string n3] 54 (0,0)):=(J9.block _ (by omega) (by omega)).trans fN5
 have K9:=K5.trans J9;clear fP5 fR5 fN5 K5 C5 J9;have cN10_0:W9.cell? ⟨W4.heap.size,0,none⟩=some (.bool n1):=(zG fN9 0).trans rfl;have cN10_1:W9.cell? ⟨W4.heap.size,1,none⟩=some (.bool n2):=(zG fN9 1).trans rfl;have cN10_2:W9.cell? ⟨W4.heap.size,2,none⟩=some (.string n3):=(zG fN9 2).trans rfl;have fP11:(W9.alloc (.cells #[.string nm,.int .i64 ln,.int .i64 co] 92)).heap[w.heap.size]? = some (.cells #[.pointer (some ⟨B,0,none⟩)] 74 (0,0)):=(Below.heap_alloc W9 _ _ (by omega)).trans fP9
 have fR11:(W9.alloc (.cells #[.string nm,.int .i64 ln,.int .i64 co] 92)).heap[(w.heap.size+1)]? = some (.cells #[.bool false,.bool false,.string ⟨#[]⟩,.string ⟨#[]⟩,.slice none 0 0,.string ⟨#[]⟩,.string ⟨#[]⟩,.slice none 0 0,.int .i64 0,.int .i64 0] 70 (0,0)):=(Below.heap_alloc W9 _ _ (by omega)).trans fR9
 have fN11:(W9.alloc (.cells #[.string nm,.int .i64 ln,.int .i64 co] 92)).heap[W4.heap.size]? = some (.cells #[.bool n1,.bool n2,.string n3] 54 (0,0)):=(Below.heap_alloc W9 _ _ (by omega)).trans fN9
 have fM11:(W9.alloc (.cells #[.string nm,.int .i64 ln,.int .i64 co] 92)).heap[W9.heap.size]? = some (.cells #[.string nm,.int .i64 ln,.int .i64 co] 92 (0,0)):=heap_alloc_new _ _;have bb11:Below W9.heap.size W9 (W9.alloc (.cells #[.string nm,.int .i64 ln,.int .i64 co] 92)):=ba;have C11:=C9.below bb11;have K11:=K9.trans (Kp.of bb11);have cM12_0:(W9.alloc (.cells #[.string nm,.int .i64 ln,.int .i64 co] 92)).cell? ⟨W9.heap.size,0,none⟩=some (.string nm):=(zG fM11 0).trans rfl
 have cM12_1:(W9.alloc (.cells #[.string nm,.int .i64 ln,.int .i64 co] 92)).cell? ⟨W9.heap.size,1,none⟩=some (.int .i64 ln):=(zG fM11 1).trans rfl;have cM12_2:(W9.alloc (.cells #[.string nm,.int .i64 ln,.int .i64 co] 92)).cell? ⟨W9.heap.size,2,none⟩=some (.int .i64 co):=(zG fM11 2).trans rfl;have cN13_0:(W9.alloc (.cells #[.string nm,.int .i64 ln,.int .i64 co] 92)).cell? ⟨W4.heap.size,0,none⟩=some (.bool n1):=(zG fN11 0).trans rfl
 have cN13_1:(W9.alloc (.cells #[.string nm,.int .i64 ln,.int .i64 co] 92)).cell? ⟨W4.heap.size,1,none⟩=some (.bool n2):=(zG fN11 1).trans rfl;have cN13_2:(W9.alloc (.cells #[.string nm,.int .i64 ln,.int .i64 co] 92)).cell? ⟨W4.heap.size,2,none⟩=some (.string n3):=(zG fN11 2).trans rfl;have fP14:((W9.alloc (.cells #[.string nm,.int .i64 ln,.int .i64 co] 92)).alloc (.cells #[.bool n1,.bool n2,.string n3,.string nm,.slice none 0 0,.string ⟨#[]⟩,.string ⟨#[]⟩,.slice none 0 0,.int .i64 ln,.int .i64 co] 70)).heap[w.heap.size]? = some (.cells #[.pointer (some ⟨B,0,none⟩)] 74 (0,0)):=(Below.heap_alloc (W9.alloc (.cells #[.string nm,.int .i64 ln,.int .i64 co] 92)) _ _ (by simp only[World.size_alloc,zaf,dt.zaa];omega)).trans fP11
 have fR14:((W9.alloc (.cells #[.string nm,.int .i64 ln,.int .i64 co] 92)).alloc (.cells #[.bool n1,.bool n2,.string n3,.string nm,.slice none 0 0,.string ⟨#[]⟩,.string ⟨#[]⟩,.slice none 0 0,.int .i64 ln,.int .i64 co] 70)).heap[(w.heap.size+1)]? = some (.cells #[.bool false,.bool false,.string ⟨#[]⟩,.string ⟨#[]⟩,.slice none 0 0,.string ⟨#[]⟩,.string ⟨#[]⟩,.slice none 0 0,.int .i64 0,.int .i64 0] 70 (0,0)):=(Below.heap_alloc (W9.alloc (.cells #[.string nm,.int .i64 ln,.int .i64 co] 92)) _ _ (by simp only[World.size_alloc,zaf,dt.zaa];omega)).trans fR11
 have fN14:((W9.alloc (.cells #[.string nm,.int .i64 ln,.int .i64 co] 92)).alloc (.cells #[.bool n1,.bool n2,.string n3,.string nm,.slice none 0 0,.string ⟨#[]⟩,.string ⟨#[]⟩,.slice none 0 0,.int .i64 ln,.int .i64 co] 70)).heap[W4.heap.size]? = some (.cells #[.bool n1,.bool n2,.string n3] 54 (0,0)):=(Below.heap_alloc (W9.alloc (.cells #[.string nm,.int .i64 ln,.int .i64 co] 92)) _ _ (by simp only[World.size_alloc,zaf,dt.zaa];omega)).trans fN11
 have fM14:((W9.alloc (.cells #[.string nm,.int .i64 ln,.int .i64 co] 92)).alloc (.cells #[.bool n1,.bool n2,.string n3,.string nm,.slice none 0 0,.string ⟨#[]⟩,.string ⟨#[]⟩,.slice none 0 0,.int .i64 ln,.int .i64 co] 70)).heap[W9.heap.size]? = some (.cells #[.string nm,.int .i64 ln,.int .i64 co] 92 (0,0)):=(Below.heap_alloc (W9.alloc (.cells #[.string nm,.int .i64 ln,.int .i64 co] 92)) _ _ (by simp only[World.size_alloc,zaf,dt.zaa];omega)).trans fM11
 have fS14:((W9.alloc (.cells #[.string nm,.int .i64 ln,.int .i64 co] 92)).alloc (.cells #[.bool n1,.bool n2,.string n3,.string nm,.slice none 0 0,.string ⟨#[]⟩,.string ⟨#[]⟩,.slice none 0 0,.int .i64 ln,.int .i64 co] 70)).heap[(W9.heap.size+1)]? = some (.cells #[.bool n1,.bool n2,.string n3,.string nm,.slice none 0 0,.string ⟨#[]⟩,.string ⟨#[]⟩,.slice none 0 0,.int .i64 ln,.int .i64 co] 70 (0,0)):=by have hh:=heap_alloc_new (W9.alloc (.cells #[.string nm,.int .i64 ln,.int .i64 co] 92)) (.cells #[.bool n1,.bool n2,.string n3,.string nm,.slice none 0 0,.string ⟨#[]⟩,.string ⟨#[]⟩,.slice none 0 0,.int .i64 ln,.int .i64 co] 70);simp only[World.size_alloc,zaf,dt.zaa] at hh;exact hh
 have bb14:Below (W9.alloc (.cells #[.string nm,.int .i64 ln,.int .i64 co] 92)).heap.size (W9.alloc (.cells #[.string nm,.int .i64 ln,.int .i64 co] 92)) ((W9.alloc (.cells #[.string nm,.int .i64 ln,.int .i64 co] 92)).alloc (.cells #[.bool n1,.bool n2,.string n3,.string nm,.slice none 0 0,.string ⟨#[]⟩,.string ⟨#[]⟩,.slice none 0 0,.int .i64 ln,.int .i64 co] 70)):=ba;have C14:=C11.below bb14
 have K14:=K11.trans (Kp.of bb14);have cP15_0:((W9.alloc (.cells #[.string nm,.int .i64 ln,.int .i64 co] 92)).alloc (.cells #[.bool n1,.bool n2,.string n3,.string nm,.slice none 0 0,.string ⟨#[]⟩,.string ⟨#[]⟩,.slice none 0 0,.int .i64 ln,.int .i64 co] 70)).cell? ⟨w.heap.size,0,none⟩=some (.pointer (some ⟨B,0,none⟩)):=(zG fP14 0).trans rfl;have HH16:=Hi (an fP14 (an fR14 (an fN14 (an fM14 (an fS14 (an C14 (an K14 (an fP9 (an fR9 (an fN9 (an K9 (an C9 (an fP11 (an fR11 (an fN11 (an fM11 (an K11 (C11))))))))))))))))))
 clear fP14 fR14 fN14 fM14 fS14 C14 K14 fP9 fR9 fN9 K9 C9 fP11 fR11 fN11 fM11 K11 C11
 go_wp2_with fail
 obtain⟨fP14,fR14,fN14,fM14,fS14,C14,K14,fP9,fR9,fN9,K9,C9,fP11,fR11,fN11,fM11,K11,C11⟩:=uh HH16;clear HH16;obtain⟨W17,hW17⟩:∃ W17,W17=((W9.alloc (.cells #[.string nm,.int .i64 ln,.int .i64 co] 92)).alloc (.cells #[.bool n1,.bool n2,.string n3,.string nm,.slice none 0 0,.string ⟨#[]⟩,.string ⟨#[]⟩,.slice none 0 0,.int .i64 ln,.int .i64 co] 70)):=⟨_,rfl⟩;rw[← hW17] at fP14 fR14 fN14 fM14 fS14 C14 K14 ⊢
 have sz17:W9.heap.size+2≤W17.heap.size:=by rw[hW17];simp only[zaf,dt.zaa,World.size_alloc];exact lr _
 clear hW17 cN10_0 cN10_1 cN10_2 cM12_0 cM12_1 cM12_2 cN13_0 cN13_1 cN13_2 cP15_0 fP9 fR9 fN9 K9 C9 fP11 fR11 fN11 fM11 K11 C11;clear fN14;clear fM14;refine (zhg ⟨#[40]⟩ ⟨#[41]⟩ C14).mono ?_
 rintro e W18 ⟨al,u3,a1,m1,c1,F1,qE3,rfl,sA18,C18,J18⟩;have E3:=Hi qE3;clear qE3;have sz18:=J18.size;have fP18:W18.heap[w.heap.size]? = some (.cells #[.pointer (some ⟨B,0,none⟩)] 74 (0,0)):=(J18.block _ (by omega) (by omega)).trans fP14
 have fR18:W18.heap[(w.heap.size+1)]? = some (.cells #[.bool false,.bool false,.string ⟨#[]⟩,.string ⟨#[]⟩,.slice none 0 0,.string ⟨#[]⟩,.string ⟨#[]⟩,.slice none 0 0,.int .i64 0,.int .i64 0] 70 (0,0)):=(J18.block _ (by omega) (by omega)).trans fR14
 have fS18:W18.heap[(W9.heap.size+1)]? = some (.cells #[.bool n1,.bool n2,.string n3,.string nm,.slice none 0 0,.string ⟨#[]⟩,.string ⟨#[]⟩,.slice none 0 0,.int .i64 ln,.int .i64 co] 70 (0,0)):=(J18.block _ (by omega) (by omega)).trans fS14
 have K18:=K14.trans J18;clear fP14 fR14 fS14 K14 C14 J18;have cS20_4:W18.cell? ⟨(W9.heap.size+1),4,none⟩=some (.slice none 0 0):=(zG fS18 4).trans rfl;have zS20_4:W18.frozen? ⟨(W9.heap.size+1),4,none⟩=false:=dt.zag fS18 4;have fP19:(W18.setCell ⟨(W9.heap.size+1),4,none⟩ (.slice a1 m1 c1)).heap[w.heap.size]? = some (.cells #[.pointer (some ⟨B,0,none⟩)] 74 (0,0)):=(Below.heap_setCell W18 _ _ _ (show w.heap.size ≠ (W9.heap.size+1) by omega)).trans fP18
 have fR19:(W18.setCell ⟨(W9.heap.size+1),4,none⟩ (.slice a1 m1 c1)).heap[(w.heap.size+1)]? = some (.cells #[.bool false,.bool false,.string ⟨#[]⟩,.string ⟨#[]⟩,.slice none 0 0,.string ⟨#[]⟩,.string ⟨#[]⟩,.slice none 0 0,.int .i64 0,.int .i64 0] 70 (0,0)):=(Below.heap_setCell W18 _ _ _ (show (w.heap.size+1) ≠ (W9.heap.size+1) by omega)).trans fR18
 have fS19:(W18.setCell ⟨(W9.heap.size+1),4,none⟩ (.slice a1 m1 c1)).heap[(W9.heap.size+1)]? = some (.cells #[.bool n1,.bool n2,.string n3,.string nm,.slice a1 m1 c1,.string ⟨#[]⟩,.string ⟨#[]⟩,.slice none 0 0,.int .i64 ln,.int .i64 co] 70 (0,0)):=(dt.zac fS18 4 _).trans (by kernel_rfl)
 have C19:=C18.outC (b:=(W9.heap.size+1)) (by omega) (by omega) 4 (.slice a1 m1 c1)
 have K19:=K18.setB (b:=(W9.heap.size+1)) (by omega) 4 (.slice a1 m1 c1)
 have sA19:=sA18.outC (b:=(W9.heap.size+1)) (by omega) 4 (.slice a1 m1 c1)
 have cP21_0:(W18.setCell ⟨(W9.heap.size+1),4,none⟩ (.slice a1 m1 c1)).cell? ⟨w.heap.size,0,none⟩=some (.pointer (some ⟨B,0,none⟩)):=(zG fP19 0).trans rfl;have HH22:=Hi (an fP19 (an fR19 (an fS19 (an sA19 (an C19 (an K19 (an fP18 (an fR18 (an fS18 (an sA18 (an K18 (C18))))))))))));clear fP19 fR19 fS19 sA19 C19 K19 fP18 fR18 fS18 sA18 K18 C18
 go_wp2_with fail
 obtain⟨fP19,fR19,fS19,sA19,C19,K19,fP18,fR18,fS18,sA18,K18,C18⟩:=uh HH22;clear HH22;obtain⟨W23,hW23⟩:∃ W23,W23=(W18.setCell ⟨(W9.heap.size+1),4,none⟩ (.slice a1 m1 c1)):=⟨_,rfl⟩;rw[← hW23] at fP19 fR19 fS19 sA19 C19 K19 ⊢;have sz23:W18.heap.size+0≤W23.heap.size:=by rw[hW23];simp only[zaf,dt.zaa,World.size_alloc];exact lr _
 clear hW23 cS20_4 zS20_4 cP21_0 fP18 fR18 fS18 sA18 K18 C18;refine (zfZ bCol C19).mono ?_
 rintro e W24 ⟨u4,k4,qE4,rfl,C24,J24⟩;have E4:=Hi qE4;clear qE4;have sz24:=J24.size;have fP24:W24.heap[w.heap.size]? = some (.cells #[.pointer (some ⟨B,0,none⟩)] 74 (0,0)):=(J24.block _ (by omega) (by omega)).trans fP19
 have fR24:W24.heap[(w.heap.size+1)]? = some (.cells #[.bool false,.bool false,.string ⟨#[]⟩,.string ⟨#[]⟩,.slice none 0 0,.string ⟨#[]⟩,.string ⟨#[]⟩,.slice none 0 0,.int .i64 0,.int .i64 0] 70 (0,0)):=(J24.block _ (by omega) (by omega)).trans fR19
 have fS24:W24.heap[(W9.heap.size+1)]? = some (.cells #[.bool n1,.bool n2,.string n3,.string nm,.slice a1 m1 c1,.string ⟨#[]⟩,.string ⟨#[]⟩,.slice none 0 0,.int .i64 ln,.int .i64 co] 70 (0,0)):=(J24.block _ (by omega) (by omega)).trans fS19
 have sA24:=sA19.kp J24 (by omega)
 have K24:=K19.trans J24;clear fP19 fR19 fS19 sA19 K19 C19 J24;have cP25_0:W24.cell? ⟨w.heap.size,0,none⟩=some (.pointer (some ⟨B,0,none⟩)):=(zG fP24 0).trans rfl;have HH26:=Hi (an fP24 (an fR24 (an fS24 (an sA24 (an C24 (K24))))));clear fP24 fR24 fS24 sA24 C24 K24
 go_wp2_with fail
 obtain⟨fP24,fR24,fS24,sA24,C24,K24⟩:=uh HH26;clear HH26;refine (znd C24).mono ?_
 rintro e W27 ⟨ty,tn,tw,u5,k5,qE5,qE5n,qE5w,rfl,C27,J27⟩;have E5:=Hi qE5;clear qE5;have E5n:=Hi qE5n;clear qE5n;have E5w:=Hi qE5w;clear qE5w;have sz27:=J27.size;have fP27:W27.heap[w.heap.size]? = some (.cells #[.pointer (some ⟨B,0,none⟩)] 74 (0,0)):=(J27.block _ (by omega) (by omega)).trans fP24
 have fR27:W27.heap[(w.heap.size+1)]? = some (.cells #[.bool false,.bool false,.string ⟨#[]⟩,.string ⟨#[]⟩,.slice none 0 0,.string ⟨#[]⟩,.string ⟨#[]⟩,.slice none 0 0,.int .i64 0,.int .i64 0] 70 (0,0)):=(J27.block _ (by omega) (by omega)).trans fR24
 have fS27:W27.heap[(W9.heap.size+1)]? = some (.cells #[.bool n1,.bool n2,.string n3,.string nm,.slice a1 m1 c1,.string ⟨#[]⟩,.string ⟨#[]⟩,.slice none 0 0,.int .i64 ln,.int .i64 co] 70 (0,0)):=(J27.block _ (by omega) (by omega)).trans fS24
 have sA27:=sA24.kp J27 (by omega)
 have K27:=K24.trans J27;clear fP24 fR24 fS24 sA24 K24 C24 J27 cP25_0;have HT28:=Hi (dt.zab fS27 (o:=5) (n:=2) (by first | decide | simp))
 have fP28:(W27.setCells (W9.heap.size+1) 5 [.string tn,.string tw]).heap[w.heap.size]? = some (.cells #[.pointer (some ⟨B,0,none⟩)] 74 (0,0)):=(dt.zai (W9.heap.size+1) _ (show w.heap.size ≠ (W9.heap.size+1) by omega) _ 5 W27).trans fP27
 have fR28:(W27.setCells (W9.heap.size+1) 5 [.string tn,.string tw]).heap[(w.heap.size+1)]? = some (.cells #[.bool false,.bool false,.string ⟨#[]⟩,.string ⟨#[]⟩,.slice none 0 0,.string ⟨#[]⟩,.string ⟨#[]⟩,.slice none 0 0,.int .i64 0,.int .i64 0] 70 (0,0)):=(dt.zai (W9.heap.size+1) _ (show (w.heap.size+1) ≠ (W9.heap.size+1) by omega) _ 5 W27).trans fR27
 have fS28:(W27.setCells (W9.heap.size+1) 5 [.string tn,.string tw]).heap[(W9.heap.size+1)]? = some (.cells #[.bool n1,.bool n2,.string n3,.string nm,.slice a1 m1 c1,.string tn,.string tw,.slice none 0 0,.int .i64 ln,.int .i64 co] 70 (0,0)):=(dt.zaD [.string tn,.string tw] 5 W27 _ fS27).trans (by kernel_rfl)
 have C28:=C27.out (b:=(W9.heap.size+1)) (by omega) (by omega) 5 [.string tn,.string tw]
 have K28:=K27.out (b:=(W9.heap.size+1)) (by omega) 5 [.string tn,.string tw]
 have sA28:=sA27.out (b:=(W9.heap.size+1)) (by omega) 5 [.string tn,.string tw]
 have cP29_0:(W27.setCells (W9.heap.size+1) 5 [.string tn,.string tw]).cell? ⟨w.heap.size,0,none⟩=some (.pointer (some ⟨B,0,none⟩)):=(zG fP28 0).trans rfl;have HH30:=Hi (an fP28 (an fR28 (an fS28 (an sA28 (an C28 (an K28 (an fP27 (an fR27 (an fS27 (an sA27 (an K27 (C27))))))))))));clear fP28 fR28 fS28 sA28 C28 K28 fP27 fR27 fS27 sA27 K27 C27
 go_wp2_with (first
  | refine wpList_store_mid (by rfl) 68 _ _ (by rfl) (W9.heap.size+1) 5 #[.string tn,.string tw] (by rfl) (by rfl) (uh HT28) infoTr (dt.zae (cs:=[.string tn,.string tw]) (by rfl)) ?_)
 obtain⟨fP28,fR28,fS28,sA28,C28,K28,fP27,fR27,fS27,sA27,K27,C27⟩:=uh HH30;clear HH30;obtain⟨W31,hW31⟩:∃ W31,W31=(W27.setCells (W9.heap.size+1) 5 [.string tn,.string tw]):=⟨_,rfl⟩;rw[← hW31] at fP28 fR28 fS28 sA28 C28 K28 ⊢;have sz31:W27.heap.size+0≤W31.heap.size:=by rw[hW31];simp only[zaf,dt.zaa,World.size_alloc];exact lr _
 clear hW31 cP29_0 fP27 fR27 fS27 sA27 K27 C27;refine (zbn C28).mono ?_
 rintro e W32 ⟨ds,u7,a3,m3,c3,F3,k7,qE7,rfl,sD32,C32,J32⟩;have E7:=Hi qE7;clear qE7;have sz32:=J32.size;have fP32:W32.heap[w.heap.size]? = some (.cells #[.pointer (some ⟨B,0,none⟩)] 74 (0,0)):=(J32.block _ (by omega) (by omega)).trans fP28
 have fR32:W32.heap[(w.heap.size+1)]? = some (.cells #[.bool false,.bool false,.string ⟨#[]⟩,.string ⟨#[]⟩,.slice none 0 0,.string ⟨#[]⟩,.string ⟨#[]⟩,.slice none 0 0,.int .i64 0,.int .i64 0] 70 (0,0)):=(J32.block _ (by omega) (by omega)).trans fR28
 have fS32:W32.heap[(W9.heap.size+1)]? = some (.cells #[.bool n1,.bool n2,.string n3,.string nm,.slice a1 m1 c1,.string tn,.string tw,.slice none 0 0,.int .i64 ln,.int .i64 co] 70 (0,0)):=(J32.block _ (by omega) (by omega)).trans fS28
 have sA32:=sA28.kp J32 (by omega)
 have K32:=K28.trans J32;clear fP28 fR28 fS28 sA28 K28 C28 J32;have cS34_7:W32.cell? ⟨(W9.heap.size+1),7,none⟩=some (.slice none 0 0):=(zG fS32 7).trans rfl;have zS34_7:W32.frozen? ⟨(W9.heap.size+1),7,none⟩=false:=dt.zag fS32 7;have fP33:(W32.setCell ⟨(W9.heap.size+1),7,none⟩ (.slice a3 m3 c3)).heap[w.heap.size]? = some (.cells #[.pointer (some ⟨B,0,none⟩)] 74 (0,0)):=(Below.heap_setCell W32 _ _ _ (show w.heap.size ≠ (W9.heap.size+1) by omega)).trans fP32
 have fR33:(W32.setCell ⟨(W9.heap.size+1),7,none⟩ (.slice a3 m3 c3)).heap[(w.heap.size+1)]? = some (.cells #[.bool false,.bool false,.string ⟨#[]⟩,.string ⟨#[]⟩,.slice none 0 0,.string ⟨#[]⟩,.string ⟨#[]⟩,.slice none 0 0,.int .i64 0,.int .i64 0] 70 (0,0)):=(Below.heap_setCell W32 _ _ _ (show (w.heap.size+1) ≠ (W9.heap.size+1) by omega)).trans fR32
 have fS33:(W32.setCell ⟨(W9.heap.size+1),7,none⟩ (.slice a3 m3 c3)).heap[(W9.heap.size+1)]? = some (.cells #[.bool n1,.bool n2,.string n3,.string nm,.slice a1 m1 c1,.string tn,.string tw,.slice a3 m3 c3,.int .i64 ln,.int .i64 co] 70 (0,0)):=(dt.zac fS32 7 _).trans (by kernel_rfl)
 have C33:=C32.outC (b:=(W9.heap.size+1)) (by omega) (by omega) 7 (.slice a3 m3 c3)
 have K33:=K32.setB (b:=(W9.heap.size+1)) (by omega) 7 (.slice a3 m3 c3)
 have sA33:=sA32.outC (b:=(W9.heap.size+1)) (by omega) 7 (.slice a3 m3 c3)
 have sD33:=sD32.outC (b:=(W9.heap.size+1)) (by omega) 7 (.slice a3 m3 c3)
 have HT:=Hi (dt.zab fR33 (o:=0) (n:=10) (by decide))
 have RS:=Hi (dt.zav fS33 0 [.bool n1,.bool n2,.string n3,.string nm,.slice a1 m1 c1,.string tn,.string tw,.slice a3 m3 c3,.int .i64 ln,.int .i64 co] (fun j u hu=>by rw[Nat.zero_add];simpa using hu))
 have HF:=Hi (an C33 (an K33 (an sA33 (sD33))));clear C33 K33 sA33 sD33 fP32 fR32 fS32 sA32 sD32 K32 C32
 go_wp2_with (first
  | refine wpList_load_mid (by rfl) 70 _ (by rfl) (W9.heap.size+1) 0 (by rfl) [.bool n1,.bool n2,.string n3,.string nm,.slice a1 m1 c1,.string tn,.string tw,.slice a3 m3 c3,.int .i64 ln,.int .i64 co] _ (uh RS) Tryz.underlying70 (by rfl) infoFd ?_
  | refine wpList_store_mid (by rfl) 70 _ _ (by rfl) (w.heap.size+1) 0 ([.bool n1,.bool n2,.string n3,.string nm,.slice a1 m1 c1,.string tn,.string tw,.slice a3 m3 c3,.int .i64 ln,.int .i64 co]:List Value).toArray (by rfl) (by rfl) (uh HT) infoFd (dt.zae (cs:=[.bool n1,.bool n2,.string n3,.string nm,.slice a1 m1 c1,.string tn,.string tw,.slice a3 m3 c3,.int .i64 ln,.int .i64 co]) (by rfl)) ?_)
 refine bodyPost_ret (rgn.zao rfl _ _ (w.heap.size+1) 0 [.bool n1,.bool n2,.string n3,.string nm,.slice a1 m1 c1,.string tn,.string tw,.slice a3 m3 c3,.int .i64 ln,.int .i64 co] _ rfl (World.rangeAt_setCells_same _ _ _ _ (uh HT)) Tryz.underlying70 rfl infoFd) rfl ?_
 obtain⟨C33,K33,sA33,sD33⟩:=uh HF;have hC:=C33.out (b:=(w.heap.size+1)) (by omega) (by omega) 0 [.bool n1,.bool n2,.string n3,.string nm,.slice a1 m1 c1,.string tn,.string tw,.slice a3 m3 c3,.int .i64 ln,.int .i64 co]
 have hK:=K33.out (b:=(w.heap.size+1)) (by omega) 0 [.bool n1,.bool n2,.string n3,.string nm,.slice a1 m1 c1,.string tn,.string tw,.slice a3 m3 c3,.int .i64 ln,.int .i64 co]
 have hA:=sA33.out (b:=(w.heap.size+1)) (by omega) 0 [.bool n1,.bool n2,.string n3,.string nm,.slice a1 m1 c1,.string tn,.string tw,.slice a3 m3 c3,.int .i64 ln,.int .i64 co]
 have hD:=sD33.out (b:=(w.heap.size+1)) (by omega) 0 [.bool n1,.bool n2,.string n3,.string nm,.slice a1 m1 c1,.string tn,.string tw,.slice a3 m3 c3,.int .i64 ln,.int .i64 co]
 have hfin:fdT (typF N) (litF true N) c=(fdD (n1,n2,n3) (nm,ln,co) al tn tw (ds.getD []),u7):=by
  unfold fdT;rw[zah (uh E1),zah (uh E2),zah (show optT (inpT (typF N) (litF true N)) bLp bRp u2=(al,u3) from uh E3),zah (uh E4),zah (uh E5),zah (uh E7),uh E5n,uh E5w]
  rfl
 obtain⟨F9,hF9⟩:=zpy (n1:=n1) (n2:=n2) (n3:=n3) (nm:=nm) (tn:=tn) (tw:=tw) (ln:=ln) (co:=co) (lo:=w.heap.size) hA hD (by omega) (by omega) (by omega) (by omega)
 exact⟨_,u7,_,_,_,_,_,_,_,_,_,_,_,_,_,_,F9,hfin,rfl,hF9,hC,hK⟩
end
theorem fd_m (N:Nat):Dm (fdT (typF N) (litF true N)):=zdx.bnd fun _=>zdL.bnd fun _=>(ze9 _ _ _).bnd fun _=>(zcA _).bnd fun _=>(zff N).bnd fun _=>(zbU _).bnd fun _=>za3 _
theorem infoFdz:∃ i z,Tryz.prog.info? 70=some i∧i.zero=some z∧i.size=10∧i.bytes=136∧z.cells.size=10:=by
 have hin:(Tryz.prog.info? 70).map (fun i=>(i.bytes,i.size,i.zero.map (·.cells.size)))=some (136,10,some 10):=by kernel_rfl
 cases hq:Tryz.prog.info? 70 with
 | none=>simp[hq] at hin
 | some i =>
  simp[hq] at hin;obtain⟨h1,h2,z,hz,h3⟩:=hin;exact⟨i,z,rfl,hz,h2,h1,h3⟩
set_option maxRecDepth 4000 in
set_option maxHeartbeats 8000000 in
theorem zk3 {N B p:Nat} {c:Cu} {w:World} (left right:ByteArray) (h:CurN N w B p c) :
  Calls Tryz.prog 136 #[.agg #[.pointer (some ⟨B,0,none⟩)],.string left,.string right,.func (.func 114) #[.agg #[.pointer (some ⟨B,0,none⟩)]] #[]] w fun e w'=>∃ (l:List Dt) (c':Cu) (a:Option Addr) (n cp:Nat) (F:List Nat),brkT (fdT (typF N) (litF true N)) left right c=(l,c')∧e = .returned (.slice a n cp)∧Sh w' 10 l w.heap.size w'.heap.size a n cp F∧CurN N w' B p c'∧Kp B w w':=by
 have en:∀ args w,(callFunc 114 args).run Tryz.prog w = .ok (.enter 114 args) w:=fun _ _=>rfl
 have hB:=h.lt;have hp:=h.plt;have hm:=h.m;have hc0:=h.at_.ok;have hG:∀ cc:Cu,cc.Ok→Stp cc (fdT (typF N) (litF true N) cc).2∧((fdT (typF N) (litF true N) cc).2.kd=0→cc.ix<(fdT (typF N) (litF true N) cc).2.ix):=fun cc hcc=>⟨zpz N cc hcc,znP N cc hcc⟩
 obtain⟨E,hE⟩:∃ E,E=fdT (typF N) (litF true N):=⟨_,rfl⟩;have hRd:=Hi (fun cc W (hc:CurN N W B p cc)=>zqW hc)
 have hDm:Dm E:=by rw[hE];exact (fd_m N)
 rw[← hE] at hRd hG ⊢;clear hE;obtain⟨w0,hw0⟩:∃ w0,w0=w.alloc (.cells #[.pointer (some ⟨B,0,none⟩)] 74):=⟨_,rfl⟩;have b0:Below w.heap.size w w0:=by rw[hw0];exact ba
 have z0:w.heap.size+1≤w0.heap.size:=by rw[hw0];simp
 have p0:w0.heap[w.heap.size]? = some (.cells #[.pointer (some ⟨B,0,none⟩)] 74 (0,0)):=by rw[hw0];exact heap_alloc_new _ _
 have ho:=Hi (zcv B p c left w0 (h.below b0).at_);have hPc:=Hi (fun (W:World) (hk:W.heap[w.heap.size]? = some (.cells #[.pointer (some ⟨B,0,none⟩)] 74 (0,0)))=>show W.cell? ⟨w.heap.size,0,none⟩=some (.pointer (some ⟨B,0,none⟩)) from (zG hk 0).trans rfl)
 have hst:=zau hc0 left;have hnx:=Hi (fun W (k:CurAt W B p (c.opn left))=>h.next k hst)
 obtain⟨R,hR⟩:∃ R,R=brkF (optR E) right 1 c.ts.length [] (c.opn left):=⟨_,rfl⟩;have hs:=Hi (show brk (optR E) left right 1 c=R from by rw[hR];exact zfj hDm hc0 left right)
 have HR:=Hi hR.symm;clear h hR;have hcl:=Hi (fun W (cc:Cu) (hc:CurN N W B p cc)=>an (zbF B p cc right W hc.at_) (zbv hc.at_.ok right))
 have hip:=Hi (fun W (cc:Cu) (hc:CurN N W B p cc)=>zax B p cc right W hc.at_)
 have hsp:=Hi (fun W (cc:Cu) (hc:CurN N W B p cc)=>zbZ hc)
 unfold ptr at ho hcl hip
 go_enter Tryz.func136,Tryz.ntmps136
 go_wp2_with fail
 rw[← hw0];refine (uh ho).mono ?_
 rintro e w1 ⟨rfl,hc1,hk1⟩;have hc1:=(uh hnx) _ hc1;have hz1:=hk1.size;have p1:=(hk1.block w.heap.size (by omega) (by omega)).trans p0
 have K1:=(Kp.of b0).trans hk1;clear ho hw0 p0 b0 hk1 hnx
 go_wp2_with fail
 go_loopg [9] c.ts.length (fun g sl wr=>∃ (l:List Dt) (cc:Cu) (Gs:List Nat),Hid (brkF (optR E) right 1 g l cc=R)∧CurN N wr B p cc∧Hid (Grow 70 10 wr (w.heap.size+1) l sl Gs)∧Kp B w wr∧Hid (cc.ts=c.ts)∧c.ts.length≤g+cc.ix∧l.length+c.ix≤cc.ix∧Hid (wr.heap[w.heap.size]? = some (.cells #[.pointer (some ⟨B,0,none⟩)] 74 (0,0)))∧w.heap.size+1≤wr.heap.size)
 case atStart=>exact⟨[],c.opn left,[],HR,hc1,Hi Grow.nil,K1,Hi hst.ts,Nat.le_add_right _ _,by simpa using hst.ix,Hi p1,by omega⟩
 case round =>
  obtain⟨l,cc,Gs,hrun,hcc,hgr,hkr,hts,hfu,hll,hpr,hzr⟩:=hrel;have hixl:=hcc.at_.ok.lt;rw[uh hts] at hixl;obtain⟨al,cl,hsl⟩:=(uh hgr).form;subst hsl;have cP:=(uh hPc) wr (uh hpr);obtain⟨g',rfl⟩:∃ g',gk=g'+1:=⟨gk - 1,by omega⟩
  by_cases hl0:l.length=0
  ·obtain rfl:l=[]:=List.eq_nil_of_length_eq_zero hl0
   obtain⟨w2,hw2⟩:∃ w2,w2=wr:=⟨_,rfl⟩;subst hw2;have b2:=Below.refl w2.heap.size w2;have hc2:=hcc;have hgr2:=hgr;have hk2:=hkr;have hp2:=hpr;clear hl0
   have hrun2:=Hi (show (match (optR E cc).1 with | none=>(none,(optR E cc).2) | some d=>brkF (optR E) right 1 g' ([] ++ [d]) (optR E cc).2)=R from by
    have e:=uh hrun;rw[brkF,if_pos (.inl (by decide))] at e
    exact e)
   have hgo:=hG cc hcc.at_.ok;have hcall:=Hi ((uh hRd) cc w2 hc2)
   go_wp2_with fail
   refine (uh hcall).mono ?_
   rintro e w3 ⟨d,C,n1,n2,n3,nm,a1,m1,c1,tn,tw,a3,m3,c3,ln,co,F,hEq,rfl,hho,hc3,hk3⟩;rw[hEq] at hgo;have hon:∀ (hk:C.kd ≠ 0),optR E cc=(none,C):=fun hk=>(zaS (by rw[hEq];exact hk)).trans (by rw[hEq])
   have hos:∀ (hk:C.kd=0),optR E cc=(some d,C):=fun hk=>(zaY (by rw[hEq];exact hk)).trans (by rw[hEq])
   have HO:=Hi (an hon hos);have HP:=Hi hho;have HC3:=Hi hc3;have HK3:=Hi hk3;have hz3:=hk3.size;have hp3:=Hi ((hk3.block w.heap.size (by omega) (by omega)).trans (uh hp2))
   have hgr3:=(uh hgr2).kp (uh HK3) (by omega)
   obtain⟨it,zt,q1,q2,q3,q4,q5⟩:=infoFdz;have HQ:=Hi (an q1 (an q2 (an q3 (an q4 q5))));clear q1 q2 q3 q4 q5;obtain⟨xss,hr3,hol3,hx3⟩:=hgr3.row;have hr4:=Hi hr3;have hbyt:=Hi (show (([]:List Dt).length+1) * 136≤140737488355328∧([]:List Dt).length+1≤maxLen from ⟨by omega,by unfold maxLen;omega⟩)
   have hsz4:=Hi (show w.heap.size+1≤w3.heap.size from by have:=hz3;have:=b2.size;omega)
   have hone:=Hi (hho.ow.one);have HG:=Hi (an hgr3 (an hol3 hx3));have hGO:=Hi hgo;clear hgo hgr3 hr3 hol3 hx3 hcall hEq hon hos hho hc3 hk3 hrun;unfold fdC at HP hone;unfold fdC
   go_wp2_with (first
    | (at_builtin;refine dt.zaG (by rfl) _ _ (by rfl) Tryz.underlying57 (uh HQ).1 (uh HQ).2.1 (uh HQ).2.2.1 (uh HQ).2.2.2.1 (uh HQ).2.2.2.2 (by omega) (w.heap.size+1) ([]:List Dt).length xss.flatten _ (by rfl) (uh hr4) [.bool n1,.bool n2,.string n3,.string nm,.slice a1 m1 c1,.string tn,.string tw,.slice a3 m3 c3,.int .i64 ln,.int .i64 co] (by rfl) (uh hone) w3.heap.size (by rfl) (by rfl) (uh hbyt).1 (uh hbyt).2 (uh hsz4) ?_;intro sl' w7 hr7 b7 hold7 hat7;have cP7:=(uh hPc) w7 ((b7.block w.heap.size (Nat.lt_succ_self _)).trans (uh hp3));have H7:=Hi (an hr7 (an b7 (an hold7 hat7)));clear hr7 b7 hold7 hat7))
   obtain⟨hr7,b7,hold7,hat7⟩:=uh H7;obtain⟨hgr3,hol3,hx3⟩:=uh HG;have HPo:=uh HP;have hown:=fun b (hb:(Value.slice al ([]:List Dt).length cl).ownBlock=some b)=>(let ⟨_,hr,_⟩:=(uh hgr2).row;(hr.lt b hb).2)
   have hsz:w.heap.size≤w2.heap.size:=hk2.size;have hmore:=hgr3.more hol3 hx3 HPo.ow HPo.nd (fun b hb=>⟨by have:=(HPo.rng b hb).1;omega,by have:=(HPo.rng b hb).2;omega,fun hm=>by have:=((uh hgr2).rng b hm).2;have:=(HPo.rng b hb).1;omega,fun e=>by have:=hown b e;have:=(HPo.rng b hb).1;omega⟩) (by rfl) hr7 (by have:=(hr7.lt);have:=b7.size;exact this) hold7 hat7
   have hBs:B<w3.heap.size:=by omega
   have b7':=b7.mono (Nat.le_succ w.heap.size);have C7:=(uh HC3).low b7' hB hp;have K7:=(hk2.trans (uh HK3)).low b7';have p7:=(b7.block w.heap.size (Nat.lt_succ_self _)).trans (uh hp3);have z7:w.heap.size+1≤w7.heap.size:=by have:=b7.size;omega
   have hst7:=(uh hsp) w7 C C7
   by_cases hk:C.kd=0
   ·rw[show (C.kd != 0)=false by simpa using hk] at hst7
    have hrun3:=Hi (show brkF (optR E) right 1 g' ([] ++ [d]) C=R from by have e:=uh hrun2;rw[(uh HO).2 hk] at e;exact e)
    have hix3:cc.ix<C.ix:=(uh hGO).2 hk;have hts3:=(uh hGO).1.ts;have hlt3:=(uh hGO).1.ok.lt;have hTS:=Hi hts3;have HM:=Hi hmore;rw[hts3,uh hts] at hlt3;clear hr7 b7 hold7 hat7 hgr3 hol3 hx3 hown hmore hts3 HO hGO hrun2 hk H7 hr4 HQ hbyt hsz4 hone b7';refine hst7.mono ?_
    rintro e w8 ⟨rfl,C8,K8⟩;have z8:=K8.size;clear hst7 C7
    go_wp2_with fail
    go_roundg g'
    case rel =>
     refine⟨[] ++ [d],C,Gs ++ F,hrun3,C8,Hi ((uh HM).kp K8 (by omega)),K7.trans K8,Hi ((uh hTS).trans (uh hts)),by omega,by rw[List.length_append];simp;omega,Hi ((K8.block w.heap.size (by omega) (by omega)).trans p7),by omega⟩
    case measure=>exact Nat.lt_succ_self _
   ·rw[show (C.kd != 0)=true by simpa using hk] at hst7
    have hrun3:=Hi (show (none,C)=R from by have e:=uh hrun2;rw[(uh HO).1 hk] at e;exact e)
    clear hr7 b7 hold7 hat7 hgr3 hol3 hx3 hown hmore HO hGO hrun2 hk H7 hr4 HQ hbyt hsz4 hone b7';refine hst7.mono ?_
    rintro e w8 ⟨rfl,C8,K8⟩;clear hst7 C7
    go_wp2_with fail
    go_ret
    exact⟨[],C,none,0,0,[],zah (show brk (optR E) left right 1 c=(none,C) from (uh hs).trans (uh hrun3).symm),rfl,Sh.nil (lr _),C8,K7.trans K8⟩
  ·have hlz:¬ ((l.length:Int)=0):=by omega
   have hlz1:¬ (l=[]):=fun e=>hl0 (by rw[e];rfl)
   have hip2:=Hi ((uh hip) wr cc hcc)
   go_wp2_with fail
   refine (uh hip2).mono ?_
   rintro e w2 ⟨rfl,b2⟩;have hc2:=hcc.below b2;have hgr2:=Hi ((uh hgr).keep b2.size (fun b hb _=>b2.block b hb))
   have hk2:=hkr.trans (Kp.of b2);have hs2:=b2.size;have hp2:=Hi ((b2.block w.heap.size (by omega)).trans (uh hpr))
   have cP2:=(uh hPc) w2 (uh hp2)
   cases hQ:cc.isP right
   ·clear hip2
    have hrun2:=Hi (show (match (optR E cc).1 with | none=>(none,(optR E cc).2) | some d=>brkF (optR E) right 1 g' (l ++ [d]) (optR E cc).2)=R from by
     have e:=uh hrun;rw[brkF,if_pos (.inr hQ)] at e
     exact e)
    have hgo:=hG cc hcc.at_.ok;have hcall:=Hi ((uh hRd) cc w2 hc2)
    go_wp2_with fail
    refine (uh hcall).mono ?_
    rintro e w3 ⟨d,C,n1,n2,n3,nm,a1,m1,c1,tn,tw,a3,m3,c3,ln,co,F,hEq,rfl,hho,hc3,hk3⟩;rw[hEq] at hgo;have hon:∀ (hk:C.kd ≠ 0),optR E cc=(none,C):=fun hk=>(zaS (by rw[hEq];exact hk)).trans (by rw[hEq])
    have hos:∀ (hk:C.kd=0),optR E cc=(some d,C):=fun hk=>(zaY (by rw[hEq];exact hk)).trans (by rw[hEq])
    have HO:=Hi (an hon hos);have HP:=Hi hho;have HC3:=Hi hc3;have HK3:=Hi hk3;have hz3:=hk3.size;have hp3:=Hi ((hk3.block w.heap.size (by omega) (by omega)).trans (uh hp2))
    have hgr3:=(uh hgr2).kp (uh HK3) (by omega)
    obtain⟨it,zt,q1,q2,q3,q4,q5⟩:=infoFdz;have HQ:=Hi (an q1 (an q2 (an q3 (an q4 q5))));clear q1 q2 q3 q4 q5;obtain⟨xss,hr3,hol3,hx3⟩:=hgr3.row;have hr4:=Hi hr3;have hbyt:=Hi (show (l.length+1) * 136≤140737488355328∧l.length+1≤maxLen from ⟨by omega,by unfold maxLen;omega⟩)
    have hsz4:=Hi (show w.heap.size+1≤w3.heap.size from by have:=hz3;have:=b2.size;omega)
    have hone:=Hi (hho.ow.one);have HG:=Hi (an hgr3 (an hol3 hx3));have hGO:=Hi hgo;clear hgo hgr3 hr3 hol3 hx3 hcall hEq hon hos hho hc3 hk3 hrun;unfold fdC at HP hone;unfold fdC
    go_wp2_with (first
     | (at_builtin;refine dt.zaG (by rfl) _ _ (by rfl) Tryz.underlying57 (uh HQ).1 (uh HQ).2.1 (uh HQ).2.2.1 (uh HQ).2.2.2.1 (uh HQ).2.2.2.2 (by omega) (w.heap.size+1) l.length xss.flatten _ (by rfl) (uh hr4) [.bool n1,.bool n2,.string n3,.string nm,.slice a1 m1 c1,.string tn,.string tw,.slice a3 m3 c3,.int .i64 ln,.int .i64 co] (by rfl) (uh hone) w3.heap.size (by rfl) (by rfl) (uh hbyt).1 (uh hbyt).2 (uh hsz4) ?_;intro sl' w7 hr7 b7 hold7 hat7;have cP7:=(uh hPc) w7 ((b7.block w.heap.size (Nat.lt_succ_self _)).trans (uh hp3));have H7:=Hi (an hr7 (an b7 (an hold7 hat7)));clear hr7 b7 hold7 hat7))
    obtain⟨hr7,b7,hold7,hat7⟩:=uh H7;obtain⟨hgr3,hol3,hx3⟩:=uh HG;have HPo:=uh HP;have hown:=fun b (hb:(Value.slice al l.length cl).ownBlock=some b)=>(let ⟨_,hr,_⟩:=(uh hgr2).row;(hr.lt b hb).2)
    have hsz:w.heap.size≤w2.heap.size:=hk2.size;have hmore:=hgr3.more hol3 hx3 HPo.ow HPo.nd (fun b hb=>⟨by have:=(HPo.rng b hb).1;omega,by have:=(HPo.rng b hb).2;omega,fun hm=>by have:=((uh hgr2).rng b hm).2;have:=(HPo.rng b hb).1;omega,fun e=>by have:=hown b e;have:=(HPo.rng b hb).1;omega⟩) (by rfl) hr7 (by have:=(hr7.lt);have:=b7.size;exact this) hold7 hat7
    have hBs:B<w3.heap.size:=by omega
    have b7':=b7.mono (Nat.le_succ w.heap.size);have C7:=(uh HC3).low b7' hB hp;have K7:=(hk2.trans (uh HK3)).low b7';have p7:=(b7.block w.heap.size (Nat.lt_succ_self _)).trans (uh hp3);have z7:w.heap.size+1≤w7.heap.size:=by have:=b7.size;omega
    have hst7:=(uh hsp) w7 C C7
    by_cases hk:C.kd=0
    ·rw[show (C.kd != 0)=false by simpa using hk] at hst7
     have hrun3:=Hi (show brkF (optR E) right 1 g' (l ++ [d]) C=R from by have e:=uh hrun2;rw[(uh HO).2 hk] at e;exact e)
     have hix3:cc.ix<C.ix:=(uh hGO).2 hk;have hts3:=(uh hGO).1.ts;have hlt3:=(uh hGO).1.ok.lt;have hTS:=Hi hts3;have HM:=Hi hmore;rw[hts3,uh hts] at hlt3;clear hr7 b7 hold7 hat7 hgr3 hol3 hx3 hown hmore hts3 HO hGO hrun2 hk H7 hr4 HQ hbyt hsz4 hone b7';refine hst7.mono ?_
     rintro e w8 ⟨rfl,C8,K8⟩;have z8:=K8.size;clear hst7 C7
     go_wp2_with fail
     go_roundg g'
     case rel =>
      refine⟨l ++ [d],C,Gs ++ F,hrun3,C8,Hi ((uh HM).kp K8 (by omega)),K7.trans K8,Hi ((uh hTS).trans (uh hts)),by omega,by rw[List.length_append];simp;omega,Hi ((K8.block w.heap.size (by omega) (by omega)).trans p7),by omega⟩
     case measure=>exact Nat.lt_succ_self _
    ·rw[show (C.kd != 0)=true by simpa using hk] at hst7
     have hrun3:=Hi (show (none,C)=R from by have e:=uh hrun2;rw[(uh HO).1 hk] at e;exact e)
     clear hr7 b7 hold7 hat7 hgr3 hol3 hx3 hown hmore HO hGO hrun2 hk H7 hr4 HQ hbyt hsz4 hone b7';refine hst7.mono ?_
     rintro e w8 ⟨rfl,C8,K8⟩;clear hst7 C7
     go_wp2_with fail
     go_ret
     exact⟨[],C,none,0,0,[],zah (show brk (optR E) left right 1 c=(none,C) from (uh hs).trans (uh hrun3).symm),rfl,Sh.nil (lr _),C8,K7.trans K8⟩
   ·have hrun2:=Hi (show (some l,cc.cls right)=R from by
     have e:=uh hrun;rw[brkF,if_neg (fun e=>by rcases e with e | e;omega;rw[hQ] at e;cases e)] at e
     exact e)
    obtain⟨hcl2,hcs⟩:=(uh hcl) w2 cc hc2;rw[hQ] at hcl2;have hcl2:=Hi hcl2;have hNX:=Hi (fun W (k:CurAt W B p (cc.cls right))=>hc2.next k hcs)
    clear hrun hip2 hcs
    go_wp2_with fail
    refine (uh hcl2).mono ?_
    rintro e w3 ⟨rfl,hc3,hk3⟩;have hc3:=(uh hNX) _ hc3;clear hcl2
    go_wp2_with fail
    go_ret
    obtain⟨a',n',c',F',he',hSh⟩:=Sh.of (((uh hgr2).kp hk3 (by omega)).lo (Nat.le_succ _))
    injection he' with e1 e2 e3
    subst e1 e2 e3;exact⟨l,_,_,_,_,F',zah (show brk (optR E) left right 1 c=(some l,cc.cls right) from (uh hs).trans (uh hrun2).symm),rfl,hSh,hc3,hk2.trans hk3⟩
set_option maxRecDepth 4000 in
set_option maxHeartbeats 2000000 in
theorem zh7 {N B p:Nat} {c:Cu} {w:World} (left right:ByteArray) (h:CurN N w B p c) :
  Calls Tryz.prog 113 #[.agg #[.pointer (some ⟨B,0,none⟩)],.string left,.string right,.func (.func 114) #[.agg #[.pointer (some ⟨B,0,none⟩)]] #[]] w fun e w'=>∃ (l:List Dt) (c':Cu) (a:Option Addr) (n cp:Nat) (F:List Nat),optT (fdT (typF N) (litF true N)) left right c=(l,c')∧e = .returned (.slice a n cp)∧Sh w' 10 l w.heap.size w'.heap.size a n cp F∧CurN N w' B p c'∧Kp B w w':=by
 have hlt:=h.lt;have hplt:=h.plt
 go_enter Tryz.func113,Tryz.ntmps113
 go_wp2_with fail
 obtain⟨W1,hW1⟩:∃ W1,W1=allocs w [(#[.pointer (some ⟨B,0,none⟩)],74)]:=⟨_,rfl⟩;have gW1:W1=(w.alloc (.cells #[.pointer (some ⟨B,0,none⟩)] 74)):=hW1;have aa:=zaq [(#[.pointer (some ⟨B,0,none⟩)],74)] w;have fP1:W1.heap[w.heap.size]? = some (.cells #[.pointer (some ⟨B,0,none⟩)] 74 (0,0)):=by rw[hW1];exact aa 0 _ rfl
 have bw:Below w.heap.size w W1:=by rw[hW1];exact zak _ _
 have sz1:w.heap.size+1≤W1.heap.size:=by rw[hW1,zal];exact lr _
 have K1:Kp B w W1:=Kp.of bw;have C1:=h.below bw;rw[← gW1];clear gW1 hW1 bw aa h;have cP2_0:W1.cell? ⟨w.heap.size,0,none⟩=some (.pointer (some ⟨B,0,none⟩)):=(zG fP1 0).trans rfl;have HH3:=Hi (an fP1 (an C1 (K1)));clear fP1 C1 K1
 go_wp2_with fail
 obtain⟨fP1,C1,K1⟩:=uh HH3;clear HH3;refine (zhX left C1).mono ?_
 rintro e W4 ⟨q,qE1,rfl,C4,J4⟩;have E1:=Hi qE1;clear qE1;have sz4:=J4.size;have fP4:W4.heap[w.heap.size]? = some (.cells #[.pointer (some ⟨B,0,none⟩)] 74 (0,0)):=(J4.block _ (by omega) (by omega)).trans fP1
 have K4:=K1.trans J4;clear fP1 K1 C1 J4 cP2_0
 cases q
 ·have HH5:=Hi (an fP4 (an C4 (K4)))
  clear fP4 C4 K4
  go_wp2_with fail
  obtain⟨fP4,C4,K4⟩:=uh HH5;clear HH5
  go_ret
  exact⟨[],c,none,0,0,[],zah (uh E1),rfl,Sh.nil (lr _),C4,K4⟩
 ·have cP5_0:W4.cell? ⟨w.heap.size,0,none⟩=some (.pointer (some ⟨B,0,none⟩)):=(zG fP4 0).trans rfl
  have HH6:=Hi (an fP4 (an C4 (K4)));clear fP4 C4 K4
  go_wp2_with fail
  obtain⟨fP4,C4,K4⟩:=uh HH6;clear HH6;refine (zk3 left right C4).mono ?_
  rintro e W7 ⟨l,u2,a,n,cp,F,qE2,rfl,sL7,C7,J7⟩;have E2:=Hi qE2;clear qE2;have sz7:=J7.size;have fP7:W7.heap[w.heap.size]? = some (.cells #[.pointer (some ⟨B,0,none⟩)] 74 (0,0)):=(J7.block _ (by omega) (by omega)).trans fP4
  have K7:=K4.trans J7;clear fP4 K4 C4 J7 cP5_0;have HH8:=Hi (an fP7 (an sL7 (an C7 (K7))));clear fP7 sL7 C7 K7
  go_wp2_with fail
  obtain⟨fP7,sL7,C7,K7⟩:=uh HH8;clear HH8
  go_ret
  exact⟨l,u2,a,n,cp,F,(zah (uh E1)).trans (uh E2),rfl,sL7.lo (by omega),C7,K7⟩
section
variable {N B p:Nat} {c:Cu} {w:World}
set_option maxRecDepth 4000 in
set_option maxHeartbeats 4000000 in
theorem zpb (h:CurN N w B p c):Calls Tryz.prog 117 #[.agg #[.pointer (some ⟨B,0,none⟩)]] w fun e w'=>∃ (d:Dt) (c':Cu) (n1 n2:Bool) (n3 nm:ByteArray) (a3:Option Addr) (m3 c3:Nat) (ln co:Int) (F:List Nat),choT (litF true N) c=(d,c')∧e = .returned (.agg (choC n1 n2 n3 nm a3 m3 c3 ln co).toArray)∧Ho w' d (choC n1 n2 n3 nm a3 m3 c3 ln co) F w.heap.size w'.heap.size∧CurN N w' B p c'∧Kp B w w':=by
 have hlt:=h.lt;have hplt:=h.plt
 go_enter Tryz.func117,Tryz.ntmps117
 go_wp2_with fail
 obtain⟨W1,hW1⟩:∃ W1,W1=allocs w [(#[.pointer (some ⟨B,0,none⟩)],74),(#[.bool false,.bool false,.string ⟨#[]⟩,.string ⟨#[]⟩,.slice none 0 0,.int .i64 0,.int .i64 0],94)]:=⟨_,rfl⟩;have gW1:W1=((w.alloc (.cells #[.pointer (some ⟨B,0,none⟩)] 74)).alloc (.cells #[.bool false,.bool false,.string ⟨#[]⟩,.string ⟨#[]⟩,.slice none 0 0,.int .i64 0,.int .i64 0] 94)):=hW1;have aa:=zaq [(#[.pointer (some ⟨B,0,none⟩)],74),(#[.bool false,.bool false,.string ⟨#[]⟩,.string ⟨#[]⟩,.slice none 0 0,.int .i64 0,.int .i64 0],94)] w
 have fP1:W1.heap[w.heap.size]? = some (.cells #[.pointer (some ⟨B,0,none⟩)] 74 (0,0)):=by rw[hW1];exact aa 0 _ rfl
 have fR1:W1.heap[(w.heap.size+1)]? = some (.cells #[.bool false,.bool false,.string ⟨#[]⟩,.string ⟨#[]⟩,.slice none 0 0,.int .i64 0,.int .i64 0] 94 (0,0)):=by rw[hW1];exact aa 1 _ rfl
 have bw:Below w.heap.size w W1:=by rw[hW1];exact zak _ _
 have sz1:w.heap.size+2≤W1.heap.size:=by rw[hW1,zal];exact lr _
 have K1:Kp B w W1:=Kp.of bw;have C1:=h.below bw;rw[← gW1];clear gW1 hW1 bw aa h;have cP2_0:W1.cell? ⟨w.heap.size,0,none⟩=some (.pointer (some ⟨B,0,none⟩)):=(zG fP1 0).trans rfl;have HH3:=Hi (an fP1 (an fR1 (an C1 (K1))));clear fP1 fR1 C1 K1
 go_wp2_with fail
 obtain⟨fP1,fR1,C1,K1⟩:=uh HH3;clear HH3;refine (zfJ C1).mono ?_
 rintro e W4 ⟨n1,n2,n3,k1,u1,qE1,rfl,C4,J4⟩;have E1:=Hi qE1;clear qE1;have sz4:=J4.size;have fP4:W4.heap[w.heap.size]? = some (.cells #[.pointer (some ⟨B,0,none⟩)] 74 (0,0)):=(J4.block _ (by omega) (by omega)).trans fP1
 have fR4:W4.heap[(w.heap.size+1)]? = some (.cells #[.bool false,.bool false,.string ⟨#[]⟩,.string ⟨#[]⟩,.slice none 0 0,.int .i64 0,.int .i64 0] 94 (0,0)):=(J4.block _ (by omega) (by omega)).trans fR1
 have K4:=K1.trans J4;clear fP1 fR1 K1 C1 J4 cP2_0;have fP5:(W4.alloc (.cells #[.bool n1,.bool n2,.string n3] 54)).heap[w.heap.size]? = some (.cells #[.pointer (some ⟨B,0,none⟩)] 74 (0,0)):=(Below.heap_alloc W4 _ _ (by omega)).trans fP4
 have fR5:(W4.alloc (.cells #[.bool n1,.bool n2,.string n3] 54)).heap[(w.heap.size+1)]? = some (.cells #[.bool false,.bool false,.string ⟨#[]⟩,.string ⟨#[]⟩,.slice none 0 0,.int .i64 0,.int .i64 0] 94 (0,0)):=(Below.heap_alloc W4 _ _ (by omega)).trans fR4
 have fN5:(W4.alloc (.cells #[.bool n1,.bool n2,.string n3] 54)).heap[W4.heap.size]? = some (.cells #[.bool n1,.bool n2,.string n3] 54 (0,0)):=heap_alloc_new _ _;have bb5:Below W4.heap.size W4 (W4.alloc (.cells #[.bool n1,.bool n2,.string n3] 54)):=ba;have C5:=C4.below bb5;have K5:=K4.trans (Kp.of bb5);have cP6_0:(W4.alloc (.cells #[.bool n1,.bool n2,.string n3] 54)).cell? ⟨w.heap.size,0,none⟩=some (.pointer (some ⟨B,0,none⟩)):=(zG fP5 0).trans rfl
 have fP7:((W4.alloc (.cells #[.bool n1,.bool n2,.string n3] 54)).alloc (.cells #[.string ⟨#[116,114,117,101]⟩,.string ⟨#[102,97,108,115,101]⟩,.string ⟨#[110,117,108,108]⟩] 9)).heap[w.heap.size]? = some (.cells #[.pointer (some ⟨B,0,none⟩)] 74 (0,0)):=(Below.heap_alloc (W4.alloc (.cells #[.bool n1,.bool n2,.string n3] 54)) _ _ (by simp only[World.size_alloc,zaf,dt.zaa];omega)).trans fP5
 have fR7:((W4.alloc (.cells #[.bool n1,.bool n2,.string n3] 54)).alloc (.cells #[.string ⟨#[116,114,117,101]⟩,.string ⟨#[102,97,108,115,101]⟩,.string ⟨#[110,117,108,108]⟩] 9)).heap[(w.heap.size+1)]? = some (.cells #[.bool false,.bool false,.string ⟨#[]⟩,.string ⟨#[]⟩,.slice none 0 0,.int .i64 0,.int .i64 0] 94 (0,0)):=(Below.heap_alloc (W4.alloc (.cells #[.bool n1,.bool n2,.string n3] 54)) _ _ (by simp only[World.size_alloc,zaf,dt.zaa];omega)).trans fR5
 have fN7:((W4.alloc (.cells #[.bool n1,.bool n2,.string n3] 54)).alloc (.cells #[.string ⟨#[116,114,117,101]⟩,.string ⟨#[102,97,108,115,101]⟩,.string ⟨#[110,117,108,108]⟩] 9)).heap[W4.heap.size]? = some (.cells #[.bool n1,.bool n2,.string n3] 54 (0,0)):=(Below.heap_alloc (W4.alloc (.cells #[.bool n1,.bool n2,.string n3] 54)) _ _ (by simp only[World.size_alloc,zaf,dt.zaa];omega)).trans fN5
 have fX7:((W4.alloc (.cells #[.bool n1,.bool n2,.string n3] 54)).alloc (.cells #[.string ⟨#[116,114,117,101]⟩,.string ⟨#[102,97,108,115,101]⟩,.string ⟨#[110,117,108,108]⟩] 9)).heap[(W4.heap.size+1)]? = some (.cells #[.string ⟨#[116,114,117,101]⟩,.string ⟨#[102,97,108,115,101]⟩,.string ⟨#[110,117,108,108]⟩] 9 (0,0)):=by have hh:=heap_alloc_new (W4.alloc (.cells #[.bool n1,.bool n2,.string n3] 54)) (.cells #[.string ⟨#[116,114,117,101]⟩,.string ⟨#[102,97,108,115,101]⟩,.string ⟨#[110,117,108,108]⟩] 9);simp only[World.size_alloc,zaf,dt.zaa] at hh;exact hh
 have bb7:Below (W4.alloc (.cells #[.bool n1,.bool n2,.string n3] 54)).heap.size (W4.alloc (.cells #[.bool n1,.bool n2,.string n3] 54)) ((W4.alloc (.cells #[.bool n1,.bool n2,.string n3] 54)).alloc (.cells #[.string ⟨#[116,114,117,101]⟩,.string ⟨#[102,97,108,115,101]⟩,.string ⟨#[110,117,108,108]⟩] 9)):=ba;have C7:=C5.below bb7;have K7:=K5.trans (Kp.of bb7);have HH8:=Hi (an fP7 (an fR7 (an fN7 (an fX7 (an C7 (an K7 (an fP4 (an fR4 (an K4 (an C4 (an fP5 (an fR5 (an fN5 (an K5 (C5)))))))))))))))
 clear fP7 fR7 fN7 fX7 C7 K7 fP4 fR4 K4 C4 fP5 fR5 fN5 K5 C5
 go_wp2_with fail
 obtain⟨fP7,fR7,fN7,fX7,C7,K7,fP4,fR4,K4,C4,fP5,fR5,fN5,K5,C5⟩:=uh HH8;clear HH8;obtain⟨W9,hW9⟩:∃ W9,W9=((W4.alloc (.cells #[.bool n1,.bool n2,.string n3] 54)).alloc (.cells #[.string ⟨#[116,114,117,101]⟩,.string ⟨#[102,97,108,115,101]⟩,.string ⟨#[110,117,108,108]⟩] 9)):=⟨_,rfl⟩;rw[← hW9] at fP7 fR7 fN7 fX7 C7 K7 ⊢;have sz9:W4.heap.size+2≤W9.heap.size:=by rw[hW9];simp only[zaf,dt.zaa,World.size_alloc];exact lr _
 clear hW9 cP6_0 fP4 fR4 K4 C4 fP5 fR5 fN5 K5 C5;refine (zo9 (ws:=[bTrue,bFalse,bNull]) (n:=3) (cp:=3) (zis [bTrue,bFalse,bNull] _ fX7) (by decide) C7).mono ?_
 rintro e W10 ⟨nm,ln,co,u2,k2,qE2,rfl,C10,J10⟩;have E2:=Hi qE2;clear qE2;have sz10:=J10.size;have fP10:W10.heap[w.heap.size]? = some (.cells #[.pointer (some ⟨B,0,none⟩)] 74 (0,0)):=(J10.block _ (by omega) (by omega)).trans fP7
 have fR10:W10.heap[(w.heap.size+1)]? = some (.cells #[.bool false,.bool false,.string ⟨#[]⟩,.string ⟨#[]⟩,.slice none 0 0,.int .i64 0,.int .i64 0] 94 (0,0)):=(J10.block _ (by omega) (by omega)).trans fR7
 have fN10:W10.heap[W4.heap.size]? = some (.cells #[.bool n1,.bool n2,.string n3] 54 (0,0)):=(J10.block _ (by omega) (by omega)).trans fN7
 have fX10:W10.heap[(W4.heap.size+1)]? = some (.cells #[.string ⟨#[116,114,117,101]⟩,.string ⟨#[102,97,108,115,101]⟩,.string ⟨#[110,117,108,108]⟩] 9 (0,0)):=(J10.block _ (by omega) (by omega)).trans fX7
 have K10:=K7.trans J10;clear fP7 fR7 fN7 fX7 K7 C7 J10;have fP11:(W10.alloc (.cells #[.string nm,.int .i64 ln,.int .i64 co] 92)).heap[w.heap.size]? = some (.cells #[.pointer (some ⟨B,0,none⟩)] 74 (0,0)):=(Below.heap_alloc W10 _ _ (by omega)).trans fP10
 have fR11:(W10.alloc (.cells #[.string nm,.int .i64 ln,.int .i64 co] 92)).heap[(w.heap.size+1)]? = some (.cells #[.bool false,.bool false,.string ⟨#[]⟩,.string ⟨#[]⟩,.slice none 0 0,.int .i64 0,.int .i64 0] 94 (0,0)):=(Below.heap_alloc W10 _ _ (by omega)).trans fR10
 have fN11:(W10.alloc (.cells #[.string nm,.int .i64 ln,.int .i64 co] 92)).heap[W4.heap.size]? = some (.cells #[.bool n1,.bool n2,.string n3] 54 (0,0)):=(Below.heap_alloc W10 _ _ (by omega)).trans fN10
 have fM11:(W10.alloc (.cells #[.string nm,.int .i64 ln,.int .i64 co] 92)).heap[W10.heap.size]? = some (.cells #[.string nm,.int .i64 ln,.int .i64 co] 92 (0,0)):=heap_alloc_new _ _;have bb11:Below W10.heap.size W10 (W10.alloc (.cells #[.string nm,.int .i64 ln,.int .i64 co] 92)):=ba;have C11:=C10.below bb11;have K11:=K10.trans (Kp.of bb11);have cP12_0:(W10.alloc (.cells #[.string nm,.int .i64 ln,.int .i64 co] 92)).cell? ⟨w.heap.size,0,none⟩=some (.pointer (some ⟨B,0,none⟩)):=(zG fP11 0).trans rfl
 have HH13:=Hi (an fP11 (an fR11 (an fN11 (an fM11 (an C11 (an K11 (an fP10 (an fR10 (an fN10 (an K10 (C10)))))))))));clear fP11 fR11 fN11 fM11 C11 K11 fP10 fR10 fN10 K10 C10
 go_wp2_with fail
 obtain⟨fP11,fR11,fN11,fM11,C11,K11,fP10,fR10,fN10,K10,C10⟩:=uh HH13;clear HH13;obtain⟨W14,hW14⟩:∃ W14,W14=(W10.alloc (.cells #[.string nm,.int .i64 ln,.int .i64 co] 92)):=⟨_,rfl⟩;rw[← hW14] at fP11 fR11 fN11 fM11 C11 K11 ⊢;have sz14:W10.heap.size+1≤W14.heap.size:=by rw[hW14];simp only[zaf,dt.zaa,World.size_alloc];exact lr _
 clear hW14 cP12_0 fP10 fR10 fN10 K10 C10;refine (zbn C11).mono ?_
 rintro e W15 ⟨ds,u7,a3,m3,c3,F3,k7,qE7,rfl,sD15,C15,J15⟩;have E7:=Hi qE7;clear qE7;have sz15:=J15.size;have fP15:W15.heap[w.heap.size]? = some (.cells #[.pointer (some ⟨B,0,none⟩)] 74 (0,0)):=(J15.block _ (by omega) (by omega)).trans fP11
 have fR15:W15.heap[(w.heap.size+1)]? = some (.cells #[.bool false,.bool false,.string ⟨#[]⟩,.string ⟨#[]⟩,.slice none 0 0,.int .i64 0,.int .i64 0] 94 (0,0)):=(J15.block _ (by omega) (by omega)).trans fR11
 have fN15:W15.heap[W4.heap.size]? = some (.cells #[.bool n1,.bool n2,.string n3] 54 (0,0)):=(J15.block _ (by omega) (by omega)).trans fN11
 have fM15:W15.heap[W10.heap.size]? = some (.cells #[.string nm,.int .i64 ln,.int .i64 co] 92 (0,0)):=(J15.block _ (by omega) (by omega)).trans fM11
 have K15:=K11.trans J15;clear fP11 fR11 fN11 fM11 K11 C11 J15;have cN16_0:W15.cell? ⟨W4.heap.size,0,none⟩=some (.bool n1):=(zG fN15 0).trans rfl;have cN16_1:W15.cell? ⟨W4.heap.size,1,none⟩=some (.bool n2):=(zG fN15 1).trans rfl;have cN16_2:W15.cell? ⟨W4.heap.size,2,none⟩=some (.string n3):=(zG fN15 2).trans rfl;have cM17_0:W15.cell? ⟨W10.heap.size,0,none⟩=some (.string nm):=(zG fM15 0).trans rfl
 have cM17_1:W15.cell? ⟨W10.heap.size,1,none⟩=some (.int .i64 ln):=(zG fM15 1).trans rfl;have cM17_2:W15.cell? ⟨W10.heap.size,2,none⟩=some (.int .i64 co):=(zG fM15 2).trans rfl;have HT:=Hi (dt.zab fR15 (o:=0) (n:=7) (by decide))
 have HF:=Hi (an C15 (an K15 (sD15)));clear C15 K15 sD15
 go_wp2_with (first
  | refine wpList_store_mid (by rfl) 94 _ _ (by rfl) (w.heap.size+1) 0 ([.bool n1,.bool n2,.string n3,.string nm,.slice a3 m3 c3,.int .i64 ln,.int .i64 co]:List Value).toArray (by rfl) (by rfl) (uh HT) infoVd (dt.zae (cs:=[.bool n1,.bool n2,.string n3,.string nm,.slice a3 m3 c3,.int .i64 ln,.int .i64 co]) (by rfl)) ?_)
 refine bodyPost_ret (rgn.zao rfl _ _ (w.heap.size+1) 0 [.bool n1,.bool n2,.string n3,.string nm,.slice a3 m3 c3,.int .i64 ln,.int .i64 co] _ rfl (World.rangeAt_setCells_same _ _ _ _ (uh HT)) Tryz.underlying94 rfl infoVd) rfl ?_
 obtain⟨C15,K15,sD15⟩:=uh HF;have hC:=C15.out (b:=(w.heap.size+1)) (by omega) (by omega) 0 [.bool n1,.bool n2,.string n3,.string nm,.slice a3 m3 c3,.int .i64 ln,.int .i64 co]
 have hK:=K15.out (b:=(w.heap.size+1)) (by omega) 0 [.bool n1,.bool n2,.string n3,.string nm,.slice a3 m3 c3,.int .i64 ln,.int .i64 co]
 have hD:=sD15.out (b:=(w.heap.size+1)) (by omega) 0 [.bool n1,.bool n2,.string n3,.string nm,.slice a3 m3 c3,.int .i64 ln,.int .i64 co]
 have hfin:choT (litF true N) c=(choD (n1,n2,n3) (nm,ln,co) (ds.getD []),u7):=by
  unfold choT;rw[zah (uh E1),zah (uh E2),zah (uh E7)];rfl
 obtain⟨F9,hF9⟩:=znx (n1:=n1) (n2:=n2) (n3:=n3) (nm:=nm) (ln:=ln) (co:=co) (lo:=w.heap.size) hD (by omega) (by omega)
 exact⟨_,u7,_,_,_,_,_,_,_,_,_,F9,hfin,rfl,hF9,hC,hK⟩
end
theorem zqH (N:Nat):Dm (choT (litF true N)):=zdx.bnd fun _=>(zmq _).bnd fun _=>(zbU _).bnd fun _=>za3 _
theorem infoCz:∃ i z,Tryz.prog.info? 94=some i∧i.zero=some z∧i.size=7∧i.bytes=80∧z.cells.size=7:=by
 have hin:(Tryz.prog.info? 94).map (fun i=>(i.bytes,i.size,i.zero.map (·.cells.size)))=some (80,7,some 7):=by kernel_rfl
 cases hq:Tryz.prog.info? 94 with
 | none=>simp[hq] at hin
 | some i =>
  simp[hq] at hin;obtain⟨h1,h2,z,hz,h3⟩:=hin;exact⟨i,z,rfl,hz,h2,h1,h3⟩
set_option maxRecDepth 4000 in
set_option maxHeartbeats 8000000 in
theorem znr {N B p:Nat} {c:Cu} {w:World} (left right:ByteArray) (h:CurN N w B p c) :
  Calls Tryz.prog 138 #[.agg #[.pointer (some ⟨B,0,none⟩)],.string left,.string right,.func (.func 117) #[.agg #[.pointer (some ⟨B,0,none⟩)]] #[]] w fun e w'=>∃ (l:List Dt) (c':Cu) (a:Option Addr) (n cp:Nat) (F:List Nat),brkT (choT (litF true N)) left right c=(l,c')∧e = .returned (.slice a n cp)∧Sh w' 7 l w.heap.size w'.heap.size a n cp F∧CurN N w' B p c'∧Kp B w w':=by
 have en:∀ args w,(callFunc 117 args).run Tryz.prog w = .ok (.enter 117 args) w:=fun _ _=>rfl
 have hB:=h.lt;have hp:=h.plt;have hm:=h.m;have hc0:=h.at_.ok;have hG:∀ cc:Cu,cc.Ok→Stp cc (choT (litF true N) cc).2∧((choT (litF true N) cc).2.kd=0→cc.ix<(choT (litF true N) cc).2.ix):=fun cc hcc=>⟨zmr N cc hcc,zjl N cc hcc⟩
 obtain⟨E,hE⟩:∃ E,E=choT (litF true N):=⟨_,rfl⟩;have hRd:=Hi (fun cc W (hc:CurN N W B p cc)=>zpb hc)
 have hDm:Dm E:=by rw[hE];exact (zqH N)
 rw[← hE] at hRd hG ⊢;clear hE;obtain⟨w0,hw0⟩:∃ w0,w0=w.alloc (.cells #[.pointer (some ⟨B,0,none⟩)] 74):=⟨_,rfl⟩;have b0:Below w.heap.size w w0:=by rw[hw0];exact ba
 have z0:w.heap.size+1≤w0.heap.size:=by rw[hw0];simp
 have p0:w0.heap[w.heap.size]? = some (.cells #[.pointer (some ⟨B,0,none⟩)] 74 (0,0)):=by rw[hw0];exact heap_alloc_new _ _
 have ho:=Hi (zcv B p c left w0 (h.below b0).at_);have hPc:=Hi (fun (W:World) (hk:W.heap[w.heap.size]? = some (.cells #[.pointer (some ⟨B,0,none⟩)] 74 (0,0)))=>show W.cell? ⟨w.heap.size,0,none⟩=some (.pointer (some ⟨B,0,none⟩)) from (zG hk 0).trans rfl)
 have hst:=zau hc0 left;have hnx:=Hi (fun W (k:CurAt W B p (c.opn left))=>h.next k hst)
 obtain⟨R,hR⟩:∃ R,R=brkF (optR E) right 1 c.ts.length [] (c.opn left):=⟨_,rfl⟩;have hs:=Hi (show brk (optR E) left right 1 c=R from by rw[hR];exact zfj hDm hc0 left right)
 have HR:=Hi hR.symm;clear h hR;have hcl:=Hi (fun W (cc:Cu) (hc:CurN N W B p cc)=>an (zbF B p cc right W hc.at_) (zbv hc.at_.ok right))
 have hip:=Hi (fun W (cc:Cu) (hc:CurN N W B p cc)=>zax B p cc right W hc.at_)
 have hsp:=Hi (fun W (cc:Cu) (hc:CurN N W B p cc)=>zbZ hc)
 unfold ptr at ho hcl hip
 go_enter Tryz.func138,Tryz.ntmps138
 go_wp2_with fail
 rw[← hw0];refine (uh ho).mono ?_
 rintro e w1 ⟨rfl,hc1,hk1⟩;have hc1:=(uh hnx) _ hc1;have hz1:=hk1.size;have p1:=(hk1.block w.heap.size (by omega) (by omega)).trans p0
 have K1:=(Kp.of b0).trans hk1;clear ho hw0 p0 b0 hk1 hnx
 go_wp2_with fail
 go_loopg [9] c.ts.length (fun g sl wr=>∃ (l:List Dt) (cc:Cu) (Gs:List Nat),Hid (brkF (optR E) right 1 g l cc=R)∧CurN N wr B p cc∧Hid (Grow 94 7 wr (w.heap.size+1) l sl Gs)∧Kp B w wr∧Hid (cc.ts=c.ts)∧c.ts.length≤g+cc.ix∧l.length+c.ix≤cc.ix∧Hid (wr.heap[w.heap.size]? = some (.cells #[.pointer (some ⟨B,0,none⟩)] 74 (0,0)))∧w.heap.size+1≤wr.heap.size)
 case atStart=>exact⟨[],c.opn left,[],HR,hc1,Hi Grow.nil,K1,Hi hst.ts,Nat.le_add_right _ _,by simpa using hst.ix,Hi p1,by omega⟩
 case round =>
  obtain⟨l,cc,Gs,hrun,hcc,hgr,hkr,hts,hfu,hll,hpr,hzr⟩:=hrel;have hixl:=hcc.at_.ok.lt;rw[uh hts] at hixl;obtain⟨al,cl,hsl⟩:=(uh hgr).form;subst hsl;have cP:=(uh hPc) wr (uh hpr);obtain⟨g',rfl⟩:∃ g',gk=g'+1:=⟨gk - 1,by omega⟩
  by_cases hl0:l.length=0
  ·obtain rfl:l=[]:=List.eq_nil_of_length_eq_zero hl0
   obtain⟨w2,hw2⟩:∃ w2,w2=wr:=⟨_,rfl⟩;subst hw2;have b2:=Below.refl w2.heap.size w2;have hc2:=hcc;have hgr2:=hgr;have hk2:=hkr;have hp2:=hpr;clear hl0
   have hrun2:=Hi (show (match (optR E cc).1 with | none=>(none,(optR E cc).2) | some d=>brkF (optR E) right 1 g' ([] ++ [d]) (optR E cc).2)=R from by
    have e:=uh hrun;rw[brkF,if_pos (.inl (by decide))] at e
    exact e)
   have hgo:=hG cc hcc.at_.ok;have hcall:=Hi ((uh hRd) cc w2 hc2)
   go_wp2_with fail
   refine (uh hcall).mono ?_
   rintro e w3 ⟨d,C,n1,n2,n3,nm,a3,m3,c3,ln,co,F,hEq,rfl,hho,hc3,hk3⟩;rw[hEq] at hgo;have hon:∀ (hk:C.kd ≠ 0),optR E cc=(none,C):=fun hk=>(zaS (by rw[hEq];exact hk)).trans (by rw[hEq])
   have hos:∀ (hk:C.kd=0),optR E cc=(some d,C):=fun hk=>(zaY (by rw[hEq];exact hk)).trans (by rw[hEq])
   have HO:=Hi (an hon hos);have HP:=Hi hho;have HC3:=Hi hc3;have HK3:=Hi hk3;have hz3:=hk3.size;have hp3:=Hi ((hk3.block w.heap.size (by omega) (by omega)).trans (uh hp2))
   have hgr3:=(uh hgr2).kp (uh HK3) (by omega)
   obtain⟨it,zt,q1,q2,q3,q4,q5⟩:=infoCz;have HQ:=Hi (an q1 (an q2 (an q3 (an q4 q5))));clear q1 q2 q3 q4 q5;obtain⟨xss,hr3,hol3,hx3⟩:=hgr3.row;have hr4:=Hi hr3;have hbyt:=Hi (show (([]:List Dt).length+1) * 80≤140737488355328∧([]:List Dt).length+1≤maxLen from ⟨by omega,by unfold maxLen;omega⟩)
   have hsz4:=Hi (show w.heap.size+1≤w3.heap.size from by have:=hz3;have:=b2.size;omega)
   have hone:=Hi (hho.ow.one);have HG:=Hi (an hgr3 (an hol3 hx3));have hGO:=Hi hgo;clear hgo hgr3 hr3 hol3 hx3 hcall hEq hon hos hho hc3 hk3 hrun;unfold choC at HP hone;unfold choC
   go_wp2_with (first
    | (at_builtin;refine dt.zaG (by rfl) _ _ (by rfl) Tryz.underlying59 (uh HQ).1 (uh HQ).2.1 (uh HQ).2.2.1 (uh HQ).2.2.2.1 (uh HQ).2.2.2.2 (by omega) (w.heap.size+1) ([]:List Dt).length xss.flatten _ (by rfl) (uh hr4) [.bool n1,.bool n2,.string n3,.string nm,.slice a3 m3 c3,.int .i64 ln,.int .i64 co] (by rfl) (uh hone) w3.heap.size (by rfl) (by rfl) (uh hbyt).1 (uh hbyt).2 (uh hsz4) ?_;intro sl' w7 hr7 b7 hold7 hat7;have cP7:=(uh hPc) w7 ((b7.block w.heap.size (Nat.lt_succ_self _)).trans (uh hp3));have H7:=Hi (an hr7 (an b7 (an hold7 hat7)));clear hr7 b7 hold7 hat7))
   obtain⟨hr7,b7,hold7,hat7⟩:=uh H7;obtain⟨hgr3,hol3,hx3⟩:=uh HG;have HPo:=uh HP;have hown:=fun b (hb:(Value.slice al ([]:List Dt).length cl).ownBlock=some b)=>(let ⟨_,hr,_⟩:=(uh hgr2).row;(hr.lt b hb).2)
   have hsz:w.heap.size≤w2.heap.size:=hk2.size;have hmore:=hgr3.more hol3 hx3 HPo.ow HPo.nd (fun b hb=>⟨by have:=(HPo.rng b hb).1;omega,by have:=(HPo.rng b hb).2;omega,fun hm=>by have:=((uh hgr2).rng b hm).2;have:=(HPo.rng b hb).1;omega,fun e=>by have:=hown b e;have:=(HPo.rng b hb).1;omega⟩) (by rfl) hr7 (by have:=(hr7.lt);have:=b7.size;exact this) hold7 hat7
   have hBs:B<w3.heap.size:=by omega
   have b7':=b7.mono (Nat.le_succ w.heap.size);have C7:=(uh HC3).low b7' hB hp;have K7:=(hk2.trans (uh HK3)).low b7';have p7:=(b7.block w.heap.size (Nat.lt_succ_self _)).trans (uh hp3);have z7:w.heap.size+1≤w7.heap.size:=by have:=b7.size;omega
   have hst7:=(uh hsp) w7 C C7
   by_cases hk:C.kd=0
   ·rw[show (C.kd != 0)=false by simpa using hk] at hst7
    have hrun3:=Hi (show brkF (optR E) right 1 g' ([] ++ [d]) C=R from by have e:=uh hrun2;rw[(uh HO).2 hk] at e;exact e)
    have hix3:cc.ix<C.ix:=(uh hGO).2 hk;have hts3:=(uh hGO).1.ts;have hlt3:=(uh hGO).1.ok.lt;have hTS:=Hi hts3;have HM:=Hi hmore;rw[hts3,uh hts] at hlt3;clear hr7 b7 hold7 hat7 hgr3 hol3 hx3 hown hmore hts3 HO hGO hrun2 hk H7 hr4 HQ hbyt hsz4 hone b7';refine hst7.mono ?_
    rintro e w8 ⟨rfl,C8,K8⟩;have z8:=K8.size;clear hst7 C7
    go_wp2_with fail
    go_roundg g'
    case rel =>
     refine⟨[] ++ [d],C,Gs ++ F,hrun3,C8,Hi ((uh HM).kp K8 (by omega)),K7.trans K8,Hi ((uh hTS).trans (uh hts)),by omega,by rw[List.length_append];simp;omega,Hi ((K8.block w.heap.size (by omega) (by omega)).trans p7),by omega⟩
    case measure=>exact Nat.lt_succ_self _
   ·rw[show (C.kd != 0)=true by simpa using hk] at hst7
    have hrun3:=Hi (show (none,C)=R from by have e:=uh hrun2;rw[(uh HO).1 hk] at e;exact e)
    clear hr7 b7 hold7 hat7 hgr3 hol3 hx3 hown hmore HO hGO hrun2 hk H7 hr4 HQ hbyt hsz4 hone b7';refine hst7.mono ?_
    rintro e w8 ⟨rfl,C8,K8⟩;clear hst7 C7
    go_wp2_with fail
    go_ret
    exact⟨[],C,none,0,0,[],zah (show brk (optR E) left right 1 c=(none,C) from (uh hs).trans (uh hrun3).symm),rfl,Sh.nil (lr _),C8,K7.trans K8⟩
  ·have hlz:¬ ((l.length:Int)=0):=by omega
   have hlz1:¬ (l=[]):=fun e=>hl0 (by rw[e];rfl)
   have hip2:=Hi ((uh hip) wr cc hcc)
   go_wp2_with fail
   refine (uh hip2).mono ?_
   rintro e w2 ⟨rfl,b2⟩;have hc2:=hcc.below b2;have hgr2:=Hi ((uh hgr).keep b2.size (fun b hb _=>b2.block b hb))
   have hk2:=hkr.trans (Kp.of b2);have hs2:=b2.size;have hp2:=Hi ((b2.block w.heap.size (by omega)).trans (uh hpr))
   have cP2:=(uh hPc) w2 (uh hp2)
   cases hQ:cc.isP right
   ·clear hip2
    have hrun2:=Hi (show (match (optR E cc).1 with | none=>(none,(optR E cc).2) | some d=>brkF (optR E) right 1 g' (l ++ [d]) (optR E cc).2)=R from by
     have e:=uh hrun;rw[brkF,if_pos (.inr hQ)] at e
     exact e)
    have hgo:=hG cc hcc.at_.ok;have hcall:=Hi ((uh hRd) cc w2 hc2)
    go_wp2_with fail
    refine (uh hcall).mono ?_
    rintro e w3 ⟨d,C,n1,n2,n3,nm,a3,m3,c3,ln,co,F,hEq,rfl,hho,hc3,hk3⟩;rw[hEq] at hgo;have hon:∀ (hk:C.kd ≠ 0),optR E cc=(none,C):=fun hk=>(zaS (by rw[hEq];exact hk)).trans (by rw[hEq])
    have hos:∀ (hk:C.kd=0),optR E cc=(some d,C):=fun hk=>(zaY (by rw[hEq];exact hk)).trans (by rw[hEq])
    have HO:=Hi (an hon hos);have HP:=Hi hho;have HC3:=Hi hc3;have HK3:=Hi hk3;have hz3:=hk3.size;have hp3:=Hi ((hk3.block w.heap.size (by omega) (by omega)).trans (uh hp2))
    have hgr3:=(uh hgr2).kp (uh HK3) (by omega)
    obtain⟨it,zt,q1,q2,q3,q4,q5⟩:=infoCz;have HQ:=Hi (an q1 (an q2 (an q3 (an q4 q5))));clear q1 q2 q3 q4 q5;obtain⟨xss,hr3,hol3,hx3⟩:=hgr3.row;have hr4:=Hi hr3;have hbyt:=Hi (show (l.length+1) * 80≤140737488355328∧l.length+1≤maxLen from ⟨by omega,by unfold maxLen;omega⟩)
    have hsz4:=Hi (show w.heap.size+1≤w3.heap.size from by have:=hz3;have:=b2.size;omega)
    have hone:=Hi (hho.ow.one);have HG:=Hi (an hgr3 (an hol3 hx3));have hGO:=Hi hgo;clear hgo hgr3 hr3 hol3 hx3 hcall hEq hon hos hho hc3 hk3 hrun;unfold choC at HP hone;unfold choC
    go_wp2_with (first
     | (at_builtin;refine dt.zaG (by rfl) _ _ (by rfl) Tryz.underlying59 (uh HQ).1 (uh HQ).2.1 (uh HQ).2.2.1 (uh HQ).2.2.2.1 (uh HQ).2.2.2.2 (by omega) (w.heap.size+1) l.length xss.flatten _ (by rfl) (uh hr4) [.bool n1,.bool n2,.string n3,.string nm,.slice a3 m3 c3,.int .i64 ln,.int .i64 co] (by rfl) (uh hone) w3.heap.size (by rfl) (by rfl) (uh hbyt).1 (uh hbyt).2 (uh hsz4) ?_;intro sl' w7 hr7 b7 hold7 hat7;have cP7:=(uh hPc) w7 ((b7.block w.heap.size (Nat.lt_succ_self _)).trans (uh hp3));have H7:=Hi (an hr7 (an b7 (an hold7 hat7)));clear hr7 b7 hold7 hat7))
    obtain⟨hr7,b7,hold7,hat7⟩:=uh H7;obtain⟨hgr3,hol3,hx3⟩:=uh HG;have HPo:=uh HP;have hown:=fun b (hb:(Value.slice al l.length cl).ownBlock=some b)=>(let ⟨_,hr,_⟩:=(uh hgr2).row;(hr.lt b hb).2)
    have hsz:w.heap.size≤w2.heap.size:=hk2.size;have hmore:=hgr3.more hol3 hx3 HPo.ow HPo.nd (fun b hb=>⟨by have:=(HPo.rng b hb).1;omega,by have:=(HPo.rng b hb).2;omega,fun hm=>by have:=((uh hgr2).rng b hm).2;have:=(HPo.rng b hb).1;omega,fun e=>by have:=hown b e;have:=(HPo.rng b hb).1;omega⟩) (by rfl) hr7 (by have:=(hr7.lt);have:=b7.size;exact this) hold7 hat7
    have hBs:B<w3.heap.size:=by omega
    have b7':=b7.mono (Nat.le_succ w.heap.size);have C7:=(uh HC3).low b7' hB hp;have K7:=(hk2.trans (uh HK3)).low b7';have p7:=(b7.block w.heap.size (Nat.lt_succ_self _)).trans (uh hp3);have z7:w.heap.size+1≤w7.heap.size:=by have:=b7.size;omega
    have hst7:=(uh hsp) w7 C C7
    by_cases hk:C.kd=0
    ·rw[show (C.kd != 0)=false by simpa using hk] at hst7
     have hrun3:=Hi (show brkF (optR E) right 1 g' (l ++ [d]) C=R from by have e:=uh hrun2;rw[(uh HO).2 hk] at e;exact e)
     have hix3:cc.ix<C.ix:=(uh hGO).2 hk;have hts3:=(uh hGO).1.ts;have hlt3:=(uh hGO).1.ok.lt;have hTS:=Hi hts3;have HM:=Hi hmore;rw[hts3,uh hts] at hlt3;clear hr7 b7 hold7 hat7 hgr3 hol3 hx3 hown hmore hts3 HO hGO hrun2 hk H7 hr4 HQ hbyt hsz4 hone b7';refine hst7.mono ?_
     rintro e w8 ⟨rfl,C8,K8⟩;have z8:=K8.size;clear hst7 C7
     go_wp2_with fail
     go_roundg g'
     case rel =>
      refine⟨l ++ [d],C,Gs ++ F,hrun3,C8,Hi ((uh HM).kp K8 (by omega)),K7.trans K8,Hi ((uh hTS).trans (uh hts)),by omega,by rw[List.length_append];simp;omega,Hi ((K8.block w.heap.size (by omega) (by omega)).trans p7),by omega⟩
     case measure=>exact Nat.lt_succ_self _
    ·rw[show (C.kd != 0)=true by simpa using hk] at hst7
     have hrun3:=Hi (show (none,C)=R from by have e:=uh hrun2;rw[(uh HO).1 hk] at e;exact e)
     clear hr7 b7 hold7 hat7 hgr3 hol3 hx3 hown hmore HO hGO hrun2 hk H7 hr4 HQ hbyt hsz4 hone b7';refine hst7.mono ?_
     rintro e w8 ⟨rfl,C8,K8⟩;clear hst7 C7
     go_wp2_with fail
     go_ret
     exact⟨[],C,none,0,0,[],zah (show brk (optR E) left right 1 c=(none,C) from (uh hs).trans (uh hrun3).symm),rfl,Sh.nil (lr _),C8,K7.trans K8⟩
   ·have hrun2:=Hi (show (some l,cc.cls right)=R from by
     have e:=uh hrun;rw[brkF,if_neg (fun e=>by rcases e with e | e;omega;rw[hQ] at e;cases e)] at e
     exact e)
    obtain⟨hcl2,hcs⟩:=(uh hcl) w2 cc hc2;rw[hQ] at hcl2;have hcl2:=Hi hcl2;have hNX:=Hi (fun W (k:CurAt W B p (cc.cls right))=>hc2.next k hcs)
    clear hrun hip2 hcs
    go_wp2_with fail
    refine (uh hcl2).mono ?_
    rintro e w3 ⟨rfl,hc3,hk3⟩;have hc3:=(uh hNX) _ hc3;clear hcl2
    go_wp2_with fail
    go_ret
    obtain⟨a',n',c',F',he',hSh⟩:=Sh.of (((uh hgr2).kp hk3 (by omega)).lo (Nat.le_succ _))
    injection he' with e1 e2 e3
    subst e1 e2 e3;exact⟨l,_,_,_,_,F',zah (show brk (optR E) left right 1 c=(some l,cc.cls right) from (uh hs).trans (uh hrun2).symm),rfl,hSh,hc3,hk2.trans hk3⟩
set_option maxRecDepth 4000 in
set_option maxHeartbeats 2000000 in
theorem zoh {N B p:Nat} {c:Cu} {w:World} (left right:ByteArray) (h:CurN N w B p c) :
  Calls Tryz.prog 116 #[.agg #[.pointer (some ⟨B,0,none⟩)],.string left,.string right,.func (.func 117) #[.agg #[.pointer (some ⟨B,0,none⟩)]] #[]] w fun e w'=>∃ (l:List Dt) (c':Cu) (a:Option Addr) (n cp:Nat) (F:List Nat),optT (choT (litF true N)) left right c=(l,c')∧e = .returned (.slice a n cp)∧Sh w' 7 l w.heap.size w'.heap.size a n cp F∧CurN N w' B p c'∧Kp B w w':=by
 have hlt:=h.lt;have hplt:=h.plt
 go_enter Tryz.func116,Tryz.ntmps116
 go_wp2_with fail
 obtain⟨W1,hW1⟩:∃ W1,W1=allocs w [(#[.pointer (some ⟨B,0,none⟩)],74)]:=⟨_,rfl⟩;have gW1:W1=(w.alloc (.cells #[.pointer (some ⟨B,0,none⟩)] 74)):=hW1;have aa:=zaq [(#[.pointer (some ⟨B,0,none⟩)],74)] w;have fP1:W1.heap[w.heap.size]? = some (.cells #[.pointer (some ⟨B,0,none⟩)] 74 (0,0)):=by rw[hW1];exact aa 0 _ rfl
 have bw:Below w.heap.size w W1:=by rw[hW1];exact zak _ _
 have sz1:w.heap.size+1≤W1.heap.size:=by rw[hW1,zal];exact lr _
 have K1:Kp B w W1:=Kp.of bw;have C1:=h.below bw;rw[← gW1];clear gW1 hW1 bw aa h;have cP2_0:W1.cell? ⟨w.heap.size,0,none⟩=some (.pointer (some ⟨B,0,none⟩)):=(zG fP1 0).trans rfl;have HH3:=Hi (an fP1 (an C1 (K1)));clear fP1 C1 K1
 go_wp2_with fail
 obtain⟨fP1,C1,K1⟩:=uh HH3;clear HH3;refine (zhX left C1).mono ?_
 rintro e W4 ⟨q,qE1,rfl,C4,J4⟩;have E1:=Hi qE1;clear qE1;have sz4:=J4.size;have fP4:W4.heap[w.heap.size]? = some (.cells #[.pointer (some ⟨B,0,none⟩)] 74 (0,0)):=(J4.block _ (by omega) (by omega)).trans fP1
 have K4:=K1.trans J4;clear fP1 K1 C1 J4 cP2_0
 cases q
 ·have HH5:=Hi (an fP4 (an C4 (K4)))
  clear fP4 C4 K4
  go_wp2_with fail
  obtain⟨fP4,C4,K4⟩:=uh HH5;clear HH5
  go_ret
  exact⟨[],c,none,0,0,[],zah (uh E1),rfl,Sh.nil (lr _),C4,K4⟩
 ·have cP5_0:W4.cell? ⟨w.heap.size,0,none⟩=some (.pointer (some ⟨B,0,none⟩)):=(zG fP4 0).trans rfl
  have HH6:=Hi (an fP4 (an C4 (K4)));clear fP4 C4 K4
  go_wp2_with fail
  obtain⟨fP4,C4,K4⟩:=uh HH6;clear HH6;refine (znr left right C4).mono ?_
  rintro e W7 ⟨l,u2,a,n,cp,F,qE2,rfl,sL7,C7,J7⟩;have E2:=Hi qE2;clear qE2;have sz7:=J7.size;have fP7:W7.heap[w.heap.size]? = some (.cells #[.pointer (some ⟨B,0,none⟩)] 74 (0,0)):=(J7.block _ (by omega) (by omega)).trans fP4
  have K7:=K4.trans J7;clear fP4 K4 C4 J7 cP5_0;have HH8:=Hi (an fP7 (an sL7 (an C7 (K7))));clear fP7 sL7 C7 K7
  go_wp2_with fail
  obtain⟨fP7,sL7,C7,K7⟩:=uh HH8;clear HH8
  go_ret
  exact⟨l,u2,a,n,cp,F,(zah (uh E1)).trans (uh E2),rfl,sL7.lo (by omega),C7,K7⟩
theorem infoSy:(Tryz.prog.info? 62).map (·.size)=some 17:=by kernel_rfl
structure Kq (B D:Nat) (w w':World):Prop where
 os:w'.os=w.os
 tape:w'.tape=w.tape
 output:w'.output=w.output
 size:w.heap.size≤w'.heap.size
 block:∀ k,k<w.heap.size→k ≠ B→k ≠ D→w'.heap[k]? = w.heap[k]?
theorem Kq.of {B D:Nat} {w w':World} (h:Kp B w w'):Kq B D w w':=⟨h.os,h.tape,h.output,h.size,fun k hk hB _=>h.block k hk hB⟩
theorem Kq.trans {B D:Nat} {a b c:World} (h:Kq B D a b) (k:Kp B b c):Kq B D a c:=⟨k.os.trans h.os,k.tape.trans h.tape,k.output.trans h.output,Nat.le_trans h.size k.size,fun i hi hB hD=>(k.block i (Nat.lt_of_lt_of_le hi h.size) hB).trans (h.block i hi hB hD)⟩
theorem Kq.transQ {B D:Nat} {a b c:World} (h:Kq B D a b) (k:Kq B D b c):Kq B D a c:=⟨k.os.trans h.os,k.tape.trans h.tape,k.output.trans h.output,Nat.le_trans h.size k.size,fun i hi hB hD=>(k.block i (Nat.lt_of_lt_of_le hi h.size) hB hD).trans (h.block i hi hB hD)⟩
theorem Kq.out {B D:Nat} {w w1:World} (h:Kq B D w w1) {b:Nat} (hb:b=D∨w.heap.size≤b) (o:Nat) (vs:List Value):Kq B D w (w1.setCells b o vs):=by
 have hs:Below 0 w1 (w1.setCells b o vs):=dt.zan b vs o w1 (Below.refl _ _) (Nat.zero_le _);refine⟨hs.os.trans h.os,hs.tape.trans h.tape,hs.output.trans h.output,Nat.le_trans h.size hs.size,fun k hk hB hD=>?_⟩
 exact (dt.zai b k (by omega) vs o w1).trans (h.block k hk hB hD)
theorem Kq.setB {B D:Nat} {w w1:World} (h:Kq B D w w1) {b:Nat} (hb:b=D∨w.heap.size≤b) (o:Nat) (v:Value):Kq B D w (w1.setCell ⟨b,o,none⟩ v):=h.out hb o [v]
theorem Kq.kp {B D:Nat} {w w1 w2:World} (h:Kp B w w1) (k:Kq B D w1 w2) (hD:w.heap.size≤D):Kp B w w2:=⟨k.os.trans h.os,k.tape.trans h.tape,k.output.trans h.output,Nat.le_trans h.size k.size,fun i hi hB=>(k.block i (Nat.lt_of_lt_of_le hi h.size) hB (by omega)).trans (h.block i hi hB)⟩
def sysC (k:Int) (ex n1 n2:Bool) (n3 nm:ByteArray) (a1:Option Addr) (m1 c1:Nat) (a2:Option Addr) (m2 c2:Nat) (a3:Option Addr) (m3 c3:Nat) (a4:Option Addr) (m4 c4:Nat) (a5:Option Addr) (m5 c5:Nat) (a6:Option Addr) (m6 c6:Nat) (a7:Option Addr) (m7 c7:Nat) (rp:Bool) (a8:Option Addr) (m8 c8:Nat) (ln co:Int):List Value:=[.int .i64 k,.bool ex,.bool n1,.bool n2,.string n3,.string nm,.slice a1 m1 c1,.slice a2 m2 c2,.slice a3 m3 c3,.slice a4 m4 c4,.slice a5 m5 c5,.slice a6 m6 c6,.slice a7 m7 c7,.bool rp,.slice a8 m8 c8,.int .i64 ln,.int .i64 co]
def SyC (s:Sy) (cs:List Value):Prop:=∃ (a1:Option Addr) (m1 c1:Nat) (a2:Option Addr) (m2 c2:Nat) (a3:Option Addr) (m3 c3:Nat) (a4:Option Addr) (m4 c4:Nat) (a5:Option Addr) (m5 c5:Nat) (a6:Option Addr) (m6 c6:Nat) (a7:Option Addr) (m7 c7:Nat) (a8:Option Addr) (m8 c8:Nat),cs=sysC s.k s.ex s.n.1 s.n.2.1 s.n.2.2 s.nm a1 m1 c1 a2 m2 c2 a3 m3 c3 a4 m4 c4 a5 m5 c5 a6 m6 c6 a7 m7 c7 s.rp a8 m8 c8 s.ln s.co∧m1=s.ifs.length∧m2=s.ds.length∧m3=s.fs.length∧m4=s.ins.length∧m5=s.ms.length∧m6=s.vs.length∧m7=s.rs.length
theorem zbr {X:World} {s:Sy} {lo:Nat} {a1:Option Addr} {m1 c1:Nat} {F1:List Nat} {lo1 hi1:Nat} {a2:Option Addr} {m2 c2:Nat} {F2:List Nat} {lo2 hi2:Nat} {a3:Option Addr} {m3 c3:Nat} {F3:List Nat} {lo3 hi3:Nat} {a4:Option Addr} {m4 c4:Nat} {F4:List Nat} {lo4 hi4:Nat} {a5:Option Addr} {m5 c5:Nat} {F5:List Nat} {lo5 hi5:Nat} {a6:Option Addr} {m6 c6:Nat} {F6:List Nat} {lo6 hi6:Nat} {a7:Option Addr} {m7 c7:Nat} {F7:List Nat} {lo7 hi7:Nat} {a8:Option Addr} {m8 c8:Nat} {F8:List Nat} {lo8 hi8:Nat} (h1:Sh X 3 s.ifs lo1 hi1 a1 m1 c1 F1) (h2:Sh X 4 s.ds lo2 hi2 a2 m2 c2 F2) (h3:Sh X 10 s.fs lo3 hi3 a3 m3 c3 F3) (h4:Sh X 17 s.ins lo4 hi4 a4 m4 c4 F4) (h5:Sh X 3 s.ms lo5 hi5 a5 m5 c5 F5) (h6:Sh X 7 s.vs lo6 hi6 a6 m6 c6 F6) (h7:Sh X 4 s.rs lo7 hi7 a7 m7 c7 F7) (h8:Sh X 3 s.ps lo8 hi8 a8 m8 c8 F8) (g0:lo≤lo1) (g1:lo1≤hi1) (g2:hi1≤lo2) (g3:lo2≤hi2) (g4:hi2≤lo3) (g5:lo3≤hi3) (g6:hi3≤lo4) (g7:lo4≤hi4) (g8:hi4≤lo5) (g9:lo5≤hi5) (g10:hi5≤lo6) (g11:lo6≤hi6) (g12:hi6≤lo7) (g13:lo7≤hi7) (g14:hi7≤lo8) (g15:lo8≤hi8) :
  SyC s (sysC s.k s.ex s.n.1 s.n.2.1 s.n.2.2 s.nm a1 m1 c1 a2 m2 c2 a3 m3 c3 a4 m4 c4 a5 m5 c5 a6 m6 c6 a7 m7 c7 s.rp a8 m8 c8 s.ln s.co)∧∃ F,Ho X s.d (sysC s.k s.ex s.n.1 s.n.2.1 s.n.2.2 s.nm a1 m1 c1 a2 m2 c2 a3 m3 c3 a4 m4 c4 a5 m5 c5 a6 m6 c6 a7 m7 c7 s.rp a8 m8 c8 s.ln s.co) F lo X.heap.size:=by
 refine⟨⟨a1,m1,c1,a2,m2,c2,a3,m3,c3,a4,m4,c4,a5,m5,c5,a6,m6,c6,a7,m7,c7,a8,m8,c8,rfl,h1.len,h2.len,h3.len,h4.len,h5.len,h6.len,h7.len⟩,?_⟩
 have hh:=h8.hi;have q8:=Ho.val (x:=.bool s.rp) rfl (Ho.lst (lo:=lo8) h8 (mid:=hi8) (Ho.val (x:=.int .i64 s.ln) rfl (Ho.val (x:=.int .i64 s.co) rfl (Ho.nil (lr _)))) (lr _) (lr _) (by omega) hh)
 have q7:=Ho.lst (lo:=lo7) h7 q8 (lr _) (by omega) (by omega) (by omega)
 have q6:=Ho.lst (lo:=lo6) h6 q7 (lr _) (by omega) (by omega) (by omega)
 have q5:=Ho.lst (lo:=lo5) h5 q6 (lr _) (by omega) (by omega) (by omega)
 have q4:=Ho.lst (lo:=lo4) h4 q5 (lr _) (by omega) (by omega) (by omega)
 have q3:=Ho.lst (lo:=lo3) h3 q4 (lr _) (by omega) (by omega) (by omega)
 have q2:=Ho.lst (lo:=lo2) h2 q3 (lr _) (by omega) (by omega) (by omega)
 have q1:=Ho.lst (lo:=lo) h1 q2 (by omega) (by omega) (by omega) (by omega)
 exact⟨_,Ho.val (x:=.int .i64 s.k) rfl (Ho.val (x:=.bool s.ex) rfl (Ho.val (x:=.bool s.n.1) rfl (Ho.val (x:=.bool s.n.2.1) rfl (Ho.val (x:=.string s.n.2.2) rfl (Ho.val (x:=.string s.nm) rfl q1)))))⟩
theorem zdM {s:Sy} {nm:ByteArray} {ln co:Int} {c c':Cu} (h:namR c=((nm,ln,co),c')):nmdT s c=({ s with nm:=nm,ln:=ln,co:=co },c'):=zah h
section
variable {N B p D:Nat} {c:Cu} {w:World}
set_option maxRecDepth 4000 in
set_option maxHeartbeats 2000000 in
theorem zcI {k0 l0 o0:Int} {ex n1 n2:Bool} {n3:ByteArray} (hD:w.heap[D]? = some (.cells #[.int .i64 k0,.bool ex,.bool n1,.bool n2,.string n3,.string ⟨#[]⟩,.slice none 0 0,.slice none 0 0,.slice none 0 0,.slice none 0 0,.slice none 0 0,.slice none 0 0,.slice none 0 0,.bool false,.slice none 0 0,.int .i64 l0,.int .i64 o0] 62 (0,0))) (hDB:D ≠ B) (hDp:D ≠ p) (h:CurN N w B p c):Calls Tryz.prog 110 #[.agg #[.pointer (some ⟨B,0,none⟩)],.pointer (some ⟨D,0,none⟩)] w fun e w'=>∃ (nm:ByteArray) (ln co:Int) (c':Cu),namR c=((nm,ln,co),c')∧e = .returned (.tuple #[])∧w'.heap[D]? = some (.cells #[.int .i64 k0,.bool ex,.bool n1,.bool n2,.string n3,.string nm,.slice none 0 0,.slice none 0 0,.slice none 0 0,.slice none 0 0,.slice none 0 0,.slice none 0 0,.slice none 0 0,.bool false,.slice none 0 0,.int .i64 ln,.int .i64 co] 62 (0,0))∧CurN N w' B p c'∧Kq B D w w':=by
 have hlt:=h.lt;have hplt:=h.plt;have hDlt:D<w.heap.size:=(Array.getElem?_eq_some_iff.1 hD).1
 go_enter Tryz.func110,Tryz.ntmps110
 go_wp2_with fail
 have hD0:=hD;obtain⟨W1,hW1⟩:∃ W1,W1=allocs w [(#[.pointer (some ⟨B,0,none⟩)],74)]:=⟨_,rfl⟩;have gW1:W1=(w.alloc (.cells #[.pointer (some ⟨B,0,none⟩)] 74)):=hW1;have aa:=zaq [(#[.pointer (some ⟨B,0,none⟩)],74)] w;have fP1:W1.heap[w.heap.size]? = some (.cells #[.pointer (some ⟨B,0,none⟩)] 74 (0,0)):=by rw[hW1];exact aa 0 _ rfl
 have bw:Below w.heap.size w W1:=by rw[hW1];exact zak _ _
 have sz1:w.heap.size+1≤W1.heap.size:=by rw[hW1,zal];exact lr _
 have K1:Kp B w W1:=Kp.of bw;have fD1:W1.heap[D]? = some (.cells #[.int .i64 k0,.bool ex,.bool n1,.bool n2,.string n3,.string ⟨#[]⟩,.slice none 0 0,.slice none 0 0,.slice none 0 0,.slice none 0 0,.slice none 0 0,.slice none 0 0,.slice none 0 0,.bool false,.slice none 0 0,.int .i64 l0,.int .i64 o0] 62 (0,0)):=(bw.block _ hDlt).trans hD0;have C1:=h.below bw;rw[← gW1];clear gW1 hW1 bw aa h
 clear hD0 hD;have cP2_0:W1.cell? ⟨w.heap.size,0,none⟩=some (.pointer (some ⟨B,0,none⟩)):=(zG fP1 0).trans rfl;have HH3:=Hi (an fP1 (an fD1 (an C1 (K1))));clear fP1 fD1 C1 K1
 go_wp2_with fail
 obtain⟨fP1,fD1,C1,K1⟩:=uh HH3;clear HH3;refine (zex C1).mono ?_
 rintro e W4 ⟨nm,ln,co,u1,qE1,rfl,C4,J4⟩;have E1:=Hi qE1;clear qE1;have sz4:=J4.size;have fP4:W4.heap[w.heap.size]? = some (.cells #[.pointer (some ⟨B,0,none⟩)] 74 (0,0)):=(J4.block _ (by omega) (by omega)).trans fP1
 have fD4:W4.heap[D]? = some (.cells #[.int .i64 k0,.bool ex,.bool n1,.bool n2,.string n3,.string ⟨#[]⟩,.slice none 0 0,.slice none 0 0,.slice none 0 0,.slice none 0 0,.slice none 0 0,.slice none 0 0,.slice none 0 0,.bool false,.slice none 0 0,.int .i64 l0,.int .i64 o0] 62 (0,0)):=(J4.block _ (by omega) (by omega)).trans fD1
 have K4:=K1.trans J4;clear fP1 fD1 K1 C1 J4 cP2_0;have fP5:(W4.alloc (.cells #[.string nm,.int .i64 ln,.int .i64 co] 92)).heap[w.heap.size]? = some (.cells #[.pointer (some ⟨B,0,none⟩)] 74 (0,0)):=(Below.heap_alloc W4 _ _ (by omega)).trans fP4
 have fD5:(W4.alloc (.cells #[.string nm,.int .i64 ln,.int .i64 co] 92)).heap[D]? = some (.cells #[.int .i64 k0,.bool ex,.bool n1,.bool n2,.string n3,.string ⟨#[]⟩,.slice none 0 0,.slice none 0 0,.slice none 0 0,.slice none 0 0,.slice none 0 0,.slice none 0 0,.slice none 0 0,.bool false,.slice none 0 0,.int .i64 l0,.int .i64 o0] 62 (0,0)):=(Below.heap_alloc W4 _ _ (by omega)).trans fD4
 have fM5:(W4.alloc (.cells #[.string nm,.int .i64 ln,.int .i64 co] 92)).heap[W4.heap.size]? = some (.cells #[.string nm,.int .i64 ln,.int .i64 co] 92 (0,0)):=heap_alloc_new _ _;have bb5:Below W4.heap.size W4 (W4.alloc (.cells #[.string nm,.int .i64 ln,.int .i64 co] 92)):=ba;have C5:=C4.below bb5;have K5:=K4.trans (Kp.of bb5);have HH6:=Hi (an fP5 (an fD5 (an fM5 (an C5 (an K5 (an fP4 (an fD4 (an K4 (C4)))))))))
 clear fP5 fD5 fM5 C5 K5 fP4 fD4 K4 C4
 go_wp2_with fail
 obtain⟨fP5,fD5,fM5,C5,K5,fP4,fD4,K4,C4⟩:=uh HH6;clear HH6;obtain⟨W7,hW7⟩:∃ W7,W7=(W4.alloc (.cells #[.string nm,.int .i64 ln,.int .i64 co] 92)):=⟨_,rfl⟩;rw[← hW7] at fP5 fD5 fM5 C5 K5 ⊢;have sz7:W4.heap.size+1≤W7.heap.size:=by rw[hW7];simp only[zaf,dt.zaa,World.size_alloc];exact lr _
 clear hW7 fP4 fD4 K4 C4;have cM8_0:W7.cell? ⟨W4.heap.size,0,none⟩=some (.string nm):=(zG fM5 0).trans rfl;have cM8_1:W7.cell? ⟨W4.heap.size,1,none⟩=some (.int .i64 ln):=(zG fM5 1).trans rfl;have cM8_2:W7.cell? ⟨W4.heap.size,2,none⟩=some (.int .i64 co):=(zG fM5 2).trans rfl;have cD9_5:W7.cell? ⟨D,5,none⟩=some (.string ⟨#[]⟩):=(zG fD5 5).trans rfl;have cD9_15:W7.cell? ⟨D,15,none⟩=some (.int .i64 l0):=(zG fD5 15).trans rfl
 have cD9_16:W7.cell? ⟨D,16,none⟩=some (.int .i64 o0):=(zG fD5 16).trans rfl;have zD9_5:W7.frozen? ⟨D,5,none⟩=false:=dt.zag fD5 5;have zD9_15:W7.frozen? ⟨D,15,none⟩=false:=dt.zag fD5 15;have zD9_16:W7.frozen? ⟨D,16,none⟩=false:=dt.zag fD5 16;have HH:=Hi (an fP5 (an fD5 (an fM5 (an C5 (K5)))));clear fP5 fD5 fM5 C5 K5
 go_region
 go_end0
 obtain⟨fP5,fD5,fM5,C5,K5⟩:=uh HH;have g1:(W7.setCell ⟨D,5,none⟩ (.string nm)).heap[D]? = some (.cells #[.int .i64 k0,.bool ex,.bool n1,.bool n2,.string n3,.string nm,.slice none 0 0,.slice none 0 0,.slice none 0 0,.slice none 0 0,.slice none 0 0,.slice none 0 0,.slice none 0 0,.bool false,.slice none 0 0,.int .i64 l0,.int .i64 o0] 62 (0,0)):=(dt.zac fD5 5 _).trans (by kernel_rfl)
 have g2:((W7.setCell ⟨D,5,none⟩ (.string nm)).setCell ⟨D,15,none⟩ (.int .i64 ln)).heap[D]? = some (.cells #[.int .i64 k0,.bool ex,.bool n1,.bool n2,.string n3,.string nm,.slice none 0 0,.slice none 0 0,.slice none 0 0,.slice none 0 0,.slice none 0 0,.slice none 0 0,.slice none 0 0,.bool false,.slice none 0 0,.int .i64 ln,.int .i64 o0] 62 (0,0)):=(dt.zac g1 15 _).trans (by kernel_rfl)
 have g3:(((W7.setCell ⟨D,5,none⟩ (.string nm)).setCell ⟨D,15,none⟩ (.int .i64 ln)).setCell ⟨D,16,none⟩ (.int .i64 co)).heap[D]? = some (.cells #[.int .i64 k0,.bool ex,.bool n1,.bool n2,.string n3,.string nm,.slice none 0 0,.slice none 0 0,.slice none 0 0,.slice none 0 0,.slice none 0 0,.slice none 0 0,.slice none 0 0,.bool false,.slice none 0 0,.int .i64 ln,.int .i64 co] 62 (0,0)):=(dt.zac g2 16 _).trans (by kernel_rfl)
 have hC:=((C5.outC (b:=D) (by omega) (by omega) 5 (.string nm)).outC (b:=D) (by omega) (by omega) 15 (.int .i64 ln)).outC (b:=D) (by omega) (by omega) 16 (.int .i64 co)
 have hK:=(((Kq.of (D:=D) K5).setB (.inl rfl) 5 (.string nm)).setB (.inl rfl) 15 (.int .i64 ln)).setB (.inl rfl) 16 (.int .i64 co);have bD:Below (((W7.setCell ⟨D,5,none⟩ (.string nm)).setCell ⟨D,15,none⟩ (.int .i64 ln)).setCell ⟨D,16,none⟩ (.int .i64 co)).heap.size (((W7.setCell ⟨D,5,none⟩ (.string nm)).setCell ⟨D,15,none⟩ (.int .i64 ln)).setCell ⟨D,16,none⟩ (.int .i64 co)) (((W7.setCell ⟨D,5,none⟩ (.string nm)).setCell ⟨D,15,none⟩ (.int .i64 ln)).setCell ⟨D,16,none⟩ (.int .i64 co)).drew:=(Below.refl _ _).drew
 exact⟨nm,ln,co,u1,uh E1,rfl,g3,hC.below bD,hK.trans (Kp.of bD)⟩
end
open dt (Dt Kp RowAt Ow Grow)
def Bd (N:Nat) {A:Type} (E:Cu→A × Cu) (Q:A→Prop):Prop:=∀ c,c.Ok→c.ts.length≤N→Q (E c).1
theorem Bd.bnd {N:Nat} {A X:Type} {E:Cu→A × Cu} {F:A→Cu→X × Cu} {QE:A→Prop} {Q:X→Prop} (h:Bd N E QE) (s:St E) (k:∀ a,QE a→Bd N (F a) Q):Bd N (bnd E F) Q:=fun c hc hn=>k _ (h c hc hn) _ (s c hc).ok (by rw[(s c hc).ts];exact hn)
theorem Bd.any {N:Nat} {A:Type} (E:Cu→A × Cu):Bd N E (fun _=>True):=fun _ _ _=>trivial
theorem Bd.ret {N:Nat} {A:Type} {a:A} {Q:A→Prop} (h:Q a):Bd N (ret a) Q:=fun _ _ _=>h
theorem Bd.cond {N:Nat} {A:Type} {b:Bool} {E F:Cu→A × Cu} {Q:A→Prop} (h:Bd N E Q) (k:Bd N F Q):Bd N (cond b E F) Q:=by cases b;exact k;exact h
theorem zhy {E:Cu→Option Dt × Cu} (r:ByteArray) (n:Nat):∀ (g:Nat) (l:List Dt) (c:Cu) (x:List Dt),(brkF E r n g l c).1=some x→x.length≤l.length+g
 | 0,l,c,x,h=>by cases h
 | g+1,l,c,x,h=>by
  simp only[brkF] at h
  split at h
  ·cases hq:(E c).1 with
   | none=>rw[hq] at h;cases h
   | some d =>
    rw[hq] at h;have:=zhy r n g _ _ x h;rw[List.length_append] at this;simp at this;omega
  ·cases h;omega
theorem zhA {N:Nat} (E:Cu→Dt × Cu) (l r:ByteArray):Bd N (brkT E l r) (fun x=>x.length≤N+1):=fun c hc hn=>by
 show ((brk (optR E) l r 1 c).1.getD []).length≤N+1
 cases hq:(brk (optR E) l r 1 c).1 with
 | none=>simp
 | some x =>
  unfold brk at hq
  split at hq
  ·have:=zhy r 1 _ _ _ x hq
   simp at this ⊢;omega
  ·cases hq
theorem zdZ {N:Nat} (E:Cu→Dt × Cu) (l r:ByteArray):Bd N (optT E l r) (fun x=>x.length≤N+1):=(Bd.any _).bnd (za7 l) fun q _=>Bd.cond (zhA E l r) (Bd.ret (a:=([]:List Dt)) (Q:=fun (x:List Dt)=>x.length≤N+1) (by simp))
theorem zgi {L:LitR}:∀ (g:Nat) (l:List Dt) (c:Cu) (x:List Dt),(dirsF L g l c).1=some x→x.length≤l.length+g
 | 0,l,c,x,h=>by cases h
 | g+1,l,c,x,h=>by
  simp only[dirsF] at h
  split at h
  ·cases hq:(dirS L c).1 with
   | none=>rw[hq] at h;cases h
   | some d =>
    rw[hq] at h;have:=zgi g _ _ x h;rw[List.length_append] at this;simp at this;omega
  ·have h':(if c.kd=0 then some l else none)=some x:=h
   split at h'
   ·cases h';omega
   ·cases h'
theorem zcE {N:Nat} (L:LitR):Bd N (dirs L) (fun x=>(x.getD []).length≤N+1):=fun c hc hn=>by
 cases hq:(dirs L c).1 with
 | none=>simp
 | some x =>
  have:=zgi _ _ _ x hq;simp at this ⊢;omega
theorem zh9 {E:Cu→Nm × Cu} (k:ByteArray):∀ (g:Nat) (l:List Dt) (c:Cu),(parF E k g l c).1.length≤l.length+g
 | 0,l,c=>lr _
 | g+1,l,c=>by
  show (cond (c.isP k) (bnd E fun d=>parF E k g (l ++ [namD d])) (ret l) (c.punct k)).1.length≤_
  cases c.isP k with
  | false=>exact Nat.le_add_right _ _
  | true =>
   have:=zh9 (E:=E) k g (l ++ [namD (E (c.punct k)).1]) (E (c.punct k)).2;rw[List.length_append] at this;simp at this
   show (parF E k g (l ++ [namD (E (c.punct k)).1]) (E (c.punct k)).2).1.length≤_
   omega
theorem zia {N:Nat} (E:Cu→Nm × Cu) (k:ByteArray):Bd N (parT N E k) (fun x=>x.length≤N+1):=fun c hc hn=>by
 have:=zh9 (E:=E) k N [namD (E (c.punct k)).1] (E (c.punct k)).2;simp at this
 show (parF E k N [namD (E (c.punct k)).1] (E (c.punct k)).2).1.length≤_
 omega
structure Lens (N:Nat) (s:Sy):Prop where
 ifs:s.ifs.length≤N+1
 ds:s.ds.length≤N+1
 fs:s.fs.length≤N+1
 ins:s.ins.length≤N+1
 ms:s.ms.length≤N+1
 vs:s.vs.length≤N+1
 rs:s.rs.length≤N+1
section
variable (N:Nat)
theorem zdw {s:Sy} (h:Lens N s):Bd N (nmdT s) (Lens N):=(Bd.any _).bnd zaR fun m _=>Bd.ret ⟨h.ifs,h.ds,h.fs,h.ins,h.ms,h.vs,h.rs⟩
theorem ziG:St (dirs (litF true N)):=zaI (zaj true N)
theorem zow {s:Sy} (h:Lens N s):Bd N (schT (litF true N) s) (Lens N):=(zcE _).bnd (ziG N) fun d hd=>(Bd.any _).bnd (za7 _) fun q _=>(Bd.cond (zhA rooT bLc bRc) (Bd.ret (a:=([]:List Dt)) (Q:=fun (x:List Dt)=>x.length≤N+1) (by simp))).bnd (zaK ((zaH zdj _ _ _).st.bnd fun _=>zam _) (zam _)) fun r hr=>Bd.ret ⟨h.ifs,hd,h.fs,h.ins,h.ms,h.vs,hr⟩
theorem zov {s:Sy} (h:Lens N s):Bd N (scaT (litF true N) s) (Lens N):=(zdw N h).bnd (zci _) fun s h=>(zcE _).bnd (ziG N) fun d hd=>Bd.ret ⟨h.ifs,hd,h.fs,h.ins,h.ms,h.vs,h.rs⟩
theorem zks {E:Cu→Nm × Cu} (s:St E) (k:ByteArray):St (parT N E k):=(zap k).bnd fun _=>s.bnd fun _=>zce s k _ _
theorem zke {s:Sy} (h:Lens N s):Bd N (objT (typF N) (litF true N) N s) (Lens N):=(zdw N h).bnd (zci _) fun s h=>(Bd.any _).bnd (zaw _) fun q _=>(Bd.cond (zia namR bAmp) (Bd.ret (a:=([]:List Dt)) (Q:=fun (x:List Dt)=>x.length≤N+1) (by simp))).bnd (zaK (zks N zaR _) (zam _)) fun i hi=>(zcE _).bnd (ziG N) fun d hd=>(zdZ _ _ _).bnd (zbR (zfw N) _ _) fun f hf=>Bd.ret ⟨hi,hd,hf,h.ins,h.ms,h.vs,h.rs⟩
theorem zoO {s:Sy} (h:Lens N s):Bd N (uniT (litF true N) N s) (Lens N):=(zdw N h).bnd (zci _) fun s h=>(zcE _).bnd (ziG N) fun d hd=>(Bd.any _).bnd (zap _) fun q _=>(Bd.cond (zia namR bPipe) (Bd.ret (a:=([]:List Dt)) (Q:=fun (x:List Dt)=>x.length≤N+1) (by simp))).bnd (zaK (zks N zaR _) (zam _)) fun i hi=>Bd.ret ⟨h.ifs,hd,h.fs,h.ins,hi,h.vs,h.rs⟩
theorem znL {s:Sy} (h:Lens N s):Bd N (enuT (litF true N) s) (Lens N):=(zdw N h).bnd (zci _) fun s h=>(zcE _).bnd (ziG N) fun d hd=>(zdZ _ _ _).bnd (zbR (zc4 N) _ _) fun f hf=>Bd.ret ⟨h.ifs,hd,h.fs,h.ins,h.ms,hf,h.rs⟩
theorem zn0 {s:Sy} (h:Lens N s):Bd N (inuT (typF N) (litF true N) s) (Lens N):=(zdw N h).bnd (zci _) fun s h=>(zcE _).bnd (ziG N) fun d hd=>(zdZ _ _ _).bnd (zbR (zaF N) _ _) fun f hf=>Bd.ret ⟨h.ifs,hd,h.fs,hf,h.ms,h.vs,h.rs⟩
theorem zli {s:Sy} (h:Lens N s):Bd N (dirT (typF N) (litF true N) N s) (Lens N):=(Bd.any _).bnd (zaN _) fun _ _=>(zdw N h).bnd (zci _) fun s h=>(zdZ _ _ _).bnd (zbR (zaF N) _ _) fun f hf=>(Bd.any _).bnd (zaw _) fun r _=>(Bd.any _).bnd (zbB _) fun _ _=>(Bd.any _).bnd (zks N (zcM _) _) fun p _=>Bd.ret ⟨h.ifs,h.ds,h.fs,hf,h.ms,h.vs,h.rs⟩
theorem zio {s:Sy} (h:Lens N s):Bd N (stopR s) (Lens N):=fun _ _ _=>h
theorem zdK {q:ByteArray} {E F:Cu→Sy × Cu} (h:Bd N E (Lens N)) (k:Bd N F (Lens N)):Bd N (kwT q E F) (Lens N):=(Bd.any _).bnd (zaw q) fun _ _=>Bd.cond h k
theorem zdG {s:Sy} (h:Lens N s) (k:Int) (t:Tk):Lens N (s.at k t):=⟨h.ifs,h.ds,h.fs,h.ins,h.ms,h.vs,h.rs⟩
theorem zjS {s:Sy} (h:Lens N s):Bd N (keyT (typF N) (litF true N) N s) (Lens N):=(Bd.any _).bnd zcy fun t _ =>
 zdK N (zow N (zdG N h _ _)) (zdK N (zov N (zdG N h _ _)) (zdK N (zke N (zdG N h _ _)) (zdK N (zke N (zdG N h _ _)) (zdK N (zoO N (zdG N h _ _)) (zdK N (znL N (zdG N h _ _)) (zdK N (zn0 N (zdG N h _ _)) (Bd.cond (zio N h) (zdK N (zli N (zdG N h _ _)) (zio N h)))))))))
theorem zmS (n:Nt) (x:Bool):Lens N (Sy.of n x):=⟨Nat.zero_le _,Nat.zero_le _,Nat.zero_le _,Nat.zero_le _,Nat.zero_le _,Nat.zero_le _,Nat.zero_le _⟩
end
theorem zpJ {q:ByteArray} {E F:Cu→Sy × Cu} {c:Cu} {x:Sy × Cu} (h:wordR q c=(false,c)) (k:F c=x):kwT q E F c=x:=(zah h).trans k
theorem zmI {q:ByteArray} {E F:Cu→Sy × Cu} {c c':Cu} {x:Sy × Cu} (h:wordR q c=(true,c')) (k:E c'=x):kwT q E F c=x:=(zah h).trans k
theorem zkV {q:ByteArray} {c c':Cu} (h:wordR q c=(false,c')):c'=c:=by
 unfold wordR Cu.word at h
 cases hq:c.isW [q] with
 | true=>rw[hq] at h;simp at h
 | false=>rw[hq] at h;simp at h;exact h.symm
end Go.Proofs.YtifbkdicglcogaaGreat.cu
