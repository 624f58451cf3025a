import Derived.Test.YtepmbmbnlmbhhaaGreatPla6
set_option linter.unusedVariables false
set_option linter.unusedSimpArgs false
set_option maxHeartbeats 16000000
set_option maxRecDepth 8000
open Go.Proofs.Tryz
namespace Go.Proofs.YtepmbmbnlmbhhaaGreat
open Go.ChangeShapes Go.WideShapes Go.ChangeAt Go.RowKit
namespace cu
open ints (Hi uh)
open dt (Dt Kp RowAt)
theorem zj4(f:Nat)(c:Cu)(h:c.Ok):Stp c (unm (typF f) c).2∧∀ r,(unm (typF f) c).1=some r→r.2.size<(unm (typF f) c).2.ix-c.ix+1:=by
 unfold unm
 split
 ·have ho:=za2 h bLb
  split
  ·rename_i hb
   have hi:=zbL hb;have h2:=zcj f _ ho.ok
   cases hq:(typF f (c.opn bLb)).1 with
   | none=>exact⟨ho.trans h2.1,fun r hr=>by cases hr⟩
   | some it =>
    have h3:=zbV h2.1.ok bRb;have h4:=h2.2 it hq;have h5:=h2.1.ix;have h6:=h3.ix;dsimp only
    split
    ·refine⟨(ho.trans h2.1).trans h3,fun r hr=>?_⟩
     obtain rfl:=Option.some.inj hr
     show (it.2++bRb).size<_
     rw[zbx]
     show it.2.size+1<((typF f (c.opn bLb)).2.cls bRb).ix-c.ix+1
     omega
    ·exact⟨(ho.trans h2.1).trans h3,fun r hr=>by cases hr⟩
  ·exact⟨ho,fun r hr=>by cases hr⟩
 ·have hn:=zan h
  split
  ·exact⟨hn,fun r hr=>by obtain rfl:=Option.some.inj hr;show (0:Nat)<_;omega⟩
  ·exact⟨hn,fun r hr=>by cases hr⟩
theorem znu(f:Nat)(c:Cu)(hc:c.Ok)(hlen:c.ts.length≤1099511627777)(hu:TypAt (unm (typF f)) 72 c):TypAt (typ (unm (typF f))) 25 c:=by
 intro B p w h;have hlt:=h.lt;have hplt:=h.plt;have hne:B≠w.heap.size:=by omega
 have hnp:p≠w.heap.size:=by omega
 have bA:=qA w;have hZ:=qz hlt;have hU:=Hi (fun W (bb:Below w.heap.size w W)=>hu B p W (h.below bb))
 have hug:=zj4 f c hc;have hpu:=Hi (fun W (hc:CurAt W B p (unm (typF f) c).2)=>zbe B p (unm (typF f) c).2 bBang W hc)
 obtain⟨U,eU⟩:∃ U,U=unm (typF f) c:=⟨_,rfl⟩;have hs0:=Hi (show U.1=none→typ (unm (typF f)) c=(none,U.2) from fun e=>by unfold typ;rw[←eU,e])
 have hs1:=Hi (show ∀ r,U.1=some r→typ (unm (typF f)) c=if U.2.isP bBang then (some (r.1,r.2++bBang),U.2.punct bBang) else (some r,U.2.punct bBang) from fun r e=>by unfold typ;rw[←eU,e])
 rw[←eU] at hU hpu hug;clear h eU hu;obtain⟨r,C⟩:=U;have hixC:=hug.1.ok.lt;rw[hug.1.ts] at hixC;unfold ptr at hU hpu ⊢
 go_enter func25,ntmps25
 go_wp2_with fail
 refine ((uh hU) _ ((uh bA) _)).mono ?_
 rintro e w4 ⟨rfl,hc4,hk4⟩;have hR4:=(uh hZ) _ w4 hk4;have hz4:w.heap.size<w4.heap.size:=by have:=hk4.size;simp at this;omega
 have HK:=Hi ((Kp.of ((uh bA) _)).trans hk4);have HC:=Hi hc4;have HR:=Hi hR4;clear hk4 hc4 hR4 hU hZ bA;have HT:=Hi (fun o=>dt.zac ((Below.heap_alloc w4 o w.heap.size hz4).trans (uh HR)) (o:=0) (n:=2) (by decide))
 cases r with
 | none =>
  have hs2:=Hi ((uh hs0) rfl);unfold trC;clear hs0 hs1 hpu
  go_wp2_with (first
   | refine wpList_store_mid (by rfl) 44 _ _ (by rfl) w.heap.size 0 #[.string em,.string em] (by rfl) (by rfl) ((uh HT) _) infoTr (dt.zab (cs:=[.string em,.string em]) (by rfl)) ?_)
  refine bodyPost_ret (rgn.zaa rfl _ _ w.heap.size 0 [.string em,.string em] _ rfl (World.rangeAt_setCells_same _ _ _ _ ((uh HT) _)) underlying44 rfl infoTr) rfl ?_
  rw[uh hs2];exact⟨rfl,((uh HC).below (ba)).out hne hnp _ _,((uh HK).trans (Kp.of (ba))).out (lr _) _ _⟩
 | some it =>
  have hitz:it.2.size≤1099511627777:=by have:=hug.2 it rfl;omega
  have hs2:=Hi ((uh hs1) it rfl);clear hs0 hs1 hug;obtain⟨nm,wp⟩:=it
  cases hQ:C.isP bBang
  ·rw[hQ] at hpu hs2
   unfold trC
   go_wp2_with fail
   refine ((uh hpu) _ ((uh HC).below (ba))).mono ?_
   rintro e w5 ⟨rfl,hc5,hk5⟩;have hR5:=(hk5.block w.heap.size (by simp;omega) (by omega)).trans ((Below.heap_alloc w4 _ w.heap.size hz4).trans (uh HR))
   have hI5:=(hk5.block w4.heap.size (by simp) (by omega)).trans (heap_alloc_new w4 _)
   have i0:w5.cell? ⟨w4.heap.size,0,none⟩=some (.string nm):=(zG hI5 0).trans rfl;have i1:w5.cell? ⟨w4.heap.size,1,none⟩=some (.string wp):=(zG hI5 1).trans rfl;have HT5:=Hi (dt.zac hR5 (o:=0) (n:=2) (by decide))
   have HC5:=Hi hc5;have HK5:=Hi ((uh HK).trans ((Kp.of (ba)).trans hk5));clear hpu hk5 hc5 hR5 hI5 HC HK HT HR
   go_wp2_with (first
    | refine wpList_store_mid (by rfl) 44 _ _ (by rfl) w.heap.size 0 #[.string nm,.string wp] (by rfl) (by rfl) (uh HT5) infoTr (dt.zab (cs:=[.string nm,.string wp]) (by rfl)) ?_)
   refine bodyPost_ret (rgn.zaa rfl _ _ w.heap.size 0 [.string nm,.string wp] _ rfl (World.rangeAt_setCells_same _ _ _ _ (uh HT5)) underlying44 rfl infoTr) rfl ?_
   rw[uh hs2];exact⟨rfl,(uh HC5).out hne hnp _ _,(uh HK5).out (lr _) _ _⟩
  ·rw[hQ] at hpu hs2
   unfold trC
   go_wp2_with fail
   refine ((uh hpu) _ ((uh HC).below (ba))).mono ?_
   rintro e w5 ⟨rfl,hc5,hk5⟩;have hR5:=(hk5.block w.heap.size (by simp;omega) (by omega)).trans ((Below.heap_alloc w4 _ w.heap.size hz4).trans (uh HR))
   have hI5:=(hk5.block w4.heap.size (by simp) (by omega)).trans (heap_alloc_new w4 _)
   have i0:w5.cell? ⟨w4.heap.size,0,none⟩=some (.string nm):=(zG hI5 0).trans rfl;have i1:w5.cell? ⟨w4.heap.size,1,none⟩=some (.string wp):=(zG hI5 1).trans rfl;have f1:w5.frozen? ⟨w4.heap.size,1,none⟩=false:=dt.zak hI5 1;have hnw:w.heap.size≠w4.heap.size:=by omega
   have hX:Hid (∀ v,(w5.setCell ⟨w4.heap.size,1,none⟩ v).there w.heap.size 0 2):=Hi (fun v=>dt.zac ((Below.heap_setCell w5 ⟨w4.heap.size,1,none⟩ v w.heap.size hnw).trans hR5) (o:=0) (n:=2) (by decide))
   have j0:∀ v,(w5.setCell ⟨w4.heap.size,1,none⟩ v).cell? ⟨w4.heap.size,0,none⟩=some (.string nm):=fun v=>(zG (dt.zaj hI5 1 v) 0).trans rfl
   have HC5:=Hi hc5;have HK5:=Hi ((uh HK).trans ((Kp.of (ba)).trans hk5));clear hpu hk5 hc5 hR5 hI5 HC HK HT HR
   go_wp2_with (first
    | refine wpList_store_mid (by rfl) 44 _ _ (by rfl) w.heap.size 0 #[.string nm,.string (wp++bBang)] (by rfl) (by rfl) ((uh hX) _) infoTr (dt.zab (cs:=[.string nm,.string (wp++bBang)]) (by rfl)) ?_)
   refine bodyPost_ret (rgn.zaa rfl _ _ w.heap.size 0 [.string nm,.string (wp++bBang)] _ rfl (World.rangeAt_setCells_same _ _ _ _ ((uh hX) _)) underlying44 rfl infoTr) rfl ?_
   rw[uh hs2];exact⟨rfl,((uh HC5).out (b:=w4.heap.size) (by omega) (by omega) 1 [.string (wp++bBang)]).out hne hnp _ _,((uh HK5).out (b:=w4.heap.size) (by omega) 1 [.string (wp++bBang)]).out (lr _) _ _⟩
theorem zft:∀ (f:Nat) (c:Cu),c.Ok→c.ts.length≤1099511627777→c.ts.length≤f+c.ix→TypAt (typF f) 25 c
 | 0,c,hc,hl,hf=>by have:=hc.lt;omega
 | f+1,c,hc,hl,hf=>znu f c hc hl (znw f c hc hl (fun c' h1 h2 h3=>zft f c' h1 (by rw[h2];exact hl) (by rw[h2,h3];omega)))
open mem (Row)
def mostS(d:Int):Nat:=(max 0 (min d 200)).toNat
def newS(l:List Int)(d:Int):Cu:=⟨lx.tks l 0,0,0,mostS d,0⟩
theorem zgf(l:List Int):∀ (f i:Nat),i≤l.length→l.length<f+i→∀ j t,(lx.tksF l f i)[j]? = some t→t.k=0∨t.k=1∨j+1<(lx.tksF l f i).length
 | 0,i,hi,hf,j,t,h=>by simp[lx.tksF] at h
 | f+1,i,hi,hf,j,t,h=>by
  by_cases he:(lx.tkAt l i).k=0∨(lx.tkAt l i).k=1
  ·rw[lx.tksF,if_pos he] at h
   cases j with
   | zero=>simp at h;subst h;rcases he with e | e;exact .inl e;exact .inr (.inl e)
   | succ j=>simp at h
  ·rw[lx.tksF,if_neg he] at h ⊢
   have h2:=lx.ziv l i hi
   have h3:i<(lx.tkAt l i).to:=by
    rcases h2.2.2 with e | e | e
    ·exact absurd (.inl e) he
    ·exact absurd (.inr e) he
    ·exact e
   cases j with
   | zero =>
    right;right
    cases f with
    | zero=>omega
    | succ f =>
     rw[lx.tksF]
     split <;> simp
   | succ j =>
    have:=zgf l f (lx.tkAt l i).to h2.2.1 (by omega) j t (by simpa using h)
    simpa using this
theorem zcZ(l:List Int):∀ (f i:Nat),i≤l.length→(lx.tksF l f i).length≤l.length+1-i
 | 0,i,hi=>by simp[lx.tksF]
 | f+1,i,hi=>by
  by_cases he:(lx.tkAt l i).k=0∨(lx.tkAt l i).k=1
  ·rw[lx.tksF,if_pos he];simp;omega
  ·rw[lx.tksF,if_neg he]
   have h2:=lx.ziv l i hi
   have h3:i<(lx.tkAt l i).to:=by
    rcases h2.2.2 with e | e | e
    ·exact absurd (.inl e) he
    ·exact absurd (.inr e) he
    ·exact e
   have:=zcZ l f (lx.tkAt l i).to h2.2.1;simp;omega
theorem zlY(l:List Int)(i:Nat):0<(lx.tks l i).length:=by
 unfold lx.tks;rw[lx.tksF]
 split <;> simp
theorem zfa(l:List Int)(d:Int):(newS l d).Ok:=
 ⟨zlY l 0,zgf l (l.length+1) 0 (Nat.zero_le _) (by omega),Nat.zero_le _,by unfold newS mostS;simp only;omega⟩
theorem zks(a:Option Addr)(n c:Nat)(l:List Int)(d:Int)(w:World)(h:Row .u8 w a n c l)(hn:n≤1099511627776)(hp:lx.Plain l)(hd:(Lit.int .i64 d).wf=true) :
  Calls prog 12 #[.slice a n c,.int .i64 d] w fun e w'=>∃ B p,e = .returned (ptr B)∧w.heap.size≤B∧w.heap.size≤p∧CurAt w' B p (newS l d)∧Below w.heap.size w w':=by
 have hT:=Hi (fun W (bb:Below w.heap.size w W)=>lx.zix a n c l W (h.below bb) hn hp)
 have hok:=Hi (zfa l d);have hlen:=zcZ l (l.length+1) 0 (Nat.zero_le _);rw[h.len] at hlen
 go_enter func12,ntmps12
 go_wp2_with fail
 refine ((uh hT) w (Below.refl _ _)).mono ?_
 rintro e w1 ⟨p,cap,rfl,hp1,hp2,hrows,b1⟩;have HR:=Hi hrows;clear hT hrows
 go_wp2_with fail
 go_ret
 have hmo:(max 0 (min d 200))=((mostS d:Nat):Int):=by unfold mostS;omega
 rw[hmo];have bX:∀ o,Below w1.heap.size w1 (w1.alloc o):=fun o=>ba
 refine⟨w1.heap.size,p,rfl,b1.size,hp1,⟨uh hok,?_,cap,heap_alloc_new w1 _,by omega,?_,fun i t ht=>((uh HR) i t ht).below (bX _)⟩,b1.alloc b1.size _⟩
 ·show (lx.tks l 0).length≤_
  unfold lx.tks;rw[h.len];omega
 ·simp;omega
theorem zaT{P:Program}{fn:Func}{p q:Tmp}{ty tz:TypeId}(h:fn.results = #[.cell p ty,.cell q tz])(tmps:Array Value)(w:World)(b o:Nat)(cs:List Value)(d:TypeDesc)(hp:tmps.getD p undef = .pointer (some ⟨b,o,none⟩))(hc:w.rangeAt b o cs)
  (hu:P.underlying ty=some d) (hd:d.isRow=true) (hi:(P.info? ty).map (·.size)=some cs.length) (b2 o2:Nat) (ds:List Value) (d2:TypeDesc) (hp2:tmps.getD q undef = .pointer (some ⟨b2,o2,none⟩)) (hc2:w.rangeAt b2 o2 ds)
  (hu2:P.underlying tz=some d2) (hd2:d2.isRow=true) (hi2:(P.info? tz).map (·.size)=some ds.length):(results fn tmps).run P w = .ok (.tuple #[.agg cs.toArray,.agg ds.toArray]) w:=by
 have h1:=run_loadVar_mid (P:=P) w b o ty cs d hc hu hd hi;have h2:=run_loadVar_mid (P:=P) w b2 o2 tz ds d2 hc2 hu2 hd2 hi2;have hp':tmps[p]?.getD undef = .pointer (some ⟨b,o,none⟩):=by simpa using hp
 have hp2':tmps[q]?.getD undef = .pointer (some ⟨b2,o2,none⟩):=by simpa using hp2
 simp[results,h,hp',hp2',asAddr,h1,h2]
theorem res2{w3:World}{b1 b2:Nat}(hne:b1≠b2)(cs ds:List Value)(h1:w3.there b1 0 cs.length)(h2:w3.there b2 0 ds.length):(w3.setCells b1 0 cs).there b2 0 ds.length∧((w3.setCells b1 0 cs).setCells b2 0 ds).rangeAt b1 0 cs∧((w3.setCells b1 0 cs).setCells b2 0 ds).rangeAt b2 0 ds:=by
 have h3:(w3.setCells b1 0 cs).there b2 0 ds.length:=World.there_setCells h2 _ _ _;refine⟨h3,fun j u hu=>?_,World.rangeAt_setCells_same _ _ _ _ h3⟩
 rw[dt.zaf (dt.zae b2 b1 hne ds 0 _)];exact World.rangeAt_setCells_same w3 b1 0 cs h1 j u hu
theorem FltAt.out{lo:Nat}{w:World}{c:Cu}{fs:List Value}(h:FltAt lo w c fs){b:Nat}(hb:b<lo)(o:Nat)(vs:List Value):FltAt lo (w.setCells b o vs) c fs:=by
 unfold FltAt at h ⊢
 split at h
 ·rw[if_pos ‹_›];exact h
 ·rw[if_neg ‹_›]
  obtain⟨d,h1,h2,h3,h4,h5⟩:=h;exact⟨d,h1,by rw[dt.zag];exact h2,h3,(dt.zaf (dt.zae b d (by omega) vs o w) _).trans h4,(dt.zaf (dt.zae b d (by omega) vs o w) _).trans h5⟩
theorem FltAt.mono{lo lo':Nat}{w:World}{c:Cu}{fs:List Value}(h:FltAt lo w c fs)(hb:lo'≤lo):FltAt lo' w c fs:=by
 unfold FltAt at h ⊢
 split at h
 ·rw[if_pos ‹_›];exact h
 ·rw[if_neg ‹_›]
  obtain⟨d,h1,h2,h3,h4,h5⟩:=h;exact⟨d,by omega,h2,h3,h4,h5⟩
theorem FltAt.three{lo:Nat}{w:World}{c:Cu}{fs:List Value}(h:FltAt lo w c fs):fs.length=3∧fs.all (·.oneCell')=true:=by
 unfold FltAt at h
 split at h
 ·rw[h];exact⟨rfl,rfl⟩
 ·obtain⟨d,h1,h2,h3,h4,h5⟩:=h
  rw[h3];exact⟨rfl,rfl⟩
def readT(l:List Int)(d:Int):Option (ByteArray × ByteArray) × Cu:=
 if (typF (lx.tks l 0).length (newS l d)).1.isSome then (if (typF (lx.tks l 0).length (newS l d)).2.finB then (typF (lx.tks l 0).length (newS l d)).1 else none,(typF (lx.tks l 0).length (newS l d)).2.fin) else (none,(typF (lx.tks l 0).length (newS l d)).2)
theorem zfk(a:Option Addr)(n c:Nat)(l:List Int)(d:Int)(w:World)(h:Row .u8 w a n c l)(hn:n≤1099511627776)(hp:lx.Plain l)(hd:(Lit.int .i64 d).wf=true) :
  Calls prog 10 #[.slice a n c,.int .i64 d] w fun e w'=>∃ fs,e = .returned (.tuple #[.agg (trC (readT l d).1).toArray,.agg fs.toArray])∧FltAt w.heap.size w' (readT l d).2 fs∧Below w.heap.size w w':=by
 have hN:=Hi (fun W (bb:Below w.heap.size w W)=>zks a n c l d W (h.below bb) hn hp hd)
 have hok:=zfa l d
 have hlen:(newS l d).ts.length≤1099511627777:=by
  have:=zcZ l (l.length+1) 0 (Nat.zero_le _)
  show (lx.tksF l (l.length+1) 0).length≤_
  rw[h.len] at this ⊢;omega
 have hT:=Hi (zft (lx.tks l 0).length (newS l d) hok hlen (Nat.le_add_right _ _));have hg:=Hi (zcj (lx.tks l 0).length (newS l d) hok).1;unfold readT;obtain⟨U,hU⟩:∃ U,U=typF (lx.tks l 0).length (newS l d):=⟨_,rfl⟩;unfold TypAt at hT;rw[←hU] at hT hg ⊢;obtain⟨c0,hc0⟩:∃ c0,c0=newS l d:=⟨_,rfl⟩;rw[←hc0] at hN hT hg;clear h hU hok hlen hc0;obtain⟨r,C⟩:=U
 go_enter func10,ntmps10
 go_wp2_with fail
 have bW0:Below w.heap.size w ((w.alloc (.cells #[Value.string { data:=#[] },.string { data:=#[] }] 44)).alloc (.cells #[Value.int .i64 0,.slice none 0 0,.slice none 0 0] 38)):=(ba).alloc (by simp) _
 have hR1:((w.alloc (.cells #[Value.string { data:=#[] },.string { data:=#[] }] 44)).alloc (.cells #[Value.int .i64 0,.slice none 0 0,.slice none 0 0] 38)).heap[w.heap.size]? = some (.cells #[Value.string { data:=#[] },.string { data:=#[] }] 44 (0,0)):=(Below.heap_alloc _ _ w.heap.size (by simp)).trans (heap_alloc_new w _)
 have hR2:((w.alloc (.cells #[Value.string { data:=#[] },.string { data:=#[] }] 44)).alloc (.cells #[Value.int .i64 0,.slice none 0 0,.slice none 0 0] 38)).heap[w.heap.size+1]? = some (.cells #[Value.int .i64 0,.slice none 0 0,.slice none 0 0] 38 (0,0)):=by
  have:=heap_alloc_new (w.alloc (.cells #[Value.string { data:=#[] },.string { data:=#[] }] 44)) (.cells #[Value.int .i64 0,.slice none 0 0,.slice none 0 0] 38)
  simpa using this
 have hz0:w.heap.size+1<((w.alloc (.cells #[Value.string { data:=#[] },.string { data:=#[] }] 44)).alloc (.cells #[Value.int .i64 0,.slice none 0 0,.slice none 0 0] 38)).heap.size:=by simp
 obtain⟨W0,hW0⟩:∃ W0,W0=(w.alloc (.cells #[Value.string { data:=#[] },.string { data:=#[] }] 44)).alloc (.cells #[Value.int .i64 0,.slice none 0 0,.slice none 0 0] 38):=⟨_,rfl⟩;rw[←hW0] at bW0 hR1 hR2 hz0 ⊢;clear hW0;refine ((uh hN) W0 bW0).mono ?_
 rintro e w1 ⟨B,p,rfl,hB,hp0,hc1,b1⟩;have hTB:=Hi ((uh hT) B p);have hend:=Hi (fun W (hc:CurAt W B p C)=>zeu B p C W hc)
 have htold:=Hi (fun W (D:Cu) (hc:CurAt W B p D)=>zfr B p D W hc)
 clear hN hT;unfold ptr at hTB hend htold ⊢
 go_wp2_with fail
 refine ((uh hTB) w1 hc1).mono ?_
 rintro e w2 ⟨rfl,hc2,hk2⟩;have hB1:=hc1.lt;have b02:Below W0.heap.size W0 w2:=b1.trans (hk2.below hB b1.size);have HC2:=Hi hc2;clear hTB hc1 hc2 hk2 b1;have bA2:=Hi (fun o=>show Below w2.heap.size w2 (w2.alloc o) from ba)
 cases r with
 | none =>
  unfold trC
  go_wp2_with fail
  have bT:=b02.alloc b02.size (.cells #[Value.string em,.string em] 44);refine ((uh htold) _ C ((uh HC2).below ((uh bA2) _))).mono ?_
  rintro e w5 ⟨fs,rfl,hflt,b5⟩;have b05:Below W0.heap.size W0 w5:=bT.trans (b5.mono bT.size);have hne12:w.heap.size≠w.heap.size+1:=by omega
  have HT1:=Hi (show w5.there w.heap.size 0 2 from dt.zac ((b05.block w.heap.size (by omega)).trans hR1) (by decide))
  have HT2:=Hi (show w5.there (w.heap.size+1) 0 fs.length from by rw[hflt.three.1];exact dt.zac ((b05.block (w.heap.size+1) hz0).trans hR2) (by decide))
  have HX:=Hi (res2 hne12 [.string ⟨#[]⟩,.string ⟨#[]⟩] fs (uh HT1) (uh HT2));have HI:=Hi (show (prog.info? 38).map (·.size)=some fs.length from by rw[hflt.three.1];exact infoFl)
  have HO:=Hi (dt.zab hflt.three.2);have HF:=Hi hflt;have hbw:=Hi (bW0.trans (b05.mono bW0.size));have hlo:=Hi (show w.heap.size+1<_∧w.heap.size<_ from an (Nat.lt_of_lt_of_le hz0 bT.size) (Nat.lt_of_lt_of_le (Nat.lt_of_succ_lt hz0) bT.size))
  clear b05 b5 htold hflt
  go_wp2_with (first
   | refine wpList_store_mid (by rfl) 44 _ _ (by rfl) w.heap.size 0 #[.string ⟨#[]⟩,.string ⟨#[]⟩] (by rfl) (by rfl) (uh HT1) infoTr (dt.zab (cs:=[.string ⟨#[]⟩,.string ⟨#[]⟩]) (by rfl)) ?_
   | refine wpList_store_mid (by rfl) 38 _ _ (by rfl) (w.heap.size+1) 0 fs.toArray (by rfl) (by rfl) (by have:=(uh HX).1;simpa using this) (by have:=uh HI;simpa using this) (uh HO) ?_)
  refine bodyPost_ret (zaT rfl _ _ w.heap.size 0 [.string ⟨#[]⟩,.string ⟨#[]⟩] _ rfl (uh HX).2.1 underlying44 rfl infoTr (w.heap.size+1) 0 fs _ rfl (uh HX).2.2 underlying38 rfl (uh HI)) rfl ?_
  refine⟨_,rfl,?_,dt.zad _ _ _ _ (dt.zad _ _ _ _ (uh hbw) (lr _)) (Nat.le_add_right _ 1)⟩
  exact (((uh HF).out (uh hlo).2 _ _).out (uh hlo).1 _ _).mono (Nat.le_of_lt (uh hlo).2)
 | some it =>
  obtain⟨nm,wp⟩:=it
  cases hF:C.finB
  ·rw[hF] at hend
   unfold trC
   go_wp2_with fail
   refine ((uh hend) _ ((uh HC2).below ((uh bA2) _))).mono ?_
   rintro e w3 ⟨rfl,hc3,hk3⟩;have bT:Below W0.heap.size W0 w3:=(b02.alloc b02.size _).trans (hk3.below hB (Nat.le_trans b02.size ((uh bA2) _).size))
   go_wp2_with fail
   refine ((uh htold) _ C.fin hc3).mono ?_
   rintro e w5 ⟨fs,rfl,hflt,b5⟩;have b05:Below W0.heap.size W0 w5:=bT.trans (b5.mono bT.size);have hne12:w.heap.size≠w.heap.size+1:=by omega
   have HT1:=Hi (show w5.there w.heap.size 0 2 from dt.zac ((b05.block w.heap.size (by omega)).trans hR1) (by decide))
   have HT2:=Hi (show w5.there (w.heap.size+1) 0 fs.length from by rw[hflt.three.1];exact dt.zac ((b05.block (w.heap.size+1) hz0).trans hR2) (by decide))
   have HX:=Hi (res2 hne12 [.string ⟨#[]⟩,.string ⟨#[]⟩] fs (uh HT1) (uh HT2));have HI:=Hi (show (prog.info? 38).map (·.size)=some fs.length from by rw[hflt.three.1];exact infoFl)
   have HO:=Hi (dt.zab hflt.three.2);have HF:=Hi hflt;have hbw:=Hi (bW0.trans (b05.mono bW0.size));have hlo:=Hi (show w.heap.size+1<_∧w.heap.size<_ from an (Nat.lt_of_lt_of_le hz0 bT.size) (Nat.lt_of_lt_of_le (Nat.lt_of_succ_lt hz0) bT.size))
   clear b05 b5 htold hflt
   go_wp2_with (first
    | refine wpList_store_mid (by rfl) 44 _ _ (by rfl) w.heap.size 0 #[.string ⟨#[]⟩,.string ⟨#[]⟩] (by rfl) (by rfl) (uh HT1) infoTr (dt.zab (cs:=[.string ⟨#[]⟩,.string ⟨#[]⟩]) (by rfl)) ?_
    | refine wpList_store_mid (by rfl) 38 _ _ (by rfl) (w.heap.size+1) 0 fs.toArray (by rfl) (by rfl) (by have:=(uh HX).1;simpa using this) (by have:=uh HI;simpa using this) (uh HO) ?_)
   refine bodyPost_ret (zaT rfl _ _ w.heap.size 0 [.string ⟨#[]⟩,.string ⟨#[]⟩] _ rfl (uh HX).2.1 underlying44 rfl infoTr (w.heap.size+1) 0 fs _ rfl (uh HX).2.2 underlying38 rfl (uh HI)) rfl ?_
   refine⟨_,rfl,?_,dt.zad _ _ _ _ (dt.zad _ _ _ _ (uh hbw) (lr _)) (Nat.le_add_right _ 1)⟩
   exact (((uh HF).out (uh hlo).2 _ _).out (uh hlo).1 _ _).mono (Nat.le_of_lt (uh hlo).2)
  ·rw[hF] at hend
   unfold trC
   go_wp2_with fail
   refine ((uh hend) _ ((uh HC2).below ((uh bA2) _))).mono ?_
   rintro e w3 ⟨rfl,hc3,hk3⟩;have hI3:=(hk3.block w2.heap.size (by simp) (by have:=(uh HC2).lt;omega)).trans (heap_alloc_new w2 _)
   have b03:Below W0.heap.size W0 w3:=(b02.alloc b02.size _).trans (hk3.below hB (Nat.le_trans b02.size ((uh bA2) _).size));have i0:w3.cell? ⟨w2.heap.size,0,none⟩=some (.string nm):=(zG hI3 0).trans rfl;have i1:w3.cell? ⟨w2.heap.size,1,none⟩=some (.string wp):=(zG hI3 1).trans rfl;have hne12:w.heap.size≠w.heap.size+1:=by omega
   have HT1:=Hi (show w3.there w.heap.size 0 2 from dt.zac ((b03.block w.heap.size (by omega)).trans hR1) (by decide))
   have HT2:=Hi (show w3.there (w.heap.size+1) 0 3 from dt.zac ((b03.block (w.heap.size+1) hz0).trans hR2) (by decide))
   have HX:=Hi (res2 hne12 [.string nm,.string wp] [.int .i64 0,.slice none 0 0,.slice none 0 0] (uh HT1) (uh HT2));have hfin:=Hi (show C.fin=C∧C.kd=0 from ⟨by unfold Cu.fin;rw[hF];rfl,(of_decide_eq_true hF).1⟩)
   have hbw:=Hi (bW0.trans (b03.mono bW0.size));clear hI3 b03 hk3 hc3 hend htold b02 bA2
   go_wp2_with (first
    | refine wpList_store_mid (by rfl) 44 _ _ (by rfl) w.heap.size 0 #[.string nm,.string wp] (by rfl) (by rfl) (uh HT1) infoTr (dt.zab (cs:=[.string nm,.string wp]) (by rfl)) ?_
    | refine wpList_store_mid (by rfl) 38 _ _ (by rfl) (w.heap.size+1) 0 #[.int .i64 0,.slice none 0 0,.slice none 0 0] (by rfl) (by rfl) (uh HX).1 infoFl (dt.zab (cs:=[.int .i64 0,.slice none 0 0,.slice none 0 0]) (by rfl)) ?_)
   refine bodyPost_ret (zaT rfl _ _ w.heap.size 0 [.string nm,.string wp] _ rfl (uh HX).2.1 underlying44 rfl infoTr (w.heap.size+1) 0 [.int .i64 0,.slice none 0 0,.slice none 0 0] _ rfl (uh HX).2.2 underlying38 rfl infoFl) rfl ?_
   refine⟨_,rfl,?_,dt.zad _ _ _ _ (dt.zad _ _ _ _ (uh hbw) (lr _)) (Nat.le_add_right _ 1)⟩
   unfold FltAt
   show (if C.fin.kd=0 then _ else _)
   rw[(uh hfin).1,if_pos (uh hfin).2]
open dt (Dt Kp RowAt Ow)
theorem infoLt:(prog.info? 33).map (·.size)=some 7:=by kernel_rfl
def leafC(k:Int)(tx:ByteArray)(bl:Bool)(ln co:Int):List Value:=[.int .i64 k,.string tx,.bool bl,.slice none 0 0,.slice none 0 0,.int .i64 ln,.int .i64 co]
theorem zar(w:World)(k:Int)(tx:ByteArray)(bl:Bool)(ln co:Int):Ow w (litD k tx bl .nil .nil ln co) (leafC k tx bl ln co) []:=by
 unfold litD leafC;simp only[Ow];refine⟨_,rfl,rfl,_,rfl,rfl,_,rfl,rfl,none,0,0,_,[],[],rfl,lr _,Nat.zero_le _,fun _=>rfl,.inl ⟨rfl,by simp⟩,⟨none,0,0,_,[],[],rfl,lr _,Nat.zero_le _,fun _=>rfl,.inl ⟨rfl,by simp⟩,⟨_,rfl,rfl,_,rfl,rfl,rfl,rfl⟩,rfl⟩,rfl⟩
def zeroD:Dt:=litD 0 em false .nil .nil 0 0
theorem zht(B p:Nat)(c:Cu)(k:Int)(tx:ByteArray)(w:World)(h:CurAt w B p c)(hm:c.ix+1<c.ts.length):Calls prog 62 #[ptr B,.int .i64 k,.string tx] w fun e w' =>
  e = .returned (.agg (leafC k tx false c.tok.ln c.tok.co).toArray)∧CurAt w' B p c.take∧Kp B w w':=by
 have hr:=Hi (fun W (bb:Below w.heap.size w W)=>zcH B p c W (h.below bb) hm)
 have hlt:=h.lt;have hplt:=h.plt;have hne:B≠w.heap.size:=by omega
 have hnp:p≠w.heap.size:=by omega
 have bA:=qA w;have hZ:=qz hlt;have hf2:=zc7 c.tok;obtain⟨t,ht⟩:∃ t,t=c.tok:=⟨_,rfl⟩;rw[←ht] at hr hf2 ⊢;clear ht h;unfold Tk.cells at hr;unfold ptr at hr ⊢
 go_enter func62,ntmps62
 go_wp2_with fail
 refine ((uh hr) _ ((uh bA) _)).mono ?_
 rintro e w1 ⟨rfl,hc,hk⟩;have hth:w1.there w.heap.size 0 7:=dt.zac ((uh hZ) _ w1 hk) (by decide)
 have HK:=Hi ((Kp.of ((uh bA) _)).trans hk);have HC:=Hi hc;clear hr hk hc hZ bA
 go_wp2_with (first
  | refine wpList_store_mid (by rfl) 33 _ _ (by rfl) w.heap.size 0 #[.int .i64 k,.string tx,.bool false,.slice none 0 0,.slice none 0 0,.int .i64 t.ln,.int .i64 t.co] (by rfl) (by rfl) hth infoLt (dt.zab (cs:=[.int .i64 k,.string tx,.bool false,.slice none 0 0,.slice none 0 0,.int .i64 t.ln,.int .i64 t.co]) (by rfl)) ?_)
 refine bodyPost_ret (rgn.zai rfl _ _ w.heap.size 0 [.int .i64 k,.string tx,.bool false,.slice none 0 0,.slice none 0 0,.int .i64 t.ln,.int .i64 t.co] _ rfl (World.rangeAt_setCells_same _ _ _ _ hth) underlying33 rfl infoLt) rfl ?_
 exact⟨rfl,(uh HC).out hne hnp _ _,(uh HK).out (lr _) _ _⟩
def wordC(t:Tk)(tx:ByteArray):List Value:=if tx=bTrue∨tx=bFalse then leafC 5 tx false t.ln t.co else if tx=bNull then leafC 6 em false t.ln t.co else leafC 7 tx false t.ln t.co
theorem zaD{a:ByteArray}{l:List UInt8}(h:(⟨l.toArray⟩:ByteArray).toList=l):(a.toList==l)=decide (a=⟨l.toArray⟩):=by
 rw[←zeh,h]
theorem zlU{a b:ByteArray}(h:¬a=b):(a.toList==b.toList)=false:=by rw[zeh];exact decide_eq_false h
theorem zl4(B p:Nat)(c:Cu)(tx:ByteArray)(w:World)(h:CurAt w B p c)(hm:c.ix+1<c.ts.length):Calls prog 63 #[ptr B,.string tx] w fun e w' =>
  e = .returned (.agg (wordC c.tok tx).toArray)∧CurAt w' B p c.take∧Kp B w w':=by
 have hr:=Hi (fun k s W (bb:Below w.heap.size w W)=>zht B p c k s W (h.below bb) hm)
 have hlt:=h.lt;have hplt:=h.plt;have hne:B≠w.heap.size:=by omega
 have hnp:p≠w.heap.size:=by omega
 have bA:=qA w;have hZ:=qz hlt;obtain⟨t,ht⟩:∃ t,t=c.tok:=⟨_,rfl⟩;rw[←ht] at hr ⊢;clear ht h;unfold leafC at hr;unfold ptr at hr ⊢
 by_cases h1:tx=bTrue
 ·have hW:=Hi (show wordC t tx=leafC 5 tx false t.ln t.co from by unfold wordC;rw[if_pos (.inl h1)])
  have e1:(tx.toList==[116,114,117,101])=true:=by rw[zaD (by rw[ByteArray.toList_eq])];exact decide_eq_true h1
  clear h1
  go_enter func63,ntmps63
  go_wp2_with fail
  refine ((uh hr) 5 tx _ ((uh bA) _)).mono ?_
  rintro e w1 ⟨rfl,hc,hk⟩;have hth:w1.there w.heap.size 0 7:=dt.zac ((uh hZ) _ w1 hk) (by decide)
  have HK:=Hi ((Kp.of ((uh bA) _)).trans hk);have HC:=Hi hc;clear hr hk hc hZ bA
  go_wp2_with (first
   | refine wpList_store_mid (by rfl) 33 _ _ (by rfl) w.heap.size 0 #[.int .i64 5,.string tx,.bool false,.slice none 0 0,.slice none 0 0,.int .i64 t.ln,.int .i64 t.co] (by rfl) (by rfl) hth infoLt (dt.zab (cs:=[.int .i64 5,.string tx,.bool false,.slice none 0 0,.slice none 0 0,.int .i64 t.ln,.int .i64 t.co]) (by rfl)) ?_)
  refine bodyPost_ret (rgn.zai rfl _ _ w.heap.size 0 [.int .i64 5,.string tx,.bool false,.slice none 0 0,.slice none 0 0,.int .i64 t.ln,.int .i64 t.co] _ rfl (World.rangeAt_setCells_same _ _ _ _ hth) underlying33 rfl infoLt) rfl ?_
  exact⟨by rw[uh hW];rfl,(uh HC).out hne hnp _ _,(uh HK).out (lr _) _ _⟩
 by_cases h2:tx=bFalse
 ·have hW:=Hi (show wordC t tx=leafC 5 tx false t.ln t.co from by unfold wordC;rw[if_pos (.inr h2)])
  have e1:(tx.toList==[116,114,117,101])=false:=by rw[zaD (by rw[ByteArray.toList_eq])];exact decide_eq_false h1
  have e2:(tx.toList==[102,97,108,115,101])=true:=by rw[zaD (by rw[ByteArray.toList_eq])];exact decide_eq_true h2
  clear h1 h2
  go_enter func63,ntmps63
  go_wp2_with fail
  refine ((uh hr) 5 tx _ ((uh bA) _)).mono ?_
  rintro e w1 ⟨rfl,hc,hk⟩;have hth:w1.there w.heap.size 0 7:=dt.zac ((uh hZ) _ w1 hk) (by decide)
  have HK:=Hi ((Kp.of ((uh bA) _)).trans hk);have HC:=Hi hc;clear hr hk hc hZ bA
  go_wp2_with (first
   | refine wpList_store_mid (by rfl) 33 _ _ (by rfl) w.heap.size 0 #[.int .i64 5,.string tx,.bool false,.slice none 0 0,.slice none 0 0,.int .i64 t.ln,.int .i64 t.co] (by rfl) (by rfl) hth infoLt (dt.zab (cs:=[.int .i64 5,.string tx,.bool false,.slice none 0 0,.slice none 0 0,.int .i64 t.ln,.int .i64 t.co]) (by rfl)) ?_)
  refine bodyPost_ret (rgn.zai rfl _ _ w.heap.size 0 [.int .i64 5,.string tx,.bool false,.slice none 0 0,.slice none 0 0,.int .i64 t.ln,.int .i64 t.co] _ rfl (World.rangeAt_setCells_same _ _ _ _ hth) underlying33 rfl infoLt) rfl ?_
  exact⟨by rw[uh hW];rfl,(uh HC).out hne hnp _ _,(uh HK).out (lr _) _ _⟩
 have e1:(tx.toList==[116,114,117,101])=false:=by rw[zaD (by rw[ByteArray.toList_eq])];exact decide_eq_false h1
 have e2:(tx.toList==[102,97,108,115,101])=false:=by rw[zaD (by rw[ByteArray.toList_eq])];exact decide_eq_false h2
 by_cases h3:tx=bNull
 ·have hW:=Hi (show wordC t tx=leafC 6 em false t.ln t.co from by unfold wordC;rw[if_neg (fun e=>e.elim h1 h2),if_pos h3])
  have e3:(tx.toList==[110,117,108,108])=true:=by rw[zaD (by rw[ByteArray.toList_eq])];exact decide_eq_true h3
  clear h1 h2 h3
  go_enter func63,ntmps63
  go_wp2_with fail
  refine ((uh hr) 6 ⟨#[]⟩ _ ((uh bA) _)).mono ?_
  rintro e w1 ⟨rfl,hc,hk⟩;have hth:w1.there w.heap.size 0 7:=dt.zac ((uh hZ) _ w1 hk) (by decide)
  have HK:=Hi ((Kp.of ((uh bA) _)).trans hk);have HC:=Hi hc;clear hr hk hc hZ bA
  go_wp2_with (first
   | refine wpList_store_mid (by rfl) 33 _ _ (by rfl) w.heap.size 0 #[.int .i64 6,.string ⟨#[]⟩,.bool false,.slice none 0 0,.slice none 0 0,.int .i64 t.ln,.int .i64 t.co] (by rfl) (by rfl) hth infoLt (dt.zab (cs:=[.int .i64 6,.string ⟨#[]⟩,.bool false,.slice none 0 0,.slice none 0 0,.int .i64 t.ln,.int .i64 t.co]) (by rfl)) ?_)
  refine bodyPost_ret (rgn.zai rfl _ _ w.heap.size 0 [.int .i64 6,.string ⟨#[]⟩,.bool false,.slice none 0 0,.slice none 0 0,.int .i64 t.ln,.int .i64 t.co] _ rfl (World.rangeAt_setCells_same _ _ _ _ hth) underlying33 rfl infoLt) rfl ?_
  exact⟨by rw[uh hW];rfl,(uh HC).out hne hnp _ _,(uh HK).out (lr _) _ _⟩
 ·have hW:=Hi (show wordC t tx=leafC 7 tx false t.ln t.co from by unfold wordC;rw[if_neg (fun e=>e.elim h1 h2),if_neg h3])
  have e3:(tx.toList==[110,117,108,108])=false:=by rw[zaD (by rw[ByteArray.toList_eq])];exact decide_eq_false h3
  clear h1 h2 h3
  go_enter func63,ntmps63
  go_wp2_with fail
  refine ((uh hr) 7 tx _ ((uh bA) _)).mono ?_
  rintro e w1 ⟨rfl,hc,hk⟩;have hth:w1.there w.heap.size 0 7:=dt.zac ((uh hZ) _ w1 hk) (by decide)
  have HK:=Hi ((Kp.of ((uh bA) _)).trans hk);have HC:=Hi hc;clear hr hk hc hZ bA
  go_wp2_with (first
   | refine wpList_store_mid (by rfl) 33 _ _ (by rfl) w.heap.size 0 #[.int .i64 7,.string tx,.bool false,.slice none 0 0,.slice none 0 0,.int .i64 t.ln,.int .i64 t.co] (by rfl) (by rfl) hth infoLt (dt.zab (cs:=[.int .i64 7,.string tx,.bool false,.slice none 0 0,.slice none 0 0,.int .i64 t.ln,.int .i64 t.co]) (by rfl)) ?_)
  refine bodyPost_ret (rgn.zai rfl _ _ w.heap.size 0 [.int .i64 7,.string tx,.bool false,.slice none 0 0,.slice none 0 0,.int .i64 t.ln,.int .i64 t.co] _ rfl (World.rangeAt_setCells_same _ _ _ _ hth) underlying33 rfl infoLt) rfl ?_
  exact⟨by rw[uh hW];rfl,(uh HC).out hne hnp _ _,(uh HK).out (lr _) _ _⟩
def varC(c:Cu):List Value:=if c.take.isN then leafC 1 c.take.tok.tx false c.tok.ln c.tok.co else leafC 0 em false 0 0
theorem znx(B p:Nat)(c:Cu)(w:World)(h:CurAt w B p c)(hm:c.ix+1<c.ts.length):Calls prog 64 #[ptr B] w fun e w' =>
  e = .returned (.tuple #[.agg (varC c).toArray,.bool c.take.isN])∧CurAt w' B p c.take.name∧Kp B w w':=by
 have hr:=Hi (fun W (bb:Below w.heap.size w W)=>zcH B p c W (h.below bb) hm)
 have hn:=Hi (fun W (hc:CurAt W B p c.take)=>zbU B p c.take W hc)
 have hlt:=h.lt;have hplt:=h.plt;have hne:B≠w.heap.size:=by omega
 have hnp:p≠w.heap.size:=by omega
 have bA:=qA w;have hZ:=qz hlt;have hV:=Hi (show varC c=if c.take.isN then leafC 1 c.take.tok.tx false c.tok.ln c.tok.co else leafC 0 em false 0 0 from rfl)
 rw[zaW] at hn;obtain⟨t,ht⟩:∃ t,t=c.tok:=⟨_,rfl⟩;rw[←ht] at hr hV;obtain⟨V,hVe⟩:∃ V,V=varC c:=⟨_,rfl⟩;rw[←hVe] at hV ⊢;clear ht h hVe;unfold Tk.cells at hr;unfold ptr at hr hn ⊢;obtain⟨A,hA⟩:∃ A,A=if c.take.isN then c.take.tok.tx else em:=⟨_,rfl⟩
 obtain⟨X,hX⟩:∃ X,X=if c.take.isN then c.take.tok.ln else 0:=⟨_,rfl⟩
 obtain⟨Y,hY⟩:∃ Y,Y=if c.take.isN then c.take.tok.co else 0:=⟨_,rfl⟩
 rw[←hA,←hX,←hY] at hn;have HA:=Hi hA;clear hA hX hY;obtain⟨R,hR⟩:∃ R,R=c.take.isN:=⟨_,rfl⟩;rw[←hR] at hn hV HA ⊢;clear hR
 cases R
 ·have hV2:=Hi (show V=leafC 0 em false 0 0 from uh hV)
  go_enter func64,ntmps64
  go_wp2_with fail
  refine ((uh hr) _ ((uh bA) _)).mono ?_
  rintro e w1 ⟨rfl,hc1,hk1⟩;have hz1:w.heap.size<w1.heap.size:=by have:=hk1.size;simp at this;omega
  go_wp2_with fail
  refine ((uh hn) _ (hc1.below (ba))).mono ?_
  rintro e w2 ⟨rfl,hc2,hk2⟩;have hk12:=hk1.trans ((Kp.of (ba)).trans hk2);have hR2:=(uh hZ) _ w2 hk12;have hz2:w.heap.size<w2.heap.size:=by have:=hk2.size;simp at this;omega
  have HT:=Hi (fun o=>dt.zac ((Below.heap_alloc w2 o w.heap.size hz2).trans hR2) (o:=0) (n:=7) (by decide))
  have HK:=Hi ((Kp.of ((uh bA) _)).trans hk12);have HC:=Hi hc2;clear hr hn hk1 hk2 hk12 hc1 hc2 hZ bA hR2
  go_wp2_with (first
   | refine wpList_store_mid (by rfl) 33 _ _ (by rfl) w.heap.size 0 #[.int .i64 0,.string ⟨#[]⟩,.bool false,.slice none 0 0,.slice none 0 0,.int .i64 0,.int .i64 0] (by rfl) (by rfl) ((uh HT) _) infoLt (dt.zab (cs:=[.int .i64 0,.string ⟨#[]⟩,.bool false,.slice none 0 0,.slice none 0 0,.int .i64 0,.int .i64 0]) (by rfl)) ?_)
  refine bodyPost_ret (rgn.zaa rfl _ _ w.heap.size 0 [.int .i64 0,.string ⟨#[]⟩,.bool false,.slice none 0 0,.slice none 0 0,.int .i64 0,.int .i64 0] _ rfl (World.rangeAt_setCells_same _ _ _ _ ((uh HT) _)) underlying33 rfl infoLt) rfl ?_
  exact⟨by rw[uh hV2];rfl,((uh HC).below (ba)).out hne hnp _ _,((uh HK).trans (Kp.of (ba))).out (lr _) _ _⟩
 ·have hV2:=Hi (show V=leafC 1 A false t.ln t.co from by rw[uh hV,uh HA];rfl)
  go_enter func64,ntmps64
  go_wp2_with fail
  refine ((uh hr) _ ((uh bA) _)).mono ?_
  rintro e w1 ⟨rfl,hc1,hk1⟩;have hz1:w.heap.size<w1.heap.size:=by have:=hk1.size;simp at this;omega
  go_wp2_with fail
  refine ((uh hn) _ (hc1.below (ba))).mono ?_
  rintro e w2 ⟨rfl,hc2,hk2⟩;have hD2:=(hk2.block w1.heap.size (by simp) (by have:=hc1.lt;omega)).trans (heap_alloc_new w1 _)
  have hk12:=hk1.trans ((Kp.of (ba)).trans hk2);have hR2:=(uh hZ) _ w2 hk12;have hz2:w.heap.size<w2.heap.size:=by have:=hk2.size;simp at this;omega
  have hz3:w1.heap.size<w2.heap.size:=by have:=hk2.size;simp at this;omega
  have d1:∀ o,(w2.alloc o).cell? ⟨w1.heap.size,1,none⟩=some (.int .i64 t.ln):=fun o=>(zG ((Below.heap_alloc w2 o w1.heap.size hz3).trans hD2) 1).trans rfl
  have d2:∀ o,(w2.alloc o).cell? ⟨w1.heap.size,2,none⟩=some (.int .i64 t.co):=fun o=>(zG ((Below.heap_alloc w2 o w1.heap.size hz3).trans hD2) 2).trans rfl
  have HT:=Hi (fun o=>dt.zac ((Below.heap_alloc w2 o w.heap.size hz2).trans hR2) (o:=0) (n:=7) (by decide))
  have HK:=Hi ((Kp.of ((uh bA) _)).trans hk12);have HC:=Hi hc2;clear hr hn hk1 hk2 hk12 hc1 hc2 hZ bA hR2 hD2
  go_wp2_with (first
   | refine wpList_store_mid (by rfl) 33 _ _ (by rfl) w.heap.size 0 #[.int .i64 1,.string A,.bool false,.slice none 0 0,.slice none 0 0,.int .i64 t.ln,.int .i64 t.co] (by rfl) (by rfl) ((uh HT) _) infoLt (dt.zab (cs:=[.int .i64 1,.string A,.bool false,.slice none 0 0,.slice none 0 0,.int .i64 t.ln,.int .i64 t.co]) (by rfl)) ?_)
  refine bodyPost_ret (rgn.zaa rfl _ _ w.heap.size 0 [.int .i64 1,.string A,.bool false,.slice none 0 0,.slice none 0 0,.int .i64 t.ln,.int .i64 t.co] _ rfl (World.rangeAt_setCells_same _ _ _ _ ((uh HT) _)) underlying33 rfl infoLt) rfl ?_
  exact⟨by rw[uh hV2];rfl,((uh HC).below (ba)).out hne hnp _ _,((uh HK).trans (Kp.of (ba))).out (lr _) _ _⟩
theorem infoAr:(prog.info? 123).map (·.size)=some 10:=by kernel_rfl
theorem infoLf:(prog.info? 59).map (·.size)=some 10:=by kernel_rfl
def LShape(cs:List Value):Prop:=∃ (k:Int) (tx:ByteArray) (bl:Bool) (ai:Option Addr) (ni ci:Nat) (af:Option Addr) (nf cf:Nat) (ln co:Int),cs=[.int .i64 k,.string tx,.bool bl,.slice ai ni ci,.slice af nf cf,.int .i64 ln,.int .i64 co]
theorem zao(k:Int)(tx:ByteArray)(bl:Bool)(ln co:Int):LShape (leafC k tx bl ln co):=⟨k,tx,bl,none,0,0,none,0,0,ln,co,rfl⟩
structure LitPost (d:Dt) (w w':World) (cs:List Value) (F:List Nat):Prop where
 shape:LShape cs
 own:Ow w' d cs F
 nodup:F.Nodup
 rng:∀ b∈F,w.heap.size≤b∧b<w'.heap.size
def LitAt(L:Cu→Option Dt × Cu)(ct:Bool)(c:Cu):Prop:=∀ (B p:Nat) (w:World),CurAt w B p c→Calls prog 17 #[ptr B,.bool ct] w fun e w'=>∃ cs F,e = .returned (.tuple #[.agg cs.toArray,.bool (L c).1.isSome])∧LitPost ((L c).1.getD zeroD) w w' cs F∧CurAt w' B p (L c).2∧Kp B w w'
def fldZ:Dt:=fldD em zeroD 0 0
structure FldPost (d:Dt) (w w':World) (cs:List Value) (F:List Nat):Prop where
 shape:∃ nm ds ln co,LShape ds∧cs=Value.string nm::(ds++[.int .i64 ln,.int .i64 co])
 own:Ow w' d cs F
 nodup:F.Nodup
 rng:∀ b∈F,w.heap.size≤b∧b<w'.heap.size
def FldAt(f:Nat)(E:Cu→Option Dt × Cu)(ct:Bool)(c:Cu):Prop:=∀ (B p:Nat) (w:World),CurAt w B p c→Calls prog f #[ptr B,.bool ct] w fun e w'=>∃ cs F,e = .returned (.tuple #[.agg cs.toArray,.bool (E c).1.isSome])∧FldPost ((E c).1.getD fldZ) w w' cs F∧CurAt w' B p (E c).2∧Kp B w w'
theorem zhY{w:World}:∀ (d e:Dt) (cs ds:List Value) (F G:List Nat),Ow w d cs F→Ow w e ds G→Ow w (app d e) (cs++ds) (F++G)
 | .nil,e,cs,ds,F,G,h,h'=>by
  unfold Ow at h;obtain⟨rfl,rfl⟩:=h;exact h'
 | .val v r,e,cs,ds,F,G,h,h'=>by
  unfold Ow at h;obtain⟨xs,rfl,h1,h2⟩:=h;unfold app Ow;exact⟨xs++ds,rfl,h1,zhY r e xs ds F G h2 h'⟩
 | .lst k rs r,e,cs,ds,F,G,h,h'=>by
  unfold Ow at h;obtain⟨a,n,c,xs,F1,F2,rfl,h1,h2,h3,h4,h5,rfl⟩:=h;unfold app Ow;exact⟨a,n,c,xs++ds,F1,F2++G,rfl,h1,h2,h3,h4,zhY r e xs ds F2 G h5 h',by simp⟩
 | .row _ _,e,cs,ds,F,G,h,h'=>by unfold Ow at h;exact h.elim
theorem zdD(w:World)(x y:Int):Ow w (.val (.int .i64 x) (.val (.int .i64 y) .nil)) [.int .i64 x,.int .i64 y] []:=by
 unfold Ow;refine⟨_,rfl,rfl,?_⟩
 unfold Ow;refine⟨_,rfl,rfl,?_⟩
 unfold Ow;exact⟨rfl,rfl⟩
theorem zdx{w:World}{nm:ByteArray}{v:Dt}{cs:List Value}{F:List Nat}(h:Ow w v cs F)(x y:Int):Ow w (fldD nm v x y) (.string nm::(cs++[.int .i64 x,.int .i64 y])) F:=by
 unfold fldD Ow;refine⟨_,rfl,rfl,?_⟩
 have:=zhY v _ cs _ F [] h (zdD w x y)
 simpa using this
theorem znJ{w w':World}{B lo:Nat}{d:Dt}{cs:List Value}{F:List Nat}(h:Ow w d cs F)(hk:Kp B w w')(hB:B<lo)(hr:∀ b∈F,lo≤b∧b<w.heap.size):Ow w' d cs F:=
 Ow.agree d cs F (fun b hb o=>hk.cell (hr b hb).2 (by have:=(hr b hb).1;omega)) h
theorem zaX{w w':World}{d:Dt}{cs:List Value}{F:List Nat}(h:Ow w d cs F)(hk:Below w.heap.size w w')(hr:∀ b∈F,b<w.heap.size):Ow w' d cs F:=
 Ow.agree d cs F (fun b hb o=>hk.cell (p:=⟨b,o,none⟩) (hr b hb)) h
theorem zbc{w:World}{d:Dt}{cs:List Value}{F:List Nat}(h:Ow w d cs F){b:Nat}(hb:b ∉ F)(o:Nat)(vs:List Value):Ow (w.setCells b o vs) d cs F:=
 Ow.agree d cs F (fun c hc j=>dt.zaf (dt.zae b c (fun e=>hb (e ▸ hc)) vs o w) j) h
theorem zkb(L:Cu→Option Dt × Cu)(ct:Bool)(c:Cu)(hc0:c.Ok)(hL:LitAt L ct (c.name.want bCol))(hdead:(L (c.name.want bCol)).1.isSome=true→c.isN=true):FldAt 89 (argS L) ct c:=by
 intro B p w h;have hn:=Hi (fun W (bb:Below w.heap.size w W)=>zbU B p c W (h.below bb))
 have hw:=Hi (fun W (hc:CurAt W B p c.name)=>zbB B p c.name bCol W hc)
 have hl:=Hi (fun W (hc:CurAt W B p (c.name.want bCol))=>hL B p W hc)
 have hlt:=h.lt;have hplt:=h.plt;have hne:B≠w.heap.size:=by omega
 have hnp:p≠w.heap.size:=by omega
 have bA:=qA w;have hZ:=qz hlt;have hs0:=Hi (show (L (c.name.want bCol)).1=none→argS L c=(none,(L (c.name.want bCol)).2) from fun e=>by unfold argS;rw[e])
 have hs1:=Hi (show ∀ v,(L (c.name.want bCol)).1=some v→argS L c=(some (fldD c.tok.tx v c.tok.ln c.tok.co),(L (c.name.want bCol)).2) from fun v e=>by unfold argS;rw[e])
 rw[zaW] at hn;obtain⟨U,hU⟩:∃ U,U=L (c.name.want bCol):=⟨_,rfl⟩;rw[←hU] at hl hs0 hs1 hdead;clear h hL hU;obtain⟨r,C⟩:=U;obtain⟨A,hA⟩:∃ A,A=if c.isN then c.tok.tx else em:=⟨_,rfl⟩
 obtain⟨X,hX⟩:∃ X,X=if c.isN then c.tok.ln else 0:=⟨_,rfl⟩
 obtain⟨Y,hY⟩:∃ Y,Y=if c.isN then c.tok.co else 0:=⟨_,rfl⟩
 rw[←hA,←hX,←hY] at hn;have HA:=Hi (an hA (an hX hY));clear hA hX hY;unfold ptr at hn hw hl ⊢
 go_enter func89,ntmps89
 go_wp2_with fail
 refine ((uh hn) _ ((uh bA) _)).mono ?_
 rintro e w1 ⟨rfl,hc1,hk1⟩
 go_wp2_with fail
 refine ((uh hw) _ (hc1.below (ba))).mono ?_
 rintro e w2 ⟨rfl,hc2,hk2⟩
 go_wp2_with fail
 refine ((uh hl) _ hc2).mono ?_
 rintro e w3 ⟨cs,F,rfl,hpo,hc3,hk3⟩;have hB1:=hc1.lt;have hk23:=hk2.trans hk3;have hN3:=(hk23.block w1.heap.size (by simp) (by omega)).trans (heap_alloc_new w1 _)
 have hk13:=hk1.trans ((Kp.of (ba)).trans hk23);have hR3:=(uh hZ) _ w3 hk13;have hz1:w.heap.size<w1.heap.size:=by have:=hk1.size;simp at this;omega
 have hz3:w1.heap.size<w3.heap.size:=by have:=hk23.size;simp at this;omega
 have HK:=Hi ((Kp.of ((uh bA) _)).trans hk13);have HC:=Hi hc3;have hrF:∀ b∈F,w1.heap.size<b∧b<w3.heap.size:=fun b hb=>⟨by have:=(hpo.rng b hb).1;have:=hk2.size;simp at this;omega,(hpo.rng b hb).2⟩
 obtain⟨k,tx,bl,ai,ni,ci,af,nf,cf,ln,co,rfl⟩:=hpo.shape;have HP:=Hi hpo;have n0:∀ o,(w3.alloc o).cell? ⟨w1.heap.size,0,none⟩=some (.string A):=fun o=>(zG ((Below.heap_alloc w3 o w1.heap.size hz3).trans hN3) 0).trans rfl
 have n1:∀ o,(w3.alloc o).cell? ⟨w1.heap.size,1,none⟩=some (.int .i64 X):=fun o=>(zG ((Below.heap_alloc w3 o w1.heap.size hz3).trans hN3) 1).trans rfl
 have n2:∀ o,(w3.alloc o).cell? ⟨w1.heap.size,2,none⟩=some (.int .i64 Y):=fun o=>(zG ((Below.heap_alloc w3 o w1.heap.size hz3).trans hN3) 2).trans rfl
 have HT:=Hi (fun o=>dt.zac ((Below.heap_alloc w3 o w.heap.size (by omega)).trans hR3) (o:=0) (n:=10) (by decide))
 clear hn hw hl hk1 hk2 hk3 hk23 hk13 hc1 hc2 hc3 hZ bA hR3 hN3 hpo
 cases r with
 | none =>
  have hs2:=Hi ((uh hs0) rfl);clear hs0 hs1
  go_wp2_with (first
   | refine wpList_store_mid (by rfl) 123 _ _ (by rfl) w.heap.size 0 #[.string ⟨#[]⟩,.int .i64 0,.string ⟨#[]⟩,.bool false,.slice none 0 0,.slice none 0 0,.int .i64 0,.int .i64 0,.int .i64 0,.int .i64 0] (by rfl) (by rfl) ((uh HT) _) infoAr (dt.zab (cs:=[.string ⟨#[]⟩,.int .i64 0,.string ⟨#[]⟩,.bool false,.slice none 0 0,.slice none 0 0,.int .i64 0,.int .i64 0,.int .i64 0,.int .i64 0]) (by rfl)) ?_)
  refine bodyPost_ret (rgn.zaa rfl _ _ w.heap.size 0 [.string ⟨#[]⟩,.int .i64 0,.string ⟨#[]⟩,.bool false,.slice none 0 0,.slice none 0 0,.int .i64 0,.int .i64 0,.int .i64 0,.int .i64 0] _ rfl (World.rangeAt_setCells_same _ _ _ _ ((uh HT) _)) underlying123 rfl infoAr) rfl ?_
  rw[uh hs2];exact⟨_,[],rfl,⟨⟨em,leafC 0 em false 0 0,0,0,zao ..,rfl⟩,zdx (zar _ 0 em false 0 0) 0 0,List.nodup_nil,by simp⟩,((uh HC).below (ba)).out hne hnp _ _,((uh HK).trans (Kp.of (ba))).out (lr _) _ _⟩
 | some v =>
  have hs2:=Hi ((uh hs1) v rfl);clear hs0 hs1
  go_wp2_with (first
   | refine wpList_store_mid (by rfl) 123 _ _ (by rfl) w.heap.size 0 #[.string A,.int .i64 k,.string tx,.bool bl,.slice ai ni ci,.slice af nf cf,.int .i64 ln,.int .i64 co,.int .i64 X,.int .i64 Y] (by rfl) (by rfl) ((uh HT) _) infoAr (dt.zab (cs:=[.string A,.int .i64 k,.string tx,.bool bl,.slice ai ni ci,.slice af nf cf,.int .i64 ln,.int .i64 co,.int .i64 X,.int .i64 Y]) (by rfl)) ?_)
  refine bodyPost_ret (rgn.zaa rfl _ _ w.heap.size 0 [.string A,.int .i64 k,.string tx,.bool bl,.slice ai ni ci,.slice af nf cf,.int .i64 ln,.int .i64 co,.int .i64 X,.int .i64 Y] _ rfl (World.rangeAt_setCells_same _ _ _ _ ((uh HT) _)) underlying123 rfl infoAr) rfl ?_
  have hiN:=hdead rfl;have hA2:=uh HA;rw[hiN] at hA2;have hown:=zdx (nm:=A) (zbc (zaX (uh HP).own ((Below.refl _ _).alloc (lr _) (.cells #[.int .i64 k,.string tx,.bool bl,.slice ai ni ci,.slice af nf cf,.int .i64 ln,.int .i64 co] 33)) (fun b hb=>(hrF b hb).2)) (b:=w.heap.size) (fun hb=>by have:=(hrF _ hb).1;omega) 0 [.string A,.int .i64 k,.string tx,.bool bl,.slice ai ni ci,.slice af nf cf,.int .i64 ln,.int .i64 co,.int .i64 X,.int .i64 Y]) X Y
  rw[uh hs2];refine⟨_,F,rfl,⟨⟨A,[.int .i64 k,.string tx,.bool bl,.slice ai ni ci,.slice af nf cf,.int .i64 ln,.int .i64 co],X,Y,⟨k,tx,bl,ai,ni,ci,af,nf,cf,ln,co,rfl⟩,rfl⟩,?_,(uh HP).nodup,fun b hb=>⟨by have:=(hrF b hb).1;omega,by rw[dt.zag];have:=(hrF b hb).2;simp;omega⟩⟩,((uh HC).below (ba)).out hne hnp _ _,((uh HK).trans (Kp.of (ba))).out (lr _) _ _⟩
  show Ow _ (fldD c.tok.tx v c.tok.ln c.tok.co) _ F
  rw[show c.tok.tx=A from hA2.1.symm,show c.tok.ln=X from hA2.2.1.symm,show c.tok.co=Y from hA2.2.2.symm]
  exact hown
end cu
namespace dt
theorem Grow.more{t:TypeId}{size:Nat}{w w':World}{B:Nat}{l:List Dt}{sl sl':Value}{G:List Nat}{d:Dt}{ds:List Value}{F:List Nat}(h:Grow t size w B l sl G){xss:List (List Value)}(hol:OwL Ow w l xss G)(hx:∀ xs∈xss,xs.length=size)(hd:Ow w d ds F)(hn:F.Nodup)(hF:∀ b∈F,B≤b∧b<w.heap.size∧b ∉ G∧sl.ownBlock≠some b)(hl:ds.length=size)
  (hrow:w'.ownsRow B t size sl' (l.length+1) (xss.flatten++ds)) (hs:w.heap.size≤w'.heap.size) (hold:∀ b,b<w.heap.size→sl.ownBlock≠some b→w'.heap[b]? = w.heap[b]?) (hat:∀ b,sl'.ownBlock=some b→sl.ownBlock=some b∨w.heap.size≤b):Grow t size w' B (l++[d]) sl' (G++F):=by
 refine⟨?_,?_,?_,xss++[ds],?_,?_,?_⟩
 ·rw[List.nodup_append]
  exact⟨h.nodup,hn,fun x hx y hy e=>(hF y hy).2.2.1 (e ▸ hx)⟩
 ·intro b hb
  rcases List.mem_append.1 hb with hb | hb
  ·exact⟨(h.rng b hb).1,Nat.lt_of_lt_of_le (h.rng b hb).2 hs⟩
  ·exact⟨(hF b hb).1,Nat.lt_of_lt_of_le (hF b hb).2.1 hs⟩
 ·intro b hb e
  have hlt':b<w.heap.size:=by
   rcases List.mem_append.1 hb with hb | hb
   ·exact (h.rng b hb).2
   ·exact (hF b hb).2.1
  rcases hat b e with hat | hat
  ·rcases List.mem_append.1 hb with hb | hb
   ·exact h.own b hb hat
   ·exact (hF b hb).2.2.2 hat
  ·omega
 ·simpa using hrow
 ·refine OwL.agree (fun w w' e cs F=>Ow.agree e cs F) (fun b hb j=>?_) (OwL.snoc hd hol)
  rcases List.mem_append.1 hb with hb | hb
  ·exact zaf (hold b (h.rng b hb).2 (h.own b hb)) j
  ·exact zaf (hold b (hF b hb).2.1 (hF b hb).2.2.2) j
 ·intro xs hxs
  rcases List.mem_append.1 hxs with hxs | hxs
  ·exact hx xs hxs
  ·obtain rfl:xs=ds:=by simpa using hxs
   exact hl
end dt
namespace cu
open ints (Hi uh)
open dt (Dt Kp RowAt Ow Grow)
theorem CurAt.low{w w':World}{B p lo:Nat}{c:Cu}(h:CurAt w B p c)(hb:Below lo w w')(h1:B<lo)(h2:p<lo):CurAt w' B p c:=by
 obtain⟨cap,h3,h4,h5,h6⟩:=h.box;exact⟨h.ok,h.len,cap,(hb.block B h1).trans h3,h4,Nat.lt_of_lt_of_le h5 hb.size,fun i t ht j u hu=>(dt.zaf (hb.block p h2) _).trans (h6 i t ht j u hu)⟩
theorem _root_.Go.Proofs.YtepmbmbnlmbhhaaGreat.dt.Kp.low{B:Nat}{w w1 w2:World}(h:Kp B w w1)(hb:Below w.heap.size w1 w2):Kp B w w2:=
 ⟨hb.os.trans h.os,hb.tape.trans h.tape,hb.output.trans h.output,Nat.le_trans h.size hb.size,fun k hk hB=>(hb.block k hk).trans (h.block k hk hB)⟩
theorem infoLz:∃ i z,prog.info? 33=some i∧i.zero=some z∧i.size=7∧i.bytes=96∧z.cells.size=7:=by
 have hin:(prog.info? 33).map (fun i=>(i.bytes,i.size,i.zero.map (·.cells.size)))=some (96,7,some 7):=by kernel_rfl
 cases hq:prog.info? 33 with
 | none=>simp[hq] at hin
 | some i =>
  simp[hq] at hin;obtain⟨h1,h2,z,hz,h3⟩:=hin;exact⟨i,z,rfl,hz,h2,h1,h3⟩
def BrkPL(r:Option (List Dt))(lo:Nat)(w':World)(sl:Value):Prop:=match r with | none=>sl = .slice none 0 0 | some l=>∃ G,Grow 33 7 w' lo l sl G
theorem zkN(E:Cu→Option Dt × Cu)(ct:Bool)(c:Cu)(left right:ByteArray)(hc0:c.Ok)(hlen:c.ts.length≤1099511627777)(hG:Goes E)(hE:∀ cc:Cu,cc.Ok→cc.ts=c.ts→c.ix<cc.ix→LitAt E ct cc)(B p:Nat)(w:World)(h:CurAt w B p c) :
  Calls prog 91 #[ptr B,.string left,.string right,.int .i64 0,.bool ct,.func (.func 17) #[ptr B] #[]] w fun e w'=>∃ sl,e = .returned (.tuple #[sl,.bool (brk E left right 0 c).1.isSome])∧BrkPL (brk E left right 0 c).1 w.heap.size w' sl∧CurAt w' B p (brk E left right 0 c).2∧Kp B w w':=by
 have en:∀ args w,(callFunc 17 args).run prog w = .ok (.enter 17 args) w:=fun _ _=>rfl
 have ho:=Hi (zbb B p c left w h);have hB:=h.lt;have hp:=h.plt
 cases hO:c.opB left
 ·have hs:=Hi (show brk E left right 0 c=(none,c.opn left) from by unfold brk;rw[hO];rfl)
  rw[hO] at ho;clear h hE;unfold ptr at ho ⊢
  go_enter func91,ntmps91
  go_wp2_with fail
  refine (uh ho).mono ?_
  rintro e w1 ⟨rfl,hc1,hk1⟩;clear ho
  go_wp2_with fail
  go_ret2
  rw[uh hs];exact⟨_,rfl,rfl,hc1,hk1⟩
 ·have hst:=za2 hc0 left
  have hoi:=zbL hO;obtain⟨R,hR⟩:∃ R,R=brkF E right 0 c.ts.length [] (c.opn left):=⟨_,rfl⟩;have hs:=Hi (show brk E left right 0 c=R from by unfold brk;rw[hO,hR];rfl)
  rw[hO] at ho;have HR:=Hi hR.symm;clear h hR hO;have hcl:=Hi (fun W (cc:Cu) (hc:CurAt W B p cc)=>zaL B p cc right W hc)
  have hip:=Hi (fun W (cc:Cu) (hc:CurAt W B p cc)=>zam B p cc right W hc)
  have hEE:=Hi (fun (cc:Cu) (h1:cc.Ok) (h2:cc.ts=c.ts) (h3:c.ix<cc.ix)=>hE cc h1 h2 h3 B p)
  clear hE;unfold ptr at ho hcl hip hEE ⊢
  go_enter func91,ntmps91
  go_wp2_with fail
  refine (uh ho).mono ?_
  rintro e w1 ⟨rfl,hc1,hk1⟩;clear ho;have hz1:=hk1.size
  go_wp2_with fail
  go_loopg [14] c.ts.length (fun g sl wr=>∃ (l:List Dt) (cc:Cu) (Gs:List Nat),Hid (brkF E right 0 g l cc=R)∧CurAt wr B p cc∧Hid (Grow 33 7 wr w.heap.size l sl Gs)∧Kp B w wr∧Hid (cc.ts=c.ts)∧c.ts.length≤g+cc.ix∧l.length+1+c.ix≤cc.ix)
  case atStart=>exact⟨[],c.opn left,[],HR,hc1,Hi Grow.nil,hk1,Hi hst.ts,Nat.le_add_right _ _,by rw[hoi];simp;omega⟩
  case round =>
   obtain⟨l,cc,Gs,hrun,hcc,hgr,hkr,hts,hfu,hll⟩:=hrel;have hixl:=hcc.ok.lt;rw[uh hts] at hixl;obtain⟨al,cl,hsl⟩:=(uh hgr).form;subst hsl;have hlz:¬((l.length:Int)<0):=by omega
   obtain⟨g',rfl⟩:∃ g',gk=g'+1:=⟨gk-1,by omega⟩
   have hip2:=Hi ((uh hip) wr cc hcc)
   go_wp2_with fail
   refine (uh hip2).mono ?_
   rintro e w2 ⟨rfl,b2⟩;have hc2:=hcc.below b2;have hgr2:=Hi ((uh hgr).keep b2.size (fun b hb _=>b2.block b hb))
   have hk2:=hkr.trans (Kp.of b2)
   cases hQ:cc.isP right
   ·have hrun2:=Hi (show (match (E cc).1 with | none=>(none,(E cc).2) | some d=>brkF E right 0 g' (l++[d]) (E cc).2)=R from by
     have e:=uh hrun;rw[brkF,if_pos (.inr hQ)] at e
     exact e)
    have hgo:=hG cc hcc.ok;have hcall:=Hi ((uh hEE) cc hcc.ok (uh hts) (by omega) w2 hc2)
    go_wp2_with fail
    refine (uh hcall).mono ?_
    rintro e w3 ⟨cs,F,rfl,hpo,hc3,hk3⟩;obtain⟨U,hU⟩:∃ U,U=E cc:=⟨_,rfl⟩;rw[←hU] at hrun2 hgo hpo hc3 ⊢;obtain⟨r,C⟩:=U;obtain⟨k,tx,bl,ai,ni,ci,af,nf,cf,ln,co,rfl⟩:=hpo.shape;clear hcall hU hip2 hrun;have HP:=Hi hpo;clear hpo;have HC3:=Hi hc3;have HK3:=Hi hk3;have hz3:=hk3.size
    cases r with
    | none =>
     have hrun3:=Hi (show (none,C)=R from uh hrun2)
     go_wp2_with fail
     go_ret2
     rw[uh hs,←uh hrun3];exact⟨_,rfl,rfl,(uh HC3).below (ba),(hk2.trans (uh HK3)).trans (Kp.of (ba))⟩
    | some d =>
     have hrun3:=Hi (show brkF E right 0 g' (l++[d]) C=R from uh hrun2)
     have hix3:cc.ix<C.ix:=hgo.2 rfl;have hts3:=hgo.1.ts;have hlt3:=hgo.1.ok.lt;rw[hts3,uh hts] at hlt3;have hgr3:=(uh hgr2).kp (uh HK3) hB;obtain⟨it,zt,q1,q2,q3,q4,q5⟩:=infoLz;have HQ:=Hi (an q1 (an q2 (an q3 (an q4 q5))));clear q1 q2 q3 q4 q5;obtain⟨xss,hr3,hol3,hx3⟩:=hgr3.row;have hr4:=Hi (fun o=>World.ownsRow.alloc hr3 o)
     have hbyt:=Hi (show (l.length+1) * 96≤140737488355328∧l.length+1≤maxLen from ⟨by omega,by unfold maxLen;omega⟩)
     have hsz4:=Hi (fun o=>show w.heap.size≤(w3.alloc o).heap.size from by have:=hz3;have:=b2.size;have:=hkr.size;simp;omega)
     have hone:=Hi ((uh HP).own.one);have HG:=Hi (an hgr3 (an hol3 hx3));have hTS:=Hi hts3;clear hrun2 hgo hts3 hgr3 hr3 hol3 hx3
     go_wp2_with (first
      | (at_builtin;refine dt.zaq (by rfl) _ _ (by rfl) underlying28 (uh HQ).1 (uh HQ).2.1 (uh HQ).2.2.1 (uh HQ).2.2.2.1 (uh HQ).2.2.2.2 (by omega) w.heap.size l.length xss.flatten _ (by rfl) ((uh hr4) _) [.int .i64 k,.string tx,.bool bl,.slice ai ni ci,.slice af nf cf,.int .i64 ln,.int .i64 co] (by rfl) (uh hone) (w3.heap.size+1) (by simp) (by rfl) (uh hbyt).1 (uh hbyt).2 ((uh hsz4) _) ?_;intro sl' w7 hr7 b7 hold7 hat7;have H7:=Hi (an hr7 (an b7 (an hold7 hat7)));clear hr7 b7 hold7 hat7))
     go_roundg g'
     case rel =>
      obtain⟨hr7,b7,hold7,hat7⟩:=uh H7;obtain⟨hgr3,hol3,hx3⟩:=uh HG;have bA:Below w3.heap.size w3 (w3.alloc (.cells #[.int .i64 k,.string tx,.bool bl,.slice ai ni ci,.slice af nf cf,.int .i64 ln,.int .i64 co] 33)):=ba;have hgr4:=hgr3.keep bA.size (fun b hb _=>bA.block b hb)
      have hown:=fun b (hb:(Value.slice al l.length cl).ownBlock=some b)=>(let ⟨_,hr,_⟩:=(uh hgr2).row;(hr.lt b hb).2)
      have hF3:∀ b∈F,w2.heap.size≤b∧b<w3.heap.size:=(uh HP).rng;have hsz:w.heap.size≤w2.heap.size:=hk2.size;have hmore:=hgr4.more (dt.OwL.agree (fun w w' e cs F=>dt.Ow.agree e cs F) (fun b hb j=>dt.zaf (bA.block b (hgr3.rng b hb).2) j) hol3) hx3 (zaX (uh HP).own bA (fun b hb=>(hF3 b hb).2)) (uh HP).nodup (fun b hb=>⟨by have:=(hF3 b hb).1;omega,by have:=(hF3 b hb).2;have:=bA.size;omega,fun hm=>by have:=((uh hgr2).rng b hm).2;have:=(hF3 b hb).1;omega,fun e=>by have:=hown b e;have:=(hF3 b hb).1;omega⟩) (by rfl) hr7 (by have:=(hr7.lt);have:=b7.size;exact this) hold7 hat7
      have hBs:B<w3.heap.size:=by omega
      have hCA:=(uh HC3).below bA;refine⟨l++[d],C,Gs++F,hrun3,?_,Hi hmore,?_,Hi ((uh hTS).trans (uh hts)),by omega,by rw[List.length_append];simp;omega⟩
      ·exact hCA.low b7 hB hp
      ·exact ((hk2.trans (uh HK3)).trans (Kp.of bA)).low b7
     case measure=>exact Nat.lt_succ_self _
   ·have hrun2:=Hi (show (some l,cc.cls right)=R from by
     have e:=uh hrun;rw[brkF,if_neg (fun e=>by rcases e with e | e;omega;rw[hQ] at e;cases e)] at e
     exact e)
    have hcl2:=Hi ((uh hcl) w2 cc hc2);rw[hQ] at hcl2;clear hrun hip2
    go_wp2_with fail
    refine (uh hcl2).mono ?_
    rintro e w3 ⟨rfl,hc3,hk3⟩;clear hcl2
    go_wp2_with fail
    go_ret2
    rw[uh hs,←uh hrun2];exact⟨_,rfl,⟨Gs,(uh hgr2).kp hk3 hB⟩,hc3,hk2.trans hk3⟩
theorem infoFz:∃ i z,prog.info? 59=some i∧i.zero=some z∧i.size=10∧i.bytes=128∧z.cells.size=10:=by
 have hin:(prog.info? 59).map (fun i=>(i.bytes,i.size,i.zero.map (·.cells.size)))=some (128,10,some 10):=by kernel_rfl
 cases hq:prog.info? 59 with
 | none=>simp[hq] at hin
 | some i =>
  simp[hq] at hin;obtain⟨h1,h2,z,hz,h3⟩:=hin;exact⟨i,z,rfl,hz,h2,h1,h3⟩
def BrkPF(r:Option (List Dt))(lo:Nat)(w':World)(sl:Value):Prop:=match r with | none=>sl = .slice none 0 0 | some l=>∃ G,Grow 59 10 w' lo l sl G
theorem ziH(E:Cu→Option Dt × Cu)(ct:Bool)(c:Cu)(left right:ByteArray)(hc0:c.Ok)(hlen:c.ts.length≤1099511627777)(hG:Goes E)(hE:∀ cc:Cu,cc.Ok→cc.ts=c.ts→c.ix<cc.ix→FldAt 93 E ct cc)(B p:Nat)(w:World)(h:CurAt w B p c) :
  Calls prog 92 #[ptr B,.string left,.string right,.int .i64 0,.bool ct,.func (.func 93) #[ptr B] #[]] w fun e w'=>∃ sl,e = .returned (.tuple #[sl,.bool (brk E left right 0 c).1.isSome])∧BrkPF (brk E left right 0 c).1 w.heap.size w' sl∧CurAt w' B p (brk E left right 0 c).2∧Kp B w w':=by
 have en:∀ args w,(callFunc 93 args).run prog w = .ok (.enter 93 args) w:=fun _ _=>rfl
 have ho:=Hi (zbb B p c left w h);have hB:=h.lt;have hp:=h.plt
 cases hO:c.opB left
 ·have hs:=Hi (show brk E left right 0 c=(none,c.opn left) from by unfold brk;rw[hO];rfl)
  rw[hO] at ho;clear h hE;unfold ptr at ho ⊢
  go_enter func92,ntmps92
  go_wp2_with fail
  refine (uh ho).mono ?_
  rintro e w1 ⟨rfl,hc1,hk1⟩;clear ho
  go_wp2_with fail
  go_ret2
  rw[uh hs];exact⟨_,rfl,rfl,hc1,hk1⟩
 ·have hst:=za2 hc0 left
  have hoi:=zbL hO;obtain⟨R,hR⟩:∃ R,R=brkF E right 0 c.ts.length [] (c.opn left):=⟨_,rfl⟩;have hs:=Hi (show brk E left right 0 c=R from by unfold brk;rw[hO,hR];rfl)
  rw[hO] at ho;have HR:=Hi hR.symm;clear h hR hO;have hcl:=Hi (fun W (cc:Cu) (hc:CurAt W B p cc)=>zaL B p cc right W hc)
  have hip:=Hi (fun W (cc:Cu) (hc:CurAt W B p cc)=>zam B p cc right W hc)
  have hEE:=Hi (fun (cc:Cu) (h1:cc.Ok) (h2:cc.ts=c.ts) (h3:c.ix<cc.ix)=>hE cc h1 h2 h3 B p)
  clear hE;unfold ptr at ho hcl hip hEE ⊢
  go_enter func92,ntmps92
  go_wp2_with fail
  refine (uh ho).mono ?_
  rintro e w1 ⟨rfl,hc1,hk1⟩;clear ho;have hz1:=hk1.size
  go_wp2_with fail
  go_loopg [14] c.ts.length (fun g sl wr=>∃ (l:List Dt) (cc:Cu) (Gs:List Nat),Hid (brkF E right 0 g l cc=R)∧CurAt wr B p cc∧Hid (Grow 59 10 wr w.heap.size l sl Gs)∧Kp B w wr∧Hid (cc.ts=c.ts)∧c.ts.length≤g+cc.ix∧l.length+1+c.ix≤cc.ix)
  case atStart=>exact⟨[],c.opn left,[],HR,hc1,Hi Grow.nil,hk1,Hi hst.ts,Nat.le_add_right _ _,by rw[hoi];simp;omega⟩
  case round =>
   obtain⟨l,cc,Gs,hrun,hcc,hgr,hkr,hts,hfu,hll⟩:=hrel;have hixl:=hcc.ok.lt;rw[uh hts] at hixl;obtain⟨al,cl,hsl⟩:=(uh hgr).form;subst hsl;have hlz:¬((l.length:Int)<0):=by omega
   obtain⟨g',rfl⟩:∃ g',gk=g'+1:=⟨gk-1,by omega⟩
   have hip2:=Hi ((uh hip) wr cc hcc)
   go_wp2_with fail
   refine (uh hip2).mono ?_
   rintro e w2 ⟨rfl,b2⟩;have hc2:=hcc.below b2;have hgr2:=Hi ((uh hgr).keep b2.size (fun b hb _=>b2.block b hb))
   have hk2:=hkr.trans (Kp.of b2)
   cases hQ:cc.isP right
   ·have hrun2:=Hi (show (match (E cc).1 with | none=>(none,(E cc).2) | some d=>brkF E right 0 g' (l++[d]) (E cc).2)=R from by
     have e:=uh hrun;rw[brkF,if_pos (.inr hQ)] at e
     exact e)
    have hgo:=hG cc hcc.ok;have hcall:=Hi ((uh hEE) cc hcc.ok (uh hts) (by omega) w2 hc2)
    go_wp2_with fail
    refine (uh hcall).mono ?_
    rintro e w3 ⟨cs,F,rfl,hpo,hc3,hk3⟩;obtain⟨U,hU⟩:∃ U,U=E cc:=⟨_,rfl⟩;rw[←hU] at hrun2 hgo hpo hc3 ⊢;obtain⟨r,C⟩:=U;obtain⟨nm,ds,X,Y,⟨k,tx,bl,ai,ni,ci,af,nf,cf,ln,co,rfl⟩,rfl⟩:=hpo.shape;clear hcall hU hip2 hrun;have HP:=Hi hpo;clear hpo;have HC3:=Hi hc3;have HK3:=Hi hk3;have hz3:=hk3.size
    cases r with
    | none =>
     have hrun3:=Hi (show (none,C)=R from uh hrun2)
     go_wp2_with fail
     go_ret2
     rw[uh hs,←uh hrun3];exact⟨_,rfl,rfl,(uh HC3).below (ba),(hk2.trans (uh HK3)).trans (Kp.of (ba))⟩
    | some d =>
     have hrun3:=Hi (show brkF E right 0 g' (l++[d]) C=R from uh hrun2)
     have hix3:cc.ix<C.ix:=hgo.2 rfl;have hts3:=hgo.1.ts;have hlt3:=hgo.1.ok.lt;rw[hts3,uh hts] at hlt3;have hgr3:=(uh hgr2).kp (uh HK3) hB;obtain⟨it,zt,q1,q2,q3,q4,q5⟩:=infoFz;have HQ:=Hi (an q1 (an q2 (an q3 (an q4 q5))));clear q1 q2 q3 q4 q5;obtain⟨xss,hr3,hol3,hx3⟩:=hgr3.row;have hr4:=Hi (fun o=>World.ownsRow.alloc hr3 o)
     have hbyt:=Hi (show (l.length+1) * 128≤140737488355328∧l.length+1≤maxLen from ⟨by omega,by unfold maxLen;omega⟩)
     have hsz4:=Hi (fun o=>show w.heap.size≤(w3.alloc o).heap.size from by have:=hz3;have:=b2.size;have:=hkr.size;simp;omega)
     have hone:=Hi ((uh HP).own.one);have HG:=Hi (an hgr3 (an hol3 hx3));have hTS:=Hi hts3;clear hrun2 hgo hts3 hgr3 hr3 hol3 hx3
     go_wp2_with (first
      | (at_builtin;refine dt.zaq (by rfl) _ _ (by rfl) underlying29 (uh HQ).1 (uh HQ).2.1 (uh HQ).2.2.1 (uh HQ).2.2.2.1 (uh HQ).2.2.2.2 (by omega) w.heap.size l.length xss.flatten _ (by rfl) ((uh hr4) _) [.string nm,.int .i64 k,.string tx,.bool bl,.slice ai ni ci,.slice af nf cf,.int .i64 ln,.int .i64 co,.int .i64 X,.int .i64 Y] (by rfl) (uh hone) (w3.heap.size+1) (by simp) (by rfl) (uh hbyt).1 (uh hbyt).2 ((uh hsz4) _) ?_;intro sl' w7 hr7 b7 hold7 hat7;have H7:=Hi (an hr7 (an b7 (an hold7 hat7)));clear hr7 b7 hold7 hat7))
     go_roundg g'
     case rel =>
      obtain⟨hr7,b7,hold7,hat7⟩:=uh H7;obtain⟨hgr3,hol3,hx3⟩:=uh HG;have bA:Below w3.heap.size w3 (w3.alloc (.cells #[.string nm,.int .i64 k,.string tx,.bool bl,.slice ai ni ci,.slice af nf cf,.int .i64 ln,.int .i64 co,.int .i64 X,.int .i64 Y] 59)):=ba;have hgr4:=hgr3.keep bA.size (fun b hb _=>bA.block b hb)
      have hown:=fun b (hb:(Value.slice al l.length cl).ownBlock=some b)=>(let ⟨_,hr,_⟩:=(uh hgr2).row;(hr.lt b hb).2)
      have hF3:∀ b∈F,w2.heap.size≤b∧b<w3.heap.size:=(uh HP).rng;have hsz:w.heap.size≤w2.heap.size:=hk2.size;have hmore:=hgr4.more (dt.OwL.agree (fun w w' e cs F=>dt.Ow.agree e cs F) (fun b hb j=>dt.zaf (bA.block b (hgr3.rng b hb).2) j) hol3) hx3 (zaX (uh HP).own bA (fun b hb=>(hF3 b hb).2)) (uh HP).nodup (fun b hb=>⟨by have:=(hF3 b hb).1;omega,by have:=(hF3 b hb).2;have:=bA.size;omega,fun hm=>by have:=((uh hgr2).rng b hm).2;have:=(hF3 b hb).1;omega,fun e=>by have:=hown b e;have:=(hF3 b hb).1;omega⟩) (by rfl) hr7 (by have:=(hr7.lt);have:=b7.size;exact this) hold7 hat7
      have hBs:B<w3.heap.size:=by omega
      have hCA:=(uh HC3).below bA;refine⟨l++[d],C,Gs++F,hrun3,?_,Hi hmore,?_,Hi ((uh hTS).trans (uh hts)),by omega,by rw[List.length_append];simp;omega⟩
      ·exact hCA.low b7 hB hp
      ·exact ((hk2.trans (uh HK3)).trans (Kp.of bA)).low b7
     case measure=>exact Nat.lt_succ_self _
   ·have hrun2:=Hi (show (some l,cc.cls right)=R from by
     have e:=uh hrun;rw[brkF,if_neg (fun e=>by rcases e with e | e;omega;rw[hQ] at e;cases e)] at e
     exact e)
    have hcl2:=Hi ((uh hcl) w2 cc hc2);rw[hQ] at hcl2;clear hrun hip2
    go_wp2_with fail
    refine (uh hcl2).mono ?_
    rintro e w3 ⟨rfl,hc3,hk3⟩;clear hcl2
    go_wp2_with fail
    go_ret2
    rw[uh hs,←uh hrun2];exact⟨_,rfl,⟨Gs,(uh hgr2).kp hk3 hB⟩,hc3,hk2.trans hk3⟩
def LitFn(f:Nat)(L:Cu→Option Dt × Cu)(ct:Bool)(c:Cu):Prop:=∀ (B p:Nat) (w:World),CurAt w B p c→Calls prog f #[ptr B,.bool ct] w fun e w'=>∃ cs F,e = .returned (.tuple #[.agg cs.toArray,.bool (L c).1.isSome])∧LitPost ((L c).1.getD zeroD) w w' cs F∧CurAt w' B p (L c).2∧Kp B w w'
theorem zle{t:TypeId}{w:World}{lo:Nat}{l:List Dt}{sl:Value}{G:List Nat}(h:Grow t 7 w lo l sl G)(ln co:Int):∃ a n c F,sl = .slice a n c∧Ow w (litD 8 em false (Dt.of l) .nil ln co) [.int .i64 8,.string ⟨#[]⟩,.bool false,.slice a n c,.slice none 0 0,.int .i64 ln,.int .i64 co] F∧F.Nodup∧∀ b∈F,lo≤b∧b<w.heap.size:=by
 obtain⟨a,n,c,F,rfl,h1,h2,h3,h4,h5,h6,h7⟩:=h.shut;refine⟨a,n,c,F,rfl,?_,h4,h5⟩
 unfold litD;unfold Ow;refine⟨_,rfl,rfl,?_⟩
 unfold Ow;refine⟨_,rfl,rfl,?_⟩
 unfold Ow;refine⟨_,rfl,rfl,?_⟩
 unfold Ow;refine⟨a,n,c,_,F,[],rfl,h1,h2,h3,h7,?_,by simp⟩
 unfold Ow;refine⟨none,0,0,_,[],[],rfl,lr _,Nat.zero_le _,fun _=>rfl,.inl ⟨rfl,rfl,rfl,rfl⟩,zdD _ _ _,rfl⟩
theorem zld(L:Cu→Option Dt × Cu)(ct:Bool)(c:Cu)(hc0:c.Ok)(hlen:c.ts.length≤1099511627777)(hG:Goes L)(hE:∀ cc:Cu,cc.Ok→cc.ts=c.ts→c.ix<cc.ix→LitAt L ct cc):LitFn 65 (listS L) ct c:=by
 intro B p w h;have ht:=Hi (fun W (bb:Below w.heap.size w W)=>zaM B p c W (h.below bb))
 have hb:=Hi (fun W (bb:Below w.heap.size w W)=>zkN L ct c bLb bRb hc0 hlen hG hE B p W (h.below bb))
 have hlt:=h.lt;have hplt:=h.plt;have hne:B≠w.heap.size:=by omega
 have hnp:p≠w.heap.size:=by omega
 have bA:=qA w;have hZ:=qz hlt;have hs0:=Hi (show (brk L bLb bRb 0 c).1=none→listS L c=(none,(brk L bLb bRb 0 c).2) from fun e=>by unfold listS;rw[e])
 have hs1:=Hi (show ∀ l,(brk L bLb bRb 0 c).1=some l→listS L c=(some (litD 8 em false (Dt.of l) .nil c.tok.ln c.tok.co),(brk L bLb bRb 0 c).2) from fun l e=>by unfold listS;rw[e])
 have hf2:=zc7 c.tok;obtain⟨t,et⟩:∃ t,t=c.tok:=⟨_,rfl⟩;rw[←et] at ht hs1 hf2;obtain⟨U,hU⟩:∃ U,U=brk L bLb bRb 0 c:=⟨_,rfl⟩;rw[←hU] at hb hs0 hs1;clear h hU et hE;obtain⟨r,C⟩:=U;unfold Tk.cells at ht;unfold ptr at ht hb ⊢
 go_enter func65,ntmps65
 go_wp2_with fail
 refine ((uh ht) _ ((uh bA) _)).mono ?_
 rintro e w1 ⟨rfl,b1⟩;have hz1:w.heap.size<w1.heap.size:=by have:=b1.size;simp at this;omega
 have bw1:=((uh bA) _).trans (b1.mono ((uh bA) _).size)
 go_wp2_with fail
 refine ((uh hb) _ (bw1.alloc bw1.size _)).mono ?_
 rintro e w2 ⟨sl,rfl,hbp,hc2,hk2⟩;have hD2:=(hk2.block w1.heap.size (by simp) (by omega)).trans (heap_alloc_new w1 _)
 have hk12:=(Kp.of b1).trans ((Kp.of (ba)).trans hk2);have hR2:=(uh hZ) _ w2 hk12;have hz2:w1.heap.size<w2.heap.size:=by have:=hk2.size;simp at this;omega
 have d0:w2.cell? ⟨w1.heap.size,0,none⟩=some (.int .i64 t.ln):=(zG hD2 0).trans rfl;have d1:w2.cell? ⟨w1.heap.size,1,none⟩=some (.int .i64 t.co):=(zG hD2 1).trans rfl;have HT:=Hi (dt.zac hR2 (o:=0) (n:=7) (by decide))
 have HK:=Hi ((Kp.of ((uh bA) _)).trans hk12);have HC:=Hi hc2;have HB:=Hi hbp;have hloZ:=Hi (show w.heap.size<(w1.alloc (.cells #[.int .i64 t.ln,.int .i64 t.co] 31)).heap.size from by simp;omega)
 clear ht hb hk2 hk12 hc2 hZ bA hR2 hD2 hbp bw1
 cases r with
 | none =>
  have hs2:=Hi ((uh hs0) rfl);obtain rfl:sl = .slice none 0 0:=uh HB;clear hs0 hs1
  go_wp2_with (first
   | refine wpList_store_mid (by rfl) 33 _ _ (by rfl) w.heap.size 0 #[.int .i64 0,.string ⟨#[]⟩,.bool false,.slice none 0 0,.slice none 0 0,.int .i64 0,.int .i64 0] (by rfl) (by rfl) (uh HT) infoLt (dt.zab (cs:=[.int .i64 0,.string ⟨#[]⟩,.bool false,.slice none 0 0,.slice none 0 0,.int .i64 0,.int .i64 0]) (by rfl)) ?_)
  refine bodyPost_ret (rgn.zaa rfl _ _ w.heap.size 0 [.int .i64 0,.string ⟨#[]⟩,.bool false,.slice none 0 0,.slice none 0 0,.int .i64 0,.int .i64 0] _ rfl (World.rangeAt_setCells_same _ _ _ _ (uh HT)) underlying33 rfl infoLt) rfl ?_
  rw[uh hs2];exact⟨_,[],rfl,⟨zao 0 em false 0 0,zar _ 0 em false 0 0,List.nodup_nil,by simp⟩,(uh HC).out hne hnp _ _,(uh HK).out (lr _) _ _⟩
 | some l =>
  have hs2:=Hi ((uh hs1) l rfl);obtain⟨Gs,hgr⟩:=uh HB;obtain⟨a,n,c',F,rfl,how,hnd,hrg⟩:=zle hgr t.ln t.co;have HO:=Hi (an how (an hnd hrg));clear hs0 hs1 hgr how hnd hrg HB
  go_wp2_with (first
   | refine wpList_store_mid (by rfl) 33 _ _ (by rfl) w.heap.size 0 #[.int .i64 8,.string ⟨#[]⟩,.bool false,.slice a n c',.slice none 0 0,.int .i64 t.ln,.int .i64 t.co] (by rfl) (by rfl) (uh HT) infoLt (dt.zab (cs:=[.int .i64 8,.string ⟨#[]⟩,.bool false,.slice a n c',.slice none 0 0,.int .i64 t.ln,.int .i64 t.co]) (by rfl)) ?_)
  refine bodyPost_ret (rgn.zaa rfl _ _ w.heap.size 0 [.int .i64 8,.string ⟨#[]⟩,.bool false,.slice a n c',.slice none 0 0,.int .i64 t.ln,.int .i64 t.co] _ rfl (World.rangeAt_setCells_same _ _ _ _ (uh HT)) underlying33 rfl infoLt) rfl ?_
  rw[uh hs2];obtain⟨how,hnd,hrg⟩:=uh HO;exact⟨_,F,rfl,⟨⟨_,_,_,_,_,_,_,_,_,_,_,rfl⟩,zbc how (fun hm=>by have:=(hrg _ hm).1;have:=uh hloZ;omega) _ _,hnd,fun b hb=>⟨by have:=(hrg b hb).1;have:=uh hloZ;omega,by rw[dt.zag];exact (hrg b hb).2⟩⟩,(uh HC).out hne hnp _ _,(uh HK).out (lr _) _ _⟩
theorem zmS{t:TypeId}{w:World}{lo:Nat}{l:List Dt}{sl:Value}{G:List Nat}(h:Grow t 10 w lo l sl G)(ln co:Int):∃ a n c F,sl = .slice a n c∧Ow w (litD 9 em false .nil (Dt.of l) ln co) [.int .i64 9,.string ⟨#[]⟩,.bool false,.slice none 0 0,.slice a n c,.int .i64 ln,.int .i64 co] F∧F.Nodup∧∀ b∈F,lo≤b∧b<w.heap.size:=by
 obtain⟨a,n,c,F,rfl,h1,h2,h3,h4,h5,h6,h7⟩:=h.shut;refine⟨a,n,c,F,rfl,?_,h4,h5⟩
 unfold litD;unfold Ow;refine⟨_,rfl,rfl,?_⟩
 unfold Ow;refine⟨_,rfl,rfl,?_⟩
 unfold Ow;refine⟨_,rfl,rfl,?_⟩
 unfold Ow;refine⟨none,0,0,_,[],F,rfl,lr _,Nat.zero_le _,fun _=>rfl,.inl ⟨rfl,rfl,rfl,rfl⟩,?_,rfl⟩
 unfold Ow;exact⟨a,n,c,_,F,[],rfl,h1,h2,h3,h7,zdD _ _ _,by simp⟩
theorem zmR(L:Cu→Option Dt × Cu)(ct:Bool)(c:Cu)(hc0:c.Ok)(hlen:c.ts.length≤1099511627777)(hG:Goes L)(hE:∀ cc:Cu,cc.Ok→cc.ts=c.ts→c.ix<cc.ix→FldAt 93 (argS L) ct cc):LitFn 66 (objS L) ct c:=by
 intro B p w h;have ht:=Hi (fun W (bb:Below w.heap.size w W)=>zaM B p c W (h.below bb))
 have hb:=Hi (fun W (bb:Below w.heap.size w W)=>ziH (argS L) ct c bLc bRc hc0 hlen (zbi hG) hE B p W (h.below bb))
 have hlt:=h.lt;have hplt:=h.plt;have hne:B≠w.heap.size:=by omega
 have hnp:p≠w.heap.size:=by omega
 have bA:=qA w;have hZ:=qz hlt;have hs0:=Hi (show (brk (argS L) bLc bRc 0 c).1=none→objS L c=(none,(brk (argS L) bLc bRc 0 c).2) from fun e=>by unfold objS;rw[e])
 have hs1:=Hi (show ∀ l,(brk (argS L) bLc bRc 0 c).1=some l→objS L c=(some (litD 9 em false .nil (Dt.of l) c.tok.ln c.tok.co),(brk (argS L) bLc bRc 0 c).2) from fun l e=>by unfold objS;rw[e])
 have hf2:=zc7 c.tok;obtain⟨t,et⟩:∃ t,t=c.tok:=⟨_,rfl⟩;rw[←et] at ht hs1 hf2;obtain⟨U,hU⟩:∃ U,U=brk (argS L) bLc bRc 0 c:=⟨_,rfl⟩;rw[←hU] at hb hs0 hs1;clear h hU et hE;obtain⟨r,C⟩:=U;unfold Tk.cells at ht;unfold ptr at ht hb ⊢
 go_enter func66,ntmps66
 go_wp2_with fail
 refine ((uh ht) _ ((uh bA) _)).mono ?_
 rintro e w1 ⟨rfl,b1⟩;have hz1:w.heap.size<w1.heap.size:=by have:=b1.size;simp at this;omega
 have bw1:=((uh bA) _).trans (b1.mono ((uh bA) _).size)
 go_wp2_with fail
 refine ((uh hb) _ (bw1.alloc bw1.size _)).mono ?_
 rintro e w2 ⟨sl,rfl,hbp,hc2,hk2⟩;have hD2:=(hk2.block w1.heap.size (by simp) (by omega)).trans (heap_alloc_new w1 _)
 have hk12:=(Kp.of b1).trans ((Kp.of (ba)).trans hk2);have hR2:=(uh hZ) _ w2 hk12;have hz2:w1.heap.size<w2.heap.size:=by have:=hk2.size;simp at this;omega
 have d0:w2.cell? ⟨w1.heap.size,0,none⟩=some (.int .i64 t.ln):=(zG hD2 0).trans rfl;have d1:w2.cell? ⟨w1.heap.size,1,none⟩=some (.int .i64 t.co):=(zG hD2 1).trans rfl;have HT:=Hi (dt.zac hR2 (o:=0) (n:=7) (by decide))
 have HK:=Hi ((Kp.of ((uh bA) _)).trans hk12);have HC:=Hi hc2;have HB:=Hi hbp;have hloZ:=Hi (show w.heap.size<(w1.alloc (.cells #[.int .i64 t.ln,.int .i64 t.co] 31)).heap.size from by simp;omega)
 clear ht hb hk2 hk12 hc2 hZ bA hR2 hD2 hbp bw1
 cases r with
 | none =>
  have hs2:=Hi ((uh hs0) rfl);obtain rfl:sl = .slice none 0 0:=uh HB;clear hs0 hs1
  go_wp2_with (first
   | refine wpList_store_mid (by rfl) 33 _ _ (by rfl) w.heap.size 0 #[.int .i64 0,.string ⟨#[]⟩,.bool false,.slice none 0 0,.slice none 0 0,.int .i64 0,.int .i64 0] (by rfl) (by rfl) (uh HT) infoLt (dt.zab (cs:=[.int .i64 0,.string ⟨#[]⟩,.bool false,.slice none 0 0,.slice none 0 0,.int .i64 0,.int .i64 0]) (by rfl)) ?_)
  refine bodyPost_ret (rgn.zaa rfl _ _ w.heap.size 0 [.int .i64 0,.string ⟨#[]⟩,.bool false,.slice none 0 0,.slice none 0 0,.int .i64 0,.int .i64 0] _ rfl (World.rangeAt_setCells_same _ _ _ _ (uh HT)) underlying33 rfl infoLt) rfl ?_
  rw[uh hs2];exact⟨_,[],rfl,⟨zao 0 em false 0 0,zar _ 0 em false 0 0,List.nodup_nil,by simp⟩,(uh HC).out hne hnp _ _,(uh HK).out (lr _) _ _⟩
 | some l =>
  have hs2:=Hi ((uh hs1) l rfl);obtain⟨Gs,hgr⟩:=uh HB;obtain⟨a,n,c',F,rfl,how,hnd,hrg⟩:=zmS hgr t.ln t.co;have HO:=Hi (an how (an hnd hrg));clear hs0 hs1 hgr how hnd hrg HB
  go_wp2_with (first
   | refine wpList_store_mid (by rfl) 33 _ _ (by rfl) w.heap.size 0 #[.int .i64 9,.string ⟨#[]⟩,.bool false,.slice none 0 0,.slice a n c',.int .i64 t.ln,.int .i64 t.co] (by rfl) (by rfl) (uh HT) infoLt (dt.zab (cs:=[.int .i64 9,.string ⟨#[]⟩,.bool false,.slice none 0 0,.slice a n c',.int .i64 t.ln,.int .i64 t.co]) (by rfl)) ?_)
  refine bodyPost_ret (rgn.zaa rfl _ _ w.heap.size 0 [.int .i64 9,.string ⟨#[]⟩,.bool false,.slice none 0 0,.slice a n c',.int .i64 t.ln,.int .i64 t.co] _ rfl (World.rangeAt_setCells_same _ _ _ _ (uh HT)) underlying33 rfl infoLt) rfl ?_
  rw[uh hs2];obtain⟨how,hnd,hrg⟩:=uh HO;exact⟨_,F,rfl,⟨⟨_,_,_,_,_,_,_,_,_,_,_,rfl⟩,zbc how (fun hm=>by have:=(hrg _ hm).1;have:=uh hloZ;omega) _ _,hnd,fun b hb=>⟨by have:=(hrg b hb).1;have:=uh hloZ;omega,by rw[dt.zag];exact (hrg b hb).2⟩⟩,(uh HC).out hne hnp _ _,(uh HK).out (lr _) _ _⟩
theorem zi6(E:Cu→Option Dt × Cu)(ct:Bool)(c:Cu)(hA:FldAt 89 E ct c):FldAt 93 E ct c:=by
 intro B p w h;have ha:=Hi (fun W (bb:Below w.heap.size w W)=>hA B p W (h.below bb))
 have hlt:=h.lt;have hplt:=h.plt;have hne:B≠w.heap.size:=by omega
 have hnp:p≠w.heap.size:=by omega
 have bA:=qA w;have hZ:=qz hlt;obtain⟨U,hU⟩:∃ U,U=E c:=⟨_,rfl⟩;rw[←hU] at ha ⊢;clear h hU hA;obtain⟨r,C⟩:=U;unfold ptr at ha ⊢
 go_enter func93,ntmps93
 go_wp2_with fail
 refine ((uh ha) _ ((uh bA) _)).mono ?_
 rintro e w2 ⟨cs,F,rfl,hpo,hc2,hk2⟩;obtain⟨nm,ds,X,Y,⟨k,tx,bl,ai,ni,ci,af,nf,cf,ln,co,rfl⟩,rfl⟩:=hpo.shape;have hR2:=(uh hZ) _ w2 hk2;have hz2:w.heap.size<w2.heap.size:=by have:=hk2.size;simp at this;omega
 have HT:=Hi (fun o=>dt.zac ((Below.heap_alloc w2 o w.heap.size hz2).trans hR2) (o:=0) (n:=10) (by decide))
 have HK:=Hi ((Kp.of ((uh bA) _)).trans hk2);have HC:=Hi hc2;have HP:=Hi hpo;have hrF:∀ b∈F,w.heap.size<b∧b<w2.heap.size:=fun b hb=>⟨by have:=(hpo.rng b hb).1;simp at this;omega,(hpo.rng b hb).2⟩
 clear ha hk2 hc2 hZ bA hR2 hpo
 go_wp2_with (first
  | refine wpList_store_mid (by rfl) 59 _ _ (by rfl) w.heap.size 0 #[.string nm,.int .i64 k,.string tx,.bool bl,.slice ai ni ci,.slice af nf cf,.int .i64 ln,.int .i64 co,.int .i64 X,.int .i64 Y] (by rfl) (by rfl) ((uh HT) _) infoLf (dt.zab (cs:=[.string nm,.int .i64 k,.string tx,.bool bl,.slice ai ni ci,.slice af nf cf,.int .i64 ln,.int .i64 co,.int .i64 X,.int .i64 Y]) (by rfl)) ?_)
 refine bodyPost_ret (rgn.zaa rfl _ _ w.heap.size 0 [.string nm,.int .i64 k,.string tx,.bool bl,.slice ai ni ci,.slice af nf cf,.int .i64 ln,.int .i64 co,.int .i64 X,.int .i64 Y] _ rfl (World.rangeAt_setCells_same _ _ _ _ ((uh HT) _)) underlying59 rfl infoLf) rfl ?_
 have hown:=zbc (zaX (uh HP).own ((Below.refl _ _).alloc (lr _) (.cells #[.string nm,.int .i64 k,.string tx,.bool bl,.slice ai ni ci,.slice af nf cf,.int .i64 ln,.int .i64 co,.int .i64 X,.int .i64 Y] 123)) (fun b hb=>(hrF b hb).2)) (b:=w.heap.size) (fun hb=>by have:=(hrF _ hb).1;omega) 0 [.string nm,.int .i64 k,.string tx,.bool bl,.slice ai ni ci,.slice af nf cf,.int .i64 ln,.int .i64 co,.int .i64 X,.int .i64 Y]
 exact⟨_,F,rfl,⟨⟨nm,_,X,Y,⟨k,tx,bl,ai,ni,ci,af,nf,cf,ln,co,rfl⟩,rfl⟩,hown,(uh HP).nodup,fun b hb=>⟨by have:=(hrF b hb).1;omega,by rw[dt.zag];have:=(hrF b hb).2;simp;omega⟩⟩,((uh HC).below (ba)).out hne hnp _ _,((uh HK).trans (Kp.of (ba))).out (lr _) _ _⟩
theorem ziC(t:Tk):∃ (k:Int) (s:ByteArray),wordC t t.tx=leafC k s false t.ln t.co∧wordD t=litD k s false .nil .nil t.ln t.co:=by
 unfold wordC wordD
 split
 ·exact⟨5,t.tx,rfl,rfl⟩
 ·split
  ·exact⟨6,em,rfl,rfl⟩
  ·exact⟨7,t.tx,rfl,rfl⟩
theorem zj5(c:Cu):∃ d,(varS c).1.getD zeroD=d∧(varS c).1.isSome=c.take.isN∧(varS c).2=c.take.name∧∃ k s ln co,varC c=leafC k s false ln co∧d=litD k s false .nil .nil ln co:=by
 unfold varS varC
 split
 ·exact⟨_,rfl,by simp[*],rfl,_,_,_,_,rfl,rfl⟩
 ·exact⟨_,rfl,by simp[*],rfl,0,em,0,0,rfl,rfl⟩
theorem zeG(L:Cu→Option Dt × Cu)(ct:Bool)(c:Cu)(hc0:c.Ok)(hls':LitFn 65 (listS L) ct c)(hob':LitFn 66 (objS L) ct c):LitAt (litS L ct) ct c:=by
 intro B p w h;have hd:=Hi (fun W (bb:Below w.heap.size w W)=>zbE B p c W (h.below bb))
 have ht:=Hi (fun W (bb:Below w.heap.size w W)=>zaM B p c W (h.below bb))
 have hip:=Hi (fun q W (bb:Below w.heap.size w W)=>zam B p c q W (h.below bb))
 have hrf:=Hi (fun W (bb:Below w.heap.size w W)=>zcC B p c W (h.below bb))
 have hls:=Hi (fun W (bb:Below w.heap.size w W)=>hls' B p W (h.below bb))
 have hob:=Hi (fun W (bb:Below w.heap.size w W)=>hob' B p W (h.below bb))
 have hlt:=h.lt;have hplt:=h.plt;have hne:B≠w.heap.size:=by omega
 have hnp:p≠w.heap.size:=by omega
 have bA:=qA w;have hZ:=qz hlt
 by_cases hkd:c.kd=0
 ·have ekd:(c.kd != 0)=false:=by simpa using hkd
  have hm:∀ k:Int,c.tok.k=k→k≠0→k≠1→c.ix+1<c.ts.length:=fun k e h0 h1=>zaJ hc0 (by rw[e];exact h0) (by rw[e];exact h1)
  have hSS:=Hi (show litS L ct c=(if c.tok.k=4 then (some (litD 2 c.tok.tx false .nil .nil c.tok.ln c.tok.co),c.take)
   else if c.tok.k=5 then (some (litD 3 c.tok.tx false .nil .nil c.tok.ln c.tok.co),c.take)
   else if c.tok.k=6∨c.tok.k=7 then (some (litD 4 c.tok.va (decide (c.tok.k=7)) .nil .nil c.tok.ln c.tok.co),c.take)
   else if c.tok.k=3 then (some (wordD c.tok),c.take)
   else if c.isP bDol∧ct=false then varS c
   else if c.isP bLb then listS L c
   else if c.isP bLc then objS L c
   else (none,c.stop 70)) from by unfold litS;rw[if_neg (fun e=>e hkd)])
  have hl:=Hi (fun k s W (bb:Below w.heap.size w W) (hm:c.ix+1<c.ts.length)=>zht B p c k s W (h.below bb) hm)
  have hwd:=Hi (fun s W (bb:Below w.heap.size w W) (hm:c.ix+1<c.ts.length)=>zl4 B p c s W (h.below bb) hm)
  have hvr:=Hi (fun W (bb:Below w.heap.size w W) (hm:c.ix+1<c.ts.length)=>znx B p c W (h.below bb) hm)
  have hmP:=Hi (fun q (e:c.isP q=true)=>zaF hc0 e)
  obtain⟨t,et⟩:∃ t,t=c.tok:=⟨_,rfl⟩;rw[←et] at ht hl hwd hSS hm;rw[ekd] at hd;have Het:=Hi et;clear h et hls' hob' hkd ekd;unfold Tk.cells at ht;unfold leafC at hl;unfold ptr at hd ht hip hrf hls hob hl hwd hvr ⊢
  by_cases h4:t.k=4
  ·have e4:(t.k==4)=true:=by simpa using h4
   have hmm:=hm 4 h4 (by decide) (by decide)
   have hl:=Hi (fun k s W bb=>(uh hl) k s W bb hmm)
   have hs2:=Hi (show litS L ct c=(some (litD 2 t.tx false .nil .nil t.ln t.co),c.take) from by rw[uh hSS,if_pos h4])
   clear h4 hm hSS hmm
   go_enter func17,ntmps17
   go_wp2_with fail
   refine ((uh hd) _ ((uh bA) _)).mono ?_
   rintro e w1 ⟨rfl,rfl⟩
   go_wp2_with fail
   refine ((uh ht) _ ((uh bA) _)).mono ?_
   rintro e w1 ⟨rfl,b1⟩;have bw1:=((uh bA) _).trans (b1.mono ((uh bA) _).size);have bw2:=fun o=>bw1.alloc bw1.size o
   go_wp2_with fail
   refine ((uh hl) 2 t.tx _ (bw2 _)).mono ?_
   rintro e w2 ⟨rfl,hc2,hk2⟩;have hk02:=(Kp.of b1).trans ((Kp.of (ba)).trans hk2);have hR2:=(uh hZ) _ w2 hk02;have HT:=Hi (dt.zac hR2 (o:=0) (n:=7) (by decide))
   have HK:=Hi ((Kp.of ((uh bA) _)).trans hk02);have HC:=Hi hc2;clear hl hwd hvr hls hob hip hrf ht hd hk2 hk02 hc2 hZ bA hR2 bw1 bw2
   go_wp2_with (first
    | refine wpList_store_mid (by rfl) 33 _ _ (by rfl) w.heap.size 0 #[.int .i64 2,.string t.tx,.bool false,.slice none 0 0,.slice none 0 0,.int .i64 t.ln,.int .i64 t.co] (by rfl) (by rfl) (uh HT) infoLt (dt.zab (cs:=[.int .i64 2,.string t.tx,.bool false,.slice none 0 0,.slice none 0 0,.int .i64 t.ln,.int .i64 t.co]) (by rfl)) ?_)
   refine bodyPost_ret (rgn.zaa rfl _ _ w.heap.size 0 [.int .i64 2,.string t.tx,.bool false,.slice none 0 0,.slice none 0 0,.int .i64 t.ln,.int .i64 t.co] _ rfl (World.rangeAt_setCells_same _ _ _ _ (uh HT)) underlying33 rfl infoLt) rfl ?_
   rw[uh hs2];exact⟨_,[],rfl,⟨zao 2 t.tx false t.ln t.co,zar _ 2 t.tx false t.ln t.co,List.nodup_nil,by simp⟩,(uh HC).out hne hnp _ _,(uh HK).out (lr _) _ _⟩
  have e4:(t.k==4)=false:=by simpa using h4
  by_cases h5:t.k=5
  ·have e5:(t.k==5)=true:=by simpa using h5
   have hmm:=hm 5 h5 (by decide) (by decide)
   have hl:=Hi (fun k s W bb=>(uh hl) k s W bb hmm)
   have hs2:=Hi (show litS L ct c=(some (litD 3 t.tx false .nil .nil t.ln t.co),c.take) from by rw[uh hSS,if_neg h4,if_pos h5])
   clear h4 h5 hm hSS hmm
   go_enter func17,ntmps17
   go_wp2_with fail
   refine ((uh hd) _ ((uh bA) _)).mono ?_
   rintro e w1 ⟨rfl,rfl⟩
   go_wp2_with fail
   refine ((uh ht) _ ((uh bA) _)).mono ?_
   rintro e w1 ⟨rfl,b1⟩;have bw1:=((uh bA) _).trans (b1.mono ((uh bA) _).size);have bw2:=fun o=>bw1.alloc bw1.size o
   go_wp2_with fail
   refine ((uh hl) 3 t.tx _ (bw2 _)).mono ?_
   rintro e w2 ⟨rfl,hc2,hk2⟩;have hk02:=(Kp.of b1).trans ((Kp.of (ba)).trans hk2);have hR2:=(uh hZ) _ w2 hk02;have HT:=Hi (dt.zac hR2 (o:=0) (n:=7) (by decide))
   have HK:=Hi ((Kp.of ((uh bA) _)).trans hk02);have HC:=Hi hc2;clear hl hwd hvr hls hob hip hrf ht hd hk2 hk02 hc2 hZ bA hR2 bw1 bw2
   go_wp2_with (first
    | refine wpList_store_mid (by rfl) 33 _ _ (by rfl) w.heap.size 0 #[.int .i64 3,.string t.tx,.bool false,.slice none 0 0,.slice none 0 0,.int .i64 t.ln,.int .i64 t.co] (by rfl) (by rfl) (uh HT) infoLt (dt.zab (cs:=[.int .i64 3,.string t.tx,.bool false,.slice none 0 0,.slice none 0 0,.int .i64 t.ln,.int .i64 t.co]) (by rfl)) ?_)
   refine bodyPost_ret (rgn.zaa rfl _ _ w.heap.size 0 [.int .i64 3,.string t.tx,.bool false,.slice none 0 0,.slice none 0 0,.int .i64 t.ln,.int .i64 t.co] _ rfl (World.rangeAt_setCells_same _ _ _ _ (uh HT)) underlying33 rfl infoLt) rfl ?_
   rw[uh hs2];exact⟨_,[],rfl,⟨zao 3 t.tx false t.ln t.co,zar _ 3 t.tx false t.ln t.co,List.nodup_nil,by simp⟩,(uh HC).out hne hnp _ _,(uh HK).out (lr _) _ _⟩
  have e5:(t.k==5)=false:=by simpa using h5
  by_cases h6:t.k=6
  ·have e6:(t.k==6)=true:=by simpa using h6
   have e7:(t.k==7)=false:=by rw[h6];rfl
   have hmm:=hm 6 h6 (by decide) (by decide)
   have hl:=Hi (fun k s W bb=>(uh hl) k s W bb hmm)
   have hs2:=Hi (show litS L ct c=(some (litD 4 t.va false .nil .nil t.ln t.co),c.take) from by rw[uh hSS,if_neg h4,if_neg h5,if_pos (.inl h6),show decide (t.k=7)=false from by rw[h6];rfl])
   clear h4 h5 h6 hm hSS hmm
   go_enter func17,ntmps17
   go_wp2_with fail
   refine ((uh hd) _ ((uh bA) _)).mono ?_
   rintro e w1 ⟨rfl,rfl⟩
   go_wp2_with fail
   refine ((uh ht) _ ((uh bA) _)).mono ?_
   rintro e w1 ⟨rfl,b1⟩;have bw1:=((uh bA) _).trans (b1.mono ((uh bA) _).size);have bw2:=fun o=>bw1.alloc bw1.size o
   go_wp2_with fail
   refine ((uh hl) 4 t.va _ (bw2 _)).mono ?_
   rintro e w2 ⟨rfl,hc2,hk2⟩;have hT2:=(hk2.block w1.heap.size (by simp) (by have:=bw1.size;omega)).trans (heap_alloc_new w1 _)
   have hk02:=(Kp.of b1).trans ((Kp.of (ba)).trans hk2);have hR2:=(uh hZ) _ w2 hk02;have hz2:w.heap.size<w2.heap.size:=by have:=hk02.size;simp at this;omega
   have hz3:w1.heap.size<w2.heap.size:=by have:=hk2.size;simp at this;omega
   have k0:∀ o,(w2.alloc o).cell? ⟨w1.heap.size,0,none⟩=some (.int .i64 t.k):=fun o=>(zG ((Below.heap_alloc w2 o w1.heap.size hz3).trans hT2) 0).trans rfl
   have HT:=Hi (fun o=>dt.zac ((Below.heap_alloc w2 o w.heap.size hz2).trans hR2) (o:=0) (n:=7) (by decide))
   have HK:=Hi ((Kp.of ((uh bA) _)).trans hk02);have HC:=Hi hc2;clear hl hwd hvr hls hob hip hrf ht hd hk2 hk02 hc2 hZ bA hR2 bw1 bw2 hT2
   go_wp2_with (first
    | refine wpList_store_mid (by rfl) 33 _ _ (by rfl) w.heap.size 0 #[.int .i64 4,.string t.va,.bool false,.slice none 0 0,.slice none 0 0,.int .i64 t.ln,.int .i64 t.co] (by rfl) (by rfl) ((uh HT) _) infoLt (dt.zab (cs:=[.int .i64 4,.string t.va,.bool false,.slice none 0 0,.slice none 0 0,.int .i64 t.ln,.int .i64 t.co]) (by rfl)) ?_)
   refine bodyPost_ret (rgn.zaa rfl _ _ w.heap.size 0 [.int .i64 4,.string t.va,.bool false,.slice none 0 0,.slice none 0 0,.int .i64 t.ln,.int .i64 t.co] _ rfl (World.rangeAt_setCells_same _ _ _ _ ((uh HT) _)) underlying33 rfl infoLt) rfl ?_
   rw[uh hs2];exact⟨_,[],rfl,⟨zao 4 t.va false t.ln t.co,zar _ 4 t.va false t.ln t.co,List.nodup_nil,by simp⟩,((uh HC).below (ba)).out hne hnp _ _,((uh HK).trans (Kp.of (ba))).out (lr _) _ _⟩
  have e6:(t.k==6)=false:=by simpa using h6
  by_cases h7:t.k=7
  ·have e7:(t.k==7)=true:=by simpa using h7
   have hmm:=hm 7 h7 (by decide) (by decide)
   have hl:=Hi (fun k s W bb=>(uh hl) k s W bb hmm)
   have hs2:=Hi (show litS L ct c=(some (litD 4 t.va true .nil .nil t.ln t.co),c.take) from by rw[uh hSS,if_neg h4,if_neg h5,if_pos (.inr h7),show decide (t.k=7)=true from by rw[h7];rfl])
   clear h4 h5 h6 h7 hm hSS hmm
   go_enter func17,ntmps17
   go_wp2_with fail
   refine ((uh hd) _ ((uh bA) _)).mono ?_
   rintro e w1 ⟨rfl,rfl⟩
   go_wp2_with fail
   refine ((uh ht) _ ((uh bA) _)).mono ?_
   rintro e w1 ⟨rfl,b1⟩;have bw1:=((uh bA) _).trans (b1.mono ((uh bA) _).size);have bw2:=fun o=>bw1.alloc bw1.size o
   go_wp2_with fail
   refine ((uh hl) 4 t.va _ (bw2 _)).mono ?_
   rintro e w2 ⟨rfl,hc2,hk2⟩;have hT2:=(hk2.block w1.heap.size (by simp) (by have:=bw1.size;omega)).trans (heap_alloc_new w1 _)
   have hk02:=(Kp.of b1).trans ((Kp.of (ba)).trans hk2);have hR2:=(uh hZ) _ w2 hk02;have hz2:w.heap.size<w2.heap.size:=by have:=hk02.size;simp at this;omega
   have hz3:w1.heap.size<w2.heap.size:=by have:=hk2.size;simp at this;omega
   have k0:∀ o,(w2.alloc o).cell? ⟨w1.heap.size,0,none⟩=some (.int .i64 t.k):=fun o=>(zG ((Below.heap_alloc w2 o w1.heap.size hz3).trans hT2) 0).trans rfl
   have HT:=Hi (fun o=>dt.zac ((Below.heap_alloc w2 o w.heap.size hz2).trans hR2) (o:=0) (n:=7) (by decide))
   have HK:=Hi ((Kp.of ((uh bA) _)).trans hk02);have HC:=Hi hc2;clear hl hwd hvr hls hob hip hrf ht hd hk2 hk02 hc2 hZ bA hR2 bw1 bw2 hT2
   go_wp2_with (first
    | refine wpList_store_mid (by rfl) 33 _ _ (by rfl) w.heap.size 0 #[.int .i64 4,.string t.va,.bool true,.slice none 0 0,.slice none 0 0,.int .i64 t.ln,.int .i64 t.co] (by rfl) (by rfl) ((uh HT) _) infoLt (dt.zab (cs:=[.int .i64 4,.string t.va,.bool true,.slice none 0 0,.slice none 0 0,.int .i64 t.ln,.int .i64 t.co]) (by rfl)) ?_)
   refine bodyPost_ret (rgn.zaa rfl _ _ w.heap.size 0 [.int .i64 4,.string t.va,.bool true,.slice none 0 0,.slice none 0 0,.int .i64 t.ln,.int .i64 t.co] _ rfl (World.rangeAt_setCells_same _ _ _ _ ((uh HT) _)) underlying33 rfl infoLt) rfl ?_
   rw[uh hs2];exact⟨_,[],rfl,⟨zao 4 t.va true t.ln t.co,zar _ 4 t.va true t.ln t.co,List.nodup_nil,by simp⟩,((uh HC).below (ba)).out hne hnp _ _,((uh HK).trans (Kp.of (ba))).out (lr _) _ _⟩
  have e7:(t.k==7)=false:=by simpa using h7
  by_cases h3:t.k=3
  ·have e3:(t.k==3)=true:=by simpa using h3
   have hmm:=hm 3 h3 (by decide) (by decide)
   have hwd:=Hi (fun s W bb=>(uh hwd) s W bb hmm)
   have hs2:=Hi (show litS L ct c=(some (wordD t),c.take) from by rw[uh hSS,if_neg h4,if_neg h5,if_neg (fun e=>e.elim h6 h7),if_pos h3])
   clear h4 h5 h6 h7 h3 hm hSS hmm
   go_enter func17,ntmps17
   go_wp2_with fail
   refine ((uh hd) _ ((uh bA) _)).mono ?_
   rintro e w1 ⟨rfl,rfl⟩
   go_wp2_with fail
   refine ((uh ht) _ ((uh bA) _)).mono ?_
   rintro e w1 ⟨rfl,b1⟩;have bw1:=((uh bA) _).trans (b1.mono ((uh bA) _).size);have bw2:=fun o=>bw1.alloc bw1.size o
   go_wp2_with fail
   refine ((uh hwd) t.tx _ (bw2 _)).mono ?_
   rintro e w2 ⟨rfl,hc2,hk2⟩;have hk02:=(Kp.of b1).trans ((Kp.of (ba)).trans hk2);have hR2:=(uh hZ) _ w2 hk02;have HT:=Hi (dt.zac hR2 (o:=0) (n:=7) (by decide))
   have HK:=Hi ((Kp.of ((uh bA) _)).trans hk02);have HC:=Hi hc2;obtain⟨kk,tt,hwc,hwD⟩:=ziC t;rw[hwc];rw[hwD] at hs2;clear hl hwd hvr hls hob hip hrf ht hd hk2 hk02 hc2 hZ bA hR2 bw1 bw2;unfold leafC
   go_wp2_with (first
    | refine wpList_store_mid (by rfl) 33 _ _ (by rfl) w.heap.size 0 #[.int .i64 kk,.string tt,.bool false,.slice none 0 0,.slice none 0 0,.int .i64 t.ln,.int .i64 t.co] (by rfl) (by rfl) (uh HT) infoLt (dt.zab (cs:=[.int .i64 kk,.string tt,.bool false,.slice none 0 0,.slice none 0 0,.int .i64 t.ln,.int .i64 t.co]) (by rfl)) ?_)
   refine bodyPost_ret (rgn.zaa rfl _ _ w.heap.size 0 [.int .i64 kk,.string tt,.bool false,.slice none 0 0,.slice none 0 0,.int .i64 t.ln,.int .i64 t.co] _ rfl (World.rangeAt_setCells_same _ _ _ _ (uh HT)) underlying33 rfl infoLt) rfl ?_
   rw[uh hs2];exact⟨_,[],rfl,⟨zao kk tt false t.ln t.co,zar _ kk tt false t.ln t.co,List.nodup_nil,by simp⟩,(uh HC).out hne hnp _ _,(uh HK).out (lr _) _ _⟩
  have e3:(t.k==3)=false:=by simpa using h3
  have hS2:=Hi (show litS L ct c=(if c.isP bDol∧ct=false then varS c else if c.isP bLb then listS L c else if c.isP bLc then objS L c else (none,c.stop 70)) from by rw[uh hSS,if_neg h4,if_neg h5,if_neg (fun e=>e.elim h6 h7),if_neg h3])
  clear h4 h5 h6 h7 h3 hm hSS hl hwd
  cases hP1:c.isP bDol
  ·cases ct
   ·cases hP2:c.isP bLb
    ·cases hP3:c.isP bLc
     ·have hs2:=Hi (show litS L false c=(none,c.stop 70) from by rw[uh hS2,if_neg (fun e=>by rw[hP1] at e;exact absurd e.1 (by simp)),if_neg (by rw[hP2];simp),if_neg (by rw[hP3];simp)])
      clear hS2
      go_enter func17,ntmps17
      go_wp2_with fail
      refine ((uh hd) _ ((uh bA) _)).mono ?_
      rintro e w1 ⟨rfl,rfl⟩
      go_wp2_with fail
      refine ((uh ht) _ ((uh bA) _)).mono ?_
      rintro e w1 ⟨rfl,b1⟩;have bw1:=((uh bA) _).trans (b1.mono ((uh bA) _).size);have c2:=b1.alloc b1.size (.cells #[.int .i64 t.k,.int .i64 t.ln,.int .i64 t.co,.int .i64 t.fr,.int .i64 t.to,.string t.tx,.string t.va] 77);have bw2:=((uh bA) _).trans (c2.mono ((uh bA) _).size)
      go_wp2_with fail
      refine ((uh hip) bDol _ bw2).mono ?_
      rintro e w3 ⟨rfl,b3⟩;rw[hP1];have c3:=c2.trans (b3.mono c2.size);have bw3:=((uh bA) _).trans (c3.mono ((uh bA) _).size)
      go_wp2_with fail
      refine ((uh hip) bLb _ bw3).mono ?_
      rintro e w4 ⟨rfl,b4⟩;rw[hP2];have c4:=c3.trans (b4.mono c3.size);have bw4:=((uh bA) _).trans (c4.mono ((uh bA) _).size)
      go_wp2_with fail
      refine ((uh hip) bLc _ bw4).mono ?_
      rintro e w5 ⟨rfl,b5⟩;rw[hP3];have c5:=c4.trans (b5.mono c4.size);have bw5:=((uh bA) _).trans (c5.mono ((uh bA) _).size)
      go_wp2_with fail
      refine ((uh hrf) _ bw5).mono ?_
      rintro e w9 ⟨rfl,hc9,hk9⟩;have hk09:=(Kp.of c5).trans hk9;have hR9:=(uh hZ) _ w9 hk09;have HT:=Hi (dt.zac hR9 (o:=0) (n:=7) (by decide))
      have HK:=Hi ((Kp.of ((uh bA) _)).trans hk09);have HC:=Hi hc9;clear hvr hls hob hip hrf ht hd hk9 hk09 hc9 hZ bA hR9
      go_wp2_with (first
       | refine wpList_store_mid (by rfl) 33 _ _ (by rfl) w.heap.size 0 #[.int .i64 0,.string ⟨#[]⟩,.bool false,.slice none 0 0,.slice none 0 0,.int .i64 0,.int .i64 0] (by rfl) (by rfl) (uh HT) infoLt (dt.zab (cs:=[.int .i64 0,.string ⟨#[]⟩,.bool false,.slice none 0 0,.slice none 0 0,.int .i64 0,.int .i64 0]) (by rfl)) ?_)
      refine bodyPost_ret (rgn.zaa rfl _ _ w.heap.size 0 [.int .i64 0,.string ⟨#[]⟩,.bool false,.slice none 0 0,.slice none 0 0,.int .i64 0,.int .i64 0] _ rfl (World.rangeAt_setCells_same _ _ _ _ (uh HT)) underlying33 rfl infoLt) rfl ?_
      rw[uh hs2];exact⟨_,[],rfl,⟨zao 0 em false 0 0,zar _ 0 em false 0 0,List.nodup_nil,by simp⟩,(uh HC).out hne hnp _ _,(uh HK).out (lr _) _ _⟩
     ·have hs2:=Hi (show litS L false c=objS L c from by rw[uh hS2,if_neg (fun e=>by rw[hP1] at e;exact absurd e.1 (by simp)),if_neg (by rw[hP2];simp),if_pos hP3])
      clear hS2
      go_enter func17,ntmps17
      go_wp2_with fail
      refine ((uh hd) _ ((uh bA) _)).mono ?_
      rintro e w1 ⟨rfl,rfl⟩
      go_wp2_with fail
      refine ((uh ht) _ ((uh bA) _)).mono ?_
      rintro e w1 ⟨rfl,b1⟩;have bw1:=((uh bA) _).trans (b1.mono ((uh bA) _).size);have c2:=b1.alloc b1.size (.cells #[.int .i64 t.k,.int .i64 t.ln,.int .i64 t.co,.int .i64 t.fr,.int .i64 t.to,.string t.tx,.string t.va] 77);have bw2:=((uh bA) _).trans (c2.mono ((uh bA) _).size)
      go_wp2_with fail
      refine ((uh hip) bDol _ bw2).mono ?_
      rintro e w3 ⟨rfl,b3⟩;rw[hP1];have c3:=c2.trans (b3.mono c2.size);have bw3:=((uh bA) _).trans (c3.mono ((uh bA) _).size)
      go_wp2_with fail
      refine ((uh hip) bLb _ bw3).mono ?_
      rintro e w4 ⟨rfl,b4⟩;rw[hP2];have c4:=c3.trans (b4.mono c3.size);have bw4:=((uh bA) _).trans (c4.mono ((uh bA) _).size)
      go_wp2_with fail
      refine ((uh hip) bLc _ bw4).mono ?_
      rintro e w5 ⟨rfl,b5⟩;rw[hP3];have c5:=c4.trans (b5.mono c4.size);have bw5:=((uh bA) _).trans (c5.mono ((uh bA) _).size)
      go_wp2_with fail
      refine ((uh hob) _ bw5).mono ?_
      rintro e w9 ⟨cs,F,rfl,hpo,hc9,hk9⟩;obtain⟨kk,tt,bl,ai,ni,ci,af,nf,cf,ln,co,rfl⟩:=hpo.shape;have hk09:=(Kp.of c5).trans hk9;have hR9:=(uh hZ) _ w9 hk09;have HT:=Hi (dt.zac hR9 (o:=0) (n:=7) (by decide))
      have HK:=Hi ((Kp.of ((uh bA) _)).trans hk09);have HC:=Hi hc9;have HP:=Hi hpo;have hlo:=Hi (show w.heap.size<w5.heap.size from by have:=c5.size;simp at this;omega)
      clear hvr hls hob hip hrf ht hd hk9 hk09 hc9 hZ bA hR9 hpo
      go_wp2_with (first
       | refine wpList_store_mid (by rfl) 33 _ _ (by rfl) w.heap.size 0 #[.int .i64 kk,.string tt,.bool bl,.slice ai ni ci,.slice af nf cf,.int .i64 ln,.int .i64 co] (by rfl) (by rfl) (uh HT) infoLt (dt.zab (cs:=[.int .i64 kk,.string tt,.bool bl,.slice ai ni ci,.slice af nf cf,.int .i64 ln,.int .i64 co]) (by rfl)) ?_)
      refine bodyPost_ret (rgn.zaa rfl _ _ w.heap.size 0 [.int .i64 kk,.string tt,.bool bl,.slice ai ni ci,.slice af nf cf,.int .i64 ln,.int .i64 co] _ rfl (World.rangeAt_setCells_same _ _ _ _ (uh HT)) underlying33 rfl infoLt) rfl ?_
      rw[uh hs2];exact⟨_,F,rfl,⟨(uh HP).shape,zbc (uh HP).own (fun hm=>by have:=((uh HP).rng _ hm).1;have:=uh hlo;omega) _ _,(uh HP).nodup,fun b hb=>⟨by have:=((uh HP).rng b hb).1;have:=uh hlo;omega,by rw[dt.zag];exact ((uh HP).rng b hb).2⟩⟩,(uh HC).out hne hnp _ _,(uh HK).out (lr _) _ _⟩
    ·have hs2:=Hi (show litS L false c=listS L c from by rw[uh hS2,if_neg (fun e=>by rw[hP1] at e;exact absurd e.1 (by simp)),if_pos hP2])
     clear hS2
     go_enter func17,ntmps17
     go_wp2_with fail
     refine ((uh hd) _ ((uh bA) _)).mono ?_
     rintro e w1 ⟨rfl,rfl⟩
     go_wp2_with fail
     refine ((uh ht) _ ((uh bA) _)).mono ?_
     rintro e w1 ⟨rfl,b1⟩;have bw1:=((uh bA) _).trans (b1.mono ((uh bA) _).size);have c2:=b1.alloc b1.size (.cells #[.int .i64 t.k,.int .i64 t.ln,.int .i64 t.co,.int .i64 t.fr,.int .i64 t.to,.string t.tx,.string t.va] 77);have bw2:=((uh bA) _).trans (c2.mono ((uh bA) _).size)
     go_wp2_with fail
     refine ((uh hip) bDol _ bw2).mono ?_
     rintro e w3 ⟨rfl,b3⟩;rw[hP1];have c3:=c2.trans (b3.mono c2.size);have bw3:=((uh bA) _).trans (c3.mono ((uh bA) _).size)
     go_wp2_with fail
     refine ((uh hip) bLb _ bw3).mono ?_
     rintro e w4 ⟨rfl,b4⟩;rw[hP2];have c4:=c3.trans (b4.mono c3.size);have bw4:=((uh bA) _).trans (c4.mono ((uh bA) _).size)
     go_wp2_with fail
     refine ((uh hls) _ bw4).mono ?_
     rintro e w9 ⟨cs,F,rfl,hpo,hc9,hk9⟩;obtain⟨kk,tt,bl,ai,ni,ci,af,nf,cf,ln,co,rfl⟩:=hpo.shape;have hk09:=(Kp.of c4).trans hk9;have hR9:=(uh hZ) _ w9 hk09;have HT:=Hi (dt.zac hR9 (o:=0) (n:=7) (by decide))
     have HK:=Hi ((Kp.of ((uh bA) _)).trans hk09);have HC:=Hi hc9;have HP:=Hi hpo;have hlo:=Hi (show w.heap.size<w4.heap.size from by have:=c4.size;simp at this;omega)
     clear hvr hls hob hip hrf ht hd hk9 hk09 hc9 hZ bA hR9 hpo
     go_wp2_with (first
      | refine wpList_store_mid (by rfl) 33 _ _ (by rfl) w.heap.size 0 #[.int .i64 kk,.string tt,.bool bl,.slice ai ni ci,.slice af nf cf,.int .i64 ln,.int .i64 co] (by rfl) (by rfl) (uh HT) infoLt (dt.zab (cs:=[.int .i64 kk,.string tt,.bool bl,.slice ai ni ci,.slice af nf cf,.int .i64 ln,.int .i64 co]) (by rfl)) ?_)
     refine bodyPost_ret (rgn.zaa rfl _ _ w.heap.size 0 [.int .i64 kk,.string tt,.bool bl,.slice ai ni ci,.slice af nf cf,.int .i64 ln,.int .i64 co] _ rfl (World.rangeAt_setCells_same _ _ _ _ (uh HT)) underlying33 rfl infoLt) rfl ?_
     rw[uh hs2];exact⟨_,F,rfl,⟨(uh HP).shape,zbc (uh HP).own (fun hm=>by have:=((uh HP).rng _ hm).1;have:=uh hlo;omega) _ _,(uh HP).nodup,fun b hb=>⟨by have:=((uh HP).rng b hb).1;have:=uh hlo;omega,by rw[dt.zag];exact ((uh HP).rng b hb).2⟩⟩,(uh HC).out hne hnp _ _,(uh HK).out (lr _) _ _⟩
   ·cases hP2:c.isP bLb
    ·cases hP3:c.isP bLc
     ·have hs2:=Hi (show litS L true c=(none,c.stop 70) from by rw[uh hS2,if_neg (fun e=>by rw[hP1] at e;exact absurd e.1 (by simp)),if_neg (by rw[hP2];simp),if_neg (by rw[hP3];simp)])
      clear hS2
      go_enter func17,ntmps17
      go_wp2_with fail
      refine ((uh hd) _ ((uh bA) _)).mono ?_
      rintro e w1 ⟨rfl,rfl⟩
      go_wp2_with fail
      refine ((uh ht) _ ((uh bA) _)).mono ?_
      rintro e w1 ⟨rfl,b1⟩;have bw1:=((uh bA) _).trans (b1.mono ((uh bA) _).size);have c2:=b1.alloc b1.size (.cells #[.int .i64 t.k,.int .i64 t.ln,.int .i64 t.co,.int .i64 t.fr,.int .i64 t.to,.string t.tx,.string t.va] 77);have bw2:=((uh bA) _).trans (c2.mono ((uh bA) _).size)
      go_wp2_with fail
      refine ((uh hip) bDol _ bw2).mono ?_
      rintro e w3 ⟨rfl,b3⟩;rw[hP1];have c3:=c2.trans (b3.mono c2.size);have bw3:=((uh bA) _).trans (c3.mono ((uh bA) _).size)
      go_wp2_with fail
      refine ((uh hip) bLb _ bw3).mono ?_
      rintro e w4 ⟨rfl,b4⟩;rw[hP2];have c4:=c3.trans (b4.mono c3.size);have bw4:=((uh bA) _).trans (c4.mono ((uh bA) _).size)
      go_wp2_with fail
      refine ((uh hip) bLc _ bw4).mono ?_
      rintro e w5 ⟨rfl,b5⟩;rw[hP3];have c5:=c4.trans (b5.mono c4.size);have bw5:=((uh bA) _).trans (c5.mono ((uh bA) _).size)
      go_wp2_with fail
      refine ((uh hrf) _ bw5).mono ?_
      rintro e w9 ⟨rfl,hc9,hk9⟩;have hk09:=(Kp.of c5).trans hk9;have hR9:=(uh hZ) _ w9 hk09;have HT:=Hi (dt.zac hR9 (o:=0) (n:=7) (by decide))
      have HK:=Hi ((Kp.of ((uh bA) _)).trans hk09);have HC:=Hi hc9;clear hvr hls hob hip hrf ht hd hk9 hk09 hc9 hZ bA hR9
      go_wp2_with (first
       | refine wpList_store_mid (by rfl) 33 _ _ (by rfl) w.heap.size 0 #[.int .i64 0,.string ⟨#[]⟩,.bool false,.slice none 0 0,.slice none 0 0,.int .i64 0,.int .i64 0] (by rfl) (by rfl) (uh HT) infoLt (dt.zab (cs:=[.int .i64 0,.string ⟨#[]⟩,.bool false,.slice none 0 0,.slice none 0 0,.int .i64 0,.int .i64 0]) (by rfl)) ?_)
      refine bodyPost_ret (rgn.zaa rfl _ _ w.heap.size 0 [.int .i64 0,.string ⟨#[]⟩,.bool false,.slice none 0 0,.slice none 0 0,.int .i64 0,.int .i64 0] _ rfl (World.rangeAt_setCells_same _ _ _ _ (uh HT)) underlying33 rfl infoLt) rfl ?_
      rw[uh hs2];exact⟨_,[],rfl,⟨zao 0 em false 0 0,zar _ 0 em false 0 0,List.nodup_nil,by simp⟩,(uh HC).out hne hnp _ _,(uh HK).out (lr _) _ _⟩
     ·have hs2:=Hi (show litS L true c=objS L c from by rw[uh hS2,if_neg (fun e=>by rw[hP1] at e;exact absurd e.1 (by simp)),if_neg (by rw[hP2];simp),if_pos hP3])
      clear hS2
      go_enter func17,ntmps17
      go_wp2_with fail
      refine ((uh hd) _ ((uh bA) _)).mono ?_
      rintro e w1 ⟨rfl,rfl⟩
      go_wp2_with fail
      refine ((uh ht) _ ((uh bA) _)).mono ?_
      rintro e w1 ⟨rfl,b1⟩;have bw1:=((uh bA) _).trans (b1.mono ((uh bA) _).size);have c2:=b1.alloc b1.size (.cells #[.int .i64 t.k,.int .i64 t.ln,.int .i64 t.co,.int .i64 t.fr,.int .i64 t.to,.string t.tx,.string t.va] 77);have bw2:=((uh bA) _).trans (c2.mono ((uh bA) _).size)
      go_wp2_with fail
      refine ((uh hip) bDol _ bw2).mono ?_
      rintro e w3 ⟨rfl,b3⟩;rw[hP1];have c3:=c2.trans (b3.mono c2.size);have bw3:=((uh bA) _).trans (c3.mono ((uh bA) _).size)
      go_wp2_with fail
      refine ((uh hip) bLb _ bw3).mono ?_
      rintro e w4 ⟨rfl,b4⟩;rw[hP2];have c4:=c3.trans (b4.mono c3.size);have bw4:=((uh bA) _).trans (c4.mono ((uh bA) _).size)
      go_wp2_with fail
      refine ((uh hip) bLc _ bw4).mono ?_
      rintro e w5 ⟨rfl,b5⟩;rw[hP3];have c5:=c4.trans (b5.mono c4.size);have bw5:=((uh bA) _).trans (c5.mono ((uh bA) _).size)
      go_wp2_with fail
      refine ((uh hob) _ bw5).mono ?_
      rintro e w9 ⟨cs,F,rfl,hpo,hc9,hk9⟩;obtain⟨kk,tt,bl,ai,ni,ci,af,nf,cf,ln,co,rfl⟩:=hpo.shape;have hk09:=(Kp.of c5).trans hk9;have hR9:=(uh hZ) _ w9 hk09;have HT:=Hi (dt.zac hR9 (o:=0) (n:=7) (by decide))
      have HK:=Hi ((Kp.of ((uh bA) _)).trans hk09);have HC:=Hi hc9;have HP:=Hi hpo;have hlo:=Hi (show w.heap.size<w5.heap.size from by have:=c5.size;simp at this;omega)
      clear hvr hls hob hip hrf ht hd hk9 hk09 hc9 hZ bA hR9 hpo
      go_wp2_with (first
       | refine wpList_store_mid (by rfl) 33 _ _ (by rfl) w.heap.size 0 #[.int .i64 kk,.string tt,.bool bl,.slice ai ni ci,.slice af nf cf,.int .i64 ln,.int .i64 co] (by rfl) (by rfl) (uh HT) infoLt (dt.zab (cs:=[.int .i64 kk,.string tt,.bool bl,.slice ai ni ci,.slice af nf cf,.int .i64 ln,.int .i64 co]) (by rfl)) ?_)
      refine bodyPost_ret (rgn.zaa rfl _ _ w.heap.size 0 [.int .i64 kk,.string tt,.bool bl,.slice ai ni ci,.slice af nf cf,.int .i64 ln,.int .i64 co] _ rfl (World.rangeAt_setCells_same _ _ _ _ (uh HT)) underlying33 rfl infoLt) rfl ?_
      rw[uh hs2];exact⟨_,F,rfl,⟨(uh HP).shape,zbc (uh HP).own (fun hm=>by have:=((uh HP).rng _ hm).1;have:=uh hlo;omega) _ _,(uh HP).nodup,fun b hb=>⟨by have:=((uh HP).rng b hb).1;have:=uh hlo;omega,by rw[dt.zag];exact ((uh HP).rng b hb).2⟩⟩,(uh HC).out hne hnp _ _,(uh HK).out (lr _) _ _⟩
    ·have hs2:=Hi (show litS L true c=listS L c from by rw[uh hS2,if_neg (fun e=>by rw[hP1] at e;exact absurd e.1 (by simp)),if_pos hP2])
     clear hS2
     go_enter func17,ntmps17
     go_wp2_with fail
     refine ((uh hd) _ ((uh bA) _)).mono ?_
     rintro e w1 ⟨rfl,rfl⟩
     go_wp2_with fail
     refine ((uh ht) _ ((uh bA) _)).mono ?_
     rintro e w1 ⟨rfl,b1⟩;have bw1:=((uh bA) _).trans (b1.mono ((uh bA) _).size);have c2:=b1.alloc b1.size (.cells #[.int .i64 t.k,.int .i64 t.ln,.int .i64 t.co,.int .i64 t.fr,.int .i64 t.to,.string t.tx,.string t.va] 77);have bw2:=((uh bA) _).trans (c2.mono ((uh bA) _).size)
     go_wp2_with fail
     refine ((uh hip) bDol _ bw2).mono ?_
     rintro e w3 ⟨rfl,b3⟩;rw[hP1];have c3:=c2.trans (b3.mono c2.size);have bw3:=((uh bA) _).trans (c3.mono ((uh bA) _).size)
     go_wp2_with fail
     refine ((uh hip) bLb _ bw3).mono ?_
     rintro e w4 ⟨rfl,b4⟩;rw[hP2];have c4:=c3.trans (b4.mono c3.size);have bw4:=((uh bA) _).trans (c4.mono ((uh bA) _).size)
     go_wp2_with fail
     refine ((uh hls) _ bw4).mono ?_
     rintro e w9 ⟨cs,F,rfl,hpo,hc9,hk9⟩;obtain⟨kk,tt,bl,ai,ni,ci,af,nf,cf,ln,co,rfl⟩:=hpo.shape;have hk09:=(Kp.of c4).trans hk9;have hR9:=(uh hZ) _ w9 hk09;have HT:=Hi (dt.zac hR9 (o:=0) (n:=7) (by decide))
     have HK:=Hi ((Kp.of ((uh bA) _)).trans hk09);have HC:=Hi hc9;have HP:=Hi hpo;have hlo:=Hi (show w.heap.size<w4.heap.size from by have:=c4.size;simp at this;omega)
     clear hvr hls hob hip hrf ht hd hk9 hk09 hc9 hZ bA hR9 hpo
     go_wp2_with (first
      | refine wpList_store_mid (by rfl) 33 _ _ (by rfl) w.heap.size 0 #[.int .i64 kk,.string tt,.bool bl,.slice ai ni ci,.slice af nf cf,.int .i64 ln,.int .i64 co] (by rfl) (by rfl) (uh HT) infoLt (dt.zab (cs:=[.int .i64 kk,.string tt,.bool bl,.slice ai ni ci,.slice af nf cf,.int .i64 ln,.int .i64 co]) (by rfl)) ?_)
     refine bodyPost_ret (rgn.zaa rfl _ _ w.heap.size 0 [.int .i64 kk,.string tt,.bool bl,.slice ai ni ci,.slice af nf cf,.int .i64 ln,.int .i64 co] _ rfl (World.rangeAt_setCells_same _ _ _ _ (uh HT)) underlying33 rfl infoLt) rfl ?_
     rw[uh hs2];exact⟨_,F,rfl,⟨(uh HP).shape,zbc (uh HP).own (fun hm=>by have:=((uh HP).rng _ hm).1;have:=uh hlo;omega) _ _,(uh HP).nodup,fun b hb=>⟨by have:=((uh HP).rng b hb).1;have:=uh hlo;omega,by rw[dt.zag];exact ((uh HP).rng b hb).2⟩⟩,(uh HC).out hne hnp _ _,(uh HK).out (lr _) _ _⟩
  ·cases ct
   ·have hs2:=Hi (show litS L false c=varS c from by rw[uh hS2,if_pos ⟨hP1,rfl⟩])
    clear hS2
    go_enter func17,ntmps17
    go_wp2_with fail
    refine ((uh hd) _ ((uh bA) _)).mono ?_
    rintro e w1 ⟨rfl,rfl⟩
    go_wp2_with fail
    refine ((uh ht) _ ((uh bA) _)).mono ?_
    rintro e w1 ⟨rfl,b1⟩;have bw1:=((uh bA) _).trans (b1.mono ((uh bA) _).size);have c2:=b1.alloc b1.size (.cells #[.int .i64 t.k,.int .i64 t.ln,.int .i64 t.co,.int .i64 t.fr,.int .i64 t.to,.string t.tx,.string t.va] 77);have bw2:=((uh bA) _).trans (c2.mono ((uh bA) _).size)
    go_wp2_with fail
    refine ((uh hip) bDol _ bw2).mono ?_
    rintro e w3 ⟨rfl,b3⟩;rw[hP1];have c3:=c2.trans (b3.mono c2.size);have bw3:=((uh bA) _).trans (c3.mono ((uh bA) _).size)
    go_wp2_with fail
    refine ((uh hvr) _ bw3 ((uh hmP) bDol hP1)).mono ?_
    rintro e w9 ⟨rfl,hc9,hk9⟩;obtain⟨d,v1,v2,v3,kk,tt,ln,co,v4,v5⟩:=zj5 c;have hk09:=(Kp.of c3).trans hk9;have hR9:=(uh hZ) _ w9 hk09;have HT:=Hi (dt.zac hR9 (o:=0) (n:=7) (by decide))
    have HK:=Hi ((Kp.of ((uh bA) _)).trans hk09);have HC:=Hi hc9;have HV:=Hi (an v1 (an v2 (an v3 v5)));rw[v4];unfold leafC;clear hvr hls hob hip hrf ht hd hk9 hk09 hc9 hZ bA hR9 v1 v2 v3 v4 v5;obtain⟨R,hR⟩:∃ R,R=c.take.isN:=⟨_,rfl⟩;rw[←hR] at HV ⊢;clear hR
    go_wp2_with (first
     | refine wpList_store_mid (by rfl) 33 _ _ (by rfl) w.heap.size 0 #[.int .i64 kk,.string tt,.bool false,.slice none 0 0,.slice none 0 0,.int .i64 ln,.int .i64 co] (by rfl) (by rfl) (uh HT) infoLt (dt.zab (cs:=[.int .i64 kk,.string tt,.bool false,.slice none 0 0,.slice none 0 0,.int .i64 ln,.int .i64 co]) (by rfl)) ?_)
    refine bodyPost_ret (rgn.zaa rfl _ _ w.heap.size 0 [.int .i64 kk,.string tt,.bool false,.slice none 0 0,.slice none 0 0,.int .i64 ln,.int .i64 co] _ rfl (World.rangeAt_setCells_same _ _ _ _ (uh HT)) underlying33 rfl infoLt) rfl ?_
    rw[uh hs2];obtain⟨v1,v2,v3,v5⟩:=uh HV;rw[v1,v2,v3,v5];exact⟨_,[],rfl,⟨zao kk tt false ln co,zar _ kk tt false ln co,List.nodup_nil,by simp⟩,(uh HC).out hne hnp _ _,(uh HK).out (lr _) _ _⟩
   ·cases hP2:c.isP bLb
    ·cases hP3:c.isP bLc
     ·have hs2:=Hi (show litS L true c=(none,c.stop 70) from by rw[uh hS2,if_neg (fun e=>by exact absurd e.2 (by simp)),if_neg (by rw[hP2];simp),if_neg (by rw[hP3];simp)])
      clear hS2
      go_enter func17,ntmps17
      go_wp2_with fail
      refine ((uh hd) _ ((uh bA) _)).mono ?_
      rintro e w1 ⟨rfl,rfl⟩
      go_wp2_with fail
      refine ((uh ht) _ ((uh bA) _)).mono ?_
      rintro e w1 ⟨rfl,b1⟩;have bw1:=((uh bA) _).trans (b1.mono ((uh bA) _).size);have c2:=b1.alloc b1.size (.cells #[.int .i64 t.k,.int .i64 t.ln,.int .i64 t.co,.int .i64 t.fr,.int .i64 t.to,.string t.tx,.string t.va] 77);have bw2:=((uh bA) _).trans (c2.mono ((uh bA) _).size)
      go_wp2_with fail
      refine ((uh hip) bDol _ bw2).mono ?_
      rintro e w3 ⟨rfl,b3⟩;rw[hP1];have c3:=c2.trans (b3.mono c2.size);have bw3:=((uh bA) _).trans (c3.mono ((uh bA) _).size)
      go_wp2_with fail
      refine ((uh hip) bLb _ bw3).mono ?_
      rintro e w4 ⟨rfl,b4⟩;rw[hP2];have c4:=c3.trans (b4.mono c3.size);have bw4:=((uh bA) _).trans (c4.mono ((uh bA) _).size)
      go_wp2_with fail
      refine ((uh hip) bLc _ bw4).mono ?_
      rintro e w5 ⟨rfl,b5⟩;rw[hP3];have c5:=c4.trans (b5.mono c4.size);have bw5:=((uh bA) _).trans (c5.mono ((uh bA) _).size)
      go_wp2_with fail
      refine ((uh hrf) _ bw5).mono ?_
      rintro e w9 ⟨rfl,hc9,hk9⟩;have hk09:=(Kp.of c5).trans hk9;have hR9:=(uh hZ) _ w9 hk09;have HT:=Hi (dt.zac hR9 (o:=0) (n:=7) (by decide))
      have HK:=Hi ((Kp.of ((uh bA) _)).trans hk09);have HC:=Hi hc9;clear hvr hls hob hip hrf ht hd hk9 hk09 hc9 hZ bA hR9
      go_wp2_with (first
       | refine wpList_store_mid (by rfl) 33 _ _ (by rfl) w.heap.size 0 #[.int .i64 0,.string ⟨#[]⟩,.bool false,.slice none 0 0,.slice none 0 0,.int .i64 0,.int .i64 0] (by rfl) (by rfl) (uh HT) infoLt (dt.zab (cs:=[.int .i64 0,.string ⟨#[]⟩,.bool false,.slice none 0 0,.slice none 0 0,.int .i64 0,.int .i64 0]) (by rfl)) ?_)
      refine bodyPost_ret (rgn.zaa rfl _ _ w.heap.size 0 [.int .i64 0,.string ⟨#[]⟩,.bool false,.slice none 0 0,.slice none 0 0,.int .i64 0,.int .i64 0] _ rfl (World.rangeAt_setCells_same _ _ _ _ (uh HT)) underlying33 rfl infoLt) rfl ?_
      rw[uh hs2];exact⟨_,[],rfl,⟨zao 0 em false 0 0,zar _ 0 em false 0 0,List.nodup_nil,by simp⟩,(uh HC).out hne hnp _ _,(uh HK).out (lr _) _ _⟩
     ·have hs2:=Hi (show litS L true c=objS L c from by rw[uh hS2,if_neg (fun e=>by exact absurd e.2 (by simp)),if_neg (by rw[hP2];simp),if_pos hP3])
      clear hS2
      go_enter func17,ntmps17
      go_wp2_with fail
      refine ((uh hd) _ ((uh bA) _)).mono ?_
      rintro e w1 ⟨rfl,rfl⟩
      go_wp2_with fail
      refine ((uh ht) _ ((uh bA) _)).mono ?_
      rintro e w1 ⟨rfl,b1⟩;have bw1:=((uh bA) _).trans (b1.mono ((uh bA) _).size);have c2:=b1.alloc b1.size (.cells #[.int .i64 t.k,.int .i64 t.ln,.int .i64 t.co,.int .i64 t.fr,.int .i64 t.to,.string t.tx,.string t.va] 77);have bw2:=((uh bA) _).trans (c2.mono ((uh bA) _).size)
      go_wp2_with fail
      refine ((uh hip) bDol _ bw2).mono ?_
      rintro e w3 ⟨rfl,b3⟩;rw[hP1];have c3:=c2.trans (b3.mono c2.size);have bw3:=((uh bA) _).trans (c3.mono ((uh bA) _).size)
      go_wp2_with fail
      refine ((uh hip) bLb _ bw3).mono ?_
      rintro e w4 ⟨rfl,b4⟩;rw[hP2];have c4:=c3.trans (b4.mono c3.size);have bw4:=((uh bA) _).trans (c4.mono ((uh bA) _).size)
      go_wp2_with fail
      refine ((uh hip) bLc _ bw4).mono ?_
      rintro e w5 ⟨rfl,b5⟩;rw[hP3];have c5:=c4.trans (b5.mono c4.size);have bw5:=((uh bA) _).trans (c5.mono ((uh bA) _).size)
      go_wp2_with fail
      refine ((uh hob) _ bw5).mono ?_
      rintro e w9 ⟨cs,F,rfl,hpo,hc9,hk9⟩;obtain⟨kk,tt,bl,ai,ni,ci,af,nf,cf,ln,co,rfl⟩:=hpo.shape;have hk09:=(Kp.of c5).trans hk9;have hR9:=(uh hZ) _ w9 hk09;have HT:=Hi (dt.zac hR9 (o:=0) (n:=7) (by decide))
      have HK:=Hi ((Kp.of ((uh bA) _)).trans hk09);have HC:=Hi hc9;have HP:=Hi hpo;have hlo:=Hi (show w.heap.size<w5.heap.size from by have:=c5.size;simp at this;omega)
      clear hvr hls hob hip hrf ht hd hk9 hk09 hc9 hZ bA hR9 hpo
      go_wp2_with (first
       | refine wpList_store_mid (by rfl) 33 _ _ (by rfl) w.heap.size 0 #[.int .i64 kk,.string tt,.bool bl,.slice ai ni ci,.slice af nf cf,.int .i64 ln,.int .i64 co] (by rfl) (by rfl) (uh HT) infoLt (dt.zab (cs:=[.int .i64 kk,.string tt,.bool bl,.slice ai ni ci,.slice af nf cf,.int .i64 ln,.int .i64 co]) (by rfl)) ?_)
      refine bodyPost_ret (rgn.zaa rfl _ _ w.heap.size 0 [.int .i64 kk,.string tt,.bool bl,.slice ai ni ci,.slice af nf cf,.int .i64 ln,.int .i64 co] _ rfl (World.rangeAt_setCells_same _ _ _ _ (uh HT)) underlying33 rfl infoLt) rfl ?_
      rw[uh hs2];exact⟨_,F,rfl,⟨(uh HP).shape,zbc (uh HP).own (fun hm=>by have:=((uh HP).rng _ hm).1;have:=uh hlo;omega) _ _,(uh HP).nodup,fun b hb=>⟨by have:=((uh HP).rng b hb).1;have:=uh hlo;omega,by rw[dt.zag];exact ((uh HP).rng b hb).2⟩⟩,(uh HC).out hne hnp _ _,(uh HK).out (lr _) _ _⟩
    ·have hs2:=Hi (show litS L true c=listS L c from by rw[uh hS2,if_neg (fun e=>by exact absurd e.2 (by simp)),if_pos hP2])
     clear hS2
     go_enter func17,ntmps17
     go_wp2_with fail
     refine ((uh hd) _ ((uh bA) _)).mono ?_
     rintro e w1 ⟨rfl,rfl⟩
     go_wp2_with fail
     refine ((uh ht) _ ((uh bA) _)).mono ?_
     rintro e w1 ⟨rfl,b1⟩;have bw1:=((uh bA) _).trans (b1.mono ((uh bA) _).size);have c2:=b1.alloc b1.size (.cells #[.int .i64 t.k,.int .i64 t.ln,.int .i64 t.co,.int .i64 t.fr,.int .i64 t.to,.string t.tx,.string t.va] 77);have bw2:=((uh bA) _).trans (c2.mono ((uh bA) _).size)
     go_wp2_with fail
     refine ((uh hip) bDol _ bw2).mono ?_
     rintro e w3 ⟨rfl,b3⟩;rw[hP1];have c3:=c2.trans (b3.mono c2.size);have bw3:=((uh bA) _).trans (c3.mono ((uh bA) _).size)
     go_wp2_with fail
     refine ((uh hip) bLb _ bw3).mono ?_
     rintro e w4 ⟨rfl,b4⟩;rw[hP2];have c4:=c3.trans (b4.mono c3.size);have bw4:=((uh bA) _).trans (c4.mono ((uh bA) _).size)
     go_wp2_with fail
     refine ((uh hls) _ bw4).mono ?_
     rintro e w9 ⟨cs,F,rfl,hpo,hc9,hk9⟩;obtain⟨kk,tt,bl,ai,ni,ci,af,nf,cf,ln,co,rfl⟩:=hpo.shape;have hk09:=(Kp.of c4).trans hk9;have hR9:=(uh hZ) _ w9 hk09;have HT:=Hi (dt.zac hR9 (o:=0) (n:=7) (by decide))
     have HK:=Hi ((Kp.of ((uh bA) _)).trans hk09);have HC:=Hi hc9;have HP:=Hi hpo;have hlo:=Hi (show w.heap.size<w4.heap.size from by have:=c4.size;simp at this;omega)
     clear hvr hls hob hip hrf ht hd hk9 hk09 hc9 hZ bA hR9 hpo
     go_wp2_with (first
      | refine wpList_store_mid (by rfl) 33 _ _ (by rfl) w.heap.size 0 #[.int .i64 kk,.string tt,.bool bl,.slice ai ni ci,.slice af nf cf,.int .i64 ln,.int .i64 co] (by rfl) (by rfl) (uh HT) infoLt (dt.zab (cs:=[.int .i64 kk,.string tt,.bool bl,.slice ai ni ci,.slice af nf cf,.int .i64 ln,.int .i64 co]) (by rfl)) ?_)
     refine bodyPost_ret (rgn.zaa rfl _ _ w.heap.size 0 [.int .i64 kk,.string tt,.bool bl,.slice ai ni ci,.slice af nf cf,.int .i64 ln,.int .i64 co] _ rfl (World.rangeAt_setCells_same _ _ _ _ (uh HT)) underlying33 rfl infoLt) rfl ?_
     rw[uh hs2];exact⟨_,F,rfl,⟨(uh HP).shape,zbc (uh HP).own (fun hm=>by have:=((uh HP).rng _ hm).1;have:=uh hlo;omega) _ _,(uh HP).nodup,fun b hb=>⟨by have:=((uh HP).rng b hb).1;have:=uh hlo;omega,by rw[dt.zag];exact ((uh HP).rng b hb).2⟩⟩,(uh HC).out hne hnp _ _,(uh HK).out (lr _) _ _⟩
 ·have ekd:(c.kd != 0)=true:=by simpa using hkd
  have hs2:=Hi (show litS L ct c=(none,c) from by unfold litS;rw[if_pos hkd])
  rw[ekd] at hd;have HC:=Hi (h.below ((uh bA) (.cells #[.int .i64 0,.string ⟨#[]⟩,.bool false,.slice none 0 0,.slice none 0 0,.int .i64 0,.int .i64 0] 33)));clear h hls' hob' hkd ekd ht hip hrf hls hob hZ;unfold ptr at hd ⊢
  go_enter func17,ntmps17
  go_wp2_with fail
  refine ((uh hd) _ ((uh bA) _)).mono ?_
  rintro e w1 ⟨rfl,rfl⟩;clear hd
  go_wp2_with fail
  refine bodyPost_ret (rgn.zaa rfl _ _ w.heap.size 0 [.int .i64 0,.string ⟨#[]⟩,.bool false,.slice none 0 0,.slice none 0 0,.int .i64 0,.int .i64 0] _ rfl (dt.zap (heap_alloc_new w _) 0 _ (fun j u hu=>by rw[Nat.zero_add];simpa using hu)) underlying33 rfl infoLt) rfl ?_
  rw[uh hs2];exact⟨_,[],rfl,⟨zao 0 em false 0 0,zar _ 0 em false 0 0,List.nodup_nil,by simp⟩,uh HC,Kp.of ((uh bA) _)⟩
end cu
end Go.Proofs.YtepmbmbnlmbhhaaGreat
