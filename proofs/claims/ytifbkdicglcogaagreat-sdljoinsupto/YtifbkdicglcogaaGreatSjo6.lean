import Derived.Test.YtifbkdicglcogaaGreatSjo5
set_option linter.unusedVariables false
set_option linter.unusedSimpArgs false
namespace Go.Proofs.YtifbkdicglcogaaGreat.cu
open Go.ChangeShapes Go.WideShapes Go.ChangeAt Go.RowKit
open ints (Hi uh)
open dt (Dt Kp RowAt Ow Grow)
theorem infoFz:∃ i z,Tryz.prog.info? 159=some i∧i.zero=some z∧i.size=10∧i.bytes=128∧z.cells.size=10:=by
 have hin:(Tryz.prog.info? 159).map (fun i=>(i.bytes,i.size,i.zero.map (·.cells.size)))=some (128,10,some 10):=by kernel_rfl
 cases hq:Tryz.prog.info? 159 with
 | none=>simp[hq] at hin
 | some i =>
  simp[hq] at hin;obtain⟨h1,h2,z,hz,h3⟩:=hin;exact⟨i,z,rfl,hz,h2,h1,h3⟩
def BrkPF (r:Option (List Dt)) (lo:Nat) (w':World) (sl:Value):Prop:=match r with | none=>sl = .slice none 0 0 | some l=>∃ G,Grow 159 10 w' lo l sl G
set_option maxRecDepth 4000 in
set_option maxHeartbeats 4000000 in
theorem zk2 (E:Cu→Option Dt × Cu) (ct:Bool) (c:Cu) (left right:ByteArray) (hc0:c.Ok) (hlen:c.ts.length≤1099511627777) (hG:Goes E) (hE:∀ cc:Cu,cc.Ok→cc.ts=c.ts→c.ix<cc.ix→FldAt 160 E ct cc) (B p:Nat) (w:World) (h:CurAt w B p c) :
  Calls Tryz.prog 159 #[ptr B,.string left,.string right,.int .i64 0,.bool ct,.func (.func 160) #[ptr B] #[]] w fun e w'=>∃ sl,e = .returned (.tuple #[sl,.bool (brk E left right 0 c).1.isSome])∧BrkPF (brk E left right 0 c).1 w.heap.size w' sl∧CurAt w' B p (brk E left right 0 c).2∧Kp B w w':=by
 have en:∀ args w,(callFunc 160 args).run Tryz.prog w = .ok (.enter 160 args) w:=fun _ _=>rfl
 have ho:=Hi (zcv B p c left w h);have hB:=h.lt;have hp:=h.plt
 cases hO:c.opB left
 ·have hs:=Hi (show brk E left right 0 c=(none,c.opn left) from by unfold brk;rw[hO];rfl)
  rw[hO] at ho;clear h hE;unfold ptr at ho ⊢
  go_enter Tryz.func159,Tryz.ntmps159
  go_wp2_with fail
  refine (uh ho).mono ?_
  rintro e w1 ⟨rfl,hc1,hk1⟩;clear ho
  go_wp2_with fail
  go_ret2
  rw[uh hs];exact⟨_,rfl,rfl,hc1,hk1⟩
 ·have hst:=zau hc0 left
  have hoi:=zaL hO;obtain⟨R,hR⟩:∃ R,R=brkF E right 0 c.ts.length [] (c.opn left):=⟨_,rfl⟩;have hs:=Hi (show brk E left right 0 c=R from by unfold brk;rw[hO,hR];rfl)
  rw[hO] at ho;have HR:=Hi hR.symm;clear h hR hO;have hcl:=Hi (fun W (cc:Cu) (hc:CurAt W B p cc)=>zbF B p cc right W hc)
  have hip:=Hi (fun W (cc:Cu) (hc:CurAt W B p cc)=>zax B p cc right W hc)
  have hEE:=Hi (fun (cc:Cu) (h1:cc.Ok) (h2:cc.ts=c.ts) (h3:c.ix<cc.ix)=>hE cc h1 h2 h3 B p)
  clear hE;unfold ptr at ho hcl hip hEE ⊢
  go_enter Tryz.func159,Tryz.ntmps159
  go_wp2_with fail
  refine (uh ho).mono ?_
  rintro e w1 ⟨rfl,hc1,hk1⟩;clear ho;have hz1:=hk1.size
  go_wp2_with fail
  go_loopg [14] c.ts.length (fun g sl wr=>∃ (l:List Dt) (cc:Cu) (Gs:List Nat),Hid (brkF E right 0 g l cc=R)∧CurAt wr B p cc∧Hid (Grow 159 10 wr w.heap.size l sl Gs)∧Kp B w wr∧Hid (cc.ts=c.ts)∧c.ts.length≤g+cc.ix∧l.length+1+c.ix≤cc.ix)
  case atStart=>exact⟨[],c.opn left,[],HR,hc1,Hi Grow.nil,hk1,Hi hst.ts,Nat.le_add_right _ _,by rw[hoi];simp;omega⟩
  case round =>
   obtain⟨l,cc,Gs,hrun,hcc,hgr,hkr,hts,hfu,hll⟩:=hrel;have hixl:=hcc.ok.lt;rw[uh hts] at hixl;obtain⟨al,cl,hsl⟩:=(uh hgr).form;subst hsl;have hlz:¬ ((l.length:Int)<0):=by omega
   obtain⟨g',rfl⟩:∃ g',gk=g'+1:=⟨gk - 1,by omega⟩
   have hip2:=Hi ((uh hip) wr cc hcc)
   go_wp2_with fail
   refine (uh hip2).mono ?_
   rintro e w2 ⟨rfl,b2⟩;have hc2:=hcc.below b2;have hgr2:=Hi ((uh hgr).keep b2.size (fun b hb _=>b2.block b hb))
   have hk2:=hkr.trans (Kp.of b2)
   cases hQ:cc.isP right
   ·have hrun2:=Hi (show (match (E cc).1 with | none=>(none,(E cc).2) | some d=>brkF E right 0 g' (l ++ [d]) (E cc).2)=R from by
     have e:=uh hrun;rw[brkF,if_pos (.inr hQ)] at e
     exact e)
    have hgo:=hG cc hcc.ok;have hcall:=Hi ((uh hEE) cc hcc.ok (uh hts) (by omega) w2 hc2)
    go_wp2_with fail
    refine (uh hcall).mono ?_
    rintro e w3 ⟨cs,F,rfl,hpo,hc3,hk3⟩;obtain⟨U,hU⟩:∃ U,U=E cc:=⟨_,rfl⟩;rw[← hU] at hrun2 hgo hpo hc3 ⊢;obtain⟨r,C⟩:=U;obtain⟨nm,ds,X,Y,⟨k,tx,bl,ai,ni,ci,af,nf,cf,ln,co,rfl⟩,rfl⟩:=hpo.shape;clear hcall hU hip2 hrun;have HP:=Hi hpo;clear hpo;have HC3:=Hi hc3;have HK3:=Hi hk3;have hz3:=hk3.size
    cases r with
    | none =>
     have hrun3:=Hi (show (none,C)=R from uh hrun2)
     go_wp2_with fail
     go_ret2
     rw[uh hs,← uh hrun3];exact⟨_,rfl,rfl,(uh HC3).below (ba),(hk2.trans (uh HK3)).trans (Kp.of (ba))⟩
    | some d =>
     have hrun3:=Hi (show brkF E right 0 g' (l ++ [d]) C=R from uh hrun2)
     have hix3:cc.ix<C.ix:=hgo.2 rfl;have hts3:=hgo.1.ts;have hlt3:=hgo.1.ok.lt;rw[hts3,uh hts] at hlt3;have hgr3:=(uh hgr2).kp (uh HK3) hB;obtain⟨it,zt,q1,q2,q3,q4,q5⟩:=infoFz;have HQ:=Hi (an q1 (an q2 (an q3 (an q4 q5))));clear q1 q2 q3 q4 q5;obtain⟨xss,hr3,hol3,hx3⟩:=hgr3.row;have hr4:=Hi (fun o=>World.ownsRow.alloc hr3 o)
     have hbyt:=Hi (show (l.length+1) * 128≤140737488355328∧l.length+1≤maxLen from ⟨by omega,by unfold maxLen;omega⟩)
     have hsz4:=Hi (fun o=>show w.heap.size≤(w3.alloc o).heap.size from by have:=hz3;have:=b2.size;have:=hkr.size;simp;omega)
     have hone:=Hi ((uh HP).own.one);have HG:=Hi (an hgr3 (an hol3 hx3));have hTS:=Hi hts3;clear hrun2 hgo hts3 hgr3 hr3 hol3 hx3
     go_wp2_with (first
      | (at_builtin;refine dt.zaG (by rfl) _ _ (by rfl) Tryz.underlying97 (uh HQ).1 (uh HQ).2.1 (uh HQ).2.2.1 (uh HQ).2.2.2.1 (uh HQ).2.2.2.2 (by omega) w.heap.size l.length xss.flatten _ (by rfl) ((uh hr4) _) [.string nm,.int .i64 k,.string tx,.bool bl,.slice ai ni ci,.slice af nf cf,.int .i64 ln,.int .i64 co,.int .i64 X,.int .i64 Y] (by rfl) (uh hone) (w3.heap.size+1) (by simp) (by rfl) (uh hbyt).1 (uh hbyt).2 ((uh hsz4) _) ?_;intro sl' w7 hr7 b7 hold7 hat7;have H7:=Hi (an hr7 (an b7 (an hold7 hat7)));clear hr7 b7 hold7 hat7))
     go_roundg g'
     case rel =>
      obtain⟨hr7,b7,hold7,hat7⟩:=uh H7;obtain⟨hgr3,hol3,hx3⟩:=uh HG;have bA:Below w3.heap.size w3 (w3.alloc (.cells #[.string nm,.int .i64 k,.string tx,.bool bl,.slice ai ni ci,.slice af nf cf,.int .i64 ln,.int .i64 co,.int .i64 X,.int .i64 Y] 159)):=ba;have hgr4:=hgr3.keep bA.size (fun b hb _=>bA.block b hb)
      have hown:=fun b (hb:(Value.slice al l.length cl).ownBlock=some b)=>(let ⟨_,hr,_⟩:=(uh hgr2).row;(hr.lt b hb).2)
      have hF3:∀ b ∈ F,w2.heap.size≤b∧b<w3.heap.size:=(uh HP).rng;have hsz:w.heap.size≤w2.heap.size:=hk2.size;have hmore:=hgr4.more (dt.OwL.agree (fun w w' e cs F=>dt.Ow.agree e cs F) (fun b hb j=>dt.zat (bA.block b (hgr3.rng b hb).2) j) hol3) hx3 (zbK (uh HP).own bA (fun b hb=>(hF3 b hb).2)) (uh HP).nodup (fun b hb=>⟨by have:=(hF3 b hb).1;omega,by have:=(hF3 b hb).2;have:=bA.size;omega,fun hm=>by have:=((uh hgr2).rng b hm).2;have:=(hF3 b hb).1;omega,fun e=>by have:=hown b e;have:=(hF3 b hb).1;omega⟩) (by rfl) hr7 (by have:=(hr7.lt);have:=b7.size;exact this) hold7 hat7
      have hBs:B<w3.heap.size:=by omega
      have hCA:=(uh HC3).below bA;refine⟨l ++ [d],C,Gs ++ F,hrun3,?_,Hi hmore,?_,Hi ((uh hTS).trans (uh hts)),by omega,by rw[List.length_append];simp;omega⟩
      ·exact hCA.low b7 hB hp
      ·exact ((hk2.trans (uh HK3)).trans (Kp.of bA)).low b7
     case measure=>exact Nat.lt_succ_self _
   ·have hrun2:=Hi (show (some l,cc.cls right)=R from by
     have e:=uh hrun;rw[brkF,if_neg (fun e=>by rcases e with e | e;omega;rw[hQ] at e;cases e)] at e
     exact e)
    have hcl2:=Hi ((uh hcl) w2 cc hc2);rw[hQ] at hcl2;clear hrun hip2
    go_wp2_with fail
    refine (uh hcl2).mono ?_
    rintro e w3 ⟨rfl,hc3,hk3⟩;clear hcl2
    go_wp2_with fail
    go_ret2
    rw[uh hs,← uh hrun2];exact⟨_,rfl,⟨Gs,(uh hgr2).kp hk3 hB⟩,hc3,hk2.trans hk3⟩
def LitFn (f:Nat) (L:Cu→Option Dt × Cu) (ct:Bool) (c:Cu):Prop:=∀ (B p:Nat) (w:World),CurAt w B p c→Calls Tryz.prog f #[ptr B,.bool ct] w fun e w'=>∃ cs F,e = .returned (.tuple #[.agg cs.toArray,.bool (L c).1.isSome])∧LitPost ((L c).1.getD zeroD) w w' cs F∧CurAt w' B p (L c).2∧Kp B w w'
theorem zn4 {t:TypeId} {w:World} {lo:Nat} {l:List Dt} {sl:Value} {G:List Nat} (h:Grow t 7 w lo l sl G) (ln co:Int):∃ a n c F,sl = .slice a n c∧Ow w (litD 8 em false (Dt.of l) .nil ln co) [.int .i64 8,.string ⟨#[]⟩,.bool false,.slice a n c,.slice none 0 0,.int .i64 ln,.int .i64 co] F∧F.Nodup∧∀ b ∈ F,lo≤b∧b<w.heap.size:=by
 obtain⟨a,n,c,F,rfl,h1,h2,h3,h4,h5,h6,h7⟩:=h.shut;refine⟨a,n,c,F,rfl,?_,h4,h5⟩
 unfold litD;unfold Ow;refine⟨_,rfl,rfl,?_⟩
 unfold Ow;refine⟨_,rfl,rfl,?_⟩
 unfold Ow;refine⟨_,rfl,rfl,?_⟩
 unfold Ow;refine⟨a,n,c,_,F,[],rfl,h1,h2,h3,h7,?_,by simp⟩
 unfold Ow;refine⟨none,0,0,_,[],[],rfl,lr _,Nat.zero_le _,fun _=>rfl,.inl ⟨rfl,rfl,rfl,rfl⟩,zie _ _ _,rfl⟩
set_option maxRecDepth 4000 in
set_option maxHeartbeats 2000000 in
theorem zn3 (L:Cu→Option Dt × Cu) (ct:Bool) (c:Cu) (hc0:c.Ok) (hlen:c.ts.length≤1099511627777) (hG:Goes L) (hE:∀ cc:Cu,cc.Ok→cc.ts=c.ts→c.ix<cc.ix→LitAt L ct cc):LitFn 152 (listS L) ct c:=by
 intro B p w h;have ht:=Hi (fun W (bb:Below w.heap.size w W)=>zaZ B p c W (h.below bb))
 have hb:=Hi (fun W (bb:Below w.heap.size w W)=>znt L ct c bLb bRb hc0 hlen hG hE B p W (h.below bb))
 have hlt:=h.lt;have hplt:=h.plt;have hne:B ≠ w.heap.size:=by omega
 have hnp:p ≠ w.heap.size:=by omega
 have bA:=Hi (fun o=>show Below w.heap.size w (w.alloc o) from ba)
 have hZ:=Hi (fun o W (hk:Kp B (w.alloc o) W)=>show W.heap[w.heap.size]? = some o from (hk.block w.heap.size (by simp) (by omega)).trans (heap_alloc_new w o))
 have hs0:=Hi (show (brk L bLb bRb 0 c).1=none→listS L c=(none,(brk L bLb bRb 0 c).2) from fun e=>by unfold listS;rw[e])
 have hs1:=Hi (show ∀ l,(brk L bLb bRb 0 c).1=some l→listS L c=(some (litD 8 em false (Dt.of l) .nil c.tok.ln c.tok.co),(brk L bLb bRb 0 c).2) from fun l e=>by unfold listS;rw[e])
 have hf2:=zdv c.tok;obtain⟨t,et⟩:∃ t,t=c.tok:=⟨_,rfl⟩;rw[← et] at ht hs1 hf2;obtain⟨U,hU⟩:∃ U,U=brk L bLb bRb 0 c:=⟨_,rfl⟩;rw[← hU] at hb hs0 hs1;clear h hU et hE;obtain⟨r,C⟩:=U;unfold Tk.cells at ht;unfold ptr at ht hb ⊢
 go_enter Tryz.func152,Tryz.ntmps152
 go_wp2_with fail
 refine ((uh ht) _ ((uh bA) _)).mono ?_
 rintro e w1 ⟨rfl,b1⟩;have hz1:w.heap.size<w1.heap.size:=by have:=b1.size;simp at this;omega
 have bw1:=((uh bA) _).trans (b1.mono ((uh bA) _).size)
 go_wp2_with fail
 refine ((uh hb) _ (bw1.alloc bw1.size _)).mono ?_
 rintro e w2 ⟨sl,rfl,hbp,hc2,hk2⟩;have hD2:=(hk2.block w1.heap.size (by simp) (by omega)).trans (heap_alloc_new w1 _)
 have hk12:=(Kp.of b1).trans ((Kp.of (ba)).trans hk2);have hR2:=(uh hZ) _ w2 hk12;have hz2:w1.heap.size<w2.heap.size:=by have:=hk2.size;simp at this;omega
 have d0:w2.cell? ⟨w1.heap.size,0,none⟩=some (.int .i64 t.ln):=(zG hD2 0).trans rfl;have d1:w2.cell? ⟨w1.heap.size,1,none⟩=some (.int .i64 t.co):=(zG hD2 1).trans rfl;have HT:=Hi (dt.zab hR2 (o:=0) (n:=7) (by decide))
 have HK:=Hi ((Kp.of ((uh bA) _)).trans hk12);have HC:=Hi hc2;have HB:=Hi hbp;have hloZ:=Hi (show w.heap.size<(w1.alloc (.cells #[.int .i64 t.ln,.int .i64 t.co] 37)).heap.size from by simp;omega)
 clear ht hb hk2 hk12 hc2 hZ bA hR2 hD2 hbp bw1
 cases r with
 | none =>
  have hs2:=Hi ((uh hs0) rfl);obtain rfl:sl = .slice none 0 0:=uh HB;clear hs0 hs1
  go_wp2_with (first
   | refine wpList_store_mid (by rfl) 99 _ _ (by rfl) w.heap.size 0 #[.int .i64 0,.string ⟨#[]⟩,.bool false,.slice none 0 0,.slice none 0 0,.int .i64 0,.int .i64 0] (by rfl) (by rfl) (uh HT) infoLt (dt.zae (cs:=[.int .i64 0,.string ⟨#[]⟩,.bool false,.slice none 0 0,.slice none 0 0,.int .i64 0,.int .i64 0]) (by rfl)) ?_)
  refine bodyPost_ret (rgn.zad rfl _ _ w.heap.size 0 [.int .i64 0,.string ⟨#[]⟩,.bool false,.slice none 0 0,.slice none 0 0,.int .i64 0,.int .i64 0] _ rfl (World.rangeAt_setCells_same _ _ _ _ (uh HT)) Tryz.underlying99 rfl infoLt) rfl ?_
  rw[uh hs2];exact⟨_,[],rfl,⟨zaz 0 em false 0 0,za8 _ 0 em false 0 0,List.nodup_nil,by simp⟩,(uh HC).out hne hnp _ _,(uh HK).out (lr _) _ _⟩
 | some l =>
  have hs2:=Hi ((uh hs1) l rfl);obtain⟨Gs,hgr⟩:=uh HB;obtain⟨a,n,c',F,rfl,how,hnd,hrg⟩:=zn4 hgr t.ln t.co;have HO:=Hi (an how (an hnd hrg));clear hs0 hs1 hgr how hnd hrg HB
  go_wp2_with (first
   | refine wpList_store_mid (by rfl) 99 _ _ (by rfl) w.heap.size 0 #[.int .i64 8,.string ⟨#[]⟩,.bool false,.slice a n c',.slice none 0 0,.int .i64 t.ln,.int .i64 t.co] (by rfl) (by rfl) (uh HT) infoLt (dt.zae (cs:=[.int .i64 8,.string ⟨#[]⟩,.bool false,.slice a n c',.slice none 0 0,.int .i64 t.ln,.int .i64 t.co]) (by rfl)) ?_)
  refine bodyPost_ret (rgn.zad rfl _ _ w.heap.size 0 [.int .i64 8,.string ⟨#[]⟩,.bool false,.slice a n c',.slice none 0 0,.int .i64 t.ln,.int .i64 t.co] _ rfl (World.rangeAt_setCells_same _ _ _ _ (uh HT)) Tryz.underlying99 rfl infoLt) rfl ?_
  rw[uh hs2];obtain⟨how,hnd,hrg⟩:=uh HO;exact⟨_,F,rfl,⟨⟨_,_,_,_,_,_,_,_,_,_,_,rfl⟩,zcw how (fun hm=>by have:=(hrg _ hm).1;have:=uh hloZ;omega) _ _,hnd,fun b hb=>⟨by have:=(hrg b hb).1;have:=uh hloZ;omega,by rw[dt.zaa];exact (hrg b hb).2⟩⟩,(uh HC).out hne hnp _ _,(uh HK).out (lr _) _ _⟩
theorem zp5 {t:TypeId} {w:World} {lo:Nat} {l:List Dt} {sl:Value} {G:List Nat} (h:Grow t 10 w lo l sl G) (ln co:Int):∃ a n c F,sl = .slice a n c∧Ow w (litD 9 em false .nil (Dt.of l) ln co) [.int .i64 9,.string ⟨#[]⟩,.bool false,.slice none 0 0,.slice a n c,.int .i64 ln,.int .i64 co] F∧F.Nodup∧∀ b ∈ F,lo≤b∧b<w.heap.size:=by
 obtain⟨a,n,c,F,rfl,h1,h2,h3,h4,h5,h6,h7⟩:=h.shut;refine⟨a,n,c,F,rfl,?_,h4,h5⟩
 unfold litD;unfold Ow;refine⟨_,rfl,rfl,?_⟩
 unfold Ow;refine⟨_,rfl,rfl,?_⟩
 unfold Ow;refine⟨_,rfl,rfl,?_⟩
 unfold Ow;refine⟨none,0,0,_,[],F,rfl,lr _,Nat.zero_le _,fun _=>rfl,.inl ⟨rfl,rfl,rfl,rfl⟩,?_,rfl⟩
 unfold Ow;exact⟨a,n,c,_,F,[],rfl,h1,h2,h3,h7,zie _ _ _,by simp⟩
set_option maxRecDepth 4000 in
set_option maxHeartbeats 2000000 in
theorem zp4 (L:Cu→Option Dt × Cu) (ct:Bool) (c:Cu) (hc0:c.Ok) (hlen:c.ts.length≤1099511627777) (hG:Goes L) (hE:∀ cc:Cu,cc.Ok→cc.ts=c.ts→c.ix<cc.ix→FldAt 160 (argS L) ct cc):LitFn 153 (objS L) ct c:=by
 intro B p w h;have ht:=Hi (fun W (bb:Below w.heap.size w W)=>zaZ B p c W (h.below bb))
 have hb:=Hi (fun W (bb:Below w.heap.size w W)=>zk2 (argS L) ct c bLc bRc hc0 hlen (zas hG) hE B p W (h.below bb))
 have hlt:=h.lt;have hplt:=h.plt;have hne:B ≠ w.heap.size:=by omega
 have hnp:p ≠ w.heap.size:=by omega
 have bA:=Hi (fun o=>show Below w.heap.size w (w.alloc o) from ba)
 have hZ:=Hi (fun o W (hk:Kp B (w.alloc o) W)=>show W.heap[w.heap.size]? = some o from (hk.block w.heap.size (by simp) (by omega)).trans (heap_alloc_new w o))
 have hs0:=Hi (show (brk (argS L) bLc bRc 0 c).1=none→objS L c=(none,(brk (argS L) bLc bRc 0 c).2) from fun e=>by unfold objS;rw[e])
 have hs1:=Hi (show ∀ l,(brk (argS L) bLc bRc 0 c).1=some l→objS L c=(some (litD 9 em false .nil (Dt.of l) c.tok.ln c.tok.co),(brk (argS L) bLc bRc 0 c).2) from fun l e=>by unfold objS;rw[e])
 have hf2:=zdv c.tok;obtain⟨t,et⟩:∃ t,t=c.tok:=⟨_,rfl⟩;rw[← et] at ht hs1 hf2;obtain⟨U,hU⟩:∃ U,U=brk (argS L) bLc bRc 0 c:=⟨_,rfl⟩;rw[← hU] at hb hs0 hs1;clear h hU et hE;obtain⟨r,C⟩:=U;unfold Tk.cells at ht;unfold ptr at ht hb ⊢
 go_enter Tryz.func153,Tryz.ntmps153
 go_wp2_with fail
 refine ((uh ht) _ ((uh bA) _)).mono ?_
 rintro e w1 ⟨rfl,b1⟩;have hz1:w.heap.size<w1.heap.size:=by have:=b1.size;simp at this;omega
 have bw1:=((uh bA) _).trans (b1.mono ((uh bA) _).size)
 go_wp2_with fail
 refine ((uh hb) _ (bw1.alloc bw1.size _)).mono ?_
 rintro e w2 ⟨sl,rfl,hbp,hc2,hk2⟩;have hD2:=(hk2.block w1.heap.size (by simp) (by omega)).trans (heap_alloc_new w1 _)
 have hk12:=(Kp.of b1).trans ((Kp.of (ba)).trans hk2);have hR2:=(uh hZ) _ w2 hk12;have hz2:w1.heap.size<w2.heap.size:=by have:=hk2.size;simp at this;omega
 have d0:w2.cell? ⟨w1.heap.size,0,none⟩=some (.int .i64 t.ln):=(zG hD2 0).trans rfl;have d1:w2.cell? ⟨w1.heap.size,1,none⟩=some (.int .i64 t.co):=(zG hD2 1).trans rfl;have HT:=Hi (dt.zab hR2 (o:=0) (n:=7) (by decide))
 have HK:=Hi ((Kp.of ((uh bA) _)).trans hk12);have HC:=Hi hc2;have HB:=Hi hbp;have hloZ:=Hi (show w.heap.size<(w1.alloc (.cells #[.int .i64 t.ln,.int .i64 t.co] 37)).heap.size from by simp;omega)
 clear ht hb hk2 hk12 hc2 hZ bA hR2 hD2 hbp bw1
 cases r with
 | none =>
  have hs2:=Hi ((uh hs0) rfl);obtain rfl:sl = .slice none 0 0:=uh HB;clear hs0 hs1
  go_wp2_with (first
   | refine wpList_store_mid (by rfl) 99 _ _ (by rfl) w.heap.size 0 #[.int .i64 0,.string ⟨#[]⟩,.bool false,.slice none 0 0,.slice none 0 0,.int .i64 0,.int .i64 0] (by rfl) (by rfl) (uh HT) infoLt (dt.zae (cs:=[.int .i64 0,.string ⟨#[]⟩,.bool false,.slice none 0 0,.slice none 0 0,.int .i64 0,.int .i64 0]) (by rfl)) ?_)
  refine bodyPost_ret (rgn.zad rfl _ _ w.heap.size 0 [.int .i64 0,.string ⟨#[]⟩,.bool false,.slice none 0 0,.slice none 0 0,.int .i64 0,.int .i64 0] _ rfl (World.rangeAt_setCells_same _ _ _ _ (uh HT)) Tryz.underlying99 rfl infoLt) rfl ?_
  rw[uh hs2];exact⟨_,[],rfl,⟨zaz 0 em false 0 0,za8 _ 0 em false 0 0,List.nodup_nil,by simp⟩,(uh HC).out hne hnp _ _,(uh HK).out (lr _) _ _⟩
 | some l =>
  have hs2:=Hi ((uh hs1) l rfl);obtain⟨Gs,hgr⟩:=uh HB;obtain⟨a,n,c',F,rfl,how,hnd,hrg⟩:=zp5 hgr t.ln t.co;have HO:=Hi (an how (an hnd hrg));clear hs0 hs1 hgr how hnd hrg HB
  go_wp2_with (first
   | refine wpList_store_mid (by rfl) 99 _ _ (by rfl) w.heap.size 0 #[.int .i64 9,.string ⟨#[]⟩,.bool false,.slice none 0 0,.slice a n c',.int .i64 t.ln,.int .i64 t.co] (by rfl) (by rfl) (uh HT) infoLt (dt.zae (cs:=[.int .i64 9,.string ⟨#[]⟩,.bool false,.slice none 0 0,.slice a n c',.int .i64 t.ln,.int .i64 t.co]) (by rfl)) ?_)
  refine bodyPost_ret (rgn.zad rfl _ _ w.heap.size 0 [.int .i64 9,.string ⟨#[]⟩,.bool false,.slice none 0 0,.slice a n c',.int .i64 t.ln,.int .i64 t.co] _ rfl (World.rangeAt_setCells_same _ _ _ _ (uh HT)) Tryz.underlying99 rfl infoLt) rfl ?_
  rw[uh hs2];obtain⟨how,hnd,hrg⟩:=uh HO;exact⟨_,F,rfl,⟨⟨_,_,_,_,_,_,_,_,_,_,_,rfl⟩,zcw how (fun hm=>by have:=(hrg _ hm).1;have:=uh hloZ;omega) _ _,hnd,fun b hb=>⟨by have:=(hrg b hb).1;have:=uh hloZ;omega,by rw[dt.zaa];exact (hrg b hb).2⟩⟩,(uh HC).out hne hnp _ _,(uh HK).out (lr _) _ _⟩
set_option maxRecDepth 4000 in
set_option maxHeartbeats 1000000 in
theorem zls (E:Cu→Option Dt × Cu) (ct:Bool) (c:Cu) (hA:FldAt 157 E ct c):FldAt 160 E ct c:=by
 intro B p w h;have ha:=Hi (fun W (bb:Below w.heap.size w W)=>hA B p W (h.below bb))
 have hlt:=h.lt;have hplt:=h.plt;have hne:B ≠ w.heap.size:=by omega
 have hnp:p ≠ w.heap.size:=by omega
 have bA:=Hi (fun o=>show Below w.heap.size w (w.alloc o) from ba)
 have hZ:=Hi (fun o W (hk:Kp B (w.alloc o) W)=>show W.heap[w.heap.size]? = some o from (hk.block w.heap.size (by simp) (by omega)).trans (heap_alloc_new w o))
 obtain⟨U,hU⟩:∃ U,U=E c:=⟨_,rfl⟩;rw[← hU] at ha ⊢;clear h hU hA;obtain⟨r,C⟩:=U;unfold ptr at ha ⊢
 go_enter Tryz.func160,Tryz.ntmps160
 go_wp2_with fail
 refine ((uh ha) _ ((uh bA) _)).mono ?_
 rintro e w2 ⟨cs,F,rfl,hpo,hc2,hk2⟩;obtain⟨nm,ds,X,Y,⟨k,tx,bl,ai,ni,ci,af,nf,cf,ln,co,rfl⟩,rfl⟩:=hpo.shape;have hR2:=(uh hZ) _ w2 hk2;have hz2:w.heap.size<w2.heap.size:=by have:=hk2.size;simp at this;omega
 have HT:=Hi (fun o=>dt.zab ((Below.heap_alloc w2 o w.heap.size hz2).trans hR2) (o:=0) (n:=10) (by decide))
 have HK:=Hi ((Kp.of ((uh bA) _)).trans hk2);have HC:=Hi hc2;have HP:=Hi hpo;have hrF:∀ b ∈ F,w.heap.size<b∧b<w2.heap.size:=fun b hb=>⟨by have:=(hpo.rng b hb).1;simp at this;omega,(hpo.rng b hb).2⟩
 clear ha hk2 hc2 hZ bA hR2 hpo
 go_wp2_with (first
  | refine wpList_store_mid (by rfl) 159 _ _ (by rfl) w.heap.size 0 #[.string nm,.int .i64 k,.string tx,.bool bl,.slice ai ni ci,.slice af nf cf,.int .i64 ln,.int .i64 co,.int .i64 X,.int .i64 Y] (by rfl) (by rfl) ((uh HT) _) infoLf (dt.zae (cs:=[.string nm,.int .i64 k,.string tx,.bool bl,.slice ai ni ci,.slice af nf cf,.int .i64 ln,.int .i64 co,.int .i64 X,.int .i64 Y]) (by rfl)) ?_)
 refine bodyPost_ret (rgn.zad rfl _ _ w.heap.size 0 [.string nm,.int .i64 k,.string tx,.bool bl,.slice ai ni ci,.slice af nf cf,.int .i64 ln,.int .i64 co,.int .i64 X,.int .i64 Y] _ rfl (World.rangeAt_setCells_same _ _ _ _ ((uh HT) _)) Tryz.underlying159 rfl infoLf) rfl ?_
 have hown:=zcw (zbK (uh HP).own ((Below.refl _ _).alloc (lr _) (.cells #[.string nm,.int .i64 k,.string tx,.bool bl,.slice ai ni ci,.slice af nf cf,.int .i64 ln,.int .i64 co,.int .i64 X,.int .i64 Y] 160)) (fun b hb=>(hrF b hb).2)) (b:=w.heap.size) (fun hb=>by have:=(hrF _ hb).1;omega) 0 [.string nm,.int .i64 k,.string tx,.bool bl,.slice ai ni ci,.slice af nf cf,.int .i64 ln,.int .i64 co,.int .i64 X,.int .i64 Y]
 exact⟨_,F,rfl,⟨⟨nm,_,X,Y,⟨k,tx,bl,ai,ni,ci,af,nf,cf,ln,co,rfl⟩,rfl⟩,hown,(uh HP).nodup,fun b hb=>⟨by have:=(hrF b hb).1;omega,by rw[dt.zaa];have:=(hrF b hb).2;simp;omega⟩⟩,((uh HC).below (ba)).out hne hnp _ _,((uh HK).trans (Kp.of (ba))).out (lr _) _ _⟩
theorem zkU (t:Tk):∃ (k:Int) (s:ByteArray),wordC t t.tx=leafC k s false t.ln t.co∧wordD t=litD k s false .nil .nil t.ln t.co:=by
 unfold wordC wordD
 split
 ·exact⟨5,t.tx,rfl,rfl⟩
 ·split
  ·exact⟨6,em,rfl,rfl⟩
  ·exact⟨7,t.tx,rfl,rfl⟩
theorem zl7 (c:Cu):∃ d,(varS c).1.getD zeroD=d∧(varS c).1.isSome=c.take.isN∧(varS c).2=c.take.name∧∃ k s ln co,varC c=leafC k s false ln co∧d=litD k s false .nil .nil ln co:=by
 unfold varS varC
 split
 ·exact⟨_,rfl,by simp[*],rfl,_,_,_,_,rfl,rfl⟩
 ·exact⟨_,rfl,by simp[*],rfl,0,em,0,0,rfl,rfl⟩
set_option maxRecDepth 4000 in
set_option maxHeartbeats 8000000 in
theorem zpQ (L:Cu→Option Dt × Cu) (ct:Bool) (c:Cu) (hc0:c.Ok) (hls':LitFn 152 (listS L) ct c) (hob':LitFn 153 (objS L) ct c):LitAt (litS L ct) ct c:=by
 intro B p w h;have hd:=Hi (fun W (bb:Below w.heap.size w W)=>zcP B p c W (h.below bb))
 have ht:=Hi (fun W (bb:Below w.heap.size w W)=>zaZ B p c W (h.below bb))
 have hip:=Hi (fun q W (bb:Below w.heap.size w W)=>zax B p c q W (h.below bb))
 have hrf:=Hi (fun W (bb:Below w.heap.size w W)=>zdA B p c W (h.below bb))
 have hls:=Hi (fun W (bb:Below w.heap.size w W)=>hls' B p W (h.below bb))
 have hob:=Hi (fun W (bb:Below w.heap.size w W)=>hob' B p W (h.below bb))
 have hlt:=h.lt;have hplt:=h.plt;have hne:B ≠ w.heap.size:=by omega
 have hnp:p ≠ w.heap.size:=by omega
 have bA:=Hi (fun o=>show Below w.heap.size w (w.alloc o) from ba)
 have hZ:=Hi (fun o W (hk:Kp B (w.alloc o) W)=>show W.heap[w.heap.size]? = some o from (hk.block w.heap.size (by simp) (by omega)).trans (heap_alloc_new w o))
 by_cases hkd:c.kd=0
 ·have ekd:(c.kd != 0)=false:=by simpa using hkd
  have hm:∀ k:Int,c.tok.k=k→k ≠ 0→k ≠ 1→c.ix+1<c.ts.length:=fun k e h0 h1=>zev hc0 (by rw[e];exact h0) (by rw[e];exact h1)
  have hSS:=Hi (show litS L ct c=(if c.tok.k=4 then (some (litD 2 c.tok.tx false .nil .nil c.tok.ln c.tok.co),c.take)
   else if c.tok.k=5 then (some (litD 3 c.tok.tx false .nil .nil c.tok.ln c.tok.co),c.take)
   else if c.tok.k=6∨c.tok.k=7 then (some (litD 4 c.tok.va (decide (c.tok.k=7)) .nil .nil c.tok.ln c.tok.co),c.take)
   else if c.tok.k=3 then (some (wordD c.tok),c.take)
   else if c.isP bDol∧ct=false then varS c
   else if c.isP bLb then listS L c
   else if c.isP bLc then objS L c
   else (none,c.stop 70)) from by unfold litS;rw[if_neg (fun e=>e hkd)])
  have hl:=Hi (fun k s W (bb:Below w.heap.size w W) (hm:c.ix+1<c.ts.length)=>zjV B p c k s W (h.below bb) hm)
  have hwd:=Hi (fun s W (bb:Below w.heap.size w W) (hm:c.ix+1<c.ts.length)=>zoR B p c s W (h.below bb) hm)
  have hvr:=Hi (fun W (bb:Below w.heap.size w W) (hm:c.ix+1<c.ts.length)=>zqt B p c W (h.below bb) hm)
  have hmP:=Hi (fun q (e:c.isP q=true)=>zbu hc0 e)
  obtain⟨t,et⟩:∃ t,t=c.tok:=⟨_,rfl⟩;rw[← et] at ht hl hwd hSS hm;rw[ekd] at hd;have Het:=Hi et;clear h et hls' hob' hkd ekd;unfold Tk.cells at ht;unfold leafC at hl;unfold ptr at hd ht hip hrf hls hob hl hwd hvr ⊢
  by_cases h4:t.k=4
  ·have e4:(t.k == 4)=true:=by simpa using h4
   have hmm:=hm 4 h4 (by decide) (by decide)
   have hl:=Hi (fun k s W bb=>(uh hl) k s W bb hmm)
   have hs2:=Hi (show litS L ct c=(some (litD 2 t.tx false .nil .nil t.ln t.co),c.take) from by rw[uh hSS,if_pos h4])
   clear h4 hm hSS hmm
   go_enter Tryz.func140,Tryz.ntmps140
   go_wp2_with fail
   refine ((uh hd) _ ((uh bA) _)).mono ?_
   rintro e w1 ⟨rfl,rfl⟩
   go_wp2_with fail
   refine ((uh ht) _ ((uh bA) _)).mono ?_
   rintro e w1 ⟨rfl,b1⟩;have bw1:=((uh bA) _).trans (b1.mono ((uh bA) _).size);have bw2:=fun o=>bw1.alloc bw1.size o
   go_wp2_with fail
   refine ((uh hl) 2 t.tx _ (bw2 _)).mono ?_
   rintro e w2 ⟨rfl,hc2,hk2⟩;have hk02:=(Kp.of b1).trans ((Kp.of (ba)).trans hk2);have hR2:=(uh hZ) _ w2 hk02;have HT:=Hi (dt.zab hR2 (o:=0) (n:=7) (by decide))
   have HK:=Hi ((Kp.of ((uh bA) _)).trans hk02);have HC:=Hi hc2;clear hl hwd hvr hls hob hip hrf ht hd hk2 hk02 hc2 hZ bA hR2 bw1 bw2
   go_wp2_with (first
    | refine wpList_store_mid (by rfl) 99 _ _ (by rfl) w.heap.size 0 #[.int .i64 2,.string t.tx,.bool false,.slice none 0 0,.slice none 0 0,.int .i64 t.ln,.int .i64 t.co] (by rfl) (by rfl) (uh HT) infoLt (dt.zae (cs:=[.int .i64 2,.string t.tx,.bool false,.slice none 0 0,.slice none 0 0,.int .i64 t.ln,.int .i64 t.co]) (by rfl)) ?_)
   refine bodyPost_ret (rgn.zad rfl _ _ w.heap.size 0 [.int .i64 2,.string t.tx,.bool false,.slice none 0 0,.slice none 0 0,.int .i64 t.ln,.int .i64 t.co] _ rfl (World.rangeAt_setCells_same _ _ _ _ (uh HT)) Tryz.underlying99 rfl infoLt) rfl ?_
   rw[uh hs2];exact⟨_,[],rfl,⟨zaz 2 t.tx false t.ln t.co,za8 _ 2 t.tx false t.ln t.co,List.nodup_nil,by simp⟩,(uh HC).out hne hnp _ _,(uh HK).out (lr _) _ _⟩
  have e4:(t.k == 4)=false:=by simpa using h4
  by_cases h5:t.k=5
  ·have e5:(t.k == 5)=true:=by simpa using h5
   have hmm:=hm 5 h5 (by decide) (by decide)
   have hl:=Hi (fun k s W bb=>(uh hl) k s W bb hmm)
   have hs2:=Hi (show litS L ct c=(some (litD 3 t.tx false .nil .nil t.ln t.co),c.take) from by rw[uh hSS,if_neg h4,if_pos h5])
   clear h4 h5 hm hSS hmm
   go_enter Tryz.func140,Tryz.ntmps140
   go_wp2_with fail
   refine ((uh hd) _ ((uh bA) _)).mono ?_
   rintro e w1 ⟨rfl,rfl⟩
   go_wp2_with fail
   refine ((uh ht) _ ((uh bA) _)).mono ?_
   rintro e w1 ⟨rfl,b1⟩;have bw1:=((uh bA) _).trans (b1.mono ((uh bA) _).size);have bw2:=fun o=>bw1.alloc bw1.size o
   go_wp2_with fail
   refine ((uh hl) 3 t.tx _ (bw2 _)).mono ?_
   rintro e w2 ⟨rfl,hc2,hk2⟩;have hk02:=(Kp.of b1).trans ((Kp.of (ba)).trans hk2);have hR2:=(uh hZ) _ w2 hk02;have HT:=Hi (dt.zab hR2 (o:=0) (n:=7) (by decide))
   have HK:=Hi ((Kp.of ((uh bA) _)).trans hk02);have HC:=Hi hc2;clear hl hwd hvr hls hob hip hrf ht hd hk2 hk02 hc2 hZ bA hR2 bw1 bw2
   go_wp2_with (first
    | refine wpList_store_mid (by rfl) 99 _ _ (by rfl) w.heap.size 0 #[.int .i64 3,.string t.tx,.bool false,.slice none 0 0,.slice none 0 0,.int .i64 t.ln,.int .i64 t.co] (by rfl) (by rfl) (uh HT) infoLt (dt.zae (cs:=[.int .i64 3,.string t.tx,.bool false,.slice none 0 0,.slice none 0 0,.int .i64 t.ln,.int .i64 t.co]) (by rfl)) ?_)
   refine bodyPost_ret (rgn.zad rfl _ _ w.heap.size 0 [.int .i64 3,.string t.tx,.bool false,.slice none 0 0,.slice none 0 0,.int .i64 t.ln,.int .i64 t.co] _ rfl (World.rangeAt_setCells_same _ _ _ _ (uh HT)) Tryz.underlying99 rfl infoLt) rfl ?_
   rw[uh hs2];exact⟨_,[],rfl,⟨zaz 3 t.tx false t.ln t.co,za8 _ 3 t.tx false t.ln t.co,List.nodup_nil,by simp⟩,(uh HC).out hne hnp _ _,(uh HK).out (lr _) _ _⟩
  have e5:(t.k == 5)=false:=by simpa using h5
  by_cases h6:t.k=6
  ·have e6:(t.k == 6)=true:=by simpa using h6
   have e7:(t.k == 7)=false:=by rw[h6];rfl
   have hmm:=hm 6 h6 (by decide) (by decide)
   have hl:=Hi (fun k s W bb=>(uh hl) k s W bb hmm)
   have hs2:=Hi (show litS L ct c=(some (litD 4 t.va false .nil .nil t.ln t.co),c.take) from by rw[uh hSS,if_neg h4,if_neg h5,if_pos (.inl h6),show decide (t.k=7)=false from by rw[h6];rfl])
   clear h4 h5 h6 hm hSS hmm
   go_enter Tryz.func140,Tryz.ntmps140
   go_wp2_with fail
   refine ((uh hd) _ ((uh bA) _)).mono ?_
   rintro e w1 ⟨rfl,rfl⟩
   go_wp2_with fail
   refine ((uh ht) _ ((uh bA) _)).mono ?_
   rintro e w1 ⟨rfl,b1⟩;have bw1:=((uh bA) _).trans (b1.mono ((uh bA) _).size);have bw2:=fun o=>bw1.alloc bw1.size o
   go_wp2_with fail
   refine ((uh hl) 4 t.va _ (bw2 _)).mono ?_
   rintro e w2 ⟨rfl,hc2,hk2⟩;have hT2:=(hk2.block w1.heap.size (by simp) (by have:=bw1.size;omega)).trans (heap_alloc_new w1 _)
   have hk02:=(Kp.of b1).trans ((Kp.of (ba)).trans hk2);have hR2:=(uh hZ) _ w2 hk02;have hz2:w.heap.size<w2.heap.size:=by have:=hk02.size;simp at this;omega
   have hz3:w1.heap.size<w2.heap.size:=by have:=hk2.size;simp at this;omega
   have k0:∀ o,(w2.alloc o).cell? ⟨w1.heap.size,0,none⟩=some (.int .i64 t.k):=fun o=>(zG ((Below.heap_alloc w2 o w1.heap.size hz3).trans hT2) 0).trans rfl
   have HT:=Hi (fun o=>dt.zab ((Below.heap_alloc w2 o w.heap.size hz2).trans hR2) (o:=0) (n:=7) (by decide))
   have HK:=Hi ((Kp.of ((uh bA) _)).trans hk02);have HC:=Hi hc2;clear hl hwd hvr hls hob hip hrf ht hd hk2 hk02 hc2 hZ bA hR2 bw1 bw2 hT2
   go_wp2_with (first
    | refine wpList_store_mid (by rfl) 99 _ _ (by rfl) w.heap.size 0 #[.int .i64 4,.string t.va,.bool false,.slice none 0 0,.slice none 0 0,.int .i64 t.ln,.int .i64 t.co] (by rfl) (by rfl) ((uh HT) _) infoLt (dt.zae (cs:=[.int .i64 4,.string t.va,.bool false,.slice none 0 0,.slice none 0 0,.int .i64 t.ln,.int .i64 t.co]) (by rfl)) ?_)
   refine bodyPost_ret (rgn.zad rfl _ _ w.heap.size 0 [.int .i64 4,.string t.va,.bool false,.slice none 0 0,.slice none 0 0,.int .i64 t.ln,.int .i64 t.co] _ rfl (World.rangeAt_setCells_same _ _ _ _ ((uh HT) _)) Tryz.underlying99 rfl infoLt) rfl ?_
   rw[uh hs2];exact⟨_,[],rfl,⟨zaz 4 t.va false t.ln t.co,za8 _ 4 t.va false t.ln t.co,List.nodup_nil,by simp⟩,((uh HC).below (ba)).out hne hnp _ _,((uh HK).trans (Kp.of (ba))).out (lr _) _ _⟩
  have e6:(t.k == 6)=false:=by simpa using h6
  by_cases h7:t.k=7
  ·have e7:(t.k == 7)=true:=by simpa using h7
   have hmm:=hm 7 h7 (by decide) (by decide)
   have hl:=Hi (fun k s W bb=>(uh hl) k s W bb hmm)
   have hs2:=Hi (show litS L ct c=(some (litD 4 t.va true .nil .nil t.ln t.co),c.take) from by rw[uh hSS,if_neg h4,if_neg h5,if_pos (.inr h7),show decide (t.k=7)=true from by rw[h7];rfl])
   clear h4 h5 h6 h7 hm hSS hmm
   go_enter Tryz.func140,Tryz.ntmps140
   go_wp2_with fail
   refine ((uh hd) _ ((uh bA) _)).mono ?_
   rintro e w1 ⟨rfl,rfl⟩
   go_wp2_with fail
   refine ((uh ht) _ ((uh bA) _)).mono ?_
   rintro e w1 ⟨rfl,b1⟩;have bw1:=((uh bA) _).trans (b1.mono ((uh bA) _).size);have bw2:=fun o=>bw1.alloc bw1.size o
   go_wp2_with fail
   refine ((uh hl) 4 t.va _ (bw2 _)).mono ?_
   rintro e w2 ⟨rfl,hc2,hk2⟩;have hT2:=(hk2.block w1.heap.size (by simp) (by have:=bw1.size;omega)).trans (heap_alloc_new w1 _)
   have hk02:=(Kp.of b1).trans ((Kp.of (ba)).trans hk2);have hR2:=(uh hZ) _ w2 hk02;have hz2:w.heap.size<w2.heap.size:=by have:=hk02.size;simp at this;omega
   have hz3:w1.heap.size<w2.heap.size:=by have:=hk2.size;simp at this;omega
   have k0:∀ o,(w2.alloc o).cell? ⟨w1.heap.size,0,none⟩=some (.int .i64 t.k):=fun o=>(zG ((Below.heap_alloc w2 o w1.heap.size hz3).trans hT2) 0).trans rfl
   have HT:=Hi (fun o=>dt.zab ((Below.heap_alloc w2 o w.heap.size hz2).trans hR2) (o:=0) (n:=7) (by decide))
   have HK:=Hi ((Kp.of ((uh bA) _)).trans hk02);have HC:=Hi hc2;clear hl hwd hvr hls hob hip hrf ht hd hk2 hk02 hc2 hZ bA hR2 bw1 bw2 hT2
   go_wp2_with (first
    | refine wpList_store_mid (by rfl) 99 _ _ (by rfl) w.heap.size 0 #[.int .i64 4,.string t.va,.bool true,.slice none 0 0,.slice none 0 0,.int .i64 t.ln,.int .i64 t.co] (by rfl) (by rfl) ((uh HT) _) infoLt (dt.zae (cs:=[.int .i64 4,.string t.va,.bool true,.slice none 0 0,.slice none 0 0,.int .i64 t.ln,.int .i64 t.co]) (by rfl)) ?_)
   refine bodyPost_ret (rgn.zad rfl _ _ w.heap.size 0 [.int .i64 4,.string t.va,.bool true,.slice none 0 0,.slice none 0 0,.int .i64 t.ln,.int .i64 t.co] _ rfl (World.rangeAt_setCells_same _ _ _ _ ((uh HT) _)) Tryz.underlying99 rfl infoLt) rfl ?_
   rw[uh hs2];exact⟨_,[],rfl,⟨zaz 4 t.va true t.ln t.co,za8 _ 4 t.va true t.ln t.co,List.nodup_nil,by simp⟩,((uh HC).below (ba)).out hne hnp _ _,((uh HK).trans (Kp.of (ba))).out (lr _) _ _⟩
  have e7:(t.k == 7)=false:=by simpa using h7
  by_cases h3:t.k=3
  ·have e3:(t.k == 3)=true:=by simpa using h3
   have hmm:=hm 3 h3 (by decide) (by decide)
   have hwd:=Hi (fun s W bb=>(uh hwd) s W bb hmm)
   have hs2:=Hi (show litS L ct c=(some (wordD t),c.take) from by rw[uh hSS,if_neg h4,if_neg h5,if_neg (fun e=>e.elim h6 h7),if_pos h3])
   clear h4 h5 h6 h7 h3 hm hSS hmm
   go_enter Tryz.func140,Tryz.ntmps140
   go_wp2_with fail
   refine ((uh hd) _ ((uh bA) _)).mono ?_
   rintro e w1 ⟨rfl,rfl⟩
   go_wp2_with fail
   refine ((uh ht) _ ((uh bA) _)).mono ?_
   rintro e w1 ⟨rfl,b1⟩;have bw1:=((uh bA) _).trans (b1.mono ((uh bA) _).size);have bw2:=fun o=>bw1.alloc bw1.size o
   go_wp2_with fail
   refine ((uh hwd) t.tx _ (bw2 _)).mono ?_
   rintro e w2 ⟨rfl,hc2,hk2⟩;have hk02:=(Kp.of b1).trans ((Kp.of (ba)).trans hk2);have hR2:=(uh hZ) _ w2 hk02;have HT:=Hi (dt.zab hR2 (o:=0) (n:=7) (by decide))
   have HK:=Hi ((Kp.of ((uh bA) _)).trans hk02);have HC:=Hi hc2;obtain⟨kk,tt,hwc,hwD⟩:=zkU t;rw[hwc];rw[hwD] at hs2;clear hl hwd hvr hls hob hip hrf ht hd hk2 hk02 hc2 hZ bA hR2 bw1 bw2;unfold leafC
   go_wp2_with (first
    | refine wpList_store_mid (by rfl) 99 _ _ (by rfl) w.heap.size 0 #[.int .i64 kk,.string tt,.bool false,.slice none 0 0,.slice none 0 0,.int .i64 t.ln,.int .i64 t.co] (by rfl) (by rfl) (uh HT) infoLt (dt.zae (cs:=[.int .i64 kk,.string tt,.bool false,.slice none 0 0,.slice none 0 0,.int .i64 t.ln,.int .i64 t.co]) (by rfl)) ?_)
   refine bodyPost_ret (rgn.zad rfl _ _ w.heap.size 0 [.int .i64 kk,.string tt,.bool false,.slice none 0 0,.slice none 0 0,.int .i64 t.ln,.int .i64 t.co] _ rfl (World.rangeAt_setCells_same _ _ _ _ (uh HT)) Tryz.underlying99 rfl infoLt) rfl ?_
   rw[uh hs2];exact⟨_,[],rfl,⟨zaz kk tt false t.ln t.co,za8 _ kk tt false t.ln t.co,List.nodup_nil,by simp⟩,(uh HC).out hne hnp _ _,(uh HK).out (lr _) _ _⟩
  have e3:(t.k == 3)=false:=by simpa using h3
  have hS2:=Hi (show litS L ct c=(if c.isP bDol∧ct=false then varS c else if c.isP bLb then listS L c else if c.isP bLc then objS L c else (none,c.stop 70)) from by rw[uh hSS,if_neg h4,if_neg h5,if_neg (fun e=>e.elim h6 h7),if_neg h3])
  clear h4 h5 h6 h7 h3 hm hSS hl hwd
  cases hP1:c.isP bDol
  ·cases ct
   ·cases hP2:c.isP bLb
    ·cases hP3:c.isP bLc
     ·have hs2:=Hi (show litS L false c=(none,c.stop 70) from by rw[uh hS2,if_neg (fun e=>by rw[hP1] at e;exact absurd e.1 (by simp)),if_neg (by rw[hP2];simp),if_neg (by rw[hP3];simp)])
      clear hS2
      go_enter Tryz.func140,Tryz.ntmps140
      go_wp2_with fail
      refine ((uh hd) _ ((uh bA) _)).mono ?_
      rintro e w1 ⟨rfl,rfl⟩
      go_wp2_with fail
      refine ((uh ht) _ ((uh bA) _)).mono ?_
      rintro e w1 ⟨rfl,b1⟩;have bw1:=((uh bA) _).trans (b1.mono ((uh bA) _).size);have c2:=b1.alloc b1.size (.cells #[.int .i64 t.k,.int .i64 t.ln,.int .i64 t.co,.int .i64 t.fr,.int .i64 t.to,.string t.tx,.string t.va] 41);have bw2:=((uh bA) _).trans (c2.mono ((uh bA) _).size)
      go_wp2_with fail
      refine ((uh hip) bDol _ bw2).mono ?_
      rintro e w3 ⟨rfl,b3⟩;rw[hP1];have c3:=c2.trans (b3.mono c2.size);have bw3:=((uh bA) _).trans (c3.mono ((uh bA) _).size)
      go_wp2_with fail
      refine ((uh hip) bLb _ bw3).mono ?_
      rintro e w4 ⟨rfl,b4⟩;rw[hP2];have c4:=c3.trans (b4.mono c3.size);have bw4:=((uh bA) _).trans (c4.mono ((uh bA) _).size)
      go_wp2_with fail
      refine ((uh hip) bLc _ bw4).mono ?_
      rintro e w5 ⟨rfl,b5⟩;rw[hP3];have c5:=c4.trans (b5.mono c4.size);have bw5:=((uh bA) _).trans (c5.mono ((uh bA) _).size)
      go_wp2_with fail
      refine ((uh hrf) _ bw5).mono ?_
      rintro e w9 ⟨rfl,hc9,hk9⟩;have hk09:=(Kp.of c5).trans hk9;have hR9:=(uh hZ) _ w9 hk09;have HT:=Hi (dt.zab hR9 (o:=0) (n:=7) (by decide))
      have HK:=Hi ((Kp.of ((uh bA) _)).trans hk09);have HC:=Hi hc9;clear hvr hls hob hip hrf ht hd hk9 hk09 hc9 hZ bA hR9
      go_wp2_with (first
       | refine wpList_store_mid (by rfl) 99 _ _ (by rfl) w.heap.size 0 #[.int .i64 0,.string ⟨#[]⟩,.bool false,.slice none 0 0,.slice none 0 0,.int .i64 0,.int .i64 0] (by rfl) (by rfl) (uh HT) infoLt (dt.zae (cs:=[.int .i64 0,.string ⟨#[]⟩,.bool false,.slice none 0 0,.slice none 0 0,.int .i64 0,.int .i64 0]) (by rfl)) ?_)
      refine bodyPost_ret (rgn.zad rfl _ _ w.heap.size 0 [.int .i64 0,.string ⟨#[]⟩,.bool false,.slice none 0 0,.slice none 0 0,.int .i64 0,.int .i64 0] _ rfl (World.rangeAt_setCells_same _ _ _ _ (uh HT)) Tryz.underlying99 rfl infoLt) rfl ?_
      rw[uh hs2];exact⟨_,[],rfl,⟨zaz 0 em false 0 0,za8 _ 0 em false 0 0,List.nodup_nil,by simp⟩,(uh HC).out hne hnp _ _,(uh HK).out (lr _) _ _⟩
     ·have hs2:=Hi (show litS L false c=objS L c from by rw[uh hS2,if_neg (fun e=>by rw[hP1] at e;exact absurd e.1 (by simp)),if_neg (by rw[hP2];simp),if_pos hP3])
      clear hS2
      go_enter Tryz.func140,Tryz.ntmps140
      go_wp2_with fail
      refine ((uh hd) _ ((uh bA) _)).mono ?_
      rintro e w1 ⟨rfl,rfl⟩
      go_wp2_with fail
      refine ((uh ht) _ ((uh bA) _)).mono ?_
      rintro e w1 ⟨rfl,b1⟩;have bw1:=((uh bA) _).trans (b1.mono ((uh bA) _).size);have c2:=b1.alloc b1.size (.cells #[.int .i64 t.k,.int .i64 t.ln,.int .i64 t.co,.int .i64 t.fr,.int .i64 t.to,.string t.tx,.string t.va] 41);have bw2:=((uh bA) _).trans (c2.mono ((uh bA) _).size)
      go_wp2_with fail
      refine ((uh hip) bDol _ bw2).mono ?_
      rintro e w3 ⟨rfl,b3⟩;rw[hP1];have c3:=c2.trans (b3.mono c2.size);have bw3:=((uh bA) _).trans (c3.mono ((uh bA) _).size)
      go_wp2_with fail
      refine ((uh hip) bLb _ bw3).mono ?_
      rintro e w4 ⟨rfl,b4⟩;rw[hP2];have c4:=c3.trans (b4.mono c3.size);have bw4:=((uh bA) _).trans (c4.mono ((uh bA) _).size)
      go_wp2_with fail
      refine ((uh hip) bLc _ bw4).mono ?_
      rintro e w5 ⟨rfl,b5⟩;rw[hP3];have c5:=c4.trans (b5.mono c4.size);have bw5:=((uh bA) _).trans (c5.mono ((uh bA) _).size)
      go_wp2_with fail
      refine ((uh hob) _ bw5).mono ?_
      rintro e w9 ⟨cs,F,rfl,hpo,hc9,hk9⟩;obtain⟨kk,tt,bl,ai,ni,ci,af,nf,cf,ln,co,rfl⟩:=hpo.shape;have hk09:=(Kp.of c5).trans hk9;have hR9:=(uh hZ) _ w9 hk09;have HT:=Hi (dt.zab hR9 (o:=0) (n:=7) (by decide))
      have HK:=Hi ((Kp.of ((uh bA) _)).trans hk09);have HC:=Hi hc9;have HP:=Hi hpo;have hlo:=Hi (show w.heap.size<w5.heap.size from by have:=c5.size;simp at this;omega)
      clear hvr hls hob hip hrf ht hd hk9 hk09 hc9 hZ bA hR9 hpo
      go_wp2_with (first
       | refine wpList_store_mid (by rfl) 99 _ _ (by rfl) w.heap.size 0 #[.int .i64 kk,.string tt,.bool bl,.slice ai ni ci,.slice af nf cf,.int .i64 ln,.int .i64 co] (by rfl) (by rfl) (uh HT) infoLt (dt.zae (cs:=[.int .i64 kk,.string tt,.bool bl,.slice ai ni ci,.slice af nf cf,.int .i64 ln,.int .i64 co]) (by rfl)) ?_)
      refine bodyPost_ret (rgn.zad rfl _ _ w.heap.size 0 [.int .i64 kk,.string tt,.bool bl,.slice ai ni ci,.slice af nf cf,.int .i64 ln,.int .i64 co] _ rfl (World.rangeAt_setCells_same _ _ _ _ (uh HT)) Tryz.underlying99 rfl infoLt) rfl ?_
      rw[uh hs2];exact⟨_,F,rfl,⟨(uh HP).shape,zcw (uh HP).own (fun hm=>by have:=((uh HP).rng _ hm).1;have:=uh hlo;omega) _ _,(uh HP).nodup,fun b hb=>⟨by have:=((uh HP).rng b hb).1;have:=uh hlo;omega,by rw[dt.zaa];exact ((uh HP).rng b hb).2⟩⟩,(uh HC).out hne hnp _ _,(uh HK).out (lr _) _ _⟩
    ·have hs2:=Hi (show litS L false c=listS L c from by rw[uh hS2,if_neg (fun e=>by rw[hP1] at e;exact absurd e.1 (by simp)),if_pos hP2])
     clear hS2
     go_enter Tryz.func140,Tryz.ntmps140
     go_wp2_with fail
     refine ((uh hd) _ ((uh bA) _)).mono ?_
     rintro e w1 ⟨rfl,rfl⟩
     go_wp2_with fail
     refine ((uh ht) _ ((uh bA) _)).mono ?_
     rintro e w1 ⟨rfl,b1⟩;have bw1:=((uh bA) _).trans (b1.mono ((uh bA) _).size);have c2:=b1.alloc b1.size (.cells #[.int .i64 t.k,.int .i64 t.ln,.int .i64 t.co,.int .i64 t.fr,.int .i64 t.to,.string t.tx,.string t.va] 41);have bw2:=((uh bA) _).trans (c2.mono ((uh bA) _).size)
     go_wp2_with fail
     refine ((uh hip) bDol _ bw2).mono ?_
     rintro e w3 ⟨rfl,b3⟩;rw[hP1];have c3:=c2.trans (b3.mono c2.size);have bw3:=((uh bA) _).trans (c3.mono ((uh bA) _).size)
     go_wp2_with fail
     refine ((uh hip) bLb _ bw3).mono ?_
     rintro e w4 ⟨rfl,b4⟩;rw[hP2];have c4:=c3.trans (b4.mono c3.size);have bw4:=((uh bA) _).trans (c4.mono ((uh bA) _).size)
     go_wp2_with fail
     refine ((uh hls) _ bw4).mono ?_
     rintro e w9 ⟨cs,F,rfl,hpo,hc9,hk9⟩;obtain⟨kk,tt,bl,ai,ni,ci,af,nf,cf,ln,co,rfl⟩:=hpo.shape;have hk09:=(Kp.of c4).trans hk9;have hR9:=(uh hZ) _ w9 hk09;have HT:=Hi (dt.zab hR9 (o:=0) (n:=7) (by decide))
     have HK:=Hi ((Kp.of ((uh bA) _)).trans hk09);have HC:=Hi hc9;have HP:=Hi hpo;have hlo:=Hi (show w.heap.size<w4.heap.size from by have:=c4.size;simp at this;omega)
     clear hvr hls hob hip hrf ht hd hk9 hk09 hc9 hZ bA hR9 hpo
     go_wp2_with (first
      | refine wpList_store_mid (by rfl) 99 _ _ (by rfl) w.heap.size 0 #[.int .i64 kk,.string tt,.bool bl,.slice ai ni ci,.slice af nf cf,.int .i64 ln,.int .i64 co] (by rfl) (by rfl) (uh HT) infoLt (dt.zae (cs:=[.int .i64 kk,.string tt,.bool bl,.slice ai ni ci,.slice af nf cf,.int .i64 ln,.int .i64 co]) (by rfl)) ?_)
     refine bodyPost_ret (rgn.zad rfl _ _ w.heap.size 0 [.int .i64 kk,.string tt,.bool bl,.slice ai ni ci,.slice af nf cf,.int .i64 ln,.int .i64 co] _ rfl (World.rangeAt_setCells_same _ _ _ _ (uh HT)) Tryz.underlying99 rfl infoLt) rfl ?_
     rw[uh hs2];exact⟨_,F,rfl,⟨(uh HP).shape,zcw (uh HP).own (fun hm=>by have:=((uh HP).rng _ hm).1;have:=uh hlo;omega) _ _,(uh HP).nodup,fun b hb=>⟨by have:=((uh HP).rng b hb).1;have:=uh hlo;omega,by rw[dt.zaa];exact ((uh HP).rng b hb).2⟩⟩,(uh HC).out hne hnp _ _,(uh HK).out (lr _) _ _⟩
   ·cases hP2:c.isP bLb
    ·cases hP3:c.isP bLc
     ·have hs2:=Hi (show litS L true c=(none,c.stop 70) from by rw[uh hS2,if_neg (fun e=>by rw[hP1] at e;exact absurd e.1 (by simp)),if_neg (by rw[hP2];simp),if_neg (by rw[hP3];simp)])
      clear hS2
      go_enter Tryz.func140,Tryz.ntmps140
      go_wp2_with fail
      refine ((uh hd) _ ((uh bA) _)).mono ?_
      rintro e w1 ⟨rfl,rfl⟩
      go_wp2_with fail
      refine ((uh ht) _ ((uh bA) _)).mono ?_
      rintro e w1 ⟨rfl,b1⟩;have bw1:=((uh bA) _).trans (b1.mono ((uh bA) _).size);have c2:=b1.alloc b1.size (.cells #[.int .i64 t.k,.int .i64 t.ln,.int .i64 t.co,.int .i64 t.fr,.int .i64 t.to,.string t.tx,.string t.va] 41);have bw2:=((uh bA) _).trans (c2.mono ((uh bA) _).size)
      go_wp2_with fail
      refine ((uh hip) bDol _ bw2).mono ?_
      rintro e w3 ⟨rfl,b3⟩;rw[hP1];have c3:=c2.trans (b3.mono c2.size);have bw3:=((uh bA) _).trans (c3.mono ((uh bA) _).size)
      go_wp2_with fail
      refine ((uh hip) bLb _ bw3).mono ?_
      rintro e w4 ⟨rfl,b4⟩;rw[hP2];have c4:=c3.trans (b4.mono c3.size);have bw4:=((uh bA) _).trans (c4.mono ((uh bA) _).size)
      go_wp2_with fail
      refine ((uh hip) bLc _ bw4).mono ?_
      rintro e w5 ⟨rfl,b5⟩;rw[hP3];have c5:=c4.trans (b5.mono c4.size);have bw5:=((uh bA) _).trans (c5.mono ((uh bA) _).size)
      go_wp2_with fail
      refine ((uh hrf) _ bw5).mono ?_
      rintro e w9 ⟨rfl,hc9,hk9⟩;have hk09:=(Kp.of c5).trans hk9;have hR9:=(uh hZ) _ w9 hk09;have HT:=Hi (dt.zab hR9 (o:=0) (n:=7) (by decide))
      have HK:=Hi ((Kp.of ((uh bA) _)).trans hk09);have HC:=Hi hc9;clear hvr hls hob hip hrf ht hd hk9 hk09 hc9 hZ bA hR9
      go_wp2_with (first
       | refine wpList_store_mid (by rfl) 99 _ _ (by rfl) w.heap.size 0 #[.int .i64 0,.string ⟨#[]⟩,.bool false,.slice none 0 0,.slice none 0 0,.int .i64 0,.int .i64 0] (by rfl) (by rfl) (uh HT) infoLt (dt.zae (cs:=[.int .i64 0,.string ⟨#[]⟩,.bool false,.slice none 0 0,.slice none 0 0,.int .i64 0,.int .i64 0]) (by rfl)) ?_)
      refine bodyPost_ret (rgn.zad rfl _ _ w.heap.size 0 [.int .i64 0,.string ⟨#[]⟩,.bool false,.slice none 0 0,.slice none 0 0,.int .i64 0,.int .i64 0] _ rfl (World.rangeAt_setCells_same _ _ _ _ (uh HT)) Tryz.underlying99 rfl infoLt) rfl ?_
      rw[uh hs2];exact⟨_,[],rfl,⟨zaz 0 em false 0 0,za8 _ 0 em false 0 0,List.nodup_nil,by simp⟩,(uh HC).out hne hnp _ _,(uh HK).out (lr _) _ _⟩
     ·have hs2:=Hi (show litS L true c=objS L c from by rw[uh hS2,if_neg (fun e=>by rw[hP1] at e;exact absurd e.1 (by simp)),if_neg (by rw[hP2];simp),if_pos hP3])
      clear hS2
      go_enter Tryz.func140,Tryz.ntmps140
      go_wp2_with fail
      refine ((uh hd) _ ((uh bA) _)).mono ?_
      rintro e w1 ⟨rfl,rfl⟩
      go_wp2_with fail
      refine ((uh ht) _ ((uh bA) _)).mono ?_
      rintro e w1 ⟨rfl,b1⟩;have bw1:=((uh bA) _).trans (b1.mono ((uh bA) _).size);have c2:=b1.alloc b1.size (.cells #[.int .i64 t.k,.int .i64 t.ln,.int .i64 t.co,.int .i64 t.fr,.int .i64 t.to,.string t.tx,.string t.va] 41);have bw2:=((uh bA) _).trans (c2.mono ((uh bA) _).size)
      go_wp2_with fail
      refine ((uh hip) bDol _ bw2).mono ?_
      rintro e w3 ⟨rfl,b3⟩;rw[hP1];have c3:=c2.trans (b3.mono c2.size);have bw3:=((uh bA) _).trans (c3.mono ((uh bA) _).size)
      go_wp2_with fail
      refine ((uh hip) bLb _ bw3).mono ?_
      rintro e w4 ⟨rfl,b4⟩;rw[hP2];have c4:=c3.trans (b4.mono c3.size);have bw4:=((uh bA) _).trans (c4.mono ((uh bA) _).size)
      go_wp2_with fail
      refine ((uh hip) bLc _ bw4).mono ?_
      rintro e w5 ⟨rfl,b5⟩;rw[hP3];have c5:=c4.trans (b5.mono c4.size);have bw5:=((uh bA) _).trans (c5.mono ((uh bA) _).size)
      go_wp2_with fail
      refine ((uh hob) _ bw5).mono ?_
      rintro e w9 ⟨cs,F,rfl,hpo,hc9,hk9⟩;obtain⟨kk,tt,bl,ai,ni,ci,af,nf,cf,ln,co,rfl⟩:=hpo.shape;have hk09:=(Kp.of c5).trans hk9;have hR9:=(uh hZ) _ w9 hk09;have HT:=Hi (dt.zab hR9 (o:=0) (n:=7) (by decide))
      have HK:=Hi ((Kp.of ((uh bA) _)).trans hk09);have HC:=Hi hc9;have HP:=Hi hpo;have hlo:=Hi (show w.heap.size<w5.heap.size from by have:=c5.size;simp at this;omega)
      clear hvr hls hob hip hrf ht hd hk9 hk09 hc9 hZ bA hR9 hpo
      go_wp2_with (first
       | refine wpList_store_mid (by rfl) 99 _ _ (by rfl) w.heap.size 0 #[.int .i64 kk,.string tt,.bool bl,.slice ai ni ci,.slice af nf cf,.int .i64 ln,.int .i64 co] (by rfl) (by rfl) (uh HT) infoLt (dt.zae (cs:=[.int .i64 kk,.string tt,.bool bl,.slice ai ni ci,.slice af nf cf,.int .i64 ln,.int .i64 co]) (by rfl)) ?_)
      refine bodyPost_ret (rgn.zad rfl _ _ w.heap.size 0 [.int .i64 kk,.string tt,.bool bl,.slice ai ni ci,.slice af nf cf,.int .i64 ln,.int .i64 co] _ rfl (World.rangeAt_setCells_same _ _ _ _ (uh HT)) Tryz.underlying99 rfl infoLt) rfl ?_
      rw[uh hs2];exact⟨_,F,rfl,⟨(uh HP).shape,zcw (uh HP).own (fun hm=>by have:=((uh HP).rng _ hm).1;have:=uh hlo;omega) _ _,(uh HP).nodup,fun b hb=>⟨by have:=((uh HP).rng b hb).1;have:=uh hlo;omega,by rw[dt.zaa];exact ((uh HP).rng b hb).2⟩⟩,(uh HC).out hne hnp _ _,(uh HK).out (lr _) _ _⟩
    ·have hs2:=Hi (show litS L true c=listS L c from by rw[uh hS2,if_neg (fun e=>by rw[hP1] at e;exact absurd e.1 (by simp)),if_pos hP2])
     clear hS2
     go_enter Tryz.func140,Tryz.ntmps140
     go_wp2_with fail
     refine ((uh hd) _ ((uh bA) _)).mono ?_
     rintro e w1 ⟨rfl,rfl⟩
     go_wp2_with fail
     refine ((uh ht) _ ((uh bA) _)).mono ?_
     rintro e w1 ⟨rfl,b1⟩;have bw1:=((uh bA) _).trans (b1.mono ((uh bA) _).size);have c2:=b1.alloc b1.size (.cells #[.int .i64 t.k,.int .i64 t.ln,.int .i64 t.co,.int .i64 t.fr,.int .i64 t.to,.string t.tx,.string t.va] 41);have bw2:=((uh bA) _).trans (c2.mono ((uh bA) _).size)
     go_wp2_with fail
     refine ((uh hip) bDol _ bw2).mono ?_
     rintro e w3 ⟨rfl,b3⟩;rw[hP1];have c3:=c2.trans (b3.mono c2.size);have bw3:=((uh bA) _).trans (c3.mono ((uh bA) _).size)
     go_wp2_with fail
     refine ((uh hip) bLb _ bw3).mono ?_
     rintro e w4 ⟨rfl,b4⟩;rw[hP2];have c4:=c3.trans (b4.mono c3.size);have bw4:=((uh bA) _).trans (c4.mono ((uh bA) _).size)
     go_wp2_with fail
     refine ((uh hls) _ bw4).mono ?_
     rintro e w9 ⟨cs,F,rfl,hpo,hc9,hk9⟩;obtain⟨kk,tt,bl,ai,ni,ci,af,nf,cf,ln,co,rfl⟩:=hpo.shape;have hk09:=(Kp.of c4).trans hk9;have hR9:=(uh hZ) _ w9 hk09;have HT:=Hi (dt.zab hR9 (o:=0) (n:=7) (by decide))
     have HK:=Hi ((Kp.of ((uh bA) _)).trans hk09);have HC:=Hi hc9;have HP:=Hi hpo;have hlo:=Hi (show w.heap.size<w4.heap.size from by have:=c4.size;simp at this;omega)
     clear hvr hls hob hip hrf ht hd hk9 hk09 hc9 hZ bA hR9 hpo
     go_wp2_with (first
      | refine wpList_store_mid (by rfl) 99 _ _ (by rfl) w.heap.size 0 #[.int .i64 kk,.string tt,.bool bl,.slice ai ni ci,.slice af nf cf,.int .i64 ln,.int .i64 co] (by rfl) (by rfl) (uh HT) infoLt (dt.zae (cs:=[.int .i64 kk,.string tt,.bool bl,.slice ai ni ci,.slice af nf cf,.int .i64 ln,.int .i64 co]) (by rfl)) ?_)
     refine bodyPost_ret (rgn.zad rfl _ _ w.heap.size 0 [.int .i64 kk,.string tt,.bool bl,.slice ai ni ci,.slice af nf cf,.int .i64 ln,.int .i64 co] _ rfl (World.rangeAt_setCells_same _ _ _ _ (uh HT)) Tryz.underlying99 rfl infoLt) rfl ?_
     rw[uh hs2];exact⟨_,F,rfl,⟨(uh HP).shape,zcw (uh HP).own (fun hm=>by have:=((uh HP).rng _ hm).1;have:=uh hlo;omega) _ _,(uh HP).nodup,fun b hb=>⟨by have:=((uh HP).rng b hb).1;have:=uh hlo;omega,by rw[dt.zaa];exact ((uh HP).rng b hb).2⟩⟩,(uh HC).out hne hnp _ _,(uh HK).out (lr _) _ _⟩
  ·cases ct
   ·have hs2:=Hi (show litS L false c=varS c from by rw[uh hS2,if_pos ⟨hP1,rfl⟩])
    clear hS2
    go_enter Tryz.func140,Tryz.ntmps140
    go_wp2_with fail
    refine ((uh hd) _ ((uh bA) _)).mono ?_
    rintro e w1 ⟨rfl,rfl⟩
    go_wp2_with fail
    refine ((uh ht) _ ((uh bA) _)).mono ?_
    rintro e w1 ⟨rfl,b1⟩;have bw1:=((uh bA) _).trans (b1.mono ((uh bA) _).size);have c2:=b1.alloc b1.size (.cells #[.int .i64 t.k,.int .i64 t.ln,.int .i64 t.co,.int .i64 t.fr,.int .i64 t.to,.string t.tx,.string t.va] 41);have bw2:=((uh bA) _).trans (c2.mono ((uh bA) _).size)
    go_wp2_with fail
    refine ((uh hip) bDol _ bw2).mono ?_
    rintro e w3 ⟨rfl,b3⟩;rw[hP1];have c3:=c2.trans (b3.mono c2.size);have bw3:=((uh bA) _).trans (c3.mono ((uh bA) _).size)
    go_wp2_with fail
    refine ((uh hvr) _ bw3 ((uh hmP) bDol hP1)).mono ?_
    rintro e w9 ⟨rfl,hc9,hk9⟩;obtain⟨d,v1,v2,v3,kk,tt,ln,co,v4,v5⟩:=zl7 c;have hk09:=(Kp.of c3).trans hk9;have hR9:=(uh hZ) _ w9 hk09;have HT:=Hi (dt.zab hR9 (o:=0) (n:=7) (by decide))
    have HK:=Hi ((Kp.of ((uh bA) _)).trans hk09);have HC:=Hi hc9;have HV:=Hi (an v1 (an v2 (an v3 v5)));rw[v4];unfold leafC;clear hvr hls hob hip hrf ht hd hk9 hk09 hc9 hZ bA hR9 v1 v2 v3 v4 v5;obtain⟨R,hR⟩:∃ R,R=c.take.isN:=⟨_,rfl⟩;rw[← hR] at HV ⊢;clear hR
    go_wp2_with (first
     | refine wpList_store_mid (by rfl) 99 _ _ (by rfl) w.heap.size 0 #[.int .i64 kk,.string tt,.bool false,.slice none 0 0,.slice none 0 0,.int .i64 ln,.int .i64 co] (by rfl) (by rfl) (uh HT) infoLt (dt.zae (cs:=[.int .i64 kk,.string tt,.bool false,.slice none 0 0,.slice none 0 0,.int .i64 ln,.int .i64 co]) (by rfl)) ?_)
    refine bodyPost_ret (rgn.zad rfl _ _ w.heap.size 0 [.int .i64 kk,.string tt,.bool false,.slice none 0 0,.slice none 0 0,.int .i64 ln,.int .i64 co] _ rfl (World.rangeAt_setCells_same _ _ _ _ (uh HT)) Tryz.underlying99 rfl infoLt) rfl ?_
    rw[uh hs2];obtain⟨v1,v2,v3,v5⟩:=uh HV;rw[v1,v2,v3,v5];exact⟨_,[],rfl,⟨zaz kk tt false ln co,za8 _ kk tt false ln co,List.nodup_nil,by simp⟩,(uh HC).out hne hnp _ _,(uh HK).out (lr _) _ _⟩
   ·cases hP2:c.isP bLb
    ·cases hP3:c.isP bLc
     ·have hs2:=Hi (show litS L true c=(none,c.stop 70) from by rw[uh hS2,if_neg (fun e=>by exact absurd e.2 (by simp)),if_neg (by rw[hP2];simp),if_neg (by rw[hP3];simp)])
      clear hS2
      go_enter Tryz.func140,Tryz.ntmps140
      go_wp2_with fail
      refine ((uh hd) _ ((uh bA) _)).mono ?_
      rintro e w1 ⟨rfl,rfl⟩
      go_wp2_with fail
      refine ((uh ht) _ ((uh bA) _)).mono ?_
      rintro e w1 ⟨rfl,b1⟩;have bw1:=((uh bA) _).trans (b1.mono ((uh bA) _).size);have c2:=b1.alloc b1.size (.cells #[.int .i64 t.k,.int .i64 t.ln,.int .i64 t.co,.int .i64 t.fr,.int .i64 t.to,.string t.tx,.string t.va] 41);have bw2:=((uh bA) _).trans (c2.mono ((uh bA) _).size)
      go_wp2_with fail
      refine ((uh hip) bDol _ bw2).mono ?_
      rintro e w3 ⟨rfl,b3⟩;rw[hP1];have c3:=c2.trans (b3.mono c2.size);have bw3:=((uh bA) _).trans (c3.mono ((uh bA) _).size)
      go_wp2_with fail
      refine ((uh hip) bLb _ bw3).mono ?_
      rintro e w4 ⟨rfl,b4⟩;rw[hP2];have c4:=c3.trans (b4.mono c3.size);have bw4:=((uh bA) _).trans (c4.mono ((uh bA) _).size)
      go_wp2_with fail
      refine ((uh hip) bLc _ bw4).mono ?_
      rintro e w5 ⟨rfl,b5⟩;rw[hP3];have c5:=c4.trans (b5.mono c4.size);have bw5:=((uh bA) _).trans (c5.mono ((uh bA) _).size)
      go_wp2_with fail
      refine ((uh hrf) _ bw5).mono ?_
      rintro e w9 ⟨rfl,hc9,hk9⟩;have hk09:=(Kp.of c5).trans hk9;have hR9:=(uh hZ) _ w9 hk09;have HT:=Hi (dt.zab hR9 (o:=0) (n:=7) (by decide))
      have HK:=Hi ((Kp.of ((uh bA) _)).trans hk09);have HC:=Hi hc9;clear hvr hls hob hip hrf ht hd hk9 hk09 hc9 hZ bA hR9
      go_wp2_with (first
       | refine wpList_store_mid (by rfl) 99 _ _ (by rfl) w.heap.size 0 #[.int .i64 0,.string ⟨#[]⟩,.bool false,.slice none 0 0,.slice none 0 0,.int .i64 0,.int .i64 0] (by rfl) (by rfl) (uh HT) infoLt (dt.zae (cs:=[.int .i64 0,.string ⟨#[]⟩,.bool false,.slice none 0 0,.slice none 0 0,.int .i64 0,.int .i64 0]) (by rfl)) ?_)
      refine bodyPost_ret (rgn.zad rfl _ _ w.heap.size 0 [.int .i64 0,.string ⟨#[]⟩,.bool false,.slice none 0 0,.slice none 0 0,.int .i64 0,.int .i64 0] _ rfl (World.rangeAt_setCells_same _ _ _ _ (uh HT)) Tryz.underlying99 rfl infoLt) rfl ?_
      rw[uh hs2];exact⟨_,[],rfl,⟨zaz 0 em false 0 0,za8 _ 0 em false 0 0,List.nodup_nil,by simp⟩,(uh HC).out hne hnp _ _,(uh HK).out (lr _) _ _⟩
     ·have hs2:=Hi (show litS L true c=objS L c from by rw[uh hS2,if_neg (fun e=>by exact absurd e.2 (by simp)),if_neg (by rw[hP2];simp),if_pos hP3])
      clear hS2
      go_enter Tryz.func140,Tryz.ntmps140
      go_wp2_with fail
      refine ((uh hd) _ ((uh bA) _)).mono ?_
      rintro e w1 ⟨rfl,rfl⟩
      go_wp2_with fail
      refine ((uh ht) _ ((uh bA) _)).mono ?_
      rintro e w1 ⟨rfl,b1⟩;have bw1:=((uh bA) _).trans (b1.mono ((uh bA) _).size);have c2:=b1.alloc b1.size (.cells #[.int .i64 t.k,.int .i64 t.ln,.int .i64 t.co,.int .i64 t.fr,.int .i64 t.to,.string t.tx,.string t.va] 41);have bw2:=((uh bA) _).trans (c2.mono ((uh bA) _).size)
      go_wp2_with fail
      refine ((uh hip) bDol _ bw2).mono ?_
      rintro e w3 ⟨rfl,b3⟩;rw[hP1];have c3:=c2.trans (b3.mono c2.size);have bw3:=((uh bA) _).trans (c3.mono ((uh bA) _).size)
      go_wp2_with fail
      refine ((uh hip) bLb _ bw3).mono ?_
      rintro e w4 ⟨rfl,b4⟩;rw[hP2];have c4:=c3.trans (b4.mono c3.size);have bw4:=((uh bA) _).trans (c4.mono ((uh bA) _).size)
      go_wp2_with fail
      refine ((uh hip) bLc _ bw4).mono ?_
      rintro e w5 ⟨rfl,b5⟩;rw[hP3];have c5:=c4.trans (b5.mono c4.size);have bw5:=((uh bA) _).trans (c5.mono ((uh bA) _).size)
      go_wp2_with fail
      refine ((uh hob) _ bw5).mono ?_
      rintro e w9 ⟨cs,F,rfl,hpo,hc9,hk9⟩;obtain⟨kk,tt,bl,ai,ni,ci,af,nf,cf,ln,co,rfl⟩:=hpo.shape;have hk09:=(Kp.of c5).trans hk9;have hR9:=(uh hZ) _ w9 hk09;have HT:=Hi (dt.zab hR9 (o:=0) (n:=7) (by decide))
      have HK:=Hi ((Kp.of ((uh bA) _)).trans hk09);have HC:=Hi hc9;have HP:=Hi hpo;have hlo:=Hi (show w.heap.size<w5.heap.size from by have:=c5.size;simp at this;omega)
      clear hvr hls hob hip hrf ht hd hk9 hk09 hc9 hZ bA hR9 hpo
      go_wp2_with (first
       | refine wpList_store_mid (by rfl) 99 _ _ (by rfl) w.heap.size 0 #[.int .i64 kk,.string tt,.bool bl,.slice ai ni ci,.slice af nf cf,.int .i64 ln,.int .i64 co] (by rfl) (by rfl) (uh HT) infoLt (dt.zae (cs:=[.int .i64 kk,.string tt,.bool bl,.slice ai ni ci,.slice af nf cf,.int .i64 ln,.int .i64 co]) (by rfl)) ?_)
      refine bodyPost_ret (rgn.zad rfl _ _ w.heap.size 0 [.int .i64 kk,.string tt,.bool bl,.slice ai ni ci,.slice af nf cf,.int .i64 ln,.int .i64 co] _ rfl (World.rangeAt_setCells_same _ _ _ _ (uh HT)) Tryz.underlying99 rfl infoLt) rfl ?_
      rw[uh hs2];exact⟨_,F,rfl,⟨(uh HP).shape,zcw (uh HP).own (fun hm=>by have:=((uh HP).rng _ hm).1;have:=uh hlo;omega) _ _,(uh HP).nodup,fun b hb=>⟨by have:=((uh HP).rng b hb).1;have:=uh hlo;omega,by rw[dt.zaa];exact ((uh HP).rng b hb).2⟩⟩,(uh HC).out hne hnp _ _,(uh HK).out (lr _) _ _⟩
    ·have hs2:=Hi (show litS L true c=listS L c from by rw[uh hS2,if_neg (fun e=>by exact absurd e.2 (by simp)),if_pos hP2])
     clear hS2
     go_enter Tryz.func140,Tryz.ntmps140
     go_wp2_with fail
     refine ((uh hd) _ ((uh bA) _)).mono ?_
     rintro e w1 ⟨rfl,rfl⟩
     go_wp2_with fail
     refine ((uh ht) _ ((uh bA) _)).mono ?_
     rintro e w1 ⟨rfl,b1⟩;have bw1:=((uh bA) _).trans (b1.mono ((uh bA) _).size);have c2:=b1.alloc b1.size (.cells #[.int .i64 t.k,.int .i64 t.ln,.int .i64 t.co,.int .i64 t.fr,.int .i64 t.to,.string t.tx,.string t.va] 41);have bw2:=((uh bA) _).trans (c2.mono ((uh bA) _).size)
     go_wp2_with fail
     refine ((uh hip) bDol _ bw2).mono ?_
     rintro e w3 ⟨rfl,b3⟩;rw[hP1];have c3:=c2.trans (b3.mono c2.size);have bw3:=((uh bA) _).trans (c3.mono ((uh bA) _).size)
     go_wp2_with fail
     refine ((uh hip) bLb _ bw3).mono ?_
     rintro e w4 ⟨rfl,b4⟩;rw[hP2];have c4:=c3.trans (b4.mono c3.size);have bw4:=((uh bA) _).trans (c4.mono ((uh bA) _).size)
     go_wp2_with fail
     refine ((uh hls) _ bw4).mono ?_
     rintro e w9 ⟨cs,F,rfl,hpo,hc9,hk9⟩;obtain⟨kk,tt,bl,ai,ni,ci,af,nf,cf,ln,co,rfl⟩:=hpo.shape;have hk09:=(Kp.of c4).trans hk9;have hR9:=(uh hZ) _ w9 hk09;have HT:=Hi (dt.zab hR9 (o:=0) (n:=7) (by decide))
     have HK:=Hi ((Kp.of ((uh bA) _)).trans hk09);have HC:=Hi hc9;have HP:=Hi hpo;have hlo:=Hi (show w.heap.size<w4.heap.size from by have:=c4.size;simp at this;omega)
     clear hvr hls hob hip hrf ht hd hk9 hk09 hc9 hZ bA hR9 hpo
     go_wp2_with (first
      | refine wpList_store_mid (by rfl) 99 _ _ (by rfl) w.heap.size 0 #[.int .i64 kk,.string tt,.bool bl,.slice ai ni ci,.slice af nf cf,.int .i64 ln,.int .i64 co] (by rfl) (by rfl) (uh HT) infoLt (dt.zae (cs:=[.int .i64 kk,.string tt,.bool bl,.slice ai ni ci,.slice af nf cf,.int .i64 ln,.int .i64 co]) (by rfl)) ?_)
     refine bodyPost_ret (rgn.zad rfl _ _ w.heap.size 0 [.int .i64 kk,.string tt,.bool bl,.slice ai ni ci,.slice af nf cf,.int .i64 ln,.int .i64 co] _ rfl (World.rangeAt_setCells_same _ _ _ _ (uh HT)) Tryz.underlying99 rfl infoLt) rfl ?_
     rw[uh hs2];exact⟨_,F,rfl,⟨(uh HP).shape,zcw (uh HP).own (fun hm=>by have:=((uh HP).rng _ hm).1;have:=uh hlo;omega) _ _,(uh HP).nodup,fun b hb=>⟨by have:=((uh HP).rng b hb).1;have:=uh hlo;omega,by rw[dt.zaa];exact ((uh HP).rng b hb).2⟩⟩,(uh HC).out hne hnp _ _,(uh HK).out (lr _) _ _⟩
 ·have ekd:(c.kd != 0)=true:=by simpa using hkd
  have hs2:=Hi (show litS L ct c=(none,c) from by unfold litS;rw[if_pos hkd])
  rw[ekd] at hd;have HC:=Hi (h.below ((uh bA) (.cells #[.int .i64 0,.string ⟨#[]⟩,.bool false,.slice none 0 0,.slice none 0 0,.int .i64 0,.int .i64 0] 99)));clear h hls' hob' hkd ekd ht hip hrf hls hob hZ;unfold ptr at hd ⊢
  go_enter Tryz.func140,Tryz.ntmps140
  go_wp2_with fail
  refine ((uh hd) _ ((uh bA) _)).mono ?_
  rintro e w1 ⟨rfl,rfl⟩;clear hd
  go_wp2_with fail
  refine bodyPost_ret (rgn.zad rfl _ _ w.heap.size 0 [.int .i64 0,.string ⟨#[]⟩,.bool false,.slice none 0 0,.slice none 0 0,.int .i64 0,.int .i64 0] _ rfl (dt.zav (heap_alloc_new w _) 0 _ (fun j u hu=>by rw[Nat.zero_add];simpa using hu)) Tryz.underlying99 rfl infoLt) rfl ?_
  rw[uh hs2];exact⟨_,[],rfl,⟨zaz 0 em false 0 0,za8 _ 0 em false 0 0,List.nodup_nil,by simp⟩,uh HC,Kp.of ((uh bA) _)⟩
open mem (Row)
theorem zj0 (ct:Bool):∀ (f:Nat) (c:Cu),c.kd ≠ 0→(litF ct f c).1=none
 | 0,c,h=>rfl
 | f+1,c,h=>by
  show (litS (litF ct f) ct c).1=none
  unfold litS;rw[if_pos h]
theorem zjr {c:Cu} (k:Int) (h:c.kd ≠ 0):c.stop k=c:=if_neg h
theorem zgt (ct:Bool) (f:Nat) (c:Cu) (h:(litF ct f (c.name.want bCol)).1.isSome=true):c.isN=true:=by
 cases hN:c.isN
 ·exfalso
  have h1:c.name=c.stop 70:=by unfold Cu.name;rw[hN];rfl
  have h2:(c.stop 70).kd ≠ 0:=by
   unfold Cu.stop
   split
   ·show (70:Int) ≠ 0;decide
   ·assumption
  have h3:(c.stop 70).want bCol=c.stop 70:=by
   unfold Cu.want;have:(c.stop 70).isP bCol=false:=by unfold Cu.isP;simp[h2]
   rw[this];exact zjr 70 h2
  rw[h1,h3,zj0 ct f _ h2] at h
  cases h
 ·rfl
theorem zfE (ct:Bool):∀ (f:Nat) (c:Cu),c.Ok→c.ts.length≤1099511627777→c.ts.length≤f+c.ix→LitAt (litF ct f) ct c
 | 0,c,hc,hl,hf=>by have:=hc.lt;omega
 | f+1,c,hc,hl,hf =>
  zpQ (litF ct f) ct c hc
   (zn3 (litF ct f) ct c hc hl (zaj ct f) (fun cc h1 h2 h3=>zfE ct f cc h1 (by rw[h2];exact hl) (by rw[h2];omega)))
   (zp4 (litF ct f) ct c hc hl (zaj ct f) (fun cc h1 h2 h3=>zls _ ct cc (zmf (litF ct f) ct cc h1
    (by
     have s1:=zar h1;have s2:=za0 s1.ok bCol;have s:=s1.trans s2
     exact zfE ct f (cc.name.want bCol) s.ok (by rw[s.ts,h2];exact hl) (by rw[s.ts,h2];have:=s.ix;omega))
    (zgt ct f cc))))
theorem infoAz:∃ i z,Tryz.prog.info? 160=some i∧i.zero=some z∧i.size=10∧i.bytes=128∧z.cells.size=10:=by
 have hin:(Tryz.prog.info? 160).map (fun i=>(i.bytes,i.size,i.zero.map (·.cells.size)))=some (128,10,some 10):=by kernel_rfl
 cases hq:Tryz.prog.info? 160 with
 | none=>simp[hq] at hin
 | some i =>
  simp[hq] at hin;obtain⟨h1,h2,z,hz,h3⟩:=hin;exact⟨i,z,rfl,hz,h2,h1,h3⟩
def BrkPA (r:Option (List Dt)) (lo:Nat) (w':World) (sl:Value):Prop:=match r with | none=>sl = .slice none 0 0 | some l=>∃ G,Grow 160 10 w' lo l sl G
set_option maxRecDepth 4000 in
set_option maxHeartbeats 4000000 in
theorem znq (E:Cu→Option Dt × Cu) (ct:Bool) (c:Cu) (left right:ByteArray) (hc0:c.Ok) (hlen:c.ts.length≤1099511627777) (hG:Goes E) (hE:∀ cc:Cu,cc.Ok→cc.ts=c.ts→c.ix<cc.ix→FldAt 157 E ct cc) (B p:Nat) (w:World) (h:CurAt w B p c) :
  Calls Tryz.prog 156 #[ptr B,.string left,.string right,.int .i64 1,.bool ct,.func (.func 157) #[ptr B] #[]] w fun e w'=>∃ sl,e = .returned (.tuple #[sl,.bool (brk E left right 1 c).1.isSome])∧BrkPA (brk E left right 1 c).1 w.heap.size w' sl∧CurAt w' B p (brk E left right 1 c).2∧Kp B w w':=by
 have en:∀ args w,(callFunc 157 args).run Tryz.prog w = .ok (.enter 157 args) w:=fun _ _=>rfl
 have ho:=Hi (zcv B p c left w h);have hB:=h.lt;have hp:=h.plt
 cases hO:c.opB left
 ·have hs:=Hi (show brk E left right 1 c=(none,c.opn left) from by unfold brk;rw[hO];rfl)
  rw[hO] at ho;clear h hE;unfold ptr at ho ⊢
  go_enter Tryz.func156,Tryz.ntmps156
  go_wp2_with fail
  refine (uh ho).mono ?_
  rintro e w1 ⟨rfl,hc1,hk1⟩;clear ho
  go_wp2_with fail
  go_ret2
  rw[uh hs];exact⟨_,rfl,rfl,hc1,hk1⟩
 ·have hst:=zau hc0 left
  have hoi:=zaL hO;obtain⟨R,hR⟩:∃ R,R=brkF E right 1 c.ts.length [] (c.opn left):=⟨_,rfl⟩;have hs:=Hi (show brk E left right 1 c=R from by unfold brk;rw[hO,hR];rfl)
  rw[hO] at ho;have HR:=Hi hR.symm;clear h hR hO;have hcl:=Hi (fun W (cc:Cu) (hc:CurAt W B p cc)=>zbF B p cc right W hc)
  have hip:=Hi (fun W (cc:Cu) (hc:CurAt W B p cc)=>zax B p cc right W hc)
  have hEE:=Hi (fun (cc:Cu) (h1:cc.Ok) (h2:cc.ts=c.ts) (h3:c.ix<cc.ix)=>hE cc h1 h2 h3 B p)
  clear hE;unfold ptr at ho hcl hip hEE ⊢
  go_enter Tryz.func156,Tryz.ntmps156
  go_wp2_with fail
  refine (uh ho).mono ?_
  rintro e w1 ⟨rfl,hc1,hk1⟩;clear ho;have hz1:=hk1.size
  go_wp2_with fail
  go_loopg [14] c.ts.length (fun g sl wr=>∃ (l:List Dt) (cc:Cu) (Gs:List Nat),Hid (brkF E right 1 g l cc=R)∧CurAt wr B p cc∧Hid (Grow 160 10 wr w.heap.size l sl Gs)∧Kp B w wr∧Hid (cc.ts=c.ts)∧c.ts.length≤g+cc.ix∧l.length+1+c.ix≤cc.ix)
  case atStart=>exact⟨[],c.opn left,[],HR,hc1,Hi Grow.nil,hk1,Hi hst.ts,Nat.le_add_right _ _,by rw[hoi];simp;omega⟩
  case round =>
   obtain⟨l,cc,Gs,hrun,hcc,hgr,hkr,hts,hfu,hll⟩:=hrel;have hixl:=hcc.ok.lt;rw[uh hts] at hixl;obtain⟨al,cl,hsl⟩:=(uh hgr).form;subst hsl;obtain⟨g',rfl⟩:∃ g',gk=g'+1:=⟨gk - 1,by omega⟩
   by_cases hl0:l.length=0
   ·have hlz:(l.length:Int)<1:=by omega
    have hl1:l.length<1:=by omega
    obtain⟨w2,hw2⟩:∃ w2,w2=wr:=⟨_,rfl⟩;subst hw2;have b2:=Below.refl w2.heap.size w2;have hc2:=hcc;have hgr2:=hgr;have hk2:=hkr;clear hl0
    have hrun2:=Hi (show (match (E cc).1 with | none=>(none,(E cc).2) | some d=>brkF E right 1 g' (l ++ [d]) (E cc).2)=R from by
     have e:=uh hrun;rw[brkF,if_pos (.inl hl1)] at e
     exact e)
    have hgo:=hG cc hcc.ok;have hcall:=Hi ((uh hEE) cc hcc.ok (uh hts) (by omega) w2 hc2)
    go_wp2_with fail
    refine (uh hcall).mono ?_
    rintro e w3 ⟨cs,F,rfl,hpo,hc3,hk3⟩;obtain⟨U,hU⟩:∃ U,U=E cc:=⟨_,rfl⟩;rw[← hU] at hrun2 hgo hpo hc3 ⊢;obtain⟨r,C⟩:=U;obtain⟨nm,ds,X,Y,⟨k,tx,bl,ai,ni,ci,af,nf,cf,ln,co,rfl⟩,rfl⟩:=hpo.shape;clear hcall hU hrun;have HP:=Hi hpo;clear hpo;have HC3:=Hi hc3;have HK3:=Hi hk3;have hz3:=hk3.size
    cases r with
    | none =>
     have hrun3:=Hi (show (none,C)=R from uh hrun2)
     go_wp2_with fail
     go_ret2
     rw[uh hs,← uh hrun3];exact⟨_,rfl,rfl,(uh HC3).below (ba),(hk2.trans (uh HK3)).trans (Kp.of (ba))⟩
    | some d =>
     have hrun3:=Hi (show brkF E right 1 g' (l ++ [d]) C=R from uh hrun2)
     have hix3:cc.ix<C.ix:=hgo.2 rfl;have hts3:=hgo.1.ts;have hlt3:=hgo.1.ok.lt;rw[hts3,uh hts] at hlt3;have hgr3:=(uh hgr2).kp (uh HK3) hB;obtain⟨it,zt,q1,q2,q3,q4,q5⟩:=infoAz;have HQ:=Hi (an q1 (an q2 (an q3 (an q4 q5))));clear q1 q2 q3 q4 q5;obtain⟨xss,hr3,hol3,hx3⟩:=hgr3.row;have hr4:=Hi (fun o=>World.ownsRow.alloc hr3 o)
     have hbyt:=Hi (show (l.length+1) * 128≤140737488355328∧l.length+1≤maxLen from ⟨by omega,by unfold maxLen;omega⟩)
     have hsz4:=Hi (fun o=>show w.heap.size≤(w3.alloc o).heap.size from by have:=hz3;have:=b2.size;have:=hkr.size;simp;omega)
     have hone:=Hi ((uh HP).own.one);have HG:=Hi (an hgr3 (an hol3 hx3));have hTS:=Hi hts3;clear hrun2 hgo hts3 hgr3 hr3 hol3 hx3
     go_wp2_with (first
      | (at_builtin;refine dt.zaG (by rfl) _ _ (by rfl) Tryz.underlying139 (uh HQ).1 (uh HQ).2.1 (uh HQ).2.2.1 (uh HQ).2.2.2.1 (uh HQ).2.2.2.2 (by omega) w.heap.size l.length xss.flatten _ (by rfl) ((uh hr4) _) [.string nm,.int .i64 k,.string tx,.bool bl,.slice ai ni ci,.slice af nf cf,.int .i64 ln,.int .i64 co,.int .i64 X,.int .i64 Y] (by rfl) (uh hone) (w3.heap.size+1) (by simp) (by rfl) (uh hbyt).1 (uh hbyt).2 ((uh hsz4) _) ?_;intro sl' w7 hr7 b7 hold7 hat7;have H7:=Hi (an hr7 (an b7 (an hold7 hat7)));clear hr7 b7 hold7 hat7))
     go_roundg g'
     case rel =>
      obtain⟨hr7,b7,hold7,hat7⟩:=uh H7;obtain⟨hgr3,hol3,hx3⟩:=uh HG;have bA:Below w3.heap.size w3 (w3.alloc (.cells #[.string nm,.int .i64 k,.string tx,.bool bl,.slice ai ni ci,.slice af nf cf,.int .i64 ln,.int .i64 co,.int .i64 X,.int .i64 Y] 160)):=ba;have hgr4:=hgr3.keep bA.size (fun b hb _=>bA.block b hb)
      have hown:=fun b (hb:(Value.slice al l.length cl).ownBlock=some b)=>(let ⟨_,hr,_⟩:=(uh hgr2).row;(hr.lt b hb).2)
      have hF3:∀ b ∈ F,w2.heap.size≤b∧b<w3.heap.size:=(uh HP).rng;have hsz:w.heap.size≤w2.heap.size:=hk2.size;have hmore:=hgr4.more (dt.OwL.agree (fun w w' e cs F=>dt.Ow.agree e cs F) (fun b hb j=>dt.zat (bA.block b (hgr3.rng b hb).2) j) hol3) hx3 (zbK (uh HP).own bA (fun b hb=>(hF3 b hb).2)) (uh HP).nodup (fun b hb=>⟨by have:=(hF3 b hb).1;omega,by have:=(hF3 b hb).2;have:=bA.size;omega,fun hm=>by have:=((uh hgr2).rng b hm).2;have:=(hF3 b hb).1;omega,fun e=>by have:=hown b e;have:=(hF3 b hb).1;omega⟩) (by rfl) hr7 (by have:=(hr7.lt);have:=b7.size;exact this) hold7 hat7
      have hBs:B<w3.heap.size:=by omega
      have hCA:=(uh HC3).below bA;refine⟨l ++ [d],C,Gs ++ F,hrun3,?_,Hi hmore,?_,Hi ((uh hTS).trans (uh hts)),by omega,by rw[List.length_append];simp;omega⟩
      ·exact hCA.low b7 hB hp
      ·exact ((hk2.trans (uh HK3)).trans (Kp.of bA)).low b7
     case measure=>exact Nat.lt_succ_self _
   ·have hlz:¬ ((l.length:Int)<1):=by omega
    have hl1:¬ l.length<1:=by omega
    clear hl0;have hip2:=Hi ((uh hip) wr cc hcc)
    go_wp2_with fail
    refine (uh hip2).mono ?_
    rintro e w2 ⟨rfl,b2⟩;have hc2:=hcc.below b2;have hgr2:=Hi ((uh hgr).keep b2.size (fun b hb _=>b2.block b hb))
    have hk2:=hkr.trans (Kp.of b2)
    cases hQ:cc.isP right
    ·have hrun2:=Hi (show (match (E cc).1 with | none=>(none,(E cc).2) | some d=>brkF E right 1 g' (l ++ [d]) (E cc).2)=R from by
      have e:=uh hrun;rw[brkF,if_pos (.inr hQ)] at e
      exact e)
     have hgo:=hG cc hcc.ok;have hcall:=Hi ((uh hEE) cc hcc.ok (uh hts) (by omega) w2 hc2)
     go_wp2_with fail
     refine (uh hcall).mono ?_
     rintro e w3 ⟨cs,F,rfl,hpo,hc3,hk3⟩;obtain⟨U,hU⟩:∃ U,U=E cc:=⟨_,rfl⟩;rw[← hU] at hrun2 hgo hpo hc3 ⊢;obtain⟨r,C⟩:=U;obtain⟨nm,ds,X,Y,⟨k,tx,bl,ai,ni,ci,af,nf,cf,ln,co,rfl⟩,rfl⟩:=hpo.shape;clear hcall hU hip2 hrun;have HP:=Hi hpo;clear hpo;have HC3:=Hi hc3;have HK3:=Hi hk3;have hz3:=hk3.size
     cases r with
     | none =>
      have hrun3:=Hi (show (none,C)=R from uh hrun2)
      go_wp2_with fail
      go_ret2
      rw[uh hs,← uh hrun3];exact⟨_,rfl,rfl,(uh HC3).below (ba),(hk2.trans (uh HK3)).trans (Kp.of (ba))⟩
     | some d =>
      have hrun3:=Hi (show brkF E right 1 g' (l ++ [d]) C=R from uh hrun2)
      have hix3:cc.ix<C.ix:=hgo.2 rfl;have hts3:=hgo.1.ts;have hlt3:=hgo.1.ok.lt;rw[hts3,uh hts] at hlt3;have hgr3:=(uh hgr2).kp (uh HK3) hB;obtain⟨it,zt,q1,q2,q3,q4,q5⟩:=infoAz;have HQ:=Hi (an q1 (an q2 (an q3 (an q4 q5))));clear q1 q2 q3 q4 q5;obtain⟨xss,hr3,hol3,hx3⟩:=hgr3.row;have hr4:=Hi (fun o=>World.ownsRow.alloc hr3 o)
      have hbyt:=Hi (show (l.length+1) * 128≤140737488355328∧l.length+1≤maxLen from ⟨by omega,by unfold maxLen;omega⟩)
      have hsz4:=Hi (fun o=>show w.heap.size≤(w3.alloc o).heap.size from by have:=hz3;have:=b2.size;have:=hkr.size;simp;omega)
      have hone:=Hi ((uh HP).own.one);have HG:=Hi (an hgr3 (an hol3 hx3));have hTS:=Hi hts3;clear hrun2 hgo hts3 hgr3 hr3 hol3 hx3
      go_wp2_with (first
       | (at_builtin;refine dt.zaG (by rfl) _ _ (by rfl) Tryz.underlying139 (uh HQ).1 (uh HQ).2.1 (uh HQ).2.2.1 (uh HQ).2.2.2.1 (uh HQ).2.2.2.2 (by omega) w.heap.size l.length xss.flatten _ (by rfl) ((uh hr4) _) [.string nm,.int .i64 k,.string tx,.bool bl,.slice ai ni ci,.slice af nf cf,.int .i64 ln,.int .i64 co,.int .i64 X,.int .i64 Y] (by rfl) (uh hone) (w3.heap.size+1) (by simp) (by rfl) (uh hbyt).1 (uh hbyt).2 ((uh hsz4) _) ?_;intro sl' w7 hr7 b7 hold7 hat7;have H7:=Hi (an hr7 (an b7 (an hold7 hat7)));clear hr7 b7 hold7 hat7))
      go_roundg g'
      case rel =>
       obtain⟨hr7,b7,hold7,hat7⟩:=uh H7;obtain⟨hgr3,hol3,hx3⟩:=uh HG;have bA:Below w3.heap.size w3 (w3.alloc (.cells #[.string nm,.int .i64 k,.string tx,.bool bl,.slice ai ni ci,.slice af nf cf,.int .i64 ln,.int .i64 co,.int .i64 X,.int .i64 Y] 160)):=ba;have hgr4:=hgr3.keep bA.size (fun b hb _=>bA.block b hb)
       have hown:=fun b (hb:(Value.slice al l.length cl).ownBlock=some b)=>(let ⟨_,hr,_⟩:=(uh hgr2).row;(hr.lt b hb).2)
       have hF3:∀ b ∈ F,w2.heap.size≤b∧b<w3.heap.size:=(uh HP).rng;have hsz:w.heap.size≤w2.heap.size:=hk2.size;have hmore:=hgr4.more (dt.OwL.agree (fun w w' e cs F=>dt.Ow.agree e cs F) (fun b hb j=>dt.zat (bA.block b (hgr3.rng b hb).2) j) hol3) hx3 (zbK (uh HP).own bA (fun b hb=>(hF3 b hb).2)) (uh HP).nodup (fun b hb=>⟨by have:=(hF3 b hb).1;omega,by have:=(hF3 b hb).2;have:=bA.size;omega,fun hm=>by have:=((uh hgr2).rng b hm).2;have:=(hF3 b hb).1;omega,fun e=>by have:=hown b e;have:=(hF3 b hb).1;omega⟩) (by rfl) hr7 (by have:=(hr7.lt);have:=b7.size;exact this) hold7 hat7
       have hBs:B<w3.heap.size:=by omega
       have hCA:=(uh HC3).below bA;refine⟨l ++ [d],C,Gs ++ F,hrun3,?_,Hi hmore,?_,Hi ((uh hTS).trans (uh hts)),by omega,by rw[List.length_append];simp;omega⟩
       ·exact hCA.low b7 hB hp
       ·exact ((hk2.trans (uh HK3)).trans (Kp.of bA)).low b7
      case measure=>exact Nat.lt_succ_self _
    ·have hrun2:=Hi (show (some l,cc.cls right)=R from by
      have e:=uh hrun;rw[brkF,if_neg (fun e=>by rcases e with e | e;omega;rw[hQ] at e;cases e)] at e
      exact e)
     have hcl2:=Hi ((uh hcl) w2 cc hc2);rw[hQ] at hcl2;clear hrun hip2
     go_wp2_with fail
     refine (uh hcl2).mono ?_
     rintro e w3 ⟨rfl,hc3,hk3⟩;clear hcl2
     go_wp2_with fail
     go_ret2
     rw[uh hs,← uh hrun2];exact⟨_,rfl,⟨Gs,(uh hgr2).kp hk3 hB⟩,hc3,hk2.trans hk3⟩
theorem _root_.Go.Proofs.YtifbkdicglcogaaGreat.dt.Grow.lo {t:TypeId} {size:Nat} {w:World} {B B':Nat} {l:List Dt} {sl:Value} {G:List Nat} (h:Grow t size w B l sl G) (hb:B'≤B):Grow t size w B' l sl G:=
 ⟨h.nodup,fun b hb'=>⟨Nat.le_trans hb (h.rng b hb').1,(h.rng b hb').2⟩,h.own,by
  obtain⟨xss,h1,h2,h3⟩:=h.row
  exact⟨xss,⟨h1.1,h1.2.imp id (fun ⟨g',r1,r2,r3,r4,r5⟩=>⟨g',r1,r2,r3,Nat.le_trans hb r4,r5⟩)⟩,h2,h3⟩⟩
def bLp:ByteArray:=⟨#[40]⟩
def bRp:ByteArray:=⟨#[41]⟩
def bAt:ByteArray:=⟨#[64]⟩
def argsS (L:Cu→Option Dt × Cu) (c:Cu):Option (List Dt) × Cu:=if c.isP bLp then brk (argS L) bLp bRp 1 c else (if c.kd=0 then some [] else none,c)
def ArgsAt (A:Cu→Option (List Dt) × Cu) (ct:Bool) (c:Cu):Prop:=∀ (B p:Nat) (w:World),CurAt w B p c→Calls Tryz.prog 147 #[ptr B,.bool ct] w fun e w'=>∃ sl,e = .returned (.tuple #[sl,.bool (A c).1.isSome])∧BrkPA (A c).1 w.heap.size w' sl∧CurAt w' B p (A c).2∧Kp B w w'
theorem znl (L:Cu→Option Dt × Cu) (ct:Bool) (c:Cu) (hc0:c.Ok) (hlen:c.ts.length≤1099511627777) (hG:Goes L) (hE:∀ cc:Cu,cc.Ok→cc.ts=c.ts→c.ix<cc.ix→FldAt 157 (argS L) ct cc):ArgsAt (argsS L) ct c:=by
 intro B p w h;have hi:=Hi (zax B p c bLp w h);have hd:=Hi (fun W (bb:Below w.heap.size w W)=>zcP B p c W (h.below bb))
 have hb:=Hi (fun W (bb:Below w.heap.size w W)=>znq (argS L) ct c bLp bRp hc0 hlen (zas hG) hE B p W (h.below bb))
 have hcb:=Hi (fun W (bb:Below w.heap.size w W)=>h.below bb)
 unfold argsS
 cases hP:c.isP bLp
 ·rw[hP] at hi
  simp only[Bool.false_eq_true,if_false];clear hb h hE;unfold ptr at hi hd ⊢
  by_cases hk:c.kd=0
  ·rw[if_pos hk]
   rw[show (c.kd != 0)=false by simpa using hk] at hd
   clear hk
   go_enter Tryz.func147,Tryz.ntmps147
   go_wp2_with fail
   refine (uh hi).mono ?_
   rintro e w1 ⟨rfl,b1⟩
   go_wp2_with fail
   refine ((uh hd) w1 b1).mono ?_
   rintro e w2 ⟨rfl,hw⟩;obtain rfl:w1=w2:=hw.symm
   go_wp2_with fail
   go_ret2
   exact⟨_,rfl,⟨[],Grow.nil⟩,(uh hcb) _ b1,Kp.of b1⟩
  ·rw[if_neg hk]
   rw[show (c.kd != 0)=true by simpa using hk] at hd
   clear hk
   go_enter Tryz.func147,Tryz.ntmps147
   go_wp2_with fail
   refine (uh hi).mono ?_
   rintro e w1 ⟨rfl,b1⟩
   go_wp2_with fail
   refine ((uh hd) w1 b1).mono ?_
   rintro e w2 ⟨rfl,hw⟩;obtain rfl:w1=w2:=hw.symm
   go_wp2_with fail
   go_ret2
   exact⟨_,rfl,rfl,(uh hcb) _ b1,Kp.of b1⟩
 ·rw[hP] at hi
  simp only[if_true];clear h hE hd;unfold ptr at hi hb ⊢
  go_enter Tryz.func147,Tryz.ntmps147
  go_wp2_with fail
  refine (uh hi).mono ?_
  rintro e w1 ⟨rfl,b1⟩
  go_wp2_with fail
  refine ((uh hb) w1 b1).mono ?_
  rintro e w2 ⟨sl,rfl,hbp,hc2,hk2⟩
  go_wp2_with fail
  go_ret2
  refine⟨sl,rfl,?_,hc2,(Kp.of b1).trans hk2⟩
  have h1:=b1.size;unfold BrkPA at hbp ⊢
  split at hbp
  ·exact hbp
  ·obtain⟨G,hg⟩:=hbp
   exact⟨G,hg.lo h1⟩
theorem infoDi:(Tryz.prog.info? 141).map (·.size)=some 4:=by kernel_rfl
def dirD (nm:ByteArray) (l:List Dt) (ln co:Int):Dt:=.val (.string nm) (.lst 10 (Dt.of l) (.val (.int .i64 ln) (.val (.int .i64 co) .nil)))
def dirZ:Dt:=dirD em [] 0 0
def dirS (L:Cu→Option Dt × Cu) (c:Cu):Option Dt × Cu:=
 match (argsS L c.take.name).1 with
 | none=>(none,(argsS L c.take.name).2)
 | some l=>(some (dirD c.take.tok.tx l c.tok.ln c.tok.co),(argsS L c.take.name).2)
structure DirPost (d:Dt) (w w':World) (cs:List Value) (F:List Nat):Prop where
 shape:∃ nm a n c ln co,cs=[.string nm,.slice a n c,.int .i64 ln,.int .i64 co]
 own:Ow w' d cs F
 nodup:F.Nodup
 rng:∀ b ∈ F,w.heap.size≤b∧b<w'.heap.size
def DirAt (E:Cu→Option Dt × Cu) (ct:Bool) (c:Cu):Prop:=∀ (B p:Nat) (w:World),CurAt w B p c→Calls Tryz.prog 131 #[ptr B,.bool ct] w fun e w'=>∃ cs F,e = .returned (.tuple #[.agg cs.toArray,.bool (E c).1.isSome])∧DirPost ((E c).1.getD dirZ) w w' cs F∧CurAt w' B p (E c).2∧Kp B w w'
theorem zmw {t:TypeId} {w:World} {lo:Nat} {l:List Dt} {sl:Value} {G:List Nat} (h:Grow t 10 w lo l sl G) (nm:ByteArray) (ln co:Int):∃ a n c F,sl = .slice a n c∧Ow w (dirD nm l ln co) [.string nm,.slice a n c,.int .i64 ln,.int .i64 co] F∧F.Nodup∧∀ b ∈ F,lo≤b∧b<w.heap.size:=by
 obtain⟨a,n,c,F,rfl,h1,h2,h3,h4,h5,h6,h7⟩:=h.shut;refine⟨a,n,c,F,rfl,?_,h4,h5⟩
 unfold dirD;unfold Ow;refine⟨_,rfl,rfl,?_⟩
 unfold Ow;exact⟨a,n,c,_,F,[],rfl,h1,h2,h3,h7,zie _ _ _,by simp⟩
theorem ziw (L:Cu→Option Dt × Cu) {c:Cu} (h:c.kd ≠ 0):(argsS L c).1=none:=by
 unfold argsS;have:c.isP bLp=false:=by unfold Cu.isP;simp[h]
 rw[this];simp[h]
theorem zpU (L:Cu→Option Dt × Cu) (c:Cu) (h:(argsS L c.name).1.isSome=true):c.isN=true:=by
 cases hN:c.isN
 ·exfalso
  have h1:c.name.kd ≠ 0:=by
   unfold Cu.name;rw[hN];unfold Cu.stop;simp only[Bool.false_eq_true,if_false]
   split
   ·show (70:Int) ≠ 0;decide
   ·assumption
  rw[ziw L h1] at h
  cases h
 ·rfl
set_option maxRecDepth 4000 in
set_option maxHeartbeats 2000000 in
theorem zpn (L:Cu→Option Dt × Cu) (ct:Bool) (c:Cu) (hc0:c.Ok) (hm:c.ix+1<c.ts.length) (hA:ArgsAt (argsS L) ct c.take.name):DirAt (dirS L) ct c:=by
 intro B p w h;have ht:=Hi (fun W (bb:Below w.heap.size w W)=>zdD B p c W (h.below bb) hm)
 have hn:=Hi (fun W (hc:CurAt W B p c.take)=>zbW B p c.take W hc)
 have ha:=Hi (fun W (hc:CurAt W B p c.take.name)=>hA B p W hc)
 have hlt:=h.lt;have hplt:=h.plt;have hne:B ≠ w.heap.size:=by omega
 have hnp:p ≠ w.heap.size:=by omega
 have bA:=Hi (fun o=>show Below w.heap.size w (w.alloc o) from ba)
 have hs0:=Hi (show (argsS L c.take.name).1=none→dirS L c=(none,(argsS L c.take.name).2) from fun e=>by unfold dirS;rw[e])
 have hs1:=Hi (show ∀ l,(argsS L c.take.name).1=some l→dirS L c=(some (dirD c.take.tok.tx l c.tok.ln c.tok.co),(argsS L c.take.name).2) from fun l e=>by unfold dirS;rw[e])
 have hN:=Hi (zpU L c.take);rw[zdY] at hn;obtain⟨U,hU⟩:∃ U,U=argsS L c.take.name:=⟨_,rfl⟩;rw[← hU] at ha hs0 hs1 hN;clear h hA hU;obtain⟨r,C⟩:=U;obtain⟨t,et⟩:∃ t,t=c.tok:=⟨_,rfl⟩;rw[← et] at ht hs1;clear et;obtain⟨A,hA⟩:∃ A,A=if c.take.isN then c.take.tok.tx else em:=⟨_,rfl⟩
 rw[← hA] at hn;have HA:=Hi hA;obtain⟨X,hX⟩:∃ X,X=if c.take.isN then c.take.tok.ln else 0:=⟨_,rfl⟩
 obtain⟨Y,hY⟩:∃ Y,Y=if c.take.isN then c.take.tok.co else 0:=⟨_,rfl⟩
 rw[← hX,← hY] at hn;clear hA hX hY;unfold Tk.cells at ht;unfold ptr at ht hn ha ⊢
 go_enter Tryz.func131,Tryz.ntmps131
 go_wp2_with fail
 refine ((uh ht) _ ((uh bA) _)).mono ?_
 rintro e w1 ⟨rfl,hc1,hk1⟩;have hR1:=(hk1.block w.heap.size (by simp) (by omega)).trans (heap_alloc_new w _)
 have hz1:w.heap.size<w1.heap.size:=by have:=hk1.size;simp at this;omega
 clear ht
 go_wp2_with fail
 have bT:=fun o=>show Below w1.heap.size w1 (w1.alloc o) from ba
 refine ((uh hn) _ (hc1.below (bT _))).mono ?_
 rintro e w2 ⟨rfl,hc2,hk2⟩;have hT2:=(hk2.block w1.heap.size (by simp) (by omega)).trans (heap_alloc_new w1 _)
 have hR2:=(hk2.block w.heap.size (by simp;omega) (by omega)).trans (((bT _).block _ hz1).trans hR1)
 have hz2:w1.heap.size<w2.heap.size:=by have:=hk2.size;simp at this;omega
 have hk12:=hk1.trans ((Kp.of (bT _)).trans hk2);clear hn
 go_wp2_with fail
 have bN:=fun o=>show Below w2.heap.size w2 (w2.alloc o) from ba
 refine ((uh ha) _ (hc2.below (bN _))).mono ?_
 rintro e w3 ⟨sl,rfl,hbp,hc3,hk3⟩;have hz3:w2.heap.size<w3.heap.size:=by have:=hk3.size;simp at this;omega
 have hN3:=(hk3.block w2.heap.size (by simp) (by omega)).trans (heap_alloc_new w2 _)
 have hT3:=(hk3.block w1.heap.size (by simp;omega) (by omega)).trans (((bN _).block _ hz2).trans hT2)
 have hR3:=(hk3.block w.heap.size (by simp;omega) (by omega)).trans (((bN _).block _ (by omega)).trans hR2)
 have HK:=Hi ((Kp.of ((uh bA) _)).trans (hk12.trans ((Kp.of (bN _)).trans hk3)));have HC:=Hi hc3;have HB:=Hi hbp;have d0:w3.cell? ⟨w2.heap.size,0,none⟩=some (.string A):=(zG hN3 0).trans rfl;have d1:w3.cell? ⟨w1.heap.size,1,none⟩=some (.int .i64 t.ln):=(zG hT3 1).trans rfl;have d2:w3.cell? ⟨w1.heap.size,2,none⟩=some (.int .i64 t.co):=(zG hT3 2).trans rfl;have HT:=Hi (dt.zab hR3 (o:=0) (n:=4) (by decide))
 have hlo:=Hi (show w.heap.size<w2.heap.size∧w2.heap.size≤(w2.alloc (.cells #[.string A,.int .i64 X,.int .i64 Y] 92)).heap.size from ⟨by omega,by simp⟩)
 clear ha hk1 hk2 hk3 hk12 hc1 hc2 hc3 hbp bT bN hR1 hR2 hR3 hT2 hT3 hN3 bA
 cases r with
 | none =>
  have hs2:=Hi ((uh hs0) rfl);obtain rfl:sl = .slice none 0 0:=uh HB;clear hs0 hs1
  go_wp2_with (first
   | refine wpList_store_mid (by rfl) 141 _ _ (by rfl) w.heap.size 0 #[.string ⟨#[]⟩,.slice none 0 0,.int .i64 0,.int .i64 0] (by rfl) (by rfl) (uh HT) infoDi (dt.zae (cs:=[.string ⟨#[]⟩,.slice none 0 0,.int .i64 0,.int .i64 0]) (by rfl)) ?_)
  refine bodyPost_ret (rgn.zad rfl _ _ w.heap.size 0 [.string ⟨#[]⟩,.slice none 0 0,.int .i64 0,.int .i64 0] _ rfl (World.rangeAt_setCells_same _ _ _ _ (uh HT)) Tryz.underlying141 rfl infoDi) rfl ?_
  rw[uh hs2];obtain⟨a0,n0,c0,F0,e0,o0,nd0,rg0⟩:=zmw (t:=160) (w:=w3.setCells w.heap.size 0 [.string ⟨#[]⟩,.slice none 0 0,.int .i64 0,.int .i64 0]) (lo:=w.heap.size) (G:=[]) Grow.nil em 0 0;simp only[Value.slice.injEq] at e0;obtain⟨rfl,rfl,rfl⟩:=e0;exact⟨_,F0,rfl,⟨⟨_,_,_,_,_,_,rfl⟩,o0,nd0,rg0⟩,(uh HC).out hne hnp _ _,(uh HK).out (lr _) _ _⟩
 | some l =>
  have hs2:=Hi ((uh hs1) l rfl);have hNN:=(uh hN) rfl;have hAe:A=c.take.tok.tx:=by have:=uh HA;rw[hNN] at this;exact this
  have hAh:=Hi hAe;obtain⟨Gs,hgr⟩:=uh HB;obtain⟨a,n,c',F,rfl,how,hnd,hrg⟩:=zmw hgr A t.ln t.co;have HO:=Hi (an how (an hnd hrg));clear hs0 hs1 how hnd hrg hgr HB hAe hNN
  go_wp2_with (first
   | refine wpList_store_mid (by rfl) 141 _ _ (by rfl) w.heap.size 0 #[.string A,.slice a n c',.int .i64 t.ln,.int .i64 t.co] (by rfl) (by rfl) (uh HT) infoDi (dt.zae (cs:=[.string A,.slice a n c',.int .i64 t.ln,.int .i64 t.co]) (by rfl)) ?_)
  refine bodyPost_ret (rgn.zad rfl _ _ w.heap.size 0 [.string A,.slice a n c',.int .i64 t.ln,.int .i64 t.co] _ rfl (World.rangeAt_setCells_same _ _ _ _ (uh HT)) Tryz.underlying141 rfl infoDi) rfl ?_
  obtain⟨how,hnd,hrg⟩:=uh HO;have hlo2:=uh hlo;rw[uh hs2,← uh hAh];exact⟨_,F,rfl,⟨⟨_,_,_,_,_,_,rfl⟩,zcw how (fun hb=>by have:=(hrg _ hb).1;omega) 0 _,hnd,fun b hb=>⟨by have:=(hrg b hb).1;omega,by rw[dt.zaa];exact (hrg b hb).2⟩⟩,(uh HC).out hne hnp _ _,(uh HK).out (lr _) _ _⟩
theorem infoDz:∃ i z,Tryz.prog.info? 141=some i∧i.zero=some z∧i.size=4∧i.bytes=56∧z.cells.size=4:=by
 have hin:(Tryz.prog.info? 141).map (fun i=>(i.bytes,i.size,i.zero.map (·.cells.size)))=some (56,4,some 4):=by kernel_rfl
 cases hq:Tryz.prog.info? 141 with
 | none=>simp[hq] at hin
 | some i =>
  simp[hq] at hin;obtain⟨h1,h2,z,hz,h3⟩:=hin;exact⟨i,z,rfl,hz,h2,h1,h3⟩
def BrkPD (r:Option (List Dt)) (lo:Nat) (w':World) (sl:Value):Prop:=match r with | none=>sl = .slice none 0 0 | some l=>∃ G,Grow 141 4 w' lo l sl G
def dirsF (L:Cu→Option Dt × Cu):Nat→List Dt→Cu→Option (List Dt) × Cu
 | 0,l,c=>(none,c)
 | g+1,l,c=>if c.isP bAt=true then (match (dirS L c).1 with | none=>(none,(dirS L c).2) | some d=>dirsF L g (l ++ [d]) (dirS L c).2) else (if c.kd=0 then some l else none,c)
def dirs (L:Cu→Option Dt × Cu) (c:Cu):Option (List Dt) × Cu:=dirsF L c.ts.length [] c
theorem zeY {E:Cu→Option Dt × Cu} (right:ByteArray) (least:Nat):∀ (g:Nat) (l:List Dt) (c:Cu),(brkF E right least g l c).1.isSome=true→(brkF E right least g l c).2.kd=0
 | 0,l,c,h=>by cases h
 | g+1,l,c,h=>by
  simp only[brkF] at h ⊢
  by_cases hc:l.length<least∨c.isP right=false
  ·rw[if_pos hc] at h ⊢
   cases hq:(E c).1 with
   | none=>rw[hq] at h;cases h
   | some d=>rw[hq] at h;exact zeY right least g _ _ h
  ·rw[if_neg hc]
   have hp:c.isP right=true:=by cases hp:c.isP right with | true=>rfl | false=>exact absurd (.inr hp) hc
   show (c.cls right).kd=0
   unfold Cu.cls;rw[if_pos hp];exact (zep hp).1
theorem zjh {E:Cu→Option Dt × Cu} {left right:ByteArray} {least:Nat} {c:Cu} (h:(brk E left right least c).1.isSome=true):(brk E left right least c).2.kd=0:=by
 unfold brk at h ⊢
 split at h
 ·rename_i ho
  rw[if_pos ho];exact zeY _ _ _ _ _ h
 ·cases h
theorem zgW {L:Cu→Option Dt × Cu} {c:Cu} (h:(argsS L c).1.isSome=true):(argsS L c).2.kd=0:=by
 unfold argsS at h ⊢
 split at h
 ·rename_i ho
  rw[if_pos ho];exact zjh h
 ·rename_i ho
  rw[if_neg ho]
  by_cases hk:c.kd=0
  ·exact hk
  ·rw[if_neg hk] at h;cases h
theorem ziH {L:Cu→Option Dt × Cu} {c:Cu} (h:(dirS L c).1.isSome=true):(dirS L c).2.kd=0:=by
 unfold dirS at h ⊢
 cases hq:(argsS L c.take.name).1 with
 | none=>rw[hq] at h;cases h
 | some l=>exact zgW (by rw[hq];rfl)
theorem zf5 {L:Cu→Option Dt × Cu} (hL:Goes L) {c:Cu} (h:c.Ok):Stp c (argsS L c).2:=by
 unfold argsS
 split
 ·exact (zaH (zas hL) bLp bRp 1 c h).1
 ·exact Stp.refl h
theorem zbd {L:Cu→Option Dt × Cu} (hL:Goes L) {c:Cu} (h:c.Ok) (hp:c.isP bAt=true):Stp c (dirS L c).2∧c.ix<(dirS L c).2.ix:=by
 have h1:=takeP h hp;have h2:=zar h1.ok;have h3:=zf5 hL h2.ok;have h4:=(h1.trans h2).trans h3;have h5:c.ix<(argsS L c.take.name).2.ix:=Nat.lt_of_lt_of_le (Nat.lt_succ_self _) (Nat.le_trans h2.ix h3.ix);unfold dirS
 cases (argsS L c.take.name).1 <;> exact⟨h4,h5⟩
def DirsAt (A:Cu→Option (List Dt) × Cu) (ct:Bool) (c:Cu):Prop:=∀ (B p:Nat) (w:World),CurAt w B p c→Calls Tryz.prog 106 #[ptr B,.bool ct] w fun e w'=>∃ sl,e = .returned (.tuple #[sl,.bool (A c).1.isSome])∧BrkPD (A c).1 w.heap.size w' sl∧CurAt w' B p (A c).2∧Kp B w w'
set_option maxRecDepth 4000 in
set_option maxHeartbeats 4000000 in
theorem znG (L:Cu→Option Dt × Cu) (ct:Bool) (c:Cu) (hc0:c.Ok) (hlen:c.ts.length≤1099511627777) (hL:Goes L) (hE:∀ cc:Cu,cc.Ok→cc.ts=c.ts→c.ix≤cc.ix→cc.isP bAt=true→DirAt (dirS L) ct cc):DirsAt (dirs L) ct c:=by
 intro B p w h;have hB:=h.lt;have hp:=h.plt;have hG:∀ cc:Cu,cc.Ok→cc.isP bAt=true→Stp cc (dirS L cc).2∧cc.ix<(dirS L cc).2.ix:=fun cc h hp=>zbd hL h hp
 obtain⟨R,hR⟩:∃ R,R=dirsF L c.ts.length [] c:=⟨_,rfl⟩;have hs:=Hi (show dirs L c=R from hR.symm)
 have HR:=Hi hR.symm;have HC0:=Hi h;clear h hR;have hip:=Hi (fun W (cc:Cu) (hc:CurAt W B p cc)=>zax B p cc bAt W hc)
 have hdd:=Hi (fun W (cc:Cu) (hc:CurAt W B p cc)=>zcP B p cc W hc)
 have hEE:=Hi (fun (cc:Cu) (h1:cc.Ok) (h2:cc.ts=c.ts) (h3:c.ix≤cc.ix) h4=>hE cc h1 h2 h3 h4 B p)
 clear hE;unfold ptr at hip hdd hEE ⊢
 go_enter Tryz.func106,Tryz.ntmps106
 go_wp2_with fail
 go_loopg [6] c.ts.length (fun g sl wr=>∃ (l:List Dt) (cc:Cu) (Gs:List Nat),Hid (dirsF L g l cc=R)∧CurAt wr B p cc∧Hid (Grow 141 4 wr w.heap.size l sl Gs)∧Kp B w wr∧Hid (cc.ts=c.ts)∧c.ts.length≤g+cc.ix∧l.length+c.ix≤cc.ix∧Hid ((l=[]→sl = .slice none 0 0)∧(l ≠ []→cc.kd=0)))
 case atStart=>exact⟨[],c,[],HR,uh HC0,Hi Grow.nil,Kp.refl _ _,Hi rfl,Nat.le_add_right _ _,by simp,Hi ⟨fun _=>rfl,fun h=>absurd rfl h⟩⟩
 case round =>
  obtain⟨l,cc,Gs,hrun,hcc,hgr,hkr,hts,hfu,hll,hnl⟩:=hrel;have hixl:=hcc.ok.lt;rw[uh hts] at hixl;obtain⟨al,cl,hsl⟩:=(uh hgr).form;subst hsl;obtain⟨g',rfl⟩:∃ g',gk=g'+1:=⟨gk - 1,by omega⟩
  have hip2:=Hi ((uh hip) wr cc hcc)
  go_wp2_with fail
  refine (uh hip2).mono ?_
  rintro e w2 ⟨rfl,b2⟩;have hc2:=hcc.below b2;have hgr2:=Hi ((uh hgr).keep b2.size (fun b hb _=>b2.block b hb))
  have hk2:=hkr.trans (Kp.of b2)
  cases hQ:cc.isP bAt
  ·have hdd2:=Hi ((uh hdd) w2 cc hc2)
   have hrun2:=Hi (show ((if cc.kd=0 then some l else none),cc)=R from by
    have e:=uh hrun;rw[dirsF,if_neg (by rw[hQ];decide)] at e
    exact e)
   clear hrun hip2
   by_cases hk:cc.kd=0
   ·rw[if_pos hk] at hrun2
    rw[show (cc.kd != 0)=false by simpa using hk] at hdd2
    clear hk
    go_wp2_with fail
    refine (uh hdd2).mono ?_
    rintro e w3 ⟨rfl,hw⟩;obtain rfl:w2=w3:=hw.symm
    go_wp2_with fail
    go_ret2
    rw[uh hs,← uh hrun2];exact⟨_,rfl,⟨Gs,uh hgr2⟩,hc2,hk2⟩
   ·rw[if_neg hk] at hrun2
    rw[show (cc.kd != 0)=true by simpa using hk] at hdd2
    have hnil:=Hi ((uh hnl).1 (Classical.byContradiction fun e=>hk ((uh hnl).2 e)))
    clear hk
    go_wp2_with fail
    refine (uh hdd2).mono ?_
    rintro e w3 ⟨rfl,hw⟩;obtain rfl:w2=w3:=hw.symm
    go_wp2_with fail
    go_ret2
    rw[uh hs,← uh hrun2];exact⟨_,rfl,uh hnil,hc2,hk2⟩
  ·have hrun2:=Hi (show (match (dirS L cc).1 with | none=>(none,(dirS L cc).2) | some d=>dirsF L g' (l ++ [d]) (dirS L cc).2)=R from by
    have e:=uh hrun;rw[dirsF,if_pos hQ] at e
    exact e)
   have hgo:=hG cc hcc.ok hQ;have hal:=fun h=>ziH (L:=L) (c:=cc) h
   have hcall:=Hi ((uh hEE) cc hcc.ok (uh hts) (by omega) hQ w2 hc2)
   go_wp2_with fail
   refine (uh hcall).mono ?_
   rintro e w3 ⟨cs,F,rfl,hpo,hc3,hk3⟩;obtain⟨U,hU⟩:∃ U,U=dirS L cc:=⟨_,rfl⟩;rw[← hU] at hrun2 hgo hpo hc3 hal ⊢;obtain⟨r,C⟩:=U;obtain⟨nm,ai,ni,ci,ln,co,rfl⟩:=hpo.shape;clear hcall hU hrun;have HP:=Hi hpo;clear hpo;have HC3:=Hi hc3;have HK3:=Hi hk3;have hz3:=hk3.size
   cases r with
   | none =>
    have hrun3:=Hi (show (none,C)=R from uh hrun2)
    go_wp2_with fail
    go_ret2
    rw[uh hs,← uh hrun3];exact⟨_,rfl,rfl,(uh HC3).below (ba),(hk2.trans (uh HK3)).trans (Kp.of (ba))⟩
   | some d =>
    have hrun3:=Hi (show dirsF L g' (l ++ [d]) C=R from uh hrun2)
    have hix3:cc.ix<C.ix:=hgo.2;have hts3:=hgo.1.ts;have hal3:=Hi (show C.kd=0 from hal rfl)
    have hlt3:=hgo.1.ok.lt;rw[hts3,uh hts] at hlt3;have hgr3:=(uh hgr2).kp (uh HK3) hB;obtain⟨it,zt,q1,q2,q3,q4,q5⟩:=infoDz;have HQ:=Hi (an q1 (an q2 (an q3 (an q4 q5))));clear q1 q2 q3 q4 q5;obtain⟨xss,hr3,hol3,hx3⟩:=hgr3.row;have hr4:=Hi (fun o=>World.ownsRow.alloc hr3 o)
    have hbyt:=Hi (show (l.length+1) * 56≤140737488355328∧l.length+1≤maxLen from ⟨by omega,by unfold maxLen;omega⟩)
    have hsz4:=Hi (fun o=>show w.heap.size≤(w3.alloc o).heap.size from by have:=hz3;have:=b2.size;have:=hkr.size;simp;omega)
    have hone:=Hi ((uh HP).own.one);have HG:=Hi (an hgr3 (an hol3 hx3));have hTS:=Hi hts3;clear hrun2 hgo hts3 hgr3 hr3 hol3 hx3 hal
    go_wp2_with (first
     | (at_builtin;refine dt.zaG (by rfl) _ _ (by rfl) Tryz.underlying56 (uh HQ).1 (uh HQ).2.1 (uh HQ).2.2.1 (uh HQ).2.2.2.1 (uh HQ).2.2.2.2 (by omega) w.heap.size l.length xss.flatten _ (by rfl) ((uh hr4) _) [.string nm,.slice ai ni ci,.int .i64 ln,.int .i64 co] (by rfl) (uh hone) (w3.heap.size+1) (by simp) (by rfl) (uh hbyt).1 (uh hbyt).2 ((uh hsz4) _) ?_;intro sl' w7 hr7 b7 hold7 hat7;have H7:=Hi (an hr7 (an b7 (an hold7 hat7)));clear hr7 b7 hold7 hat7))
    go_roundg g'
    case rel =>
     obtain⟨hr7,b7,hold7,hat7⟩:=uh H7;obtain⟨hgr3,hol3,hx3⟩:=uh HG;have bA:Below w3.heap.size w3 (w3.alloc (.cells #[.string nm,.slice ai ni ci,.int .i64 ln,.int .i64 co] 141)):=ba;have hgr4:=hgr3.keep bA.size (fun b hb _=>bA.block b hb)
     have hown:=fun b (hb:(Value.slice al l.length cl).ownBlock=some b)=>(let ⟨_,hr,_⟩:=(uh hgr2).row;(hr.lt b hb).2)
     have hF3:∀ b ∈ F,w2.heap.size≤b∧b<w3.heap.size:=(uh HP).rng;have hsz:w.heap.size≤w2.heap.size:=hk2.size;have hmore:=hgr4.more (dt.OwL.agree (fun w w' e cs F=>dt.Ow.agree e cs F) (fun b hb j=>dt.zat (bA.block b (hgr3.rng b hb).2) j) hol3) hx3 (zbK (uh HP).own bA (fun b hb=>(hF3 b hb).2)) (uh HP).nodup (fun b hb=>⟨by have:=(hF3 b hb).1;omega,by have:=(hF3 b hb).2;have:=bA.size;omega,fun hm=>by have:=((uh hgr2).rng b hm).2;have:=(hF3 b hb).1;omega,fun e=>by have:=hown b e;have:=(hF3 b hb).1;omega⟩) (by rfl) hr7 (by have:=(hr7.lt);have:=b7.size;exact this) hold7 hat7
     have hBs:B<w3.heap.size:=by omega
     have hCA:=(uh HC3).below bA;refine⟨l ++ [d],C,Gs ++ F,hrun3,?_,Hi hmore,?_,Hi ((uh hTS).trans (uh hts)),by omega,by rw[List.length_append];simp;omega,Hi ⟨fun e=>by simp at e,fun _=>uh hal3⟩⟩
     ·exact hCA.low b7 hB hp
     ·exact ((hk2.trans (uh HK3)).trans (Kp.of bA)).low b7
    case measure=>exact Nat.lt_succ_self _
structure Wds (w:World) (b n c:Nat) (ws:List ByteArray):Prop where
 len:ws.length=n
 le:n≤c
 lt:b<w.heap.size
 at_:∀ i,i<n→w.cell? ⟨b,i,none⟩=some (.string (ws.getD i em))
theorem Wds.below {w w':World} {b n c:Nat} {ws:List ByteArray} (h:Wds w b n c ws) (hb:Below w.heap.size w w'):Wds w' b n c ws:=
 ⟨h.len,h.le,Nat.lt_of_lt_of_le h.lt hb.size,fun i hi=>(hb.cell (p:=⟨b,i,none⟩) h.lt).trans (h.at_ i hi)⟩
def inW (ws:List ByteArray) (s:ByteArray):Bool:=ws.any (fun x=>decide (x=s))
theorem zlz (b n c:Nat) (ws:List ByteArray) (s:ByteArray) (w:World) (h:Wds w b n c ws) (hn:n≤1048576) :
  Calls Tryz.prog 105 #[.slice (some ⟨b,0,none⟩) n c,.string s] w fun e w'=>∃ i:Int,e = .returned (.int .i64 i)∧decide (0≤i)=inW ws s∧w'=w:=by
 have HL:=Hi h.len
 go_enter Tryz.func105,Tryz.ntmps105
 go_wp2_with fail
 go_loopw [8] (fun i wr=>∃ k:Nat,k≤n∧i = .int .i64 k∧w=wr∧Hid (∀ j,j<k→ws.getD j em ≠ s)) (fun i _=>n - (intOf i).toNat)
 case atStart=>exact⟨0,Nat.zero_le _,rfl,rfl,Hi (fun j hj=>by omega)⟩
 case round =>
  obtain⟨k,hk,rfl,rfl,hno⟩:=hrel
  by_cases hlt:k<n
  ·have ki:(k:Int)<(n:Int):=by omega
   have c1:=h.at_ k hlt
   by_cases he:ws.getD k em=s
   ·have hin:=Hi (show inW ws s=true from by
     unfold inW;have hkl:k<ws.length:=by rw[uh HL];exact hlt
     rw[List.any_eq_true];refine⟨ws[k],List.getElem_mem hkl,?_⟩
     rw[List.getD_eq_getElem?_getD,List.getElem?_eq_getElem hkl] at he
     exact decide_eq_true he)
    rw[he] at c1;clear he
    go_wp2_with fail
    go_ret
    exact⟨k,rfl,by rw[uh hin];simp,rfl⟩
   ·have hb:(s.toList == (ws.getD k em).toList)=false:=zoE (fun e=>he e.symm)
    have He:=Hi he;obtain⟨x,hx⟩:∃ x,x=ws.getD k em:=⟨_,rfl⟩;rw[← hx] at c1 hb;clear he hx
    go_wp2_with fail
    refine⟨⟨k+1,by omega,by first | rfl | go_num,trivial,Hi (fun j hj=>?_)⟩,by simp only[intOf];omega⟩
    by_cases e:j=k
    ·rw[e];exact uh He
    ·exact uh hno j (by omega)
  ·obtain rfl:k=n:=by omega
   have ki:¬ (k:Int)<(k:Int):=by omega
   have hin:=Hi (show inW ws s=false from by
    unfold inW;rw[← Bool.not_eq_true,List.any_eq_true];rintro ⟨x,hm,hx⟩;obtain⟨j,hj,rfl⟩:=List.mem_iff_getElem.1 hm
    apply uh hno j (by rw[← uh HL];exact hj)
    rw[List.getD_eq_getElem?_getD,List.getElem?_eq_getElem hj]
    exact of_decide_eq_true hx)
   go_wp2_with fail
   go_ret
   exact⟨-1,rfl,by rw[uh hin];rfl,rfl⟩
theorem zb1 (b n c:Nat) (ws:List ByteArray) (s:ByteArray) (w:World) (h:Wds w b n c ws) (hn:n≤1048576) :
  Calls Tryz.prog 84 #[.slice (some ⟨b,0,none⟩) n c,.string s] w fun e w'=>e = .returned (.bool (inW ws s))∧w'=w:=by
 have hi:=Hi (zlz b n c ws s w h hn)
 go_enter Tryz.func84,Tryz.ntmps84
 go_wp2_with fail
 refine (uh hi).mono ?_
 rintro e w1 ⟨i,rfl,hd,rfl⟩;clear hi;have Hd:=Hi hd;clear hd
 go_wp2_with fail
 go_ret
 exact⟨by rw[← uh Hd];rfl,rfl⟩
def _root_.Go.Proofs.YtifbkdicglcogaaGreat.cu.Cu.isW (c:Cu) (ws:List ByteArray):Bool:=c.isN && inW ws c.tok.tx
theorem zgo (B p:Nat) (c:Cu) (b n cp:Nat) (ws:List ByteArray) (w:World) (h:CurAt w B p c) (hw:Wds w b n cp ws) (hn:n≤1048576) :
  Calls Tryz.prog 72 #[ptr B,.slice (some ⟨b,0,none⟩) n cp] w fun e w'=>e = .returned (.bool (c.isW ws))∧Below w.heap.size w w':=by
 have hi:=Hi (zem B p c w h);have ht:=Hi (fun W (bb:Below w.heap.size w W)=>zaZ B p c W (h.below bb))
 have hc:=Hi (fun W (bb:Below w.heap.size w W) s=>zb1 b n cp ws s W (hw.below bb) hn)
 have hf1:=zdX c.tok;unfold Cu.isW;obtain⟨t,et⟩:∃ t,t=c.tok:=⟨_,rfl⟩;rw[← et] at ht hf1 ⊢;clear h hw et;unfold Tk.cells at ht;unfold ptr at hi ht ⊢
 cases hN:c.isN
 ·rw[hN] at hi
  go_enter Tryz.func72,Tryz.ntmps72
  go_wp2_with fail
  refine (uh hi).mono ?_
  rintro e w1 ⟨rfl,b1⟩
  go_wp2_with fail
  go_ret
  exact⟨rfl,b1⟩
 ·rw[hN] at hi
  obtain⟨R,hR⟩:∃ R,R=inW ws t.tx:=⟨_,rfl⟩;have hc2:=Hi (fun W (bb:Below w.heap.size w W)=>(uh hc) W bb t.tx)
  rw[← hR] at hc2 ⊢;clear hR hc
  go_enter Tryz.func72,Tryz.ntmps72
  go_wp2_with fail
  refine (uh hi).mono ?_
  rintro e w1 ⟨rfl,b1⟩
  go_wp2_with fail
  refine ((uh ht) w1 b1).mono ?_
  rintro e w2 ⟨rfl,b2⟩;have b12:=b1.trans (b2.mono b1.size)
  go_wp2_with fail
  refine ((uh hc2) w2 b12).mono ?_
  rintro e w3 ⟨rfl,hw3⟩;obtain rfl:w2=w3:=hw3.symm
  cases R
  ·go_wp2_with fail
   go_ret
   exact⟨rfl,b12⟩
  ·go_wp2_with fail
   go_ret
   exact⟨rfl,b12⟩
end Go.Proofs.YtifbkdicglcogaaGreat.cu
