import Derived.Test.YtepmbmbnlmbhhaaGreatPla19
set_option linter.unusedVariables false
set_option linter.unusedSimpArgs false
set_option maxHeartbeats 16000000
set_option maxRecDepth 8000
open Go.Proofs.Tryz
namespace Go.Proofs.YtepmbmbnlmbhhaaGreat
open Go.ChangeShapes Go.WideShapes Go.ChangeAt Go.RowKit
namespace cu
open ints (Hi uh)
open dt (Dt Kp RowAt Ow Grow OwIn)
open mem (Row)
theorem zil:∀ (f:Nat) (d e:Dt),EqL true f d e→SmAt true d e
 | 0,d,e,h=>h.elim
 | f+1,d,e,h=>by
  obtain⟨k,tx,bl,its,its',fls,fls',ln,co,ln',co',rfl,rfl,hpl,hil,hfl,hI,hF⟩:=h;intro w cs ds F G how how' hFw hGw;obtain⟨ai,n1,ci,af,n2,cf,rfl,hn1,hn2,l1,l2,l3,l4,hit,hft⟩:=zeF how;obtain⟨ai',n1',ci',af',n2',cf',rfl,hn1',hn2',l1',l2',l3',l4',hit',hft'⟩:=zeF how';obtain rfl:n1=n1':=by omega
  obtain rfl:n2=n2':=by omega
  have Hn:=Hi (an (an hn1 hn1') (an hn2 hn2'));clear hn1 hn1' hn2 hn2' hil hfl;have ih:=Hi (fun d e hd=>zil f d e hd)
  have HI:=Hi hI;have HFl:=Hi hF;have Hit:=Hi hit;have Hft:=Hi hft;have Hit':=Hi hit';have Hft':=Hi hft';have HW:=Hi hFw;have HW':=Hi hGw;clear hI hF hit hft hit' hft' hFw hGw how how';unfold maxLen at l3 l4 l3' l4';obtain⟨vc,hvc⟩:∃ vc:Array Value,vc = #[.int .i64 k,.string tx,.bool bl,.slice ai n1 ci,.slice af n2 cf,.int .i64 ln,.int .i64 co]:=⟨_,rfl⟩;obtain⟨uc,huc⟩:∃ uc:Array Value,uc = #[.int .i64 k,.string tx,.bool bl,.slice ai' n1 ci',.slice af' n2 cf',.int .i64 ln',.int .i64 co']:=⟨_,rfl⟩
  obtain⟨rfl,rfl⟩:=hpl rfl
  go_enter func8,ntmps8
  go_wp2_with fail
  obtain⟨w0,hw0⟩:∃ w0,w0=(w.alloc (.cells #[.int .i64 k,.string tx,.bool bl,.slice ai n1 ci,.slice af n2 cf,.int .i64 ln,.int .i64 co] 33)).alloc (.cells #[.int .i64 k,.string tx,.bool bl,.slice ai' n1 ci',.slice af' n2 cf',.int .i64 ln,.int .i64 co] 33):=⟨_,rfl⟩
  have HV0:=Hi (show SmI w w0 vc uc from by
   rw[hw0,hvc,huc];refine⟨(ba).alloc (by simp) _,(Below.heap_alloc _ _ w.heap.size (by simp)).trans (heap_alloc_new w _),?_⟩
   have:=heap_alloc_new (w.alloc (.cells #[.int .i64 k,.string tx,.bool bl,.slice ai n1 ci,.slice af n2 cf,.int .i64 ln,.int .i64 co] 33)) (.cells #[.int .i64 k,.string tx,.bool bl,.slice ai' n1 ci',.slice af' n2 cf',.int .i64 ln,.int .i64 co] 33)
   simpa using this)
  rw[←hw0];clear hw0
  go_loopw [7] (fun i wr=>∃ j:Nat,j≤n1∧i = .int .i64 j∧SmI w wr vc uc) (fun i _=>n1-(intOf i).toNat)
  case atStart=>exact⟨0,Nat.zero_le _,rfl,uh HV0⟩
  case round =>
   obtain⟨j,hj,rfl,hI⟩:=hrel;have d3:wr.cell? ⟨w.heap.size,3,none⟩=some (.slice ai n1 ci):=(zG hI.v 3).trans (by rw[hvc];rfl)
   have u3:wr.cell? ⟨w.heap.size+1,3,none⟩=some (.slice ai' n1 ci'):=(zG hI.u 3).trans (by rw[huc];rfl)
   by_cases hlt:j<n1
   ·have ji:(j:Int)<(n1:Int):=by omega
    have hlt1:j<its.length:=by have:=uh Hn;omega
    have hlt2:j<its'.length:=by have:=uh Hn;omega
    obtain⟨p,ds,G1,rfl,hpF,hrow,hdl,hod,hGF⟩:=(uh Hit) j _ (List.getElem?_eq_getElem hlt1)
    obtain⟨p',ds',G2,rfl,hpF',hrow',hdl',hod',hGF'⟩:=(uh Hit') j _ (List.getElem?_eq_getElem hlt2)
    have heq:=(uh HI) j _ _ (List.getElem?_eq_getElem hlt1) (List.getElem?_eq_getElem hlt2)
    obtain⟨e1,he1⟩:∃ e,e=its[j]:=⟨_,rfl⟩;obtain⟨e2,he2⟩:∃ e,e=its'[j]:=⟨_,rfl⟩;rw[←he1,←he2] at heq;rw[←he1] at hod;rw[←he2] at hod';clear he1 he2
    have hshp:LShape ds∧LShape ds':=by
     obtain⟨_,_,_,_,_,_,_,h1⟩:=heq.left;obtain⟨_,_,_,_,_,_,_,h2⟩:=heq.right;rw[h1] at hod;rw[h2] at hod';exact⟨zeH hod,zeH hod'⟩
    obtain⟨⟨k1,tx1,bl1,ai1,ni1,ci1,af1,nf1,cf1,ln1,co1,rfl⟩,⟨k2,tx2,bl2,ai2,ni2,ci2,af2,nf2,cf2,ln2,co2,rfl⟩⟩:=hshp;have hov:=hod;have hov':=hod';have hplt:=(uh HW) p hpF;have hplt':=(uh HW') p' hpF';have hr:=fun (q:Nat) (u:Value) hu=>(hI.bel.cell (p:=⟨p,j * 7+q,none⟩) hplt).trans (hrow q u hu)
    have hr':=fun (q:Nat) (u:Value) hu=>(hI.bel.cell (p:=⟨p',j * 7+q,none⟩) hplt').trans (hrow' q u hu)
    have m0:wr.cell? ⟨p,j * 7,none⟩=some (.int .i64 k1):=hr 0 _ rfl;have m1:wr.cell? ⟨p,j * 7+1,none⟩=some (.string tx1):=hr 1 _ rfl;have m2:wr.cell? ⟨p,j * 7+2,none⟩=some (.bool bl1):=hr 2 _ rfl;have m3:wr.cell? ⟨p,j * 7+3,none⟩=some (.slice ai1 ni1 ci1):=hr 3 _ rfl;have m4:wr.cell? ⟨p,j * 7+4,none⟩=some (.slice af1 nf1 cf1):=hr 4 _ rfl;have m5:wr.cell? ⟨p,j * 7+5,none⟩=some (.int .i64 ln1):=hr 5 _ rfl
    have m6:wr.cell? ⟨p,j * 7+6,none⟩=some (.int .i64 co1):=hr 6 _ rfl;have n0:wr.cell? ⟨p',j * 7,none⟩=some (.int .i64 k2):=hr' 0 _ rfl;have n1:wr.cell? ⟨p',j * 7+1,none⟩=some (.string tx2):=hr' 1 _ rfl;have n2:wr.cell? ⟨p',j * 7+2,none⟩=some (.bool bl2):=hr' 2 _ rfl;have n3:wr.cell? ⟨p',j * 7+3,none⟩=some (.slice ai2 ni2 ci2):=hr' 3 _ rfl;have n4:wr.cell? ⟨p',j * 7+4,none⟩=some (.slice af2 nf2 cf2):=hr' 4 _ rfl
    have n5:wr.cell? ⟨p',j * 7+5,none⟩=some (.int .i64 ln2):=hr' 5 _ rfl;have n6:wr.cell? ⟨p',j * 7+6,none⟩=some (.int .i64 co2):=hr' 6 _ rfl;have hC:=Hi (fun W (hb:Below w.heap.size w W)=>(uh ih) e1 e2 heq W [Value.int .i64 k1,.string tx1,.bool bl1,.slice ai1 ni1 ci1,.slice af1 nf1 cf1,.int .i64 ln1,.int .i64 co1] [Value.int .i64 k2,.string tx2,.bool bl2,.slice ai2 ni2 ci2,.slice af2 nf2 cf2,.int .i64 ln2,.int .i64 co2] G1 G2 (dt.Ow.agree e1 _ G1 (fun b hb' o=>hb.cell (p:=⟨b,o,none⟩) ((uh HW) b (hGF b hb'))) hov) (dt.Ow.agree e2 _ G2 (fun b hb' o=>hb.cell (p:=⟨b,o,none⟩) ((uh HW') b (hGF' b hb'))) hov') (fun b hb'=>Nat.lt_of_lt_of_le ((uh HW) b (hGF b hb')) hb.size) (fun b hb'=>Nat.lt_of_lt_of_le ((uh HW') b (hGF' b hb')) hb.size))
    have hs0:w.heap.size<wr.heap.size:=by
     rcases Nat.lt_or_ge w.heap.size wr.heap.size with g | g
     ·exact g
     ·have:=hI.v;rw[Array.getElem?_eq_none g] at this;cases this
    have hs1:w.heap.size+1<wr.heap.size:=by
     rcases Nat.lt_or_ge (w.heap.size+1) wr.heap.size with g | g
     ·exact g
     ·have:=hI.u;rw[Array.getElem?_eq_none g] at this;cases this
    have hq1:p<wr.heap.size:=by omega
    have hq2:p'<wr.heap.size:=by omega
    clear hr hr' hrow hrow' hov hov' heq hdl hdl'
    go_wp2_with fail
    have hS0:Below wr.heap.size wr { wr with drawn:=wr.drawn+1 }:=(Below.refl _ _).drew
    have bD:=hI.bel.trans (hS0.mono hI.bel.size);refine wp_region_noPanic ?_
    refine wp_region_held (S:=fun w'=>Below wr.heap.size wr w') mixed ?_
    refine rgn.u 0 (v:=?v1) ?h1 hS0 ?_
    case h1=>(intro w' hw';go_simp;try with_reducible rfl)
    simp only[zA,zB,zC,Act.put,zD,zE,zF];refine rgn.u 1 (v:=?v2) ?h2 hS0 ?_
    case h2=>(intro w' hw';have d3':=(hw'.cell (p:=⟨w.heap.size,3,none⟩) hs0).trans d3;go_simp;try with_reducible rfl)
    simp only[zA,zB,zC,Act.put,zD,zE,zF];refine rgn.u 2 (v:=?v3) ?h3 hS0 ?_
    case h3=>(intro w' hw';go_simp;try with_reducible rfl)
    simp only[zA,zB,zC,Act.put,zD,zE,zF];refine rgn.u 3 (v:=?v4) ?h4 hS0 ?_
    case h4=>(intro w' hw';go_simp;try with_reducible rfl)
    simp only[zA,zB,zC,Act.put,zD,zE,zF];refine rgn.u 4 (v:=?v5) ?h5 hS0 ?_
    case h5=>(intro w' hw';have m0':=(hw'.cell (p:=⟨p,j * 7,none⟩) hq1).trans m0;have m1':=(hw'.cell (p:=⟨p,j * 7+1,none⟩) hq1).trans m1;have m2':=(hw'.cell (p:=⟨p,j * 7+2,none⟩) hq1).trans m2;have m3':=(hw'.cell (p:=⟨p,j * 7+3,none⟩) hq1).trans m3;have m4':=(hw'.cell (p:=⟨p,j * 7+4,none⟩) hq1).trans m4;have m5':=(hw'.cell (p:=⟨p,j * 7+5,none⟩) hq1).trans m5;have m6':=(hw'.cell (p:=⟨p,j * 7+6,none⟩) hq1).trans m6;go_simp;try with_reducible rfl)
    simp only[zA,zB,zC,Act.put,zD,zE,zF];refine rgn.u 5 (v:=?v6) ?h6 hS0 ?_
    case h6=>(intro w' hw';go_simp;try with_reducible rfl)
    simp only[zA,zB,zC,Act.put,zD,zE,zF];refine rgn.u 6 (v:=?v7) ?h7 hS0 ?_
    case h7=>(intro w' hw';have u3':=(hw'.cell (p:=⟨w.heap.size+1,3,none⟩) hs1).trans u3;go_simp;try with_reducible rfl)
    simp only[zA,zB,zC,Act.put,zD,zE,zF];refine rgn.u 7 (v:=?v8) ?h8 hS0 ?_
    case h8=>(intro w' hw';go_simp;try with_reducible rfl)
    simp only[zA,zB,zC,Act.put,zD,zE,zF];refine rgn.u 8 (v:=?v9) ?h9 hS0 ?_
    case h9=>(intro w' hw';go_simp;try with_reducible rfl)
    simp only[zA,zB,zC,Act.put,zD,zE,zF];refine rgn.u 9 (v:=?v10) ?h10 hS0 ?_
    case h10=>(intro w' hw';have n0':=(hw'.cell (p:=⟨p',j * 7,none⟩) hq2).trans n0;have n1':=(hw'.cell (p:=⟨p',j * 7+1,none⟩) hq2).trans n1;have n2':=(hw'.cell (p:=⟨p',j * 7+2,none⟩) hq2).trans n2;have n3':=(hw'.cell (p:=⟨p',j * 7+3,none⟩) hq2).trans n3;have n4':=(hw'.cell (p:=⟨p',j * 7+4,none⟩) hq2).trans n4;have n5':=(hw'.cell (p:=⟨p',j * 7+5,none⟩) hq2).trans n5;have n6':=(hw'.cell (p:=⟨p',j * 7+6,none⟩) hq2).trans n6;go_simp;try with_reducible rfl)
    simp only[zA,zB,zC,Act.put,zD,zE,zF];refine rgn.u 10 (v:=?v11) ?h11 hS0 ?_
    case h11=>(intro w' hw';go_simp;try with_reducible rfl)
    simp only[zA,zB,zC,Act.put,zD,zE,zF];refine rgn.one (i:=11) _ rfl (by kernel_rfl) (by rfl) ?_
    simp only[zA,zB,zC,Act.put,zD,zE,zF]
    go_wp2_with fail
    refine ((uh hC) _ bD).mono ?_
    rintro e' w2 ⟨rfl,b2⟩;have b02:Below wr.heap.size wr w2:=hS0.trans b2;refine⟨b02,?_⟩
    clear hS0 b2 bD;have hS0:=b02
    try simp only[zA,zB,zC,Act.put,zD,zE,zF]
    refine rgn.take (i:=12) _ (.bool true) rfl (by kernel_rfl) (by kernel_rfl) (by kernel_rfl) (fun _ _ _ h=>h) (by rfl) hS0 (fun w' hw'=>by go_simp) ?_
    simp only[zA,zB,zC,Act.put,zD,zE,zF];refine wpAnyH_done (by kernel_rfl) ?_ _;refine NoPanic.normal ?_
    have hI2:=hI.more b02;clear m0 m1 m2 m3 m4 m5 m6 n0 n1 n2 n3 n4 n5 n6 d3 u3 hC hS0
    go_wp2_with fail
    go_roundw
    case rel=>exact⟨j+1,by omega,by go_num,hI2⟩
    case measure=>first | (simp[intOf];omega) | simp[intOf]
   ·have ji:¬(j:Int)<(n1:Int):=by omega
    have hI9:=Hi hI;clear hlt
    go_wp2_with fail
    have HV0:=hI9;clear d3 u3
    go_loopw [9] (fun i wr=>∃ j:Nat,j≤n2∧i = .int .i64 j∧SmI w wr vc uc) (fun i _=>n2-(intOf i).toNat)
    case atStart=>exact⟨0,Nat.zero_le _,rfl,uh HV0⟩
    case round =>
     obtain⟨j,hj,rfl,hI⟩:=hrel;have d3:wr.cell? ⟨w.heap.size,4,none⟩=some (.slice af n2 cf):=(zG hI.v 4).trans (by rw[hvc];rfl)
     have u3:wr.cell? ⟨w.heap.size+1,4,none⟩=some (.slice af' n2 cf'):=(zG hI.u 4).trans (by rw[huc];rfl)
     by_cases hlt:j<n2
     ·have ji:(j:Int)<(n2:Int):=by omega
      have hlt1:j<fls.length:=by have:=uh Hn;omega
      have hlt2:j<fls'.length:=by have:=uh Hn;omega
      obtain⟨p,ds,G1,rfl,hpF,hrow,hdl,hod,hGF⟩:=(uh Hft) j _ (List.getElem?_eq_getElem hlt1)
      obtain⟨p',ds',G2,rfl,hpF',hrow',hdl',hod',hGF'⟩:=(uh Hft') j _ (List.getElem?_eq_getElem hlt2)
      obtain⟨nm,e1,e2,x1,y1,x2,y2,hx,hy,hxy,heq⟩:=(uh HFl) j _ _ (List.getElem?_eq_getElem hlt1) (List.getElem?_eq_getElem hlt2)
      rw[hx] at hod;rw[hy] at hod'
      have hshp:∃ k1 tx1 bl1 ai1 ni1 ci1 af1 nf1 cf1 ln1 co1 k2 tx2 bl2 ai2 ni2 ci2 af2 nf2 cf2 ln2 co2,ds=[.string nm,.int .i64 k1,.string tx1,.bool bl1,.slice ai1 ni1 ci1,.slice af1 nf1 cf1,.int .i64 ln1,.int .i64 co1,.int .i64 x1,.int .i64 y1]∧ds'=[.string nm,.int .i64 k2,.string tx2,.bool bl2,.slice ai2 ni2 ci2,.slice af2 nf2 cf2,.int .i64 ln2,.int .i64 co2,.int .i64 x2,.int .i64 y2]∧Ow w e1 [.int .i64 k1,.string tx1,.bool bl1,.slice ai1 ni1 ci1,.slice af1 nf1 cf1,.int .i64 ln1,.int .i64 co1] G1∧Ow w e2 [.int .i64 k2,.string tx2,.bool bl2,.slice ai2 ni2 ci2,.slice af2 nf2 cf2,.int .i64 ln2,.int .i64 co2] G2:=by
       obtain⟨k1,tx1,bl1,i1,f1,ln1,co1,h1⟩:=heq.left;obtain⟨k2,tx2,bl2,i2,f2,ln2,co2,h2⟩:=heq.right;rw[h1] at hod;rw[h2] at hod';obtain⟨a1,a2,a3,a4,a5,a6,q1,q2⟩:=zbI hod;obtain⟨b1,b2,b3,b4,b5,b6,r1,r2⟩:=zbI hod';rw[←h1] at q2;rw[←h2] at r2;exact⟨k1,tx1,bl1,a1,a2,a3,a4,a5,a6,ln1,co1,k2,tx2,bl2,b1,b2,b3,b4,b5,b6,ln2,co2,q1,r1,q2,r2⟩
      obtain⟨k1,tx1,bl1,ai1,ni1,ci1,af1,nf1,cf1,ln1,co1,k2,tx2,bl2,ai2,ni2,ci2,af2,nf2,cf2,ln2,co2,rfl,rfl,hov,hov'⟩:=hshp;obtain⟨rfl,rfl⟩:=hxy (by first | rfl | trivial)
      clear hod hod' hx hy;have hplt:=(uh HW) p hpF;have hplt':=(uh HW') p' hpF';have hr:=fun (q:Nat) (u:Value) hu=>(hI.bel.cell (p:=⟨p,j * 10+q,none⟩) hplt).trans (hrow q u hu)
      have hr':=fun (q:Nat) (u:Value) hu=>(hI.bel.cell (p:=⟨p',j * 10+q,none⟩) hplt').trans (hrow' q u hu)
      have mN:wr.cell? ⟨p,j * 10,none⟩=some (.string nm):=hr 0 _ rfl;have m0:wr.cell? ⟨p,j * 10+1,none⟩=some (.int .i64 k1):=hr 1 _ rfl;have m1:wr.cell? ⟨p,j * 10+2,none⟩=some (.string tx1):=hr 2 _ rfl;have m2:wr.cell? ⟨p,j * 10+3,none⟩=some (.bool bl1):=hr 3 _ rfl;have m3:wr.cell? ⟨p,j * 10+4,none⟩=some (.slice ai1 ni1 ci1):=hr 4 _ rfl;have m4:wr.cell? ⟨p,j * 10+5,none⟩=some (.slice af1 nf1 cf1):=hr 5 _ rfl
      have m5:wr.cell? ⟨p,j * 10+6,none⟩=some (.int .i64 ln1):=hr 6 _ rfl;have m6:wr.cell? ⟨p,j * 10+7,none⟩=some (.int .i64 co1):=hr 7 _ rfl;have m8:wr.cell? ⟨p,j * 10+8,none⟩=some (.int .i64 x1):=hr 8 _ rfl;have m9:wr.cell? ⟨p,j * 10+9,none⟩=some (.int .i64 y1):=hr 9 _ rfl;have nN:wr.cell? ⟨p',j * 10,none⟩=some (.string nm):=hr' 0 _ rfl;have n0:wr.cell? ⟨p',j * 10+1,none⟩=some (.int .i64 k2):=hr' 1 _ rfl
      have n1:wr.cell? ⟨p',j * 10+2,none⟩=some (.string tx2):=hr' 2 _ rfl;have n2:wr.cell? ⟨p',j * 10+3,none⟩=some (.bool bl2):=hr' 3 _ rfl;have n3:wr.cell? ⟨p',j * 10+4,none⟩=some (.slice ai2 ni2 ci2):=hr' 4 _ rfl;have n4:wr.cell? ⟨p',j * 10+5,none⟩=some (.slice af2 nf2 cf2):=hr' 5 _ rfl;have n5:wr.cell? ⟨p',j * 10+6,none⟩=some (.int .i64 ln2):=hr' 6 _ rfl
      have n6:wr.cell? ⟨p',j * 10+7,none⟩=some (.int .i64 co2):=hr' 7 _ rfl;have n8:wr.cell? ⟨p',j * 10+8,none⟩=some (.int .i64 x1):=hr' 8 _ rfl;have n9:wr.cell? ⟨p',j * 10+9,none⟩=some (.int .i64 y1):=hr' 9 _ rfl;have hC:=Hi (fun W (hb:Below w.heap.size w W)=>(uh ih) e1 e2 heq W [Value.int .i64 k1,.string tx1,.bool bl1,.slice ai1 ni1 ci1,.slice af1 nf1 cf1,.int .i64 ln1,.int .i64 co1] [Value.int .i64 k2,.string tx2,.bool bl2,.slice ai2 ni2 ci2,.slice af2 nf2 cf2,.int .i64 ln2,.int .i64 co2] G1 G2 (dt.Ow.agree e1 _ G1 (fun b hb' o=>hb.cell (p:=⟨b,o,none⟩) ((uh HW) b (hGF b hb'))) hov) (dt.Ow.agree e2 _ G2 (fun b hb' o=>hb.cell (p:=⟨b,o,none⟩) ((uh HW') b (hGF' b hb'))) hov') (fun b hb'=>Nat.lt_of_lt_of_le ((uh HW) b (hGF b hb')) hb.size) (fun b hb'=>Nat.lt_of_lt_of_le ((uh HW') b (hGF' b hb')) hb.size))
      have hs0:w.heap.size<wr.heap.size:=by
       rcases Nat.lt_or_ge w.heap.size wr.heap.size with g | g
       ·exact g
       ·have:=hI.v;rw[Array.getElem?_eq_none g] at this;cases this
      have hs1:w.heap.size+1<wr.heap.size:=by
       rcases Nat.lt_or_ge (w.heap.size+1) wr.heap.size with g | g
       ·exact g
       ·have:=hI.u;rw[Array.getElem?_eq_none g] at this;cases this
      have hq1:p<wr.heap.size:=by omega
      have hq2:p'<wr.heap.size:=by omega
      clear hr hr' hrow hrow' hov hov' heq hdl hdl'
      go_wp2_with fail
      have hS0:Below wr.heap.size wr { wr with drawn:=wr.drawn+1 }:=(Below.refl _ _).drew
      have bD:=hI.bel.trans (hS0.mono hI.bel.size);refine wp_region_noPanic ?_
      refine wp_region_held (S:=fun w'=>Below wr.heap.size wr w') mixed ?_
      refine rgn.u 0 (v:=?v12) ?h12 hS0 ?_
      case h12=>(intro w' hw';go_simp;try with_reducible rfl)
      simp only[zA,zB,zC,Act.put,zD,zE,zF];refine rgn.u 1 (v:=?v13) ?h13 hS0 ?_
      case h13=>(intro w' hw';have d3':=(hw'.cell (p:=⟨w.heap.size,4,none⟩) hs0).trans d3;go_simp;try with_reducible rfl)
      simp only[zA,zB,zC,Act.put,zD,zE,zF];refine rgn.u 2 (v:=?v14) ?h14 hS0 ?_
      case h14=>(intro w' hw';go_simp;try with_reducible rfl)
      simp only[zA,zB,zC,Act.put,zD,zE,zF];refine rgn.u 3 (v:=?v15) ?h15 hS0 ?_
      case h15=>(intro w' hw';go_simp;try with_reducible rfl)
      simp only[zA,zB,zC,Act.put,zD,zE,zF];refine rgn.u 4 (v:=?v16) ?h16 hS0 ?_
      case h16=>(intro w' hw';go_simp;try with_reducible rfl)
      simp only[zA,zB,zC,Act.put,zD,zE,zF];refine rgn.u 5 (v:=?v17) ?h17 hS0 ?_
      case h17=>(intro w' hw';have m0':=(hw'.cell (p:=⟨p,j * 10+1,none⟩) hq1).trans m0;have m1':=(hw'.cell (p:=⟨p,j * 10+2,none⟩) hq1).trans m1;have m2':=(hw'.cell (p:=⟨p,j * 10+3,none⟩) hq1).trans m2;have m3':=(hw'.cell (p:=⟨p,j * 10+4,none⟩) hq1).trans m3;have m4':=(hw'.cell (p:=⟨p,j * 10+5,none⟩) hq1).trans m4;have m5':=(hw'.cell (p:=⟨p,j * 10+6,none⟩) hq1).trans m5;have m6':=(hw'.cell (p:=⟨p,j * 10+7,none⟩) hq1).trans m6;go_simp;try with_reducible rfl)
      simp only[zA,zB,zC,Act.put,zD,zE,zF];refine rgn.u 6 (v:=?v18) ?h18 hS0 ?_
      case h18=>(intro w' hw';go_simp;try with_reducible rfl)
      simp only[zA,zB,zC,Act.put,zD,zE,zF];refine rgn.u 7 (v:=?v19) ?h19 hS0 ?_
      case h19=>(intro w' hw';have u3':=(hw'.cell (p:=⟨w.heap.size+1,4,none⟩) hs1).trans u3;go_simp;try with_reducible rfl)
      simp only[zA,zB,zC,Act.put,zD,zE,zF];refine rgn.u 8 (v:=?v20) ?h20 hS0 ?_
      case h20=>(intro w' hw';go_simp;try with_reducible rfl)
      simp only[zA,zB,zC,Act.put,zD,zE,zF];refine rgn.u 9 (v:=?v21) ?h21 hS0 ?_
      case h21=>(intro w' hw';go_simp;try with_reducible rfl)
      simp only[zA,zB,zC,Act.put,zD,zE,zF];refine rgn.u 10 (v:=?v22) ?h22 hS0 ?_
      case h22=>(intro w' hw';go_simp;try with_reducible rfl)
      simp only[zA,zB,zC,Act.put,zD,zE,zF];refine rgn.u 11 (v:=?v23) ?h23 hS0 ?_
      case h23=>(intro w' hw';have n0':=(hw'.cell (p:=⟨p',j * 10+1,none⟩) hq2).trans n0;have n1':=(hw'.cell (p:=⟨p',j * 10+2,none⟩) hq2).trans n1;have n2':=(hw'.cell (p:=⟨p',j * 10+3,none⟩) hq2).trans n2;have n3':=(hw'.cell (p:=⟨p',j * 10+4,none⟩) hq2).trans n3;have n4':=(hw'.cell (p:=⟨p',j * 10+5,none⟩) hq2).trans n4;have n5':=(hw'.cell (p:=⟨p',j * 10+6,none⟩) hq2).trans n5;have n6':=(hw'.cell (p:=⟨p',j * 10+7,none⟩) hq2).trans n6;go_simp;try with_reducible rfl)
      simp only[zA,zB,zC,Act.put,zD,zE,zF];refine rgn.u 12 (v:=?v24) ?h24 hS0 ?_
      case h24=>(intro w' hw';go_simp;try with_reducible rfl)
      simp only[zA,zB,zC,Act.put,zD,zE,zF];refine rgn.one (i:=13) _ rfl (by kernel_rfl) (by rfl) ?_
      simp only[zA,zB,zC,Act.put,zD,zE,zF]
      go_wp2_with fail
      refine ((uh hC) _ bD).mono ?_
      rintro e' w2 ⟨rfl,b2⟩;have b02:Below wr.heap.size wr w2:=hS0.trans b2;refine⟨b02,?_⟩
      clear hS0 b2 bD;have hS0:=b02
      try simp only[zA,zB,zC,Act.put,zD,zE,zF]
      refine rgn.take (i:=14) _ (.bool true) rfl (by kernel_rfl) (by kernel_rfl) (by kernel_rfl) (fun _ _ _ h=>h) (by rfl) hS0 (fun w' hw'=>by go_simp) ?_
      simp only[zA,zB,zC,Act.put,zD,zE,zF];refine wpAnyH_done (by kernel_rfl) ?_ _;refine NoPanic.normal ?_
      have hI2:=hI.more b02;have d3x:=(b02.cell (p:=⟨w.heap.size,4,none⟩) hs0).trans d3;have u3x:=(b02.cell (p:=⟨w.heap.size+1,4,none⟩) hs1).trans u3;have mNx:=(b02.cell (p:=⟨p,j * 10,none⟩) hq1).trans mN;have nNx:=(b02.cell (p:=⟨p',j * 10,none⟩) hq2).trans nN;have m8x:=(b02.cell (p:=⟨p,j * 10+8,none⟩) hq1).trans m8;have n8x:=(b02.cell (p:=⟨p',j * 10+8,none⟩) hq2).trans n8
      have m9x:=(b02.cell (p:=⟨p,j * 10+9,none⟩) hq1).trans m9;have n9x:=(b02.cell (p:=⟨p',j * 10+9,none⟩) hq2).trans n9;clear m0 m1 m2 m3 m4 m5 m6 n0 n1 n2 n3 n4 n5 n6 mN nN m8 n8 m9 n9 d3 u3 hC hS0
      go_wp2_with fail
      have hS0:Below w2.heap.size w2 { w2 with drawn:=w2.drawn+1 }:=(Below.refl _ _).drew
      have g0:w.heap.size<w2.heap.size:=Nat.lt_of_lt_of_le hs0 b02.size;have g1:w.heap.size+1<w2.heap.size:=Nat.lt_of_lt_of_le hs1 b02.size;have g2:p<w2.heap.size:=Nat.lt_of_lt_of_le hq1 b02.size;have g3:p'<w2.heap.size:=Nat.lt_of_lt_of_le hq2 b02.size;refine wp_region_noPanic ?_
      refine wp_region_held (S:=fun w'=>Below w2.heap.size w2 w') mixed ?_
      refine rgn.u 0 (v:=?v25) ?h25 hS0 ?_
      case h25=>(intro w' hw';go_simp;try with_reducible rfl)
      simp only[zA,zB,zC,Act.put,zD,zE,zF];refine rgn.u 1 (v:=?v26) ?h26 hS0 ?_
      case h26=>(intro w' hw';go_simp;try with_reducible rfl)
      simp only[zA,zB,zC,Act.put,zD,zE,zF];refine rgn.u 2 (v:=?v27) ?h27 hS0 ?_
      case h27=>(intro w' hw';go_simp;try with_reducible rfl)
      simp only[zA,zB,zC,Act.put,zD,zE,zF];refine rgn.u 3 (v:=?v28) ?h28 hS0 ?_
      case h28=>(intro w' hw';go_simp;try with_reducible rfl)
      simp only[zA,zB,zC,Act.put,zD,zE,zF];refine rgn.u 4 (v:=?v29) ?h29 hS0 ?_
      case h29=>(intro w' hw';have d3':=(hw'.cell (p:=⟨w.heap.size,4,none⟩) g0).trans d3x;go_simp;try with_reducible rfl)
      simp only[zA,zB,zC,Act.put,zD,zE,zF];refine rgn.u 5 (v:=?v30) ?h30 hS0 ?_
      case h30=>(intro w' hw';go_simp;try with_reducible rfl)
      simp only[zA,zB,zC,Act.put,zD,zE,zF];refine rgn.u 6 (v:=?v31) ?h31 hS0 ?_
      case h31=>(intro w' hw';go_simp;try with_reducible rfl)
      simp only[zA,zB,zC,Act.put,zD,zE,zF];refine rgn.u 7 (v:=?v32) ?h32 hS0 ?_
      case h32=>(intro w' hw';go_simp;try with_reducible rfl)
      simp only[zA,zB,zC,Act.put,zD,zE,zF];refine rgn.u 8 (v:=?v33) ?h33 hS0 ?_
      case h33=>(intro w' hw';have mN':=(hw'.cell (p:=⟨p,j * 10,none⟩) g2).trans mNx;go_simp;try with_reducible rfl)
      simp only[zA,zB,zC,Act.put,zD,zE,zF];refine rgn.u 9 (v:=?v34) ?h34 hS0 ?_
      case h34=>(intro w' hw';go_simp;try with_reducible rfl)
      simp only[zA,zB,zC,Act.put,zD,zE,zF];refine rgn.u 10 (v:=?v35) ?h35 hS0 ?_
      case h35=>(intro w' hw';have u3':=(hw'.cell (p:=⟨w.heap.size+1,4,none⟩) g1).trans u3x;go_simp;try with_reducible rfl)
      simp only[zA,zB,zC,Act.put,zD,zE,zF];refine rgn.u 11 (v:=?v36) ?h36 hS0 ?_
      case h36=>(intro w' hw';go_simp;try with_reducible rfl)
      simp only[zA,zB,zC,Act.put,zD,zE,zF];refine rgn.u 12 (v:=?v37) ?h37 hS0 ?_
      case h37=>(intro w' hw';go_simp;try with_reducible rfl)
      simp only[zA,zB,zC,Act.put,zD,zE,zF];refine rgn.u 13 (v:=?v38) ?h38 hS0 ?_
      case h38=>(intro w' hw';go_simp;try with_reducible rfl)
      simp only[zA,zB,zC,Act.put,zD,zE,zF];refine rgn.u 14 (v:=?v39) ?h39 hS0 ?_
      case h39=>(intro w' hw';have nN':=(hw'.cell (p:=⟨p',j * 10,none⟩) g3).trans nNx;go_simp;try with_reducible rfl)
      simp only[zA,zB,zC,Act.put,zD,zE,zF];refine rgn.u 15 (v:=?v40) ?h40 hS0 ?_
      case h40=>(intro w' hw';go_simp;try with_reducible rfl)
      simp only[zA,zB,zC,Act.put,zD,zE,zF];refine rgn.u 16 (v:=?v41) ?h41 hS0 ?_
      case h41=>(intro w' hw';go_simp;try with_reducible rfl)
      simp only[zA,zB,zC,Act.put,zD,zE,zF];refine rgn.u 17 (v:=?v42) ?h42 hS0 ?_
      case h42=>(intro w' hw';go_simp;try with_reducible rfl)
      simp only[zA,zB,zC,Act.put,zD,zE,zF];refine rgn.u 18 (v:=?v43) ?h43 hS0 ?_
      case h43=>(intro w' hw';go_simp;try with_reducible rfl)
      simp only[zA,zB,zC,Act.put,zD,zE,zF];refine rgn.u 19 (v:=?v44) ?h44 hS0 ?_
      case h44=>(intro w' hw';go_simp;try with_reducible rfl)
      simp only[zA,zB,zC,Act.put,zD,zE,zF];refine rgn.u 20 (v:=?v45) ?h45 hS0 ?_
      case h45=>(intro w' hw';go_simp;try with_reducible rfl)
      simp only[zA,zB,zC,Act.put,zD,zE,zF];refine rgn.u 21 (v:=?v46) ?h46 hS0 ?_
      case h46=>(intro w' hw';have d3':=(hw'.cell (p:=⟨w.heap.size,4,none⟩) g0).trans d3x;go_simp;try with_reducible rfl)
      simp only[zA,zB,zC,Act.put,zD,zE,zF];refine rgn.u 22 (v:=?v47) ?h47 hS0 ?_
      case h47=>(intro w' hw';go_simp;try with_reducible rfl)
      simp only[zA,zB,zC,Act.put,zD,zE,zF];refine rgn.u 23 (v:=?v48) ?h48 hS0 ?_
      case h48=>(intro w' hw';go_simp;try with_reducible rfl)
      simp only[zA,zB,zC,Act.put,zD,zE,zF];refine rgn.u 24 (v:=?v49) ?h49 hS0 ?_
      case h49=>(intro w' hw';go_simp;try with_reducible rfl)
      simp only[zA,zB,zC,Act.put,zD,zE,zF];refine rgn.u 25 (v:=?v50) ?h50 hS0 ?_
      case h50=>(intro w' hw';have m8':=(hw'.cell (p:=⟨p,j * 10+8,none⟩) g2).trans m8x;have m9':=(hw'.cell (p:=⟨p,j * 10+9,none⟩) g2).trans m9x;go_simp;try with_reducible rfl)
      simp only[zA,zB,zC,Act.put,zD,zE,zF];refine rgn.u 26 (v:=?v51) ?h51 hS0 ?_
      case h51=>(intro w' hw';go_simp;try with_reducible rfl)
      simp only[zA,zB,zC,Act.put,zD,zE,zF];refine rgn.u 27 (v:=?v52) ?h52 hS0 ?_
      case h52=>(intro w' hw';have u3':=(hw'.cell (p:=⟨w.heap.size+1,4,none⟩) g1).trans u3x;go_simp;try with_reducible rfl)
      simp only[zA,zB,zC,Act.put,zD,zE,zF];refine rgn.u 28 (v:=?v53) ?h53 hS0 ?_
      case h53=>(intro w' hw';go_simp;try with_reducible rfl)
      simp only[zA,zB,zC,Act.put,zD,zE,zF];refine rgn.u 29 (v:=?v54) ?h54 hS0 ?_
      case h54=>(intro w' hw';go_simp;try with_reducible rfl)
      simp only[zA,zB,zC,Act.put,zD,zE,zF];refine rgn.u 30 (v:=?v55) ?h55 hS0 ?_
      case h55=>(intro w' hw';go_simp;try with_reducible rfl)
      simp only[zA,zB,zC,Act.put,zD,zE,zF];refine rgn.u 31 (v:=?v56) ?h56 hS0 ?_
      case h56=>(intro w' hw';have n8':=(hw'.cell (p:=⟨p',j * 10+8,none⟩) g3).trans n8x;have n9':=(hw'.cell (p:=⟨p',j * 10+9,none⟩) g3).trans n9x;go_simp;try with_reducible rfl)
      simp only[zA,zB,zC,Act.put,zD,zE,zF];refine rgn.u 32 (v:=?v57) ?h57 hS0 ?_
      case h57=>(intro w' hw';go_simp;try with_reducible rfl)
      simp only[zA,zB,zC,Act.put,zD,zE,zF];refine rgn.u 33 (v:=?v58) ?h58 hS0 ?_
      case h58=>(intro w' hw';go_simp;try with_reducible rfl)
      simp only[zA,zB,zC,Act.put,zD,zE,zF];refine rgn.u 34 (v:=?v59) ?h59 hS0 ?_
      case h59=>(intro w' hw';go_simp;try with_reducible rfl)
      simp only[zA,zB,zC,Act.put,zD,zE,zF];refine wpAnyH_done (by kernel_rfl) ?_ _;refine NoPanic.normal ?_
      go_wp2_with fail
      go_roundw
      case rel=>exact⟨j+1,by omega,by go_num,hI2.more hS0⟩
      case measure=>first | (simp[intOf];omega) | simp[intOf]
     ·have ji:¬(j:Int)<(n2:Int):=by omega
      have hI9:=Hi hI;clear hlt
      go_wp2_with fail
      go_ret
      exact⟨rfl,(uh hI9).bel⟩
end cu
end Go.Proofs.YtepmbmbnlmbhhaaGreat
