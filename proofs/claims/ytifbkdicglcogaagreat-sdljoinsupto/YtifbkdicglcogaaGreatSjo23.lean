import Derived.Test.YtifbkdicglcogaaGreatSjo22
set_option linter.unusedVariables false
set_option linter.unusedSimpArgs false
namespace Go.Proofs.YtifbkdicglcogaaGreat.cu
open Go.ChangeShapes Go.WideShapes Go.ChangeAt Go.RowKit
open ints (Hi uh)
open dt (Dt Kp RowAt Ow Grow OwIn)
open mem (Row)
set_option maxHeartbeats 8000000 in
set_option maxRecDepth 4000 in
theorem zo0 (f:Nat) (l l':List Dt) (h:EqLs (EqA true f) l l'):SmLs 68 true 10 l l':=by
 intro w a a' c c' F G hl hl' hF hG hc hc' hm hm';obtain⟨hlen,hel⟩:=h;have HEL:=Hi hel;have HL:=Hi hl;have HL':=Hi hl';have HF:=Hi hF;have HG:=Hi hG;obtain⟨n,hn⟩:∃ n,n=l.length:=⟨_,rfl⟩;have hn':n=l'.length:=hn.trans hlen;rw[← hn] at hc ⊢;rw[← hn'] at hc' ⊢;have Hn:=Hi (an hn hn');clear hel hl hl' hF hG hn hn' hlen;unfold maxLen at hm hm'
 go_enter Tryz.func68,Tryz.ntmps68
 go_wp2_with fail
 go_loopw [7] (fun i wr=>∃ j:Nat,j≤n∧i = .int .i64 j∧Below w.heap.size w wr) (fun i _=>n - (intOf i).toNat)
 case atStart=>exact⟨0,Nat.zero_le _,rfl,Below.refl _ _⟩
 case round =>
  obtain⟨j,hj,rfl,hI⟩:=hrel
  by_cases hlt:j<n
  ·have ji:(j:Int)<(n:Int):=by omega
   have hlt1:j<l.length:=by have:=uh Hn;omega
   have hlt2:j<l'.length:=by have:=uh Hn;omega
   obtain⟨p,off,rfl,hpF,hget⟩:=(uh HL).resolve_left (fun h0=>by rw[h0] at hlt1;exact absurd hlt1 (Nat.not_lt_zero _))
   obtain⟨p',off',rfl,hpG,hget'⟩:=(uh HL').resolve_left (fun h0=>by rw[h0] at hlt2;exact absurd hlt2 (Nat.not_lt_zero _))
   obtain⟨ds,G1,hrow,hdl,hod,hGF⟩:=hget j _ (List.getElem?_eq_getElem hlt1)
   obtain⟨ds',G2,hrow',hdl',hod',hGG⟩:=hget' j _ (List.getElem?_eq_getElem hlt2)
   obtain⟨nm,e1,e2,x1,y1,x2,y2,hx,hy,hxy,heq⟩:=(uh HEL) j _ _ (List.getElem?_eq_getElem hlt1) (List.getElem?_eq_getElem hlt2)
   rw[hx] at hod;rw[hy] at hod'
   have hshp:∃ k1 tx1 bl1 ai1 ni1 ci1 af1 nf1 cf1 ln1 co1 k2 tx2 bl2 ai2 ni2 ci2 af2 nf2 cf2 ln2 co2,ds=[.string nm,.int .i64 k1,.string tx1,.bool bl1,.slice ai1 ni1 ci1,.slice af1 nf1 cf1,.int .i64 ln1,.int .i64 co1,.int .i64 x1,.int .i64 y1]∧ds'=[.string nm,.int .i64 k2,.string tx2,.bool bl2,.slice ai2 ni2 ci2,.slice af2 nf2 cf2,.int .i64 ln2,.int .i64 co2,.int .i64 x2,.int .i64 y2]∧Ow w e1 [.int .i64 k1,.string tx1,.bool bl1,.slice ai1 ni1 ci1,.slice af1 nf1 cf1,.int .i64 ln1,.int .i64 co1] G1∧Ow w e2 [.int .i64 k2,.string tx2,.bool bl2,.slice ai2 ni2 ci2,.slice af2 nf2 cf2,.int .i64 ln2,.int .i64 co2] G2:=by
    obtain⟨k1,tx1,bl1,i1,f1,ln1,co1,h1⟩:=heq.left;obtain⟨k2,tx2,bl2,i2,f2,ln2,co2,h2⟩:=heq.right;rw[h1] at hod;rw[h2] at hod';obtain⟨a1,a2,a3,a4,a5,a6,q1,q2⟩:=zbi hod;obtain⟨b1,b2,b3,b4,b5,b6,r1,r2⟩:=zbi hod';rw[← h1] at q2;rw[← h2] at r2;exact⟨k1,tx1,bl1,a1,a2,a3,a4,a5,a6,ln1,co1,k2,tx2,bl2,b1,b2,b3,b4,b5,b6,ln2,co2,q1,r1,q2,r2⟩
   obtain⟨k1,tx1,bl1,ai1,ni1,ci1,af1,nf1,cf1,ln1,co1,k2,tx2,bl2,ai2,ni2,ci2,af2,nf2,cf2,ln2,co2,rfl,rfl,hov,hov'⟩:=hshp;obtain⟨rfl,rfl⟩:=hxy rfl;clear hod hod' hx hy;have hplt:=(uh HF) p hpF;have hplt':=(uh HG) p' hpG;have hr:=fun (q:Nat) (u:Value) hu=>(hI.cell (p:=⟨p,off+j * 10+q,none⟩) hplt).trans (hrow q u hu)
   have hr':=fun (q:Nat) (u:Value) hu=>(hI.cell (p:=⟨p',off'+j * 10+q,none⟩) hplt').trans (hrow' q u hu)
   have m0:wr.cell? ⟨p,off+j * 10,none⟩=some (.string nm):=hr 0 _ rfl;have m1:wr.cell? ⟨p,off+j * 10+1,none⟩=some (.int .i64 k1):=hr 1 _ rfl;have m2:wr.cell? ⟨p,off+j * 10+2,none⟩=some (.string tx1):=hr 2 _ rfl;have m3:wr.cell? ⟨p,off+j * 10+3,none⟩=some (.bool bl1):=hr 3 _ rfl;have m4:wr.cell? ⟨p,off+j * 10+4,none⟩=some (.slice ai1 ni1 ci1):=hr 4 _ rfl
   have m5:wr.cell? ⟨p,off+j * 10+5,none⟩=some (.slice af1 nf1 cf1):=hr 5 _ rfl;have m6:wr.cell? ⟨p,off+j * 10+6,none⟩=some (.int .i64 ln1):=hr 6 _ rfl;have m7:wr.cell? ⟨p,off+j * 10+7,none⟩=some (.int .i64 co1):=hr 7 _ rfl;have m8:wr.cell? ⟨p,off+j * 10+8,none⟩=some (.int .i64 x1):=hr 8 _ rfl;have m9:wr.cell? ⟨p,off+j * 10+9,none⟩=some (.int .i64 y1):=hr 9 _ rfl
   have n0:wr.cell? ⟨p',off'+j * 10,none⟩=some (.string nm):=hr' 0 _ rfl;have n1:wr.cell? ⟨p',off'+j * 10+1,none⟩=some (.int .i64 k2):=hr' 1 _ rfl;have n2:wr.cell? ⟨p',off'+j * 10+2,none⟩=some (.string tx2):=hr' 2 _ rfl;have n3:wr.cell? ⟨p',off'+j * 10+3,none⟩=some (.bool bl2):=hr' 3 _ rfl;have n4:wr.cell? ⟨p',off'+j * 10+4,none⟩=some (.slice ai2 ni2 ci2):=hr' 4 _ rfl
   have n5:wr.cell? ⟨p',off'+j * 10+5,none⟩=some (.slice af2 nf2 cf2):=hr' 5 _ rfl;have n6:wr.cell? ⟨p',off'+j * 10+6,none⟩=some (.int .i64 ln2):=hr' 6 _ rfl;have n7:wr.cell? ⟨p',off'+j * 10+7,none⟩=some (.int .i64 co2):=hr' 7 _ rfl;have n8:wr.cell? ⟨p',off'+j * 10+8,none⟩=some (.int .i64 x1):=hr' 8 _ rfl;have n9:wr.cell? ⟨p',off'+j * 10+9,none⟩=some (.int .i64 y1):=hr' 9 _ rfl
   have hC:=Hi (fun W (hb:Below w.heap.size w W)=>zkA f e1 e2 heq W [Value.int .i64 k1,.string tx1,.bool bl1,.slice ai1 ni1 ci1,.slice af1 nf1 cf1,.int .i64 ln1,.int .i64 co1] [Value.int .i64 k2,.string tx2,.bool bl2,.slice ai2 ni2 ci2,.slice af2 nf2 cf2,.int .i64 ln2,.int .i64 co2] G1 G2 (dt.Ow.agree e1 _ G1 (fun b hb' o=>hb.cell (p:=⟨b,o,none⟩) ((uh HF) b (hGF b hb'))) hov) (dt.Ow.agree e2 _ G2 (fun b hb' o=>hb.cell (p:=⟨b,o,none⟩) ((uh HG) b (hGG b hb'))) hov') (fun b hb'=>Nat.lt_of_lt_of_le ((uh HF) b (hGF b hb')) hb.size) (fun b hb'=>Nat.lt_of_lt_of_le ((uh HG) b (hGG b hb')) hb.size))
   have hq1:p<wr.heap.size:=Nat.lt_of_lt_of_le hplt hI.size;have hq2:p'<wr.heap.size:=Nat.lt_of_lt_of_le hplt' hI.size;clear hr hr' hrow hrow' hov hov' heq hdl hdl' hget hget'
   go_wp2_with fail
   have hS0:Below wr.heap.size wr { wr with drawn:=wr.drawn+1 }:=(Below.refl _ _).drew
   have bD:=hI.trans (hS0.mono hI.size);refine wp_region_noPanic ?_
   refine wp_region_held (S:=fun w'=>Below wr.heap.size wr w') mixed ?_
   refine rgn.u 0 (v:=?v0) ?h0 hS0 ?_
   case h0=>(intro w' hw';go_simp;try with_reducible rfl)
   simp only[zA,zB,zC,Act.put,zD,zE,zF];refine rgn.u 1 (v:=?v1) ?h1 hS0 ?_
   case h1=>(intro w' hw';go_simp;try with_reducible rfl)
   simp only[zA,zB,zC,Act.put,zD,zE,zF];refine rgn.u 2 (v:=?v2) ?h2 hS0 ?_
   case h2=>(intro w' hw';go_simp;try with_reducible rfl)
   simp only[zA,zB,zC,Act.put,zD,zE,zF];refine rgn.u 3 (v:=?v3) ?h3 hS0 ?_
   case h3=>(intro w' hw';go_simp;try with_reducible rfl)
   simp only[zA,zB,zC,Act.put,zD,zE,zF];refine rgn.u 4 (v:=?v4) ?h4 hS0 ?_
   case h4=>(intro w' hw';have m1':=(hw'.cell (p:=⟨p,off+j * 10+1,none⟩) hq1).trans m1;have m2':=(hw'.cell (p:=⟨p,off+j * 10+2,none⟩) hq1).trans m2;have m3':=(hw'.cell (p:=⟨p,off+j * 10+3,none⟩) hq1).trans m3;have m4':=(hw'.cell (p:=⟨p,off+j * 10+4,none⟩) hq1).trans m4;have m5':=(hw'.cell (p:=⟨p,off+j * 10+5,none⟩) hq1).trans m5;have m6':=(hw'.cell (p:=⟨p,off+j * 10+6,none⟩) hq1).trans m6;have m7':=(hw'.cell (p:=⟨p,off+j * 10+7,none⟩) hq1).trans m7;go_simp;try with_reducible rfl)
   simp only[zA,zB,zC,Act.put,zD,zE,zF];refine rgn.u 5 (v:=?v5) ?h5 hS0 ?_
   case h5=>(intro w' hw';go_simp;try with_reducible rfl)
   simp only[zA,zB,zC,Act.put,zD,zE,zF];refine rgn.u 6 (v:=?v6) ?h6 hS0 ?_
   case h6=>(intro w' hw';go_simp;try with_reducible rfl)
   simp only[zA,zB,zC,Act.put,zD,zE,zF];refine rgn.u 7 (v:=?v7) ?h7 hS0 ?_
   case h7=>(intro w' hw';go_simp;try with_reducible rfl)
   simp only[zA,zB,zC,Act.put,zD,zE,zF];refine rgn.u 8 (v:=?v8) ?h8 hS0 ?_
   case h8=>(intro w' hw';go_simp;try with_reducible rfl)
   simp only[zA,zB,zC,Act.put,zD,zE,zF];refine rgn.u 9 (v:=?v9) ?h9 hS0 ?_
   case h9=>(intro w' hw';have n1':=(hw'.cell (p:=⟨p',off'+j * 10+1,none⟩) hq2).trans n1;have n2':=(hw'.cell (p:=⟨p',off'+j * 10+2,none⟩) hq2).trans n2;have n3':=(hw'.cell (p:=⟨p',off'+j * 10+3,none⟩) hq2).trans n3;have n4':=(hw'.cell (p:=⟨p',off'+j * 10+4,none⟩) hq2).trans n4;have n5':=(hw'.cell (p:=⟨p',off'+j * 10+5,none⟩) hq2).trans n5;have n6':=(hw'.cell (p:=⟨p',off'+j * 10+6,none⟩) hq2).trans n6;have n7':=(hw'.cell (p:=⟨p',off'+j * 10+7,none⟩) hq2).trans n7;go_simp;try with_reducible rfl)
   simp only[zA,zB,zC,Act.put,zD,zE,zF];refine rgn.u 10 (v:=?v10) ?h10 hS0 ?_
   case h10=>(intro w' hw';go_simp;try with_reducible rfl)
   simp only[zA,zB,zC,Act.put,zD,zE,zF];refine rgn.one (i:=11) _ rfl (by kernel_rfl) (by rfl) ?_
   simp only[zA,zB,zC,Act.put,zD,zE,zF]
   go_wp2_with fail
   refine ((uh hC) _ bD).mono ?_
   rintro e' w2 ⟨rfl,b2⟩;have b02:Below wr.heap.size wr w2:=hS0.trans b2;refine⟨b02,?_⟩
   clear hS0 b2 bD;have hS0:=b02
   try simp only[zA,zB,zC,Act.put,zD,zE,zF]
   refine rgn.take (i:=12) _ (.bool true) rfl (by kernel_rfl) (by kernel_rfl) (by kernel_rfl) (fun _ _ _ h=>h) (by rfl) hS0 (fun w' hw'=>by go_simp) ?_
   simp only[zA,zB,zC,Act.put,zD,zE,zF];refine wpAnyH_done (by kernel_rfl) ?_ _;refine NoPanic.normal ?_
   have mNx:=(b02.cell (p:=⟨p,off+j * 10,none⟩) hq1).trans m0;have nNx:=(b02.cell (p:=⟨p',off'+j * 10,none⟩) hq2).trans n0;have m8x:=(b02.cell (p:=⟨p,off+j * 10+8,none⟩) hq1).trans m8;have n8x:=(b02.cell (p:=⟨p',off'+j * 10+8,none⟩) hq2).trans n8;have m9x:=(b02.cell (p:=⟨p,off+j * 10+9,none⟩) hq1).trans m9;have n9x:=(b02.cell (p:=⟨p',off'+j * 10+9,none⟩) hq2).trans n9
   have hI2:=hI.trans (b02.mono hI.size);have g2:p<w2.heap.size:=Nat.lt_of_lt_of_le hq1 b02.size;have g3:p'<w2.heap.size:=Nat.lt_of_lt_of_le hq2 b02.size;clear m0 n0 m1 n1 m2 n2 m3 n3 m4 n4 m5 n5 m6 n6 m7 n7 m8 n8 m9 n9 hC hS0
   go_wp2_with fail
   go_quiet (fail)
   obtain⟨V0,hV0⟩:∃ V0,V0=w2.drewN nq:=⟨_,rfl⟩;have hS0:Below w2.heap.size w2 V0:=by rw[hV0];exact Go.below_drewN (Below.refl _ _) nq
   rw[← hV0];clear hV0
   go_wp2_with fail
   go_roundw
   case rel=>exact⟨j+1,by omega,by go_num,hI2.trans (hS0.mono hI2.size)⟩
   case measure=>first | (simp[intOf];omega) | simp[intOf]
  ·have ji:¬ (j:Int)<(n:Int):=by omega
   have hI9:=Hi hI;clear hlt
   go_wp2_with fail
   go_ret
   exact⟨rfl,uh hI9⟩
set_option maxHeartbeats 8000000 in
set_option maxRecDepth 4000 in
theorem zhN (f:Nat) (l l':List Dt) (h:EqLs (EqR true f) l l'):SmLs 45 true 4 l l':=by
 intro w a a' c c' F G hl hl' hF hG hc hc' hm hm';obtain⟨hlen,hel⟩:=h;have HEL:=Hi hel;have HL:=Hi hl;have HL':=Hi hl';have HF:=Hi hF;have HG:=Hi hG;obtain⟨n,hn⟩:∃ n,n=l.length:=⟨_,rfl⟩;have hn':n=l'.length:=hn.trans hlen;rw[← hn] at hc ⊢;rw[← hn'] at hc' ⊢;have Hn:=Hi (an hn hn');clear hel hl hl' hF hG hn hn' hlen;unfold maxLen at hm hm'
 go_enter Tryz.func45,Tryz.ntmps45
 go_wp2_with fail
 go_loopw [7] (fun i wr=>∃ j:Nat,j≤n∧i = .int .i64 j∧Below w.heap.size w wr) (fun i _=>n - (intOf i).toNat)
 case atStart=>exact⟨0,Nat.zero_le _,rfl,Below.refl _ _⟩
 case round =>
  obtain⟨j,hj,rfl,hI⟩:=hrel
  by_cases hlt:j<n
  ·have ji:(j:Int)<(n:Int):=by omega
   have hlt1:j<l.length:=by have:=uh Hn;omega
   have hlt2:j<l'.length:=by have:=uh Hn;omega
   obtain⟨p,off,rfl,hpF,hget⟩:=(uh HL).resolve_left (fun h0=>by rw[h0] at hlt1;exact absurd hlt1 (Nat.not_lt_zero _))
   obtain⟨p',off',rfl,hpG,hget'⟩:=(uh HL').resolve_left (fun h0=>by rw[h0] at hlt2;exact absurd hlt2 (Nat.not_lt_zero _))
   obtain⟨ds,G1,hrow,hdl,hod,hGF⟩:=hget j _ (List.getElem?_eq_getElem hlt1)
   obtain⟨ds',G2,hrow',hdl',hod',hGG⟩:=hget' j _ (List.getElem?_eq_getElem hlt2)
   obtain⟨nm,l1,l2,x1,y1,x2,y2,hx,hy,hxy,heq⟩:=(uh HEL) j _ _ (List.getElem?_eq_getElem hlt1) (List.getElem?_eq_getElem hlt2)
   rw[hx] at hod;rw[hy] at hod';obtain⟨a1,c1,rfl,u1,u2,hov⟩:=zc8 hod;obtain⟨a2,c2,rfl,u3,u4,hov'⟩:=zc8 hod';obtain⟨rfl,rfl⟩:=hxy rfl;have HU:=Hi (an (an u1 u2) (an u3 u4));obtain⟨n1,hn1⟩:∃ n1,n1=l1.length:=⟨_,rfl⟩;obtain⟨n2,hn2⟩:∃ n2,n2=l2.length:=⟨_,rfl⟩;clear hod hod' hx hy u1 u2 u3 u4;have hplt:=(uh HF) p hpF;have hplt':=(uh HG) p' hpG;have hC:=(fun W (hb:Below w.heap.size w W)=>zo0 f l1 l2 heq W a1 a2 c1 c2 G1 G2 (hov.below (fun b hb'=>(uh HF) b (hGF b hb')) hb) (hov'.below (fun b hb'=>(uh HG) b (hGG b hb')) hb) (fun b hb'=>Nat.lt_of_lt_of_le ((uh HF) b (hGF b hb')) hb.size) (fun b hb'=>Nat.lt_of_lt_of_le ((uh HG) b (hGG b hb')) hb.size) (uh HU).1.1 (uh HU).2.1 (uh HU).1.2 (uh HU).2.2)
   rw[← hn1,← hn2] at hC;rw[← hn1] at hrow;rw[← hn2] at hrow';replace hC:=Hi hC;clear hn1 hn2;have hr:=fun (q:Nat) (u:Value) hu=>(hI.cell (p:=⟨p,off+j * 4+q,none⟩) hplt).trans (hrow q u hu)
   have hr':=fun (q:Nat) (u:Value) hu=>(hI.cell (p:=⟨p',off'+j * 4+q,none⟩) hplt').trans (hrow' q u hu)
   have m0:wr.cell? ⟨p,off+j * 4,none⟩=some (.string nm):=hr 0 _ rfl;have m1:wr.cell? ⟨p,off+j * 4+1,none⟩=some (.slice a1 n1 c1):=hr 1 _ rfl;have m2:wr.cell? ⟨p,off+j * 4+2,none⟩=some (.int .i64 x1):=hr 2 _ rfl;have m3:wr.cell? ⟨p,off+j * 4+3,none⟩=some (.int .i64 y1):=hr 3 _ rfl;have n0:wr.cell? ⟨p',off'+j * 4,none⟩=some (.string nm):=hr' 0 _ rfl
   have n1:wr.cell? ⟨p',off'+j * 4+1,none⟩=some (.slice a2 n2 c2):=hr' 1 _ rfl;have n2:wr.cell? ⟨p',off'+j * 4+2,none⟩=some (.int .i64 x1):=hr' 2 _ rfl;have n3:wr.cell? ⟨p',off'+j * 4+3,none⟩=some (.int .i64 y1):=hr' 3 _ rfl;have hq1:p<wr.heap.size:=Nat.lt_of_lt_of_le hplt hI.size;have hq2:p'<wr.heap.size:=Nat.lt_of_lt_of_le hplt' hI.size;clear hr hr' hrow hrow' hov hov' heq hdl hdl' hget hget'
   go_wp2_with fail
   have hS0:Below wr.heap.size wr { wr with drawn:=wr.drawn+1 }:=(Below.refl _ _).drew
   have bD:=hI.trans (hS0.mono hI.size);refine wp_region_noPanic ?_
   refine wp_region_held (S:=fun w'=>Below wr.heap.size wr w') mixed ?_
   refine rgn.u 0 (v:=?v11) ?h11 hS0 ?_
   case h11=>(intro w' hw';go_simp;try with_reducible rfl)
   simp only[zA,zB,zC,Act.put,zD,zE,zF];refine rgn.u 1 (v:=?v12) ?h12 hS0 ?_
   case h12=>(intro w' hw';go_simp;try with_reducible rfl)
   simp only[zA,zB,zC,Act.put,zD,zE,zF];refine rgn.u 2 (v:=?v13) ?h13 hS0 ?_
   case h13=>(intro w' hw';go_simp;try with_reducible rfl)
   simp only[zA,zB,zC,Act.put,zD,zE,zF];refine rgn.u 3 (v:=?v14) ?h14 hS0 ?_
   case h14=>(intro w' hw';go_simp;try with_reducible rfl)
   simp only[zA,zB,zC,Act.put,zD,zE,zF];refine rgn.u 4 (v:=?v15) ?h15 hS0 ?_
   case h15=>(intro w' hw';have m1':=(hw'.cell (p:=⟨p,off+j * 4+1,none⟩) hq1).trans m1;go_simp;try with_reducible rfl)
   simp only[zA,zB,zC,Act.put,zD,zE,zF];refine rgn.u 5 (v:=?v16) ?h16 hS0 ?_
   case h16=>(intro w' hw';go_simp;try with_reducible rfl)
   simp only[zA,zB,zC,Act.put,zD,zE,zF];refine rgn.u 6 (v:=?v17) ?h17 hS0 ?_
   case h17=>(intro w' hw';go_simp;try with_reducible rfl)
   simp only[zA,zB,zC,Act.put,zD,zE,zF];refine rgn.u 7 (v:=?v18) ?h18 hS0 ?_
   case h18=>(intro w' hw';go_simp;try with_reducible rfl)
   simp only[zA,zB,zC,Act.put,zD,zE,zF];refine rgn.u 8 (v:=?v19) ?h19 hS0 ?_
   case h19=>(intro w' hw';go_simp;try with_reducible rfl)
   simp only[zA,zB,zC,Act.put,zD,zE,zF];refine rgn.u 9 (v:=?v20) ?h20 hS0 ?_
   case h20=>(intro w' hw';have n1':=(hw'.cell (p:=⟨p',off'+j * 4+1,none⟩) hq2).trans n1;go_simp;try with_reducible rfl)
   simp only[zA,zB,zC,Act.put,zD,zE,zF];refine rgn.u 10 (v:=?v21) ?h21 hS0 ?_
   case h21=>(intro w' hw';go_simp;try with_reducible rfl)
   simp only[zA,zB,zC,Act.put,zD,zE,zF];refine rgn.one (i:=11) _ rfl (by kernel_rfl) (by rfl) ?_
   simp only[zA,zB,zC,Act.put,zD,zE,zF]
   go_wp2_with fail
   refine ((uh hC) _ bD).mono ?_
   rintro e' w2 ⟨rfl,b2⟩;have b02:Below wr.heap.size wr w2:=hS0.trans b2;refine⟨b02,?_⟩
   clear hS0 b2 bD;have hS0:=b02
   try simp only[zA,zB,zC,Act.put,zD,zE,zF]
   refine rgn.take (i:=12) _ (.bool true) rfl (by kernel_rfl) (by kernel_rfl) (by kernel_rfl) (fun _ _ _ h=>h) (by rfl) hS0 (fun w' hw'=>by go_simp) ?_
   simp only[zA,zB,zC,Act.put,zD,zE,zF];refine wpAnyH_done (by kernel_rfl) ?_ _;refine NoPanic.normal ?_
   have mNx:=(b02.cell (p:=⟨p,off+j * 4,none⟩) hq1).trans m0;have nNx:=(b02.cell (p:=⟨p',off'+j * 4,none⟩) hq2).trans n0;have m8x:=(b02.cell (p:=⟨p,off+j * 4+2,none⟩) hq1).trans m2;have n8x:=(b02.cell (p:=⟨p',off'+j * 4+2,none⟩) hq2).trans n2;have m9x:=(b02.cell (p:=⟨p,off+j * 4+3,none⟩) hq1).trans m3;have n9x:=(b02.cell (p:=⟨p',off'+j * 4+3,none⟩) hq2).trans n3
   have hI2:=hI.trans (b02.mono hI.size);have g2:p<w2.heap.size:=Nat.lt_of_lt_of_le hq1 b02.size;have g3:p'<w2.heap.size:=Nat.lt_of_lt_of_le hq2 b02.size;clear m0 n0 m1 n1 m2 n2 m3 n3 hC hS0
   go_wp2_with fail
   go_quiet (fail)
   obtain⟨V0,hV0⟩:∃ V0,V0=w2.drewN nq:=⟨_,rfl⟩;have hS0:Below w2.heap.size w2 V0:=by rw[hV0];exact Go.below_drewN (Below.refl _ _) nq
   rw[← hV0];clear hV0
   go_wp2_with fail
   go_roundw
   case rel=>exact⟨j+1,by omega,by go_num,hI2.trans (hS0.mono hI2.size)⟩
   case measure=>first | (simp[intOf];omega) | simp[intOf]
  ·have ji:¬ (j:Int)<(n:Int):=by omega
   have hI9:=Hi hI;clear hlt
   go_wp2_with fail
   go_ret
   exact⟨rfl,uh hI9⟩
set_option maxHeartbeats 8000000 in
set_option maxRecDepth 4000 in
theorem zl6 (f:Nat) (l l':List Dt) (h:EqLs (EqC true f) l l'):SmLs 43 true 7 l l':=by
 intro w a a' c c' F G hl hl' hF hG hc hc' hm hm';obtain⟨hlen,hel⟩:=h;have HEL:=Hi hel;have HL:=Hi hl;have HL':=Hi hl';have HF:=Hi hF;have HG:=Hi hG;obtain⟨n,hn⟩:∃ n,n=l.length:=⟨_,rfl⟩;have hn':n=l'.length:=hn.trans hlen;rw[← hn] at hc ⊢;rw[← hn'] at hc' ⊢;have Hn:=Hi (an hn hn');clear hel hl hl' hF hG hn hn' hlen;unfold maxLen at hm hm'
 go_enter Tryz.func43,Tryz.ntmps43
 go_wp2_with fail
 go_loopw [7] (fun i wr=>∃ j:Nat,j≤n∧i = .int .i64 j∧Below w.heap.size w wr) (fun i _=>n - (intOf i).toNat)
 case atStart=>exact⟨0,Nat.zero_le _,rfl,Below.refl _ _⟩
 case round =>
  obtain⟨j,hj,rfl,hI⟩:=hrel
  by_cases hlt:j<n
  ·have ji:(j:Int)<(n:Int):=by omega
   have hlt1:j<l.length:=by have:=uh Hn;omega
   have hlt2:j<l'.length:=by have:=uh Hn;omega
   obtain⟨p,off,rfl,hpF,hget⟩:=(uh HL).resolve_left (fun h0=>by rw[h0] at hlt1;exact absurd hlt1 (Nat.not_lt_zero _))
   obtain⟨p',off',rfl,hpG,hget'⟩:=(uh HL').resolve_left (fun h0=>by rw[h0] at hlt2;exact absurd hlt2 (Nat.not_lt_zero _))
   obtain⟨ds,G1,hrow,hdl,hod,hGF⟩:=hget j _ (List.getElem?_eq_getElem hlt1)
   obtain⟨ds',G2,hrow',hdl',hod',hGG⟩:=hget' j _ (List.getElem?_eq_getElem hlt2)
   obtain⟨⟨n0,n1,n2⟩,⟨nm,x1,y1⟩,⟨nm',x2,y2⟩,l1,l2,hx,hy,⟨hnm,hxy⟩,heq⟩:=(uh HEL) j _ _ (List.getElem?_eq_getElem hlt1) (List.getElem?_eq_getElem hlt2)
   have hnm:nm=nm':=hnm;subst hnm;rw[hx] at hod;rw[hy] at hod';obtain⟨a1,c1,q1,hov1⟩:=zc3 hod;have q1:ds=[.bool n0,.bool n1,.string n2,.string nm,.slice a1 l1.length c1,.int .i64 x1,.int .i64 y1]:=q1;subst q1;obtain⟨a2,c2,q2,hov2⟩:=zc3 hod';have q2:ds'=[.bool n0,.bool n1,.string n2,.string nm,.slice a2 l2.length c2,.int .i64 x2,.int .i64 y2]:=q2;subst q2
   obtain⟨rfl,rfl⟩:x1=x2∧y1=y2:=hxy rfl;have hplt:=(uh HF) p hpF;have hplt':=(uh HG) p' hpG;have hC0:=(fun W (hb:Below w.heap.size w W)=>zhN f l1 l2 heq W a1 a2 c1 c2 G1 G2 (hov1.1.below (fun b hb'=>(uh HF) b (hGF b hb')) hb) (hov2.1.below (fun b hb'=>(uh HG) b (hGG b hb')) hb) (fun b hb'=>Nat.lt_of_lt_of_le ((uh HF) b (hGF b hb')) hb.size) (fun b hb'=>Nat.lt_of_lt_of_le ((uh HG) b (hGG b hb')) hb.size) hov1.2.1 hov2.2.1 hov1.2.2 hov2.2.2)
   obtain⟨m1,hm1⟩:∃ z,z=l1.length:=⟨_,rfl⟩;obtain⟨m2,hm2⟩:∃ z,z=l2.length:=⟨_,rfl⟩;rw[← hm1,← hm2] at hC0;replace hC0:=Hi hC0;rw[← hm1] at hrow;rw[← hm2] at hrow';clear hm1 hm2;have hr:=fun (q:Nat) (u:Value) hu=>(hI.cell (p:=⟨p,off+j * 7+q,none⟩) hplt).trans (hrow q u hu)
   have hr':=fun (q:Nat) (u:Value) hu=>(hI.cell (p:=⟨p',off'+j * 7+q,none⟩) hplt').trans (hrow' q u hu)
   have r0:wr.cell? ⟨p,off+j * 7,none⟩=some (.bool n0):=hr 0 _ rfl;have r1:wr.cell? ⟨p,off+j * 7+1,none⟩=some (.bool n1):=hr 1 _ rfl;have r2:wr.cell? ⟨p,off+j * 7+2,none⟩=some (.string n2):=hr 2 _ rfl;have r3:wr.cell? ⟨p,off+j * 7+3,none⟩=some (.string nm):=hr 3 _ rfl;have r4:wr.cell? ⟨p,off+j * 7+4,none⟩=some (.slice a1 m1 c1):=hr 4 _ rfl;have r5:wr.cell? ⟨p,off+j * 7+5,none⟩=some (.int .i64 x1):=hr 5 _ rfl
   have r6:wr.cell? ⟨p,off+j * 7+6,none⟩=some (.int .i64 y1):=hr 6 _ rfl;have s0:wr.cell? ⟨p',off'+j * 7,none⟩=some (.bool n0):=hr' 0 _ rfl;have s1:wr.cell? ⟨p',off'+j * 7+1,none⟩=some (.bool n1):=hr' 1 _ rfl;have s2:wr.cell? ⟨p',off'+j * 7+2,none⟩=some (.string n2):=hr' 2 _ rfl;have s3:wr.cell? ⟨p',off'+j * 7+3,none⟩=some (.string nm):=hr' 3 _ rfl
   have s4:wr.cell? ⟨p',off'+j * 7+4,none⟩=some (.slice a2 m2 c2):=hr' 4 _ rfl;have s5:wr.cell? ⟨p',off'+j * 7+5,none⟩=some (.int .i64 x1):=hr' 5 _ rfl;have s6:wr.cell? ⟨p',off'+j * 7+6,none⟩=some (.int .i64 y1):=hr' 6 _ rfl;have hq1:p<wr.heap.size:=Nat.lt_of_lt_of_le hplt hI.size;have hq2:p'<wr.heap.size:=Nat.lt_of_lt_of_le hplt' hI.size;clear hr hr' hrow hrow' hod hod' hx hy hdl hdl' hget hget' hGF hGG heq hov1 hov2
   go_wp2_with fail
   go_quiet (fail)
   obtain⟨V0,hV0⟩:∃ V0,V0=wr.drewN nq:=⟨_,rfl⟩;have hS0:Below wr.heap.size wr V0:=by rw[hV0];exact Go.below_drewN (Below.refl _ _) nq
   rw[← hV0];clear hV0
   go_wp2_with fail
   have hS1:=hS0.drew;clear hS0;have hS0:=hS1;have bD0:=hI.trans (hS0.mono hI.size);refine wp_region_noPanic ?_
   refine wp_region_held (S:=fun w'=>Below wr.heap.size wr w') mixed ?_
   refine rgn.u 0 (v:=?v22) ?h22 hS0 ?_
   case h22=>(intro w' hw';go_simp;try with_reducible rfl)
   simp only[zA,zB,zC,Act.put,zD,zE,zF];refine rgn.u 1 (v:=?v23) ?h23 hS0 ?_
   case h23=>(intro w' hw';go_simp;try with_reducible rfl)
   simp only[zA,zB,zC,Act.put,zD,zE,zF];refine rgn.u 2 (v:=?v24) ?h24 hS0 ?_
   case h24=>(intro w' hw';go_simp;try with_reducible rfl)
   simp only[zA,zB,zC,Act.put,zD,zE,zF];refine rgn.u 3 (v:=?v25) ?h25 hS0 ?_
   case h25=>(intro w' hw';go_simp;try with_reducible rfl)
   simp only[zA,zB,zC,Act.put,zD,zE,zF];refine rgn.u 4 (v:=?v26) ?h26 hS0 ?_
   case h26=>(intro w' hw';have r4':=(hw'.cell (p:=⟨p,off+j * 7+4,none⟩) hq1).trans r4;go_simp;try with_reducible rfl)
   simp only[zA,zB,zC,Act.put,zD,zE,zF];refine rgn.u 5 (v:=?v27) ?h27 hS0 ?_
   case h27=>(intro w' hw';go_simp;try with_reducible rfl)
   simp only[zA,zB,zC,Act.put,zD,zE,zF];refine rgn.u 6 (v:=?v28) ?h28 hS0 ?_
   case h28=>(intro w' hw';go_simp;try with_reducible rfl)
   simp only[zA,zB,zC,Act.put,zD,zE,zF];refine rgn.u 7 (v:=?v29) ?h29 hS0 ?_
   case h29=>(intro w' hw';go_simp;try with_reducible rfl)
   simp only[zA,zB,zC,Act.put,zD,zE,zF];refine rgn.u 8 (v:=?v30) ?h30 hS0 ?_
   case h30=>(intro w' hw';go_simp;try with_reducible rfl)
   simp only[zA,zB,zC,Act.put,zD,zE,zF];refine rgn.u 9 (v:=?v31) ?h31 hS0 ?_
   case h31=>(intro w' hw';have s4':=(hw'.cell (p:=⟨p',off'+j * 7+4,none⟩) hq2).trans s4;go_simp;try with_reducible rfl)
   simp only[zA,zB,zC,Act.put,zD,zE,zF];refine rgn.u 10 (v:=?v32) ?h32 hS0 ?_
   case h32=>(intro w' hw';go_simp;try with_reducible rfl)
   simp only[zA,zB,zC,Act.put,zD,zE,zF];refine rgn.one (i:=11) _ rfl (by kernel_rfl) (by rfl) ?_
   simp only[zA,zB,zC,Act.put,zD,zE,zF]
   go_wp2_with fail
   refine ((uh hC0) _ bD0).mono ?_
   rintro e' w2 ⟨rfl,b2⟩;have hS1:Below wr.heap.size wr w2:=hS0.trans (b2.mono hS0.size);refine⟨hS1,?_⟩
   clear hS0 hC0;have hS0:=hS1;clear hS1;have bD1:=hI.trans (hS0.mono hI.size)
   try simp only[zA,zB,zC,Act.put,zD,zE,zF]
   refine rgn.u 12 (v:=?v33) ?h33 hS0 ?_
   case h33=>(intro w' hw';go_simp;try with_reducible rfl)
   simp only[zA,zB,zC,Act.put,zD,zE,zF];refine wpAnyH_done (by kernel_rfl) ?_ _;refine NoPanic.normal ?_
   go_wp2_with fail
   go_roundw
   case rel=>exact⟨j+1,by omega,by go_num,bD1⟩
   case measure=>first | (simp[intOf];omega) | simp[intOf]
  ·have ji:¬ (j:Int)<(n:Int):=by omega
   have hI9:=Hi hI;clear hlt
   go_wp2_with fail
   go_ret
   exact⟨rfl,uh hI9⟩
set_option maxHeartbeats 8000000 in
set_option maxRecDepth 4000 in
theorem zhT (f:Nat) (l l':List Dt) (h:EqLs (EqI true f) l l'):SmLs 42 true 17 l l':=by
 intro w a a' c c' F G hl hl' hF hG hc hc' hm hm';obtain⟨hlen,hel⟩:=h;have HEL:=Hi hel;have HL:=Hi hl;have HL':=Hi hl';have HF:=Hi hF;have HG:=Hi hG;obtain⟨n,hn⟩:∃ n,n=l.length:=⟨_,rfl⟩;have hn':n=l'.length:=hn.trans hlen;rw[← hn] at hc ⊢;rw[← hn'] at hc' ⊢;have Hn:=Hi (an hn hn');clear hel hl hl' hF hG hn hn' hlen;unfold maxLen at hm hm'
 go_enter Tryz.func42,Tryz.ntmps42
 go_wp2_with fail
 go_loopw [7] (fun i wr=>∃ j:Nat,j≤n∧i = .int .i64 j∧Below w.heap.size w wr) (fun i _=>n - (intOf i).toNat)
 case atStart=>exact⟨0,Nat.zero_le _,rfl,Below.refl _ _⟩
 case round =>
  obtain⟨j,hj,rfl,hI⟩:=hrel
  by_cases hlt:j<n
  ·have ji:(j:Int)<(n:Int):=by omega
   have hlt1:j<l.length:=by have:=uh Hn;omega
   have hlt2:j<l'.length:=by have:=uh Hn;omega
   obtain⟨p,off,rfl,hpF,hget⟩:=(uh HL).resolve_left (fun h0=>by rw[h0] at hlt1;exact absurd hlt1 (Nat.not_lt_zero _))
   obtain⟨p',off',rfl,hpG,hget'⟩:=(uh HL').resolve_left (fun h0=>by rw[h0] at hlt2;exact absurd hlt2 (Nat.not_lt_zero _))
   obtain⟨ds,G1,hrow,hdl,hod,hGF⟩:=hget j _ (List.getElem?_eq_getElem hlt1)
   obtain⟨ds',G2,hrow',hdl',hod',hGG⟩:=hget' j _ (List.getElem?_eq_getElem hlt2)
   obtain⟨⟨n0,n1,n2⟩,⟨nm,x1,y1⟩,⟨nm',x2,y2⟩,tn,tw,hd,v1,v2,l1,l2,hx,hy,⟨hnm,hxy⟩,hev,heq⟩:=(uh HEL) j _ _ (List.getElem?_eq_getElem hlt1) (List.getElem?_eq_getElem hlt2)
   have hnm:nm=nm':=hnm;subst hnm;obtain⟨k1,tx1,bl1,i1,f1,ln1,co1,h1⟩:=hev.left;obtain⟨k2,tx2,bl2,i2,f2,ln2,co2,h2⟩:=hev.right;rw[hx,h1] at hod;rw[hy,h2] at hod';obtain⟨ai1,ni1,ci1,af1,nf1,cf1,a1,c1,Gv1,q1,hv1,hvG1,hov1⟩:=zdc hod;have q1:ds=[.bool n0,.bool n1,.string n2,.string nm,.string tn,.string tw,.bool hd,.int .i64 k1,.string tx1,.bool bl1,.slice ai1 ni1 ci1,.slice af1 nf1 cf1,.int .i64 ln1,.int .i64 co1,.slice a1 l1.length c1,.int .i64 x1,.int .i64 y1]:=q1
   subst q1;rw[← h1] at hv1;obtain⟨ai2,ni2,ci2,af2,nf2,cf2,a2,c2,Gv2,q2,hv2,hvG2,hov2⟩:=zdc hod';have q2:ds'=[.bool n0,.bool n1,.string n2,.string nm,.string tn,.string tw,.bool hd,.int .i64 k2,.string tx2,.bool bl2,.slice ai2 ni2 ci2,.slice af2 nf2 cf2,.int .i64 ln2,.int .i64 co2,.slice a2 l2.length c2,.int .i64 x2,.int .i64 y2]:=q2;subst q2;rw[← h2] at hv2;obtain⟨rfl,rfl⟩:x1=x2∧y1=y2:=hxy rfl
   have hplt:=(uh HF) p hpF;have hplt':=(uh HG) p' hpG;have hC0:=Hi (fun W (hb:Below w.heap.size w W)=>zkA f v1 v2 hev W [Value.int .i64 k1,.string tx1,.bool bl1,.slice ai1 ni1 ci1,.slice af1 nf1 cf1,.int .i64 ln1,.int .i64 co1] [Value.int .i64 k2,.string tx2,.bool bl2,.slice ai2 ni2 ci2,.slice af2 nf2 cf2,.int .i64 ln2,.int .i64 co2] Gv1 Gv2 (dt.Ow.agree v1 _ Gv1 (fun b hb' o=>hb.cell (p:=⟨b,o,none⟩) ((uh HF) b (hGF b (hvG1 b hb')))) hv1) (dt.Ow.agree v2 _ Gv2 (fun b hb' o=>hb.cell (p:=⟨b,o,none⟩) ((uh HG) b (hGG b (hvG2 b hb')))) hv2) (fun b hb'=>Nat.lt_of_lt_of_le ((uh HF) b (hGF b (hvG1 b hb'))) hb.size) (fun b hb'=>Nat.lt_of_lt_of_le ((uh HG) b (hGG b (hvG2 b hb'))) hb.size))
   have hC1:=(fun W (hb:Below w.heap.size w W)=>zhN f l1 l2 heq W a1 a2 c1 c2 G1 G2 (hov1.1.below (fun b hb'=>(uh HF) b (hGF b hb')) hb) (hov2.1.below (fun b hb'=>(uh HG) b (hGG b hb')) hb) (fun b hb'=>Nat.lt_of_lt_of_le ((uh HF) b (hGF b hb')) hb.size) (fun b hb'=>Nat.lt_of_lt_of_le ((uh HG) b (hGG b hb')) hb.size) hov1.2.1 hov2.2.1 hov1.2.2 hov2.2.2)
   obtain⟨m1,hm1⟩:∃ z,z=l1.length:=⟨_,rfl⟩;obtain⟨m2,hm2⟩:∃ z,z=l2.length:=⟨_,rfl⟩;rw[← hm1,← hm2] at hC1;replace hC1:=Hi hC1;rw[← hm1] at hrow;rw[← hm2] at hrow';clear hm1 hm2;have hr:=fun (q:Nat) (u:Value) hu=>(hI.cell (p:=⟨p,off+j * 17+q,none⟩) hplt).trans (hrow q u hu)
   have hr':=fun (q:Nat) (u:Value) hu=>(hI.cell (p:=⟨p',off'+j * 17+q,none⟩) hplt').trans (hrow' q u hu)
   have r0:wr.cell? ⟨p,off+j * 17,none⟩=some (.bool n0):=hr 0 _ rfl;have r1:wr.cell? ⟨p,off+j * 17+1,none⟩=some (.bool n1):=hr 1 _ rfl;have r2:wr.cell? ⟨p,off+j * 17+2,none⟩=some (.string n2):=hr 2 _ rfl;have r3:wr.cell? ⟨p,off+j * 17+3,none⟩=some (.string nm):=hr 3 _ rfl;have r4:wr.cell? ⟨p,off+j * 17+4,none⟩=some (.string tn):=hr 4 _ rfl;have r5:wr.cell? ⟨p,off+j * 17+5,none⟩=some (.string tw):=hr 5 _ rfl
   have r6:wr.cell? ⟨p,off+j * 17+6,none⟩=some (.bool hd):=hr 6 _ rfl;have r7:wr.cell? ⟨p,off+j * 17+7,none⟩=some (.int .i64 k1):=hr 7 _ rfl;have r8:wr.cell? ⟨p,off+j * 17+8,none⟩=some (.string tx1):=hr 8 _ rfl;have r9:wr.cell? ⟨p,off+j * 17+9,none⟩=some (.bool bl1):=hr 9 _ rfl;have r10:wr.cell? ⟨p,off+j * 17+10,none⟩=some (.slice ai1 ni1 ci1):=hr 10 _ rfl
   have r11:wr.cell? ⟨p,off+j * 17+11,none⟩=some (.slice af1 nf1 cf1):=hr 11 _ rfl;have r12:wr.cell? ⟨p,off+j * 17+12,none⟩=some (.int .i64 ln1):=hr 12 _ rfl;have r13:wr.cell? ⟨p,off+j * 17+13,none⟩=some (.int .i64 co1):=hr 13 _ rfl;have r14:wr.cell? ⟨p,off+j * 17+14,none⟩=some (.slice a1 m1 c1):=hr 14 _ rfl;have r15:wr.cell? ⟨p,off+j * 17+15,none⟩=some (.int .i64 x1):=hr 15 _ rfl
   have r16:wr.cell? ⟨p,off+j * 17+16,none⟩=some (.int .i64 y1):=hr 16 _ rfl;have s0:wr.cell? ⟨p',off'+j * 17,none⟩=some (.bool n0):=hr' 0 _ rfl;have s1:wr.cell? ⟨p',off'+j * 17+1,none⟩=some (.bool n1):=hr' 1 _ rfl;have s2:wr.cell? ⟨p',off'+j * 17+2,none⟩=some (.string n2):=hr' 2 _ rfl;have s3:wr.cell? ⟨p',off'+j * 17+3,none⟩=some (.string nm):=hr' 3 _ rfl
   have s4:wr.cell? ⟨p',off'+j * 17+4,none⟩=some (.string tn):=hr' 4 _ rfl;have s5:wr.cell? ⟨p',off'+j * 17+5,none⟩=some (.string tw):=hr' 5 _ rfl;have s6:wr.cell? ⟨p',off'+j * 17+6,none⟩=some (.bool hd):=hr' 6 _ rfl;have s7:wr.cell? ⟨p',off'+j * 17+7,none⟩=some (.int .i64 k2):=hr' 7 _ rfl;have s8:wr.cell? ⟨p',off'+j * 17+8,none⟩=some (.string tx2):=hr' 8 _ rfl
   have s9:wr.cell? ⟨p',off'+j * 17+9,none⟩=some (.bool bl2):=hr' 9 _ rfl;have s10:wr.cell? ⟨p',off'+j * 17+10,none⟩=some (.slice ai2 ni2 ci2):=hr' 10 _ rfl;have s11:wr.cell? ⟨p',off'+j * 17+11,none⟩=some (.slice af2 nf2 cf2):=hr' 11 _ rfl;have s12:wr.cell? ⟨p',off'+j * 17+12,none⟩=some (.int .i64 ln2):=hr' 12 _ rfl;have s13:wr.cell? ⟨p',off'+j * 17+13,none⟩=some (.int .i64 co2):=hr' 13 _ rfl
   have s14:wr.cell? ⟨p',off'+j * 17+14,none⟩=some (.slice a2 m2 c2):=hr' 14 _ rfl;have s15:wr.cell? ⟨p',off'+j * 17+15,none⟩=some (.int .i64 x1):=hr' 15 _ rfl;have s16:wr.cell? ⟨p',off'+j * 17+16,none⟩=some (.int .i64 y1):=hr' 16 _ rfl;have hq1:p<wr.heap.size:=Nat.lt_of_lt_of_le hplt hI.size;have hq2:p'<wr.heap.size:=Nat.lt_of_lt_of_le hplt' hI.size
   clear hr hr' hrow hrow' hod hod' hx hy hdl hdl' hget hget' hGF hGG h1 h2 hev heq hv1 hv2 hvG1 hvG2 hov1 hov2
   go_wp2_with fail
   go_quiet (fail)
   obtain⟨V0,hV0⟩:∃ V0,V0=wr.drewN nq:=⟨_,rfl⟩;have hS0:Below wr.heap.size wr V0:=by rw[hV0];exact Go.below_drewN (Below.refl _ _) nq
   rw[← hV0];clear hV0
   go_wp2_with fail
   have hS1:=hS0.drew;clear hS0;have hS0:=hS1;have bD0:=hI.trans (hS0.mono hI.size);refine wp_region_noPanic ?_
   refine wp_region_held (S:=fun w'=>Below wr.heap.size wr w') mixed ?_
   refine rgn.u 0 (v:=?v34) ?h34 hS0 ?_
   case h34=>(intro w' hw';go_simp;try with_reducible rfl)
   simp only[zA,zB,zC,Act.put,zD,zE,zF];refine rgn.u 1 (v:=?v35) ?h35 hS0 ?_
   case h35=>(intro w' hw';go_simp;try with_reducible rfl)
   simp only[zA,zB,zC,Act.put,zD,zE,zF];refine rgn.u 2 (v:=?v36) ?h36 hS0 ?_
   case h36=>(intro w' hw';go_simp;try with_reducible rfl)
   simp only[zA,zB,zC,Act.put,zD,zE,zF];refine rgn.u 3 (v:=?v37) ?h37 hS0 ?_
   case h37=>(intro w' hw';go_simp;try with_reducible rfl)
   simp only[zA,zB,zC,Act.put,zD,zE,zF];refine rgn.u 4 (v:=?v38) ?h38 hS0 ?_
   case h38=>(intro w' hw';have r7':=(hw'.cell (p:=⟨p,off+j * 17+7,none⟩) hq1).trans r7;have r8':=(hw'.cell (p:=⟨p,off+j * 17+8,none⟩) hq1).trans r8;have r9':=(hw'.cell (p:=⟨p,off+j * 17+9,none⟩) hq1).trans r9;have r10':=(hw'.cell (p:=⟨p,off+j * 17+10,none⟩) hq1).trans r10;have r11':=(hw'.cell (p:=⟨p,off+j * 17+11,none⟩) hq1).trans r11;have r12':=(hw'.cell (p:=⟨p,off+j * 17+12,none⟩) hq1).trans r12;have r13':=(hw'.cell (p:=⟨p,off+j * 17+13,none⟩) hq1).trans r13;go_simp;try with_reducible rfl)
   simp only[zA,zB,zC,Act.put,zD,zE,zF];refine rgn.u 5 (v:=?v39) ?h39 hS0 ?_
   case h39=>(intro w' hw';go_simp;try with_reducible rfl)
   simp only[zA,zB,zC,Act.put,zD,zE,zF];refine rgn.u 6 (v:=?v40) ?h40 hS0 ?_
   case h40=>(intro w' hw';go_simp;try with_reducible rfl)
   simp only[zA,zB,zC,Act.put,zD,zE,zF];refine rgn.u 7 (v:=?v41) ?h41 hS0 ?_
   case h41=>(intro w' hw';go_simp;try with_reducible rfl)
   simp only[zA,zB,zC,Act.put,zD,zE,zF];refine rgn.u 8 (v:=?v42) ?h42 hS0 ?_
   case h42=>(intro w' hw';go_simp;try with_reducible rfl)
   simp only[zA,zB,zC,Act.put,zD,zE,zF];refine rgn.u 9 (v:=?v43) ?h43 hS0 ?_
   case h43=>(intro w' hw';have s7':=(hw'.cell (p:=⟨p',off'+j * 17+7,none⟩) hq2).trans s7;have s8':=(hw'.cell (p:=⟨p',off'+j * 17+8,none⟩) hq2).trans s8;have s9':=(hw'.cell (p:=⟨p',off'+j * 17+9,none⟩) hq2).trans s9;have s10':=(hw'.cell (p:=⟨p',off'+j * 17+10,none⟩) hq2).trans s10;have s11':=(hw'.cell (p:=⟨p',off'+j * 17+11,none⟩) hq2).trans s11;have s12':=(hw'.cell (p:=⟨p',off'+j * 17+12,none⟩) hq2).trans s12;have s13':=(hw'.cell (p:=⟨p',off'+j * 17+13,none⟩) hq2).trans s13;go_simp;try with_reducible rfl)
   simp only[zA,zB,zC,Act.put,zD,zE,zF];refine rgn.u 10 (v:=?v44) ?h44 hS0 ?_
   case h44=>(intro w' hw';go_simp;try with_reducible rfl)
   simp only[zA,zB,zC,Act.put,zD,zE,zF];refine rgn.one (i:=11) _ rfl (by kernel_rfl) (by rfl) ?_
   simp only[zA,zB,zC,Act.put,zD,zE,zF]
   go_wp2_with fail
   refine ((uh hC0) _ bD0).mono ?_
   rintro e' w2 ⟨rfl,b2⟩;have hS1:Below wr.heap.size wr w2:=hS0.trans (b2.mono hS0.size);refine⟨hS1,?_⟩
   clear hS0 hC0;have hS0:=hS1;clear hS1;have bD1:=hI.trans (hS0.mono hI.size)
   try simp only[zA,zB,zC,Act.put,zD,zE,zF]
   refine rgn.u 12 (v:=?v45) ?h45 hS0 ?_
   case h45=>(intro w' hw';go_simp;try with_reducible rfl)
   simp only[zA,zB,zC,Act.put,zD,zE,zF];refine rgn.u 13 (v:=?v46) ?h46 hS0 ?_
   case h46=>(intro w' hw';go_simp;try with_reducible rfl)
   simp only[zA,zB,zC,Act.put,zD,zE,zF];refine rgn.u 14 (v:=?v47) ?h47 hS0 ?_
   case h47=>(intro w' hw';go_simp;try with_reducible rfl)
   simp only[zA,zB,zC,Act.put,zD,zE,zF];refine rgn.u 15 (v:=?v48) ?h48 hS0 ?_
   case h48=>(intro w' hw';go_simp;try with_reducible rfl)
   simp only[zA,zB,zC,Act.put,zD,zE,zF];refine rgn.u 16 (v:=?v49) ?h49 hS0 ?_
   case h49=>(intro w' hw';go_simp;try with_reducible rfl)
   simp only[zA,zB,zC,Act.put,zD,zE,zF];refine rgn.u 17 (v:=?v50) ?h50 hS0 ?_
   case h50=>(intro w' hw';go_simp;try with_reducible rfl)
   simp only[zA,zB,zC,Act.put,zD,zE,zF];refine rgn.u 18 (v:=?v51) ?h51 hS0 ?_
   case h51=>(intro w' hw';have r14':=(hw'.cell (p:=⟨p,off+j * 17+14,none⟩) hq1).trans r14;go_simp;try with_reducible rfl)
   simp only[zA,zB,zC,Act.put,zD,zE,zF];refine rgn.u 19 (v:=?v52) ?h52 hS0 ?_
   case h52=>(intro w' hw';go_simp;try with_reducible rfl)
   simp only[zA,zB,zC,Act.put,zD,zE,zF];refine rgn.u 20 (v:=?v53) ?h53 hS0 ?_
   case h53=>(intro w' hw';go_simp;try with_reducible rfl)
   simp only[zA,zB,zC,Act.put,zD,zE,zF];refine rgn.u 21 (v:=?v54) ?h54 hS0 ?_
   case h54=>(intro w' hw';go_simp;try with_reducible rfl)
   simp only[zA,zB,zC,Act.put,zD,zE,zF];refine rgn.u 22 (v:=?v55) ?h55 hS0 ?_
   case h55=>(intro w' hw';go_simp;try with_reducible rfl)
   simp only[zA,zB,zC,Act.put,zD,zE,zF];refine rgn.u 23 (v:=?v56) ?h56 hS0 ?_
   case h56=>(intro w' hw';have s14':=(hw'.cell (p:=⟨p',off'+j * 17+14,none⟩) hq2).trans s14;go_simp;try with_reducible rfl)
   simp only[zA,zB,zC,Act.put,zD,zE,zF];refine rgn.u 24 (v:=?v57) ?h57 hS0 ?_
   case h57=>(intro w' hw';go_simp;try with_reducible rfl)
   simp only[zA,zB,zC,Act.put,zD,zE,zF];refine rgn.one (i:=25) _ rfl (by kernel_rfl) (by rfl) ?_
   simp only[zA,zB,zC,Act.put,zD,zE,zF]
   go_wp2_with fail
   refine ((uh hC1) _ bD1).mono ?_
   rintro e' w3 ⟨rfl,b3⟩;have hS1:Below wr.heap.size wr w3:=hS0.trans (b3.mono hS0.size);refine⟨hS1,?_⟩
   clear hS0 hC1;have hS0:=hS1;clear hS1;have bD2:=hI.trans (hS0.mono hI.size)
   try simp only[zA,zB,zC,Act.put,zD,zE,zF]
   refine rgn.u 26 (v:=?v58) ?h58 hS0 ?_
   case h58=>(intro w' hw';go_simp;try with_reducible rfl)
   simp only[zA,zB,zC,Act.put,zD,zE,zF];refine rgn.u 27 (v:=?v59) ?h59 hS0 ?_
   case h59=>(intro w' hw';go_simp;try with_reducible rfl)
   simp only[zA,zB,zC,Act.put,zD,zE,zF];refine wpAnyH_done (by kernel_rfl) ?_ _;refine NoPanic.normal ?_
   go_wp2_with fail
   go_roundw
   case rel=>exact⟨j+1,by omega,by go_num,bD2⟩
   case measure=>first | (simp[intOf];omega) | simp[intOf]
  ·have ji:¬ (j:Int)<(n:Int):=by omega
   have hI9:=Hi hI;clear hlt
   go_wp2_with fail
   go_ret
   exact⟨rfl,uh hI9⟩
set_option maxHeartbeats 8000000 in
set_option maxRecDepth 4000 in
theorem zlu (f:Nat) (l l':List Dt) (h:EqLs (EqFd true f) l l'):SmLs 41 true 10 l l':=by
 intro w a a' c c' F G hl hl' hF hG hc hc' hm hm';obtain⟨hlen,hel⟩:=h;have HEL:=Hi hel;have HL:=Hi hl;have HL':=Hi hl';have HF:=Hi hF;have HG:=Hi hG;obtain⟨n,hn⟩:∃ n,n=l.length:=⟨_,rfl⟩;have hn':n=l'.length:=hn.trans hlen;rw[← hn] at hc ⊢;rw[← hn'] at hc' ⊢;have Hn:=Hi (an hn hn');clear hel hl hl' hF hG hn hn' hlen;unfold maxLen at hm hm'
 go_enter Tryz.func41,Tryz.ntmps41
 go_wp2_with fail
 go_loopw [7] (fun i wr=>∃ j:Nat,j≤n∧i = .int .i64 j∧Below w.heap.size w wr) (fun i _=>n - (intOf i).toNat)
 case atStart=>exact⟨0,Nat.zero_le _,rfl,Below.refl _ _⟩
 case round =>
  obtain⟨j,hj,rfl,hI⟩:=hrel
  by_cases hlt:j<n
  ·have ji:(j:Int)<(n:Int):=by omega
   have hlt1:j<l.length:=by have:=uh Hn;omega
   have hlt2:j<l'.length:=by have:=uh Hn;omega
   obtain⟨p,off,rfl,hpF,hget⟩:=(uh HL).resolve_left (fun h0=>by rw[h0] at hlt1;exact absurd hlt1 (Nat.not_lt_zero _))
   obtain⟨p',off',rfl,hpG,hget'⟩:=(uh HL').resolve_left (fun h0=>by rw[h0] at hlt2;exact absurd hlt2 (Nat.not_lt_zero _))
   obtain⟨ds,G1,hrow,hdl,hod,hGF⟩:=hget j _ (List.getElem?_eq_getElem hlt1)
   obtain⟨ds',G2,hrow',hdl',hod',hGG⟩:=hget' j _ (List.getElem?_eq_getElem hlt2)
   obtain⟨⟨n0,n1,n2⟩,⟨nm,x1,y1⟩,⟨nm',x2,y2⟩,l1,l2,tn,tw,g1,g2,hx,hy,⟨hnm,hxy⟩,heq,heq2⟩:=(uh HEL) j _ _ (List.getElem?_eq_getElem hlt1) (List.getElem?_eq_getElem hlt2)
   have hnm:nm=nm':=hnm;subst hnm;rw[hx] at hod;rw[hy] at hod';obtain⟨a1,c1,b1,d1,q1,hov1,how1⟩:=zdW hod;have q1:ds=[.bool n0,.bool n1,.string n2,.string nm,.slice a1 l1.length c1,.string tn,.string tw,.slice b1 g1.length d1,.int .i64 x1,.int .i64 y1]:=q1;subst q1;obtain⟨a2,c2,b2,d2,q2,hov2,how2⟩:=zdW hod';have q2:ds'=[.bool n0,.bool n1,.string n2,.string nm,.slice a2 l2.length c2,.string tn,.string tw,.slice b2 g2.length d2,.int .i64 x2,.int .i64 y2]:=q2
   subst q2;obtain⟨rfl,rfl⟩:x1=x2∧y1=y2:=hxy rfl;have hplt:=(uh HF) p hpF;have hplt':=(uh HG) p' hpG;have hC0:=(fun W (hb:Below w.heap.size w W)=>zhT f l1 l2 heq W a1 a2 c1 c2 G1 G2 (hov1.1.below (fun b hb'=>(uh HF) b (hGF b hb')) hb) (hov2.1.below (fun b hb'=>(uh HG) b (hGG b hb')) hb) (fun b hb'=>Nat.lt_of_lt_of_le ((uh HF) b (hGF b hb')) hb.size) (fun b hb'=>Nat.lt_of_lt_of_le ((uh HG) b (hGG b hb')) hb.size) hov1.2.1 hov2.2.1 hov1.2.2 hov2.2.2)
   obtain⟨m1,hm1⟩:∃ z,z=l1.length:=⟨_,rfl⟩;obtain⟨m2,hm2⟩:∃ z,z=l2.length:=⟨_,rfl⟩;rw[← hm1,← hm2] at hC0;replace hC0:=Hi hC0;rw[← hm1] at hrow;rw[← hm2] at hrow';clear hm1 hm2;have hC1:=(fun W (hb:Below w.heap.size w W)=>zhN f g1 g2 heq2 W b1 b2 d1 d2 G1 G2 (how1.1.below (fun b hb'=>(uh HF) b (hGF b hb')) hb) (how2.1.below (fun b hb'=>(uh HG) b (hGG b hb')) hb) (fun b hb'=>Nat.lt_of_lt_of_le ((uh HF) b (hGF b hb')) hb.size) (fun b hb'=>Nat.lt_of_lt_of_le ((uh HG) b (hGG b hb')) hb.size) how1.2.1 how2.2.1 how1.2.2 how2.2.2)
   obtain⟨o1,ho1⟩:∃ z,z=g1.length:=⟨_,rfl⟩;obtain⟨o2,ho2⟩:∃ z,z=g2.length:=⟨_,rfl⟩;rw[← ho1,← ho2] at hC1;replace hC1:=Hi hC1;rw[← ho1] at hrow;rw[← ho2] at hrow';clear ho1 ho2;have hr:=fun (q:Nat) (u:Value) hu=>(hI.cell (p:=⟨p,off+j * 10+q,none⟩) hplt).trans (hrow q u hu)
   have hr':=fun (q:Nat) (u:Value) hu=>(hI.cell (p:=⟨p',off'+j * 10+q,none⟩) hplt').trans (hrow' q u hu)
   have r0:wr.cell? ⟨p,off+j * 10,none⟩=some (.bool n0):=hr 0 _ rfl;have r1:wr.cell? ⟨p,off+j * 10+1,none⟩=some (.bool n1):=hr 1 _ rfl;have r2:wr.cell? ⟨p,off+j * 10+2,none⟩=some (.string n2):=hr 2 _ rfl;have r3:wr.cell? ⟨p,off+j * 10+3,none⟩=some (.string nm):=hr 3 _ rfl;have r4:wr.cell? ⟨p,off+j * 10+4,none⟩=some (.slice a1 m1 c1):=hr 4 _ rfl
   have r5:wr.cell? ⟨p,off+j * 10+5,none⟩=some (.string tn):=hr 5 _ rfl;have r6:wr.cell? ⟨p,off+j * 10+6,none⟩=some (.string tw):=hr 6 _ rfl;have r7:wr.cell? ⟨p,off+j * 10+7,none⟩=some (.slice b1 o1 d1):=hr 7 _ rfl;have r8:wr.cell? ⟨p,off+j * 10+8,none⟩=some (.int .i64 x1):=hr 8 _ rfl;have r9:wr.cell? ⟨p,off+j * 10+9,none⟩=some (.int .i64 y1):=hr 9 _ rfl
   have s0:wr.cell? ⟨p',off'+j * 10,none⟩=some (.bool n0):=hr' 0 _ rfl;have s1:wr.cell? ⟨p',off'+j * 10+1,none⟩=some (.bool n1):=hr' 1 _ rfl;have s2:wr.cell? ⟨p',off'+j * 10+2,none⟩=some (.string n2):=hr' 2 _ rfl;have s3:wr.cell? ⟨p',off'+j * 10+3,none⟩=some (.string nm):=hr' 3 _ rfl;have s4:wr.cell? ⟨p',off'+j * 10+4,none⟩=some (.slice a2 m2 c2):=hr' 4 _ rfl
   have s5:wr.cell? ⟨p',off'+j * 10+5,none⟩=some (.string tn):=hr' 5 _ rfl;have s6:wr.cell? ⟨p',off'+j * 10+6,none⟩=some (.string tw):=hr' 6 _ rfl;have s7:wr.cell? ⟨p',off'+j * 10+7,none⟩=some (.slice b2 o2 d2):=hr' 7 _ rfl;have s8:wr.cell? ⟨p',off'+j * 10+8,none⟩=some (.int .i64 x1):=hr' 8 _ rfl;have s9:wr.cell? ⟨p',off'+j * 10+9,none⟩=some (.int .i64 y1):=hr' 9 _ rfl
   have hq1:p<wr.heap.size:=Nat.lt_of_lt_of_le hplt hI.size;have hq2:p'<wr.heap.size:=Nat.lt_of_lt_of_le hplt' hI.size;clear hr hr' hrow hrow' hod hod' hx hy hdl hdl' hget hget' hGF hGG heq heq2 hov1 hov2 how1 how2
   go_wp2_with fail
   go_quiet (fail)
   obtain⟨V0,hV0⟩:∃ V0,V0=wr.drewN nq:=⟨_,rfl⟩;have hS0:Below wr.heap.size wr V0:=by rw[hV0];exact Go.below_drewN (Below.refl _ _) nq
   rw[← hV0];clear hV0
   go_wp2_with fail
   have hS1:=hS0.drew;clear hS0;have hS0:=hS1;have bD0:=hI.trans (hS0.mono hI.size);refine wp_region_noPanic ?_
   refine wp_region_held (S:=fun w'=>Below wr.heap.size wr w') mixed ?_
   refine rgn.u 0 (v:=?v60) ?h60 hS0 ?_
   case h60=>(intro w' hw';go_simp;try with_reducible rfl)
   simp only[zA,zB,zC,Act.put,zD,zE,zF];refine rgn.u 1 (v:=?v61) ?h61 hS0 ?_
   case h61=>(intro w' hw';go_simp;try with_reducible rfl)
   simp only[zA,zB,zC,Act.put,zD,zE,zF];refine rgn.u 2 (v:=?v62) ?h62 hS0 ?_
   case h62=>(intro w' hw';go_simp;try with_reducible rfl)
   simp only[zA,zB,zC,Act.put,zD,zE,zF];refine rgn.u 3 (v:=?v63) ?h63 hS0 ?_
   case h63=>(intro w' hw';go_simp;try with_reducible rfl)
   simp only[zA,zB,zC,Act.put,zD,zE,zF];refine rgn.u 4 (v:=?v64) ?h64 hS0 ?_
   case h64=>(intro w' hw';have r4':=(hw'.cell (p:=⟨p,off+j * 10+4,none⟩) hq1).trans r4;go_simp;try with_reducible rfl)
   simp only[zA,zB,zC,Act.put,zD,zE,zF];refine rgn.u 5 (v:=?v65) ?h65 hS0 ?_
   case h65=>(intro w' hw';go_simp;try with_reducible rfl)
   simp only[zA,zB,zC,Act.put,zD,zE,zF];refine rgn.u 6 (v:=?v66) ?h66 hS0 ?_
   case h66=>(intro w' hw';go_simp;try with_reducible rfl)
   simp only[zA,zB,zC,Act.put,zD,zE,zF];refine rgn.u 7 (v:=?v67) ?h67 hS0 ?_
   case h67=>(intro w' hw';go_simp;try with_reducible rfl)
   simp only[zA,zB,zC,Act.put,zD,zE,zF];refine rgn.u 8 (v:=?v68) ?h68 hS0 ?_
   case h68=>(intro w' hw';go_simp;try with_reducible rfl)
   simp only[zA,zB,zC,Act.put,zD,zE,zF];refine rgn.u 9 (v:=?v69) ?h69 hS0 ?_
   case h69=>(intro w' hw';have s4':=(hw'.cell (p:=⟨p',off'+j * 10+4,none⟩) hq2).trans s4;go_simp;try with_reducible rfl)
   simp only[zA,zB,zC,Act.put,zD,zE,zF];refine rgn.u 10 (v:=?v70) ?h70 hS0 ?_
   case h70=>(intro w' hw';go_simp;try with_reducible rfl)
   simp only[zA,zB,zC,Act.put,zD,zE,zF];refine rgn.one (i:=11) _ rfl (by kernel_rfl) (by rfl) ?_
   simp only[zA,zB,zC,Act.put,zD,zE,zF]
   go_wp2_with fail
   refine ((uh hC0) _ bD0).mono ?_
   rintro e' w2 ⟨rfl,b2⟩;have hS1:Below wr.heap.size wr w2:=hS0.trans (b2.mono hS0.size);refine⟨hS1,?_⟩
   clear hS0 hC0;have hS0:=hS1;clear hS1;have bD1:=hI.trans (hS0.mono hI.size)
   try simp only[zA,zB,zC,Act.put,zD,zE,zF]
   refine rgn.u 12 (v:=?v71) ?h71 hS0 ?_
   case h71=>(intro w' hw';go_simp;try with_reducible rfl)
   simp only[zA,zB,zC,Act.put,zD,zE,zF];refine rgn.u 13 (v:=?v72) ?h72 hS0 ?_
   case h72=>(intro w' hw';go_simp;try with_reducible rfl)
   simp only[zA,zB,zC,Act.put,zD,zE,zF];refine rgn.u 14 (v:=?v73) ?h73 hS0 ?_
   case h73=>(intro w' hw';go_simp;try with_reducible rfl)
   simp only[zA,zB,zC,Act.put,zD,zE,zF];refine rgn.u 15 (v:=?v74) ?h74 hS0 ?_
   case h74=>(intro w' hw';go_simp;try with_reducible rfl)
   simp only[zA,zB,zC,Act.put,zD,zE,zF];refine rgn.u 16 (v:=?v75) ?h75 hS0 ?_
   case h75=>(intro w' hw';go_simp;try with_reducible rfl)
   simp only[zA,zB,zC,Act.put,zD,zE,zF];refine rgn.u 17 (v:=?v76) ?h76 hS0 ?_
   case h76=>(intro w' hw';go_simp;try with_reducible rfl)
   simp only[zA,zB,zC,Act.put,zD,zE,zF];refine rgn.u 18 (v:=?v77) ?h77 hS0 ?_
   case h77=>(intro w' hw';have r7':=(hw'.cell (p:=⟨p,off+j * 10+7,none⟩) hq1).trans r7;go_simp;try with_reducible rfl)
   simp only[zA,zB,zC,Act.put,zD,zE,zF];refine rgn.u 19 (v:=?v78) ?h78 hS0 ?_
   case h78=>(intro w' hw';go_simp;try with_reducible rfl)
   simp only[zA,zB,zC,Act.put,zD,zE,zF];refine rgn.u 20 (v:=?v79) ?h79 hS0 ?_
   case h79=>(intro w' hw';go_simp;try with_reducible rfl)
   simp only[zA,zB,zC,Act.put,zD,zE,zF];refine rgn.u 21 (v:=?v80) ?h80 hS0 ?_
   case h80=>(intro w' hw';go_simp;try with_reducible rfl)
   simp only[zA,zB,zC,Act.put,zD,zE,zF];refine rgn.u 22 (v:=?v81) ?h81 hS0 ?_
   case h81=>(intro w' hw';go_simp;try with_reducible rfl)
   simp only[zA,zB,zC,Act.put,zD,zE,zF];refine rgn.u 23 (v:=?v82) ?h82 hS0 ?_
   case h82=>(intro w' hw';have s7':=(hw'.cell (p:=⟨p',off'+j * 10+7,none⟩) hq2).trans s7;go_simp;try with_reducible rfl)
   simp only[zA,zB,zC,Act.put,zD,zE,zF];refine rgn.u 24 (v:=?v83) ?h83 hS0 ?_
   case h83=>(intro w' hw';go_simp;try with_reducible rfl)
   simp only[zA,zB,zC,Act.put,zD,zE,zF];refine rgn.one (i:=25) _ rfl (by kernel_rfl) (by rfl) ?_
   simp only[zA,zB,zC,Act.put,zD,zE,zF]
   go_wp2_with fail
   refine ((uh hC1) _ bD1).mono ?_
   rintro e' w3 ⟨rfl,b3⟩;have hS1:Below wr.heap.size wr w3:=hS0.trans (b3.mono hS0.size);refine⟨hS1,?_⟩
   clear hS0 hC1;have hS0:=hS1;clear hS1;have bD2:=hI.trans (hS0.mono hI.size)
   try simp only[zA,zB,zC,Act.put,zD,zE,zF]
   refine rgn.u 26 (v:=?v84) ?h84 hS0 ?_
   case h84=>(intro w' hw';go_simp;try with_reducible rfl)
   simp only[zA,zB,zC,Act.put,zD,zE,zF];refine rgn.u 27 (v:=?v85) ?h85 hS0 ?_
   case h85=>(intro w' hw';go_simp;try with_reducible rfl)
   simp only[zA,zB,zC,Act.put,zD,zE,zF];refine wpAnyH_done (by kernel_rfl) ?_ _;refine NoPanic.normal ?_
   go_wp2_with fail
   go_roundw
   case rel=>exact⟨j+1,by omega,by go_num,bD2⟩
   case measure=>first | (simp[intOf];omega) | simp[intOf]
  ·have ji:¬ (j:Int)<(n:Int):=by omega
   have hI9:=Hi hI;clear hlt
   go_wp2_with fail
   go_ret
   exact⟨rfl,uh hI9⟩
set_option maxHeartbeats 8000000 in
set_option maxRecDepth 4000 in
theorem zqP (f:Nat) (s s':Sy) (h:EqY true f s s') (w:World) (cs cs':List Value) (F G:List Nat) (ho:Ow w s.d cs F) (ho':Ow w s'.d cs' G) (hF:∀ b ∈ F,b<w.heap.size) (hG:∀ b ∈ G,b<w.heap.size) :
  Calls Tryz.prog 29 #[.agg cs.toArray,.agg cs'.toArray,.bool true] w fun e w'=>e = .returned (.bool true)∧Below w.heap.size w w':=by
 obtain⟨a1,c1,a2,c2,a3,c3,a4,c4,a5,c5,a6,c6,a7,c7,a8,c8,rfl,u1,u2,u3,u4,u5,u6,u7,u8⟩:=zd0 ho;obtain⟨b1,d1,b2,d2,b3,d3,b4,d4,b5,d5,b6,d6,b7,d7,b8,d8,rfl,v1,v2,v3,v4,v5,v6,v7,v8⟩:=zd0 ho';clear ho ho';have eqs:=h;have hC6:=(fun W (hb:Below w.heap.size w W)=>zhb s.ifs s'.ifs h.ifs W a1 b1 c1 d1 F G (u1.1.below hF hb) (v1.1.below hG hb) (fun b hb'=>Nat.lt_of_lt_of_le (hF b hb') hb.size) (fun b hb'=>Nat.lt_of_lt_of_le (hG b hb') hb.size) u1.2.1 v1.2.1 u1.2.2 v1.2.2)
 have hC10:=(fun W (hb:Below w.heap.size w W)=>zhb s.ms s'.ms h.ms W a5 b5 c5 d5 F G (u5.1.below hF hb) (v5.1.below hG hb) (fun b hb'=>Nat.lt_of_lt_of_le (hF b hb') hb.size) (fun b hb'=>Nat.lt_of_lt_of_le (hG b hb') hb.size) u5.2.1 v5.2.1 u5.2.2 v5.2.2)
 have hC14:=(fun W (hb:Below w.heap.size w W)=>zhb s.ps s'.ps h.ps W a8 b8 c8 d8 F G (u8.1.below hF hb) (v8.1.below hG hb) (fun b hb'=>Nat.lt_of_lt_of_le (hF b hb') hb.size) (fun b hb'=>Nat.lt_of_lt_of_le (hG b hb') hb.size) u8.2.1 v8.2.1 u8.2.2 v8.2.2)
 have hC8:=(fun W (hb:Below w.heap.size w W)=>zlu f s.fs s'.fs h.fs W a3 b3 c3 d3 F G (u3.1.below hF hb) (v3.1.below hG hb) (fun b hb'=>Nat.lt_of_lt_of_le (hF b hb') hb.size) (fun b hb'=>Nat.lt_of_lt_of_le (hG b hb') hb.size) u3.2.1 v3.2.1 u3.2.2 v3.2.2)
 have hC9:=(fun W (hb:Below w.heap.size w W)=>zhT f s.ins s'.ins h.ins W a4 b4 c4 d4 F G (u4.1.below hF hb) (v4.1.below hG hb) (fun b hb'=>Nat.lt_of_lt_of_le (hF b hb') hb.size) (fun b hb'=>Nat.lt_of_lt_of_le (hG b hb') hb.size) u4.2.1 v4.2.1 u4.2.2 v4.2.2)
 have hC11:=(fun W (hb:Below w.heap.size w W)=>zl6 f s.vs s'.vs h.vs W a6 b6 c6 d6 F G (u6.1.below hF hb) (v6.1.below hG hb) (fun b hb'=>Nat.lt_of_lt_of_le (hF b hb') hb.size) (fun b hb'=>Nat.lt_of_lt_of_le (hG b hb') hb.size) u6.2.1 v6.2.1 u6.2.2 v6.2.2)
 have hC12:=(fun W (hb:Below w.heap.size w W)=>zou s.rs s'.rs h.rs W a7 b7 c7 d7 F G (u7.1.below hF hb) (v7.1.below hG hb) (fun b hb'=>Nat.lt_of_lt_of_le (hF b hb') hb.size) (fun b hb'=>Nat.lt_of_lt_of_le (hG b hb') hb.size) u7.2.1 v7.2.1 u7.2.2 v7.2.2)
 have hC7:=(fun W (hb:Below w.heap.size w W)=>zhN f s.ds s'.ds h.ds W a2 b2 c2 d2 F G (u2.1.below hF hb) (v2.1.below hG hb) (fun b hb'=>Nat.lt_of_lt_of_le (hF b hb') hb.size) (fun b hb'=>Nat.lt_of_lt_of_le (hG b hb') hb.size) u2.2.1 v2.2.1 u2.2.2 v2.2.2)
 rw[← h.k,← h.ex,← h.n,← h.nm,← h.rp];rw[← (h.pos rfl).1,← (h.pos rfl).2];clear eqs h hF hG u1 v1 u2 v2 u3 v3 u4 v4 u5 v5 u6 v6 u7 v7 u8 v8;obtain⟨m1,hm1⟩:∃ z,z=s.ifs.length:=⟨_,rfl⟩;obtain⟨n1,hn1⟩:∃ z,z=s'.ifs.length:=⟨_,rfl⟩;rw[← hm1,← hn1] at hC6;rw[← hm1,← hn1];replace hC6:=Hi hC6;clear hm1 hn1;obtain⟨m5,hm5⟩:∃ z,z=s.ms.length:=⟨_,rfl⟩;obtain⟨n5,hn5⟩:∃ z,z=s'.ms.length:=⟨_,rfl⟩
 rw[← hm5,← hn5] at hC10;rw[← hm5,← hn5];replace hC10:=Hi hC10;clear hm5 hn5;obtain⟨m8,hm8⟩:∃ z,z=s.ps.length:=⟨_,rfl⟩;obtain⟨n8,hn8⟩:∃ z,z=s'.ps.length:=⟨_,rfl⟩;rw[← hm8,← hn8] at hC14;rw[← hm8,← hn8];replace hC14:=Hi hC14;clear hm8 hn8;obtain⟨m3,hm3⟩:∃ z,z=s.fs.length:=⟨_,rfl⟩;obtain⟨n3,hn3⟩:∃ z,z=s'.fs.length:=⟨_,rfl⟩;rw[← hm3,← hn3] at hC8;rw[← hm3,← hn3]
 replace hC8:=Hi hC8;clear hm3 hn3;obtain⟨m4,hm4⟩:∃ z,z=s.ins.length:=⟨_,rfl⟩;obtain⟨n4,hn4⟩:∃ z,z=s'.ins.length:=⟨_,rfl⟩;rw[← hm4,← hn4] at hC9;rw[← hm4,← hn4];replace hC9:=Hi hC9;clear hm4 hn4;obtain⟨m6,hm6⟩:∃ z,z=s.vs.length:=⟨_,rfl⟩;obtain⟨n6,hn6⟩:∃ z,z=s'.vs.length:=⟨_,rfl⟩;rw[← hm6,← hn6] at hC11;rw[← hm6,← hn6];replace hC11:=Hi hC11;clear hm6 hn6
 obtain⟨m7,hm7⟩:∃ z,z=s.rs.length:=⟨_,rfl⟩;obtain⟨n7,hn7⟩:∃ z,z=s'.rs.length:=⟨_,rfl⟩;rw[← hm7,← hn7] at hC12;rw[← hm7,← hn7];replace hC12:=Hi hC12;clear hm7 hn7;obtain⟨m2,hm2⟩:∃ z,z=s.ds.length:=⟨_,rfl⟩;obtain⟨n2,hn2⟩:∃ z,z=s'.ds.length:=⟨_,rfl⟩;rw[← hm2,← hn2] at hC7;rw[← hm2,← hn2];replace hC7:=Hi hC7;clear hm2 hn2;obtain⟨sk,sx,⟨na,nb,nc⟩,snm,_,_,_,_,_,_,_,srp,_,sln,sco⟩:=s
 obtain⟨sk',sx',sn',snm',_,_,_,_,_,_,_,srp',_,sln',sco'⟩:=s';simp only;obtain⟨W2,hW2⟩:∃ W2,W2=(w.alloc (.cells #[.int .i64 sk,.bool sx,.bool na,.bool nb,.string nc,.string snm,.slice a1 m1 c1,.slice a2 m2 c2,.slice a3 m3 c3,.slice a4 m4 c4,.slice a5 m5 c5,.slice a6 m6 c6,.slice a7 m7 c7,.bool srp,.slice a8 m8 c8,.int .i64 sln,.int .i64 sco] 62)).alloc (.cells #[.int .i64 sk,.bool sx,.bool na,.bool nb,.string nc,.string snm,.slice b1 n1 d1,.slice b2 n2 d2,.slice b3 n3 d3,.slice b4 n4 d4,.slice b5 n5 d5,.slice b6 n6 d6,.slice b7 n7 d7,.bool srp,.slice b8 n8 d8,.int .i64 sln,.int .i64 sco] 62):=⟨_,rfl⟩
 have HX:=Hi (show W2.heap[w.heap.size]? = some (.cells #[.int .i64 sk,.bool sx,.bool na,.bool nb,.string nc,.string snm,.slice a1 m1 c1,.slice a2 m2 c2,.slice a3 m3 c3,.slice a4 m4 c4,.slice a5 m5 c5,.slice a6 m6 c6,.slice a7 m7 c7,.bool srp,.slice a8 m8 c8,.int .i64 sln,.int .i64 sco] 62 (0,0))∧W2.heap[w.heap.size+1]? = some (.cells #[.int .i64 sk,.bool sx,.bool na,.bool nb,.string nc,.string snm,.slice b1 n1 d1,.slice b2 n2 d2,.slice b3 n3 d3,.slice b4 n4 d4,.slice b5 n5 d5,.slice b6 n6 d6,.slice b7 n7 d7,.bool srp,.slice b8 n8 d8,.int .i64 sln,.int .i64 sco] 62 (0,0)) from by rw[hW2];exact znb _ _ _ _ _)
 have bW:Below w.heap.size w W2:=by rw[hW2];exact zgR _ _ _
 have zX:w.heap.size+2≤W2.heap.size:=by rw[hW2];simp
 go_enter Tryz.func29,Tryz.ntmps29
 go_wp2_with fail
 rw[← hW2];clear hW2;refine ((uh hC6) W2 bW).mono ?_
 rintro e' t0 ⟨rfl,bb0⟩;have ba0:=bW.trans (bb0.mono bW.size);have bx0:Below W2.heap.size W2 t0:=bb0;have y0:t0.cell? ⟨w.heap.size,10,none⟩=some (.slice a5 m5 c5):=(bx0.cell (p:=⟨w.heap.size,10,none⟩) (show w.heap.size<W2.heap.size by omega)).trans ((zG (uh HX).1 10).trans rfl)
 have z0:t0.cell? ⟨w.heap.size+1,10,none⟩=some (.slice b5 n5 d5):=(bx0.cell (p:=⟨w.heap.size+1,10,none⟩) (show w.heap.size+1<W2.heap.size by omega)).trans ((zG (uh HX).2 10).trans rfl)
 clear hC6
 go_wp2_with fail
 refine ((uh hC10) t0 ba0).mono ?_
 rintro e' t1 ⟨rfl,bb1⟩;have ba1:=ba0.trans (bb1.mono ba0.size);have bx1:Below W2.heap.size W2 t1:=bx0.trans (bb1.mono bx0.size);have y1:t1.cell? ⟨w.heap.size,14,none⟩=some (.slice a8 m8 c8):=(bx1.cell (p:=⟨w.heap.size,14,none⟩) (show w.heap.size<W2.heap.size by omega)).trans ((zG (uh HX).1 14).trans rfl)
 have z1:t1.cell? ⟨w.heap.size+1,14,none⟩=some (.slice b8 n8 d8):=(bx1.cell (p:=⟨w.heap.size+1,14,none⟩) (show w.heap.size+1<W2.heap.size by omega)).trans ((zG (uh HX).2 14).trans rfl)
 clear hC10
 go_wp2_with fail
 refine ((uh hC14) t1 ba1).mono ?_
 rintro e' t2 ⟨rfl,bb2⟩;have ba2:=ba1.trans (bb2.mono ba1.size);have bx2:Below W2.heap.size W2 t2:=bx1.trans (bb2.mono bx1.size);have y2:t2.cell? ⟨w.heap.size,8,none⟩=some (.slice a3 m3 c3):=(bx2.cell (p:=⟨w.heap.size,8,none⟩) (show w.heap.size<W2.heap.size by omega)).trans ((zG (uh HX).1 8).trans rfl)
 have z2:t2.cell? ⟨w.heap.size+1,8,none⟩=some (.slice b3 n3 d3):=(bx2.cell (p:=⟨w.heap.size+1,8,none⟩) (show w.heap.size+1<W2.heap.size by omega)).trans ((zG (uh HX).2 8).trans rfl)
 clear hC14
 go_wp2_with fail
 refine ((uh hC8) t2 ba2).mono ?_
 rintro e' t3 ⟨rfl,bb3⟩;have ba3:=ba2.trans (bb3.mono ba2.size);have bx3:Below W2.heap.size W2 t3:=bx2.trans (bb3.mono bx2.size);have y3:t3.cell? ⟨w.heap.size,9,none⟩=some (.slice a4 m4 c4):=(bx3.cell (p:=⟨w.heap.size,9,none⟩) (show w.heap.size<W2.heap.size by omega)).trans ((zG (uh HX).1 9).trans rfl)
 have z3:t3.cell? ⟨w.heap.size+1,9,none⟩=some (.slice b4 n4 d4):=(bx3.cell (p:=⟨w.heap.size+1,9,none⟩) (show w.heap.size+1<W2.heap.size by omega)).trans ((zG (uh HX).2 9).trans rfl)
 clear hC8
 go_wp2_with fail
 refine ((uh hC9) t3 ba3).mono ?_
 rintro e' t4 ⟨rfl,bb4⟩;have ba4:=ba3.trans (bb4.mono ba3.size);have bx4:Below W2.heap.size W2 t4:=bx3.trans (bb4.mono bx3.size);have y4:t4.cell? ⟨w.heap.size,11,none⟩=some (.slice a6 m6 c6):=(bx4.cell (p:=⟨w.heap.size,11,none⟩) (show w.heap.size<W2.heap.size by omega)).trans ((zG (uh HX).1 11).trans rfl)
 have z4:t4.cell? ⟨w.heap.size+1,11,none⟩=some (.slice b6 n6 d6):=(bx4.cell (p:=⟨w.heap.size+1,11,none⟩) (show w.heap.size+1<W2.heap.size by omega)).trans ((zG (uh HX).2 11).trans rfl)
 clear hC9
 go_wp2_with fail
 refine ((uh hC11) t4 ba4).mono ?_
 rintro e' t5 ⟨rfl,bb5⟩;have ba5:=ba4.trans (bb5.mono ba4.size);have bx5:Below W2.heap.size W2 t5:=bx4.trans (bb5.mono bx4.size);have y5:t5.cell? ⟨w.heap.size,12,none⟩=some (.slice a7 m7 c7):=(bx5.cell (p:=⟨w.heap.size,12,none⟩) (show w.heap.size<W2.heap.size by omega)).trans ((zG (uh HX).1 12).trans rfl)
 have z5:t5.cell? ⟨w.heap.size+1,12,none⟩=some (.slice b7 n7 d7):=(bx5.cell (p:=⟨w.heap.size+1,12,none⟩) (show w.heap.size+1<W2.heap.size by omega)).trans ((zG (uh HX).2 12).trans rfl)
 clear hC11
 go_wp2_with fail
 refine ((uh hC12) t5 ba5).mono ?_
 rintro e' t6 ⟨rfl,bb6⟩;have ba6:=ba5.trans (bb6.mono ba5.size);have bx6:Below W2.heap.size W2 t6:=bx5.trans (bb6.mono bx5.size);have y6:t6.cell? ⟨w.heap.size,7,none⟩=some (.slice a2 m2 c2):=(bx6.cell (p:=⟨w.heap.size,7,none⟩) (show w.heap.size<W2.heap.size by omega)).trans ((zG (uh HX).1 7).trans rfl)
 have z6:t6.cell? ⟨w.heap.size+1,7,none⟩=some (.slice b2 n2 d2):=(bx6.cell (p:=⟨w.heap.size+1,7,none⟩) (show w.heap.size+1<W2.heap.size by omega)).trans ((zG (uh HX).2 7).trans rfl)
 clear hC12
 go_wp2_with fail
 refine ((uh hC7) t6 ba6).mono ?_
 rintro e' t7 ⟨rfl,bb7⟩;have ba7:=ba6.trans (bb7.mono ba6.size);have bx7:Below W2.heap.size W2 t7:=bx6.trans (bb7.mono bx6.size);clear hC7;have BB:=Hi ba7
 go_wp2_with fail
 go_ret
 exact⟨rfl,uh BB⟩
theorem infoSD:(Tryz.prog.info? 62).map (·.size)=some 17:=by kernel_rfl
set_option maxHeartbeats 8000000 in
set_option maxRecDepth 4000 in
theorem zoy (f:Nat) (l l':List Dt) (h:EqLs (EqD true f) l l'):SmLs 16 true 17 l l':=by
 intro w a a' c c' F G hl hl' hF hG hc hc' hm hm';obtain⟨hlen,hel⟩:=h;have HEL:=Hi hel;have HL:=Hi hl;have HL':=Hi hl';have HF:=Hi hF;have HG:=Hi hG;obtain⟨n,hn⟩:∃ n,n=l.length:=⟨_,rfl⟩;have hn':n=l'.length:=hn.trans hlen;rw[← hn] at hc ⊢;rw[← hn'] at hc' ⊢;have Hn:=Hi (an hn hn');clear hel hl hl' hF hG hn hn' hlen;unfold maxLen at hm hm'
 go_enter Tryz.func16,Tryz.ntmps16
 go_wp2_with fail
 go_loopw [7] (fun i wr=>∃ j:Nat,j≤n∧i = .int .i64 j∧Below w.heap.size w wr) (fun i _=>n - (intOf i).toNat)
 case atStart=>exact⟨0,Nat.zero_le _,rfl,Below.refl _ _⟩
 case round =>
  obtain⟨j,hj,rfl,hI⟩:=hrel
  by_cases hlt:j<n
  ·have ji:(j:Int)<(n:Int):=by omega
   have hlt1:j<l.length:=by have:=uh Hn;omega
   have hlt2:j<l'.length:=by have:=uh Hn;omega
   obtain⟨p,off,rfl,hpF,hget⟩:=(uh HL).resolve_left (fun h0=>by rw[h0] at hlt1;exact absurd hlt1 (Nat.not_lt_zero _))
   obtain⟨p',off',rfl,hpG,hget'⟩:=(uh HL').resolve_left (fun h0=>by rw[h0] at hlt2;exact absurd hlt2 (Nat.not_lt_zero _))
   obtain⟨ds,G1,hrow,hdl,hod,hGF⟩:=hget j _ (List.getElem?_eq_getElem hlt1)
   obtain⟨ds',G2,hrow',hdl',hod',hGG⟩:=hget' j _ (List.getElem?_eq_getElem hlt2)
   obtain⟨s,s',hx,hy,hS⟩:=(uh HEL) j _ _ (List.getElem?_eq_getElem hlt1) (List.getElem?_eq_getElem hlt2)
   rw[hx] at hod;rw[hy] at hod';have hplt:=(uh HF) p hpF;have hplt':=(uh HG) p' hpG;have hq1:p<wr.heap.size:=Nat.lt_of_lt_of_le hplt hI.size;have hq2:p'<wr.heap.size:=Nat.lt_of_lt_of_le hplt' hI.size;have hC:=Hi (fun W (hb:Below w.heap.size w W)=>zqP f s s' hS W ds ds' G1 G2 (dt.Ow.agree s.d _ G1 (fun b hb' o=>hb.cell (p:=⟨b,o,none⟩) ((uh HF) b (hGF b hb'))) hod) (dt.Ow.agree s'.d _ G2 (fun b hb' o=>hb.cell (p:=⟨b,o,none⟩) ((uh HG) b (hGG b hb'))) hod') (fun b hb'=>Nat.lt_of_lt_of_le ((uh HF) b (hGF b hb')) hb.size) (fun b hb'=>Nat.lt_of_lt_of_le ((uh HG) b (hGG b hb')) hb.size))
   have hR1:=Hi (fun W (hb:Below wr.heap.size wr W)=>show W.rangeAt p (off+j * 17) ds from fun i u hu=>(hb.cell (p:=⟨p,off+j * 17+i,none⟩) hq1).trans ((hI.cell (p:=⟨p,off+j * 17+i,none⟩) hplt).trans (hrow i u hu)))
   have hR2:=Hi (fun W (hb:Below wr.heap.size wr W)=>show W.rangeAt p' (off'+j * 17) ds' from fun i u hu=>(hb.cell (p:=⟨p',off'+j * 17+i,none⟩) hq2).trans ((hI.cell (p:=⟨p',off'+j * 17+i,none⟩) hplt').trans (hrow' i u hu)))
   have hL1:=Hi (show (Tryz.prog.info? 62).map (·.size)=some ds.length by rw[hdl];exact infoSD)
   have hL2:=Hi (show (Tryz.prog.info? 62).map (·.size)=some ds'.length by rw[hdl'];exact infoSD)
   clear hrow hrow' hdl hdl' hget hget' hod hod' hx hy hS
   go_wp2_with fail
   have hS0:Below wr.heap.size wr { wr with drawn:=wr.drawn+1 }:=(Below.refl _ _).drew
   have bD:=hI.trans (hS0.mono hI.size);refine wp_region_noPanic ?_
   refine wp_region_held (S:=fun w'=>Below wr.heap.size wr w') mixed ?_
   refine rgn.u 0 (v:=?v86) ?h86 hS0 ?_
   case h86=>(intro w' hw';go_simp;try with_reducible rfl)
   simp only[zA,zB,zC,Act.put,zD,zE,zF];refine rgn.u 1 (v:=?v87) ?h87 hS0 ?_
   case h87=>(intro w' hw';go_simp;try with_reducible rfl)
   simp only[zA,zB,zC,Act.put,zD,zE,zF];refine rgn.u 2 (v:=?v88) ?h88 hS0 ?_
   case h88=>(intro w' hw';go_simp;try with_reducible rfl)
   simp only[zA,zB,zC,Act.put,zD,zE,zF];refine rgn.tk (i:=3) rfl (by kernel_rfl) (fun _ _ _ h=>h) (yieldsIf_load_mid (by rfl) 62 _ (by rfl) p (off+j * 17) (by rfl) ds _ (uh hR1) Tryz.underlying62 (by rfl) (uh hL1)) hS0 ?_
   simp only[zA,zB,zC,Act.put,zD,zE,zF];refine rgn.u 4 (v:=?v89) ?h89 hS0 ?_
   case h89=>(intro w' hw';go_simp;try with_reducible rfl)
   simp only[zA,zB,zC,Act.put,zD,zE,zF];refine rgn.u 5 (v:=?v90) ?h90 hS0 ?_
   case h90=>(intro w' hw';go_simp;try with_reducible rfl)
   simp only[zA,zB,zC,Act.put,zD,zE,zF];refine rgn.u 6 (v:=?v91) ?h91 hS0 ?_
   case h91=>(intro w' hw';go_simp;try with_reducible rfl)
   simp only[zA,zB,zC,Act.put,zD,zE,zF];refine rgn.tk (i:=7) rfl (by kernel_rfl) (fun _ _ _ h=>h) (yieldsIf_load_mid (by rfl) 62 _ (by rfl) p' (off'+j * 17) (by rfl) ds' _ (uh hR2) Tryz.underlying62 (by rfl) (uh hL2)) hS0 ?_
   simp only[zA,zB,zC,Act.put,zD,zE,zF];refine rgn.u 8 (v:=?v92) ?h92 hS0 ?_
   case h92=>(intro w' hw';go_simp;try with_reducible rfl)
   simp only[zA,zB,zC,Act.put,zD,zE,zF];refine rgn.one (i:=9) _ rfl (by kernel_rfl) (by rfl) ?_
   simp only[zA,zB,zC,Act.put,zD,zE,zF]
   go_wp2_with fail
   refine ((uh hC) _ bD).mono ?_
   rintro e' w2 ⟨rfl,b2⟩;have b02:Below wr.heap.size wr w2:=hS0.trans (b2.mono hS0.size);refine⟨b02,?_⟩
   clear hS0 b2 bD hC;have hS0:=b02
   try simp only[zA,zB,zC,Act.put,zD,zE,zF]
   refine rgn.u 10 (v:=?v93) ?h93 hS0 ?_
   case h93=>(intro w' hw';go_simp;try with_reducible rfl)
   simp only[zA,zB,zC,Act.put,zD,zE,zF];refine wpAnyH_done (by kernel_rfl) ?_ _;refine NoPanic.normal ?_
   have hI2:=hI.trans (b02.mono hI.size)
   go_wp2_with fail
   go_roundw
   case rel=>exact⟨j+1,by omega,by go_num,hI2⟩
   case measure=>first | (simp[intOf];omega) | simp[intOf]
  ·have ji:¬ (j:Int)<(n:Int):=by omega
   have hI9:=Hi hI;clear hlt
   go_wp2_with fail
   go_ret
   exact⟨rfl,uh hI9⟩
set_option maxHeartbeats 8000000 in
set_option maxRecDepth 4000 in
theorem zha (l l':List Dt) (h:EqLs (EqN false) l l'):SmLs 40 false 3 l l':=by
 intro w a a' c c' F G hl hl' hF hG hc hc' hm hm';obtain⟨hlen,hel⟩:=h;have HEL:=Hi hel;have HL:=Hi hl;have HL':=Hi hl';have HF:=Hi hF;have HG:=Hi hG;obtain⟨n,hn⟩:∃ n,n=l.length:=⟨_,rfl⟩;have hn':n=l'.length:=hn.trans hlen;rw[← hn] at hc ⊢;rw[← hn'] at hc' ⊢;have Hn:=Hi (an hn hn');clear hel hl hl' hF hG hn hn' hlen;unfold maxLen at hm hm'
 go_enter Tryz.func40,Tryz.ntmps40
 go_wp2_with fail
 go_loopw [7] (fun i wr=>∃ j:Nat,j≤n∧i = .int .i64 j∧Below w.heap.size w wr) (fun i _=>n - (intOf i).toNat)
 case atStart=>exact⟨0,Nat.zero_le _,rfl,Below.refl _ _⟩
 case round =>
  obtain⟨j,hj,rfl,hI⟩:=hrel
  by_cases hlt:j<n
  ·have ji:(j:Int)<(n:Int):=by omega
   have hlt1:j<l.length:=by have:=uh Hn;omega
   have hlt2:j<l'.length:=by have:=uh Hn;omega
   obtain⟨p,off,rfl,hpF,hget⟩:=(uh HL).resolve_left (fun h0=>by rw[h0] at hlt1;exact absurd hlt1 (Nat.not_lt_zero _))
   obtain⟨p',off',rfl,hpG,hget'⟩:=(uh HL').resolve_left (fun h0=>by rw[h0] at hlt2;exact absurd hlt2 (Nat.not_lt_zero _))
   obtain⟨ds,G1,hrow,hdl,hod,hGF⟩:=hget j _ (List.getElem?_eq_getElem hlt1)
   obtain⟨ds',G2,hrow',hdl',hod',hGG⟩:=hget' j _ (List.getElem?_eq_getElem hlt2)
   obtain⟨⟨nm,x1,y1⟩,⟨nm',x2,y2⟩,hx,hy,hnm,hxy⟩:=(uh HEL) j _ _ (List.getElem?_eq_getElem hlt1) (List.getElem?_eq_getElem hlt2)
   have hnm:nm=nm':=hnm;subst hnm;rw[hx] at hod;rw[hy] at hod';have q1:ds=[.string nm,.int .i64 x1,.int .i64 y1]:=zdg hod;subst q1;have q2:ds'=[.string nm,.int .i64 x2,.int .i64 y2]:=zdg hod';subst q2;clear hxy;have hplt:=(uh HF) p hpF;have hplt':=(uh HG) p' hpG;have hr:=fun (q:Nat) (u:Value) hu=>(hI.cell (p:=⟨p,off+j * 3+q,none⟩) hplt).trans (hrow q u hu)
   have hr':=fun (q:Nat) (u:Value) hu=>(hI.cell (p:=⟨p',off'+j * 3+q,none⟩) hplt').trans (hrow' q u hu)
   have r0:wr.cell? ⟨p,off+j * 3,none⟩=some (.string nm):=hr 0 _ rfl;have r1:wr.cell? ⟨p,off+j * 3+1,none⟩=some (.int .i64 x1):=hr 1 _ rfl;have r2:wr.cell? ⟨p,off+j * 3+2,none⟩=some (.int .i64 y1):=hr 2 _ rfl;have s0:wr.cell? ⟨p',off'+j * 3,none⟩=some (.string nm):=hr' 0 _ rfl;have s1:wr.cell? ⟨p',off'+j * 3+1,none⟩=some (.int .i64 x2):=hr' 1 _ rfl
   have s2:wr.cell? ⟨p',off'+j * 3+2,none⟩=some (.int .i64 y2):=hr' 2 _ rfl;have hq1:p<wr.heap.size:=Nat.lt_of_lt_of_le hplt hI.size;have hq2:p'<wr.heap.size:=Nat.lt_of_lt_of_le hplt' hI.size;clear hr hr' hrow hrow' hod hod' hx hy hdl hdl' hget hget' hGF hGG
   go_wp2_with fail
   go_quiet (fail)
   obtain⟨V0,hV0⟩:∃ V0,V0=wr.drewN nq:=⟨_,rfl⟩;have hS0:Below wr.heap.size wr V0:=by rw[hV0];exact Go.below_drewN (Below.refl _ _) nq
   rw[← hV0];clear hV0
   go_wp2_with fail
   go_roundw
   case rel=>exact⟨j+1,by omega,by go_num,hI.trans (hS0.mono hI.size)⟩
   case measure=>first | (simp[intOf];omega) | simp[intOf]
  ·have ji:¬ (j:Int)<(n:Int):=by omega
   have hI9:=Hi hI;clear hlt
   go_wp2_with fail
   go_ret
   exact⟨rfl,uh hI9⟩
set_option maxHeartbeats 8000000 in
set_option maxRecDepth 4000 in
theorem zot (l l':List Dt) (h:EqLs (EqRt false) l l'):SmLs 44 false 4 l l':=by
 intro w a a' c c' F G hl hl' hF hG hc hc' hm hm';obtain⟨hlen,hel⟩:=h;have HEL:=Hi hel;have HL:=Hi hl;have HL':=Hi hl';have HF:=Hi hF;have HG:=Hi hG;obtain⟨n,hn⟩:∃ n,n=l.length:=⟨_,rfl⟩;have hn':n=l'.length:=hn.trans hlen;rw[← hn] at hc ⊢;rw[← hn'] at hc' ⊢;have Hn:=Hi (an hn hn');clear hel hl hl' hF hG hn hn' hlen;unfold maxLen at hm hm'
 go_enter Tryz.func44,Tryz.ntmps44
 go_wp2_with fail
 go_loopw [7] (fun i wr=>∃ j:Nat,j≤n∧i = .int .i64 j∧Below w.heap.size w wr) (fun i _=>n - (intOf i).toNat)
 case atStart=>exact⟨0,Nat.zero_le _,rfl,Below.refl _ _⟩
 case round =>
  obtain⟨j,hj,rfl,hI⟩:=hrel
  by_cases hlt:j<n
  ·have ji:(j:Int)<(n:Int):=by omega
   have hlt1:j<l.length:=by have:=uh Hn;omega
   have hlt2:j<l'.length:=by have:=uh Hn;omega
   obtain⟨p,off,rfl,hpF,hget⟩:=(uh HL).resolve_left (fun h0=>by rw[h0] at hlt1;exact absurd hlt1 (Nat.not_lt_zero _))
   obtain⟨p',off',rfl,hpG,hget'⟩:=(uh HL').resolve_left (fun h0=>by rw[h0] at hlt2;exact absurd hlt2 (Nat.not_lt_zero _))
   obtain⟨ds,G1,hrow,hdl,hod,hGF⟩:=hget j _ (List.getElem?_eq_getElem hlt1)
   obtain⟨ds',G2,hrow',hdl',hod',hGG⟩:=hget' j _ (List.getElem?_eq_getElem hlt2)
   obtain⟨k,ty,x1,y1,x2,y2,hx,hy,hxy⟩:=(uh HEL) j _ _ (List.getElem?_eq_getElem hlt1) (List.getElem?_eq_getElem hlt2)
   rw[hx] at hod;rw[hy] at hod';have q1:ds=[.int .i64 k,.string ty,.int .i64 x1,.int .i64 y1]:=zdi hod;subst q1;have q2:ds'=[.int .i64 k,.string ty,.int .i64 x2,.int .i64 y2]:=zdi hod';subst q2;clear hxy;have hplt:=(uh HF) p hpF;have hplt':=(uh HG) p' hpG;have hr:=fun (q:Nat) (u:Value) hu=>(hI.cell (p:=⟨p,off+j * 4+q,none⟩) hplt).trans (hrow q u hu)
   have hr':=fun (q:Nat) (u:Value) hu=>(hI.cell (p:=⟨p',off'+j * 4+q,none⟩) hplt').trans (hrow' q u hu)
   have r0:wr.cell? ⟨p,off+j * 4,none⟩=some (.int .i64 k):=hr 0 _ rfl;have r1:wr.cell? ⟨p,off+j * 4+1,none⟩=some (.string ty):=hr 1 _ rfl;have r2:wr.cell? ⟨p,off+j * 4+2,none⟩=some (.int .i64 x1):=hr 2 _ rfl;have r3:wr.cell? ⟨p,off+j * 4+3,none⟩=some (.int .i64 y1):=hr 3 _ rfl;have s0:wr.cell? ⟨p',off'+j * 4,none⟩=some (.int .i64 k):=hr' 0 _ rfl
   have s1:wr.cell? ⟨p',off'+j * 4+1,none⟩=some (.string ty):=hr' 1 _ rfl;have s2:wr.cell? ⟨p',off'+j * 4+2,none⟩=some (.int .i64 x2):=hr' 2 _ rfl;have s3:wr.cell? ⟨p',off'+j * 4+3,none⟩=some (.int .i64 y2):=hr' 3 _ rfl;have hq1:p<wr.heap.size:=Nat.lt_of_lt_of_le hplt hI.size;have hq2:p'<wr.heap.size:=Nat.lt_of_lt_of_le hplt' hI.size;clear hr hr' hrow hrow' hod hod' hx hy hdl hdl' hget hget' hGF hGG
   go_wp2_with fail
   go_quiet (fail)
   obtain⟨V0,hV0⟩:∃ V0,V0=wr.drewN nq:=⟨_,rfl⟩;have hS0:Below wr.heap.size wr V0:=by rw[hV0];exact Go.below_drewN (Below.refl _ _) nq
   rw[← hV0];clear hV0
   go_wp2_with fail
   go_roundw
   case rel=>exact⟨j+1,by omega,by go_num,hI.trans (hS0.mono hI.size)⟩
   case measure=>first | (simp[intOf];omega) | simp[intOf]
  ·have ji:¬ (j:Int)<(n:Int):=by omega
   have hI9:=Hi hI;clear hlt
   go_wp2_with fail
   go_ret
   exact⟨rfl,uh hI9⟩
end Go.Proofs.YtifbkdicglcogaaGreat.cu
