import Derived.Test.YtepmbmbnlmbhhaaGreatPla21
set_option linter.unusedVariables false
set_option linter.unusedSimpArgs false
set_option maxHeartbeats 16000000
set_option maxRecDepth 8000
open Go.Proofs.Tryz
namespace Go.Proofs.YtepmbmbnlmbhhaaGreat
open Go.ChangeShapes Go.WideShapes Go.ChangeAt Go.RowKit
namespace cu
open dt (Dt Kp RowAt Ow Grow)

open ints (Hi uh)
open dt (Dt Kp RowAt Ow Grow OwIn)
open mem (Row)
def EqLs(R:Dt→Dt→Prop)(l l':List Dt):Prop:=l.length=l'.length∧∀ (i:Nat) x y,l[i]? = some x→l'[i]? = some y→R x y
def EqA(pl:Bool)(f:Nat)(x y:Dt):Prop:=∃ nm v v' a b a' b',x=fldD nm v a b∧y=fldD nm v' a' b'∧(pl=true→a=a'∧b=b')∧EqL pl f v v'
def EqR(pl:Bool)(f:Nat)(x y:Dt):Prop:=∃ nm l l' a b a' b',x=dirD nm l a b∧y=dirD nm l' a' b'∧(pl=true→a=a'∧b=b')∧EqLs (EqA pl f) l l'
def Ls(w:World)(k:Nat)(l:List Dt)(a:Option Addr)(F:List Nat):Prop:=l=[]∨∃ p off,a=some ⟨p,off,none⟩∧p∈F∧∀ (i:Nat) e,l[i]? = some e→∃ ds G,RowAt w p (off+i * k) ds∧ds.length=k∧Ow w e ds G∧∀ b∈G,b∈F
theorem Ls.below{w w':World}{k:Nat}{l:List Dt}{a:Option Addr}{F:List Nat}(h:Ls w k l a F)(hF:∀ b∈F,b<w.heap.size)(hb:Below w.heap.size w w'):Ls w' k l a F:=by
 rcases h with h | ⟨p,off,ha,hp,h⟩
 ·exact .inl h
 ·refine .inr ⟨p,off,ha,hp,fun i e he=>?_⟩
  obtain⟨ds,G,h1,h2,h3,h4⟩:=h i e he;exact⟨ds,G,h1.below hb,h2,dt.Ow.agree e ds G (fun b hb' o=>hb.cell (p:=⟨b,o,none⟩) (hF b (h4 b hb'))) h3,h4⟩
theorem Ls.mono{w:World}{k:Nat}{l:List Dt}{a:Option Addr}{F F':List Nat}(h:Ls w k l a F)(hF:∀ b∈F,b∈F'):Ls w k l a F':=by
 rcases h with h | ⟨p,off,ha,hp,h⟩
 ·exact .inl h
 ·refine .inr ⟨p,off,ha,hF p hp,fun i e he=>?_⟩
  obtain⟨ds,G,h1,h2,h3,h4⟩:=h i e he;exact⟨ds,G,h1,h2,h3,fun b hb=>hF b (h4 b hb)⟩
theorem zkn{w:World}{k n:Nat}{l:List Dt}{a:Option Addr}{F:List Nat}(h:(a=none∧Dt.of l = .nil∧n=0∧F=[])∨∃ p G,a=some ⟨p,0,none⟩∧F=p::G∧OwIn w (Dt.of l) k p 0 n G):n=l.length∧Ls w k l a F:=by
 rcases h with ⟨h1,h2,h3,h4⟩ | ⟨p,G,h1,rfl,h3⟩
 ·have:l=[]:=by
   cases l with
   | nil=>rfl
   | cons e r=>simp[Dt.of] at h2
  exact⟨by rw[this,h3];rfl,.inl this⟩
 ·obtain⟨h4,h5⟩:=dt.OwIn.get l k p 0 n G h3
  refine⟨h4.symm,.inr ⟨p,0,h1,List.mem_cons_self ..,fun i e he=>?_⟩⟩
  obtain⟨cs,Gi,h6,h7,h8,h9⟩:=h5 i e he;exact⟨cs,Gi,h6,h7,h8,fun b hb=>List.mem_cons_of_mem _ (h9 b hb)⟩
theorem zet{w:World}{nm:ByteArray}{l:List Dt}{x y:Int}{cs:List Value}{F:List Nat}(h:Ow w (dirD nm l x y) cs F) :
  ∃ a c,cs=[.string nm,.slice a l.length c,.int .i64 x,.int .i64 y]∧l.length≤c∧c≤maxLen∧Ls w 10 l a F:=by
 unfold dirD Ow at h;obtain⟨d0,rfl,_,h⟩:=h;unfold Ow at h;obtain⟨a,n,c,d1,F1,F2,rfl,i1,i2,i3,i4,h,rfl⟩:=h;obtain⟨rfl,hl⟩:=zkn i4;unfold Ow at h;obtain⟨d2,rfl,a6,h⟩:=h;unfold Ow at h;obtain⟨d3,rfl,a7,h⟩:=h;unfold Ow at h;obtain⟨rfl,rfl⟩:=h;exact⟨a,c,rfl,i1,i2,hl.mono (fun b hb=>List.mem_append_left _ hb)⟩
def SmLs(fn:Nat)(pl:Bool)(k:Nat)(l l':List Dt):Prop:=∀ (w:World) (a a':Option Addr) (c c':Nat) (F G:List Nat),Ls w k l a F→Ls w k l' a' G→(∀ b∈F,b<w.heap.size)→(∀ b∈G,b<w.heap.size)→l.length≤c→l'.length≤c'→c≤maxLen→c'≤maxLen →
 Calls prog fn #[.slice a l.length c,.slice a' l'.length c',.bool pl] w fun e w'=>e = .returned (.bool true)∧Below w.heap.size w w'
theorem zkc(f:Nat)(l l':List Dt)(h:EqLs (EqA true f) l l'):SmLs 57 true 10 l l':=by
 intro w a a' c c' F G hl hl' hF hG hc hc' hm hm';obtain⟨hlen,hel⟩:=h;have HEL:=Hi hel;have HL:=Hi hl;have HL':=Hi hl';have HF:=Hi hF;have HG:=Hi hG;obtain⟨n,hn⟩:∃ n,n=l.length:=⟨_,rfl⟩;have hn':n=l'.length:=hn.trans hlen;rw[←hn] at hc ⊢;rw[←hn'] at hc' ⊢;have Hn:=Hi (an hn hn');clear hel hl hl' hF hG hn hn' hlen;unfold maxLen at hm hm'
 go_enter func57,ntmps57
 go_wp2_with fail
 go_loopw [7] (fun i wr=>∃ j:Nat,j≤n∧i = .int .i64 j∧Below w.heap.size w wr) (fun i _=>n-(intOf i).toNat)
 case atStart=>exact⟨0,Nat.zero_le _,rfl,Below.refl _ _⟩
 case round =>
  obtain⟨j,hj,rfl,hI⟩:=hrel
  by_cases hlt:j<n
  ·have ji:(j:Int)<(n:Int):=by omega
   have hlt1:j<l.length:=by have:=uh Hn;omega
   have hlt2:j<l'.length:=by have:=uh Hn;omega
   obtain⟨p,off,rfl,hpF,hget⟩:=(uh HL).resolve_left (fun h0=>by rw[h0] at hlt1;exact absurd hlt1 (Nat.not_lt_zero _))
   obtain⟨p',off',rfl,hpG,hget'⟩:=(uh HL').resolve_left (fun h0=>by rw[h0] at hlt2;exact absurd hlt2 (Nat.not_lt_zero _))
   obtain⟨ds,G1,hrow,hdl,hod,hGF⟩:=hget j _ (List.getElem?_eq_getElem hlt1)
   obtain⟨ds',G2,hrow',hdl',hod',hGG⟩:=hget' j _ (List.getElem?_eq_getElem hlt2)
   obtain⟨nm,e1,e2,x1,y1,x2,y2,hx,hy,hxy,heq⟩:=(uh HEL) j _ _ (List.getElem?_eq_getElem hlt1) (List.getElem?_eq_getElem hlt2)
   rw[hx] at hod;rw[hy] at hod'
   have hshp:∃ k1 tx1 bl1 ai1 ni1 ci1 af1 nf1 cf1 ln1 co1 k2 tx2 bl2 ai2 ni2 ci2 af2 nf2 cf2 ln2 co2,ds=[.string nm,.int .i64 k1,.string tx1,.bool bl1,.slice ai1 ni1 ci1,.slice af1 nf1 cf1,.int .i64 ln1,.int .i64 co1,.int .i64 x1,.int .i64 y1]∧ds'=[.string nm,.int .i64 k2,.string tx2,.bool bl2,.slice ai2 ni2 ci2,.slice af2 nf2 cf2,.int .i64 ln2,.int .i64 co2,.int .i64 x2,.int .i64 y2]∧Ow w e1 [.int .i64 k1,.string tx1,.bool bl1,.slice ai1 ni1 ci1,.slice af1 nf1 cf1,.int .i64 ln1,.int .i64 co1] G1∧Ow w e2 [.int .i64 k2,.string tx2,.bool bl2,.slice ai2 ni2 ci2,.slice af2 nf2 cf2,.int .i64 ln2,.int .i64 co2] G2:=by
    obtain⟨k1,tx1,bl1,i1,f1,ln1,co1,h1⟩:=heq.left;obtain⟨k2,tx2,bl2,i2,f2,ln2,co2,h2⟩:=heq.right;rw[h1] at hod;rw[h2] at hod';obtain⟨a1,a2,a3,a4,a5,a6,q1,q2⟩:=zbI hod;obtain⟨b1,b2,b3,b4,b5,b6,r1,r2⟩:=zbI hod';rw[←h1] at q2;rw[←h2] at r2;exact⟨k1,tx1,bl1,a1,a2,a3,a4,a5,a6,ln1,co1,k2,tx2,bl2,b1,b2,b3,b4,b5,b6,ln2,co2,q1,r1,q2,r2⟩
   obtain⟨k1,tx1,bl1,ai1,ni1,ci1,af1,nf1,cf1,ln1,co1,k2,tx2,bl2,ai2,ni2,ci2,af2,nf2,cf2,ln2,co2,rfl,rfl,hov,hov'⟩:=hshp;obtain⟨rfl,rfl⟩:=hxy rfl;clear hod hod' hx hy;have hplt:=(uh HF) p hpF;have hplt':=(uh HG) p' hpG;have hr:=fun (q:Nat) (u:Value) hu=>(hI.cell (p:=⟨p,off+j * 10+q,none⟩) hplt).trans (hrow q u hu)
   have hr':=fun (q:Nat) (u:Value) hu=>(hI.cell (p:=⟨p',off'+j * 10+q,none⟩) hplt').trans (hrow' q u hu)
   have m0:wr.cell? ⟨p,off+j * 10,none⟩=some (.string nm):=hr 0 _ rfl;have m1:wr.cell? ⟨p,off+j * 10+1,none⟩=some (.int .i64 k1):=hr 1 _ rfl;have m2:wr.cell? ⟨p,off+j * 10+2,none⟩=some (.string tx1):=hr 2 _ rfl;have m3:wr.cell? ⟨p,off+j * 10+3,none⟩=some (.bool bl1):=hr 3 _ rfl;have m4:wr.cell? ⟨p,off+j * 10+4,none⟩=some (.slice ai1 ni1 ci1):=hr 4 _ rfl
   have m5:wr.cell? ⟨p,off+j * 10+5,none⟩=some (.slice af1 nf1 cf1):=hr 5 _ rfl;have m6:wr.cell? ⟨p,off+j * 10+6,none⟩=some (.int .i64 ln1):=hr 6 _ rfl;have m7:wr.cell? ⟨p,off+j * 10+7,none⟩=some (.int .i64 co1):=hr 7 _ rfl;have m8:wr.cell? ⟨p,off+j * 10+8,none⟩=some (.int .i64 x1):=hr 8 _ rfl;have m9:wr.cell? ⟨p,off+j * 10+9,none⟩=some (.int .i64 y1):=hr 9 _ rfl
   have n0:wr.cell? ⟨p',off'+j * 10,none⟩=some (.string nm):=hr' 0 _ rfl;have n1:wr.cell? ⟨p',off'+j * 10+1,none⟩=some (.int .i64 k2):=hr' 1 _ rfl;have n2:wr.cell? ⟨p',off'+j * 10+2,none⟩=some (.string tx2):=hr' 2 _ rfl;have n3:wr.cell? ⟨p',off'+j * 10+3,none⟩=some (.bool bl2):=hr' 3 _ rfl;have n4:wr.cell? ⟨p',off'+j * 10+4,none⟩=some (.slice ai2 ni2 ci2):=hr' 4 _ rfl
   have n5:wr.cell? ⟨p',off'+j * 10+5,none⟩=some (.slice af2 nf2 cf2):=hr' 5 _ rfl;have n6:wr.cell? ⟨p',off'+j * 10+6,none⟩=some (.int .i64 ln2):=hr' 6 _ rfl;have n7:wr.cell? ⟨p',off'+j * 10+7,none⟩=some (.int .i64 co2):=hr' 7 _ rfl;have n8:wr.cell? ⟨p',off'+j * 10+8,none⟩=some (.int .i64 x1):=hr' 8 _ rfl;have n9:wr.cell? ⟨p',off'+j * 10+9,none⟩=some (.int .i64 y1):=hr' 9 _ rfl
   have hC:=Hi (fun W (hb:Below w.heap.size w W)=>zil f e1 e2 heq W [Value.int .i64 k1,.string tx1,.bool bl1,.slice ai1 ni1 ci1,.slice af1 nf1 cf1,.int .i64 ln1,.int .i64 co1] [Value.int .i64 k2,.string tx2,.bool bl2,.slice ai2 ni2 ci2,.slice af2 nf2 cf2,.int .i64 ln2,.int .i64 co2] G1 G2 (dt.Ow.agree e1 _ G1 (fun b hb' o=>hb.cell (p:=⟨b,o,none⟩) ((uh HF) b (hGF b hb'))) hov) (dt.Ow.agree e2 _ G2 (fun b hb' o=>hb.cell (p:=⟨b,o,none⟩) ((uh HG) b (hGG b hb'))) hov') (fun b hb'=>Nat.lt_of_lt_of_le ((uh HF) b (hGF b hb')) hb.size) (fun b hb'=>Nat.lt_of_lt_of_le ((uh HG) b (hGG b hb')) hb.size))
   have hq1:p<wr.heap.size:=Nat.lt_of_lt_of_le hplt hI.size;have hq2:p'<wr.heap.size:=Nat.lt_of_lt_of_le hplt' hI.size;clear hr hr' hrow hrow' hov hov' heq hdl hdl' hget hget'
   go_wp2_with fail
   have hS0:Below wr.heap.size wr { wr with drawn:=wr.drawn+1 }:=(Below.refl _ _).drew
   have bD:=hI.trans (hS0.mono hI.size);refine wp_region_noPanic ?_
   refine wp_region_held (S:=fun w'=>Below wr.heap.size wr w') mixed ?_
   refine rgn.u 0 (v:=?v0) ?h0 hS0 ?_
   case h0=>(intro w' hw';go_simp;try with_reducible rfl)
   simp only[zA,zB,zC,Act.put,zD,zE,zF];refine rgn.u 1 (v:=?v1) ?h1 hS0 ?_
   case h1=>(intro w' hw';go_simp;try with_reducible rfl)
   simp only[zA,zB,zC,Act.put,zD,zE,zF];refine rgn.u 2 (v:=?v2) ?h2 hS0 ?_
   case h2=>(intro w' hw';go_simp;try with_reducible rfl)
   simp only[zA,zB,zC,Act.put,zD,zE,zF];refine rgn.u 3 (v:=?v3) ?h3 hS0 ?_
   case h3=>(intro w' hw';go_simp;try with_reducible rfl)
   simp only[zA,zB,zC,Act.put,zD,zE,zF];refine rgn.u 4 (v:=?v4) ?h4 hS0 ?_
   case h4=>(intro w' hw';have m1':=(hw'.cell (p:=⟨p,off+j * 10+1,none⟩) hq1).trans m1;have m2':=(hw'.cell (p:=⟨p,off+j * 10+2,none⟩) hq1).trans m2;have m3':=(hw'.cell (p:=⟨p,off+j * 10+3,none⟩) hq1).trans m3;have m4':=(hw'.cell (p:=⟨p,off+j * 10+4,none⟩) hq1).trans m4;have m5':=(hw'.cell (p:=⟨p,off+j * 10+5,none⟩) hq1).trans m5;have m6':=(hw'.cell (p:=⟨p,off+j * 10+6,none⟩) hq1).trans m6;have m7':=(hw'.cell (p:=⟨p,off+j * 10+7,none⟩) hq1).trans m7;go_simp;try with_reducible rfl)
   simp only[zA,zB,zC,Act.put,zD,zE,zF];refine rgn.u 5 (v:=?v5) ?h5 hS0 ?_
   case h5=>(intro w' hw';go_simp;try with_reducible rfl)
   simp only[zA,zB,zC,Act.put,zD,zE,zF];refine rgn.u 6 (v:=?v6) ?h6 hS0 ?_
   case h6=>(intro w' hw';go_simp;try with_reducible rfl)
   simp only[zA,zB,zC,Act.put,zD,zE,zF];refine rgn.u 7 (v:=?v7) ?h7 hS0 ?_
   case h7=>(intro w' hw';go_simp;try with_reducible rfl)
   simp only[zA,zB,zC,Act.put,zD,zE,zF];refine rgn.u 8 (v:=?v8) ?h8 hS0 ?_
   case h8=>(intro w' hw';go_simp;try with_reducible rfl)
   simp only[zA,zB,zC,Act.put,zD,zE,zF];refine rgn.u 9 (v:=?v9) ?h9 hS0 ?_
   case h9=>(intro w' hw';have n1':=(hw'.cell (p:=⟨p',off'+j * 10+1,none⟩) hq2).trans n1;have n2':=(hw'.cell (p:=⟨p',off'+j * 10+2,none⟩) hq2).trans n2;have n3':=(hw'.cell (p:=⟨p',off'+j * 10+3,none⟩) hq2).trans n3;have n4':=(hw'.cell (p:=⟨p',off'+j * 10+4,none⟩) hq2).trans n4;have n5':=(hw'.cell (p:=⟨p',off'+j * 10+5,none⟩) hq2).trans n5;have n6':=(hw'.cell (p:=⟨p',off'+j * 10+6,none⟩) hq2).trans n6;have n7':=(hw'.cell (p:=⟨p',off'+j * 10+7,none⟩) hq2).trans n7;go_simp;try with_reducible rfl)
   simp only[zA,zB,zC,Act.put,zD,zE,zF];refine rgn.u 10 (v:=?v10) ?h10 hS0 ?_
   case h10=>(intro w' hw';go_simp;try with_reducible rfl)
   simp only[zA,zB,zC,Act.put,zD,zE,zF];refine rgn.one (i:=11) _ rfl (by kernel_rfl) (by rfl) ?_
   simp only[zA,zB,zC,Act.put,zD,zE,zF]
   go_wp2_with fail
   refine ((uh hC) _ bD).mono ?_
   rintro e' w2 ⟨rfl,b2⟩;have b02:Below wr.heap.size wr w2:=hS0.trans b2;refine⟨b02,?_⟩
   clear hS0 b2 bD;have hS0:=b02
   try simp only[zA,zB,zC,Act.put,zD,zE,zF]
   refine rgn.take (i:=12) _ (.bool true) rfl (by kernel_rfl) (by kernel_rfl) (by kernel_rfl) (fun _ _ _ h=>h) (by rfl) hS0 (fun w' hw'=>by go_simp) ?_
   simp only[zA,zB,zC,Act.put,zD,zE,zF];refine wpAnyH_done (by kernel_rfl) ?_ _;refine NoPanic.normal ?_
   have mNx:=(b02.cell (p:=⟨p,off+j * 10,none⟩) hq1).trans m0;have nNx:=(b02.cell (p:=⟨p',off'+j * 10,none⟩) hq2).trans n0;have m8x:=(b02.cell (p:=⟨p,off+j * 10+8,none⟩) hq1).trans m8;have n8x:=(b02.cell (p:=⟨p',off'+j * 10+8,none⟩) hq2).trans n8;have m9x:=(b02.cell (p:=⟨p,off+j * 10+9,none⟩) hq1).trans m9;have n9x:=(b02.cell (p:=⟨p',off'+j * 10+9,none⟩) hq2).trans n9
   have hI2:=hI.trans (b02.mono hI.size);have g2:p<w2.heap.size:=Nat.lt_of_lt_of_le hq1 b02.size;have g3:p'<w2.heap.size:=Nat.lt_of_lt_of_le hq2 b02.size;clear m0 n0 m1 n1 m2 n2 m3 n3 m4 n4 m5 n5 m6 n6 m7 n7 m8 n8 m9 n9 hC hS0
   go_wp2_with fail
   go_quiet (fail)
   obtain⟨V0,hV0⟩:∃ V0,V0=w2.drewN nq:=⟨_,rfl⟩;have hS0:Below w2.heap.size w2 V0:=by rw[hV0];exact Go.below_drewN (Below.refl _ _) nq
   rw[←hV0];clear hV0
   go_wp2_with fail
   go_roundw
   case rel=>exact⟨j+1,by omega,by go_num,hI2.trans (hS0.mono hI2.size)⟩
   case measure=>first | (simp[intOf];omega) | simp[intOf]
  ·have ji:¬(j:Int)<(n:Int):=by omega
   have hI9:=Hi hI;clear hlt
   go_wp2_with fail
   go_ret
   exact⟨rfl,uh hI9⟩
theorem zmv(f:Nat)(l l':List Dt)(h:EqLs (EqR true f) l l'):SmLs 60 true 4 l l':=by
 intro w a a' c c' F G hl hl' hF hG hc hc' hm hm';obtain⟨hlen,hel⟩:=h;have HEL:=Hi hel;have HL:=Hi hl;have HL':=Hi hl';have HF:=Hi hF;have HG:=Hi hG;obtain⟨n,hn⟩:∃ n,n=l.length:=⟨_,rfl⟩;have hn':n=l'.length:=hn.trans hlen;rw[←hn] at hc ⊢;rw[←hn'] at hc' ⊢;have Hn:=Hi (an hn hn');clear hel hl hl' hF hG hn hn' hlen;unfold maxLen at hm hm'
 go_enter func60,ntmps60
 go_wp2_with fail
 go_loopw [7] (fun i wr=>∃ j:Nat,j≤n∧i = .int .i64 j∧Below w.heap.size w wr) (fun i _=>n-(intOf i).toNat)
 case atStart=>exact⟨0,Nat.zero_le _,rfl,Below.refl _ _⟩
 case round =>
  obtain⟨j,hj,rfl,hI⟩:=hrel
  by_cases hlt:j<n
  ·have ji:(j:Int)<(n:Int):=by omega
   have hlt1:j<l.length:=by have:=uh Hn;omega
   have hlt2:j<l'.length:=by have:=uh Hn;omega
   obtain⟨p,off,rfl,hpF,hget⟩:=(uh HL).resolve_left (fun h0=>by rw[h0] at hlt1;exact absurd hlt1 (Nat.not_lt_zero _))
   obtain⟨p',off',rfl,hpG,hget'⟩:=(uh HL').resolve_left (fun h0=>by rw[h0] at hlt2;exact absurd hlt2 (Nat.not_lt_zero _))
   obtain⟨ds,G1,hrow,hdl,hod,hGF⟩:=hget j _ (List.getElem?_eq_getElem hlt1)
   obtain⟨ds',G2,hrow',hdl',hod',hGG⟩:=hget' j _ (List.getElem?_eq_getElem hlt2)
   obtain⟨nm,l1,l2,x1,y1,x2,y2,hx,hy,hxy,heq⟩:=(uh HEL) j _ _ (List.getElem?_eq_getElem hlt1) (List.getElem?_eq_getElem hlt2)
   rw[hx] at hod;rw[hy] at hod';obtain⟨a1,c1,rfl,u1,u2,hov⟩:=zet hod;obtain⟨a2,c2,rfl,u3,u4,hov'⟩:=zet hod';obtain⟨rfl,rfl⟩:=hxy rfl;have HU:=Hi (an (an u1 u2) (an u3 u4));obtain⟨n1,hn1⟩:∃ n1,n1=l1.length:=⟨_,rfl⟩;obtain⟨n2,hn2⟩:∃ n2,n2=l2.length:=⟨_,rfl⟩;clear hod hod' hx hy u1 u2 u3 u4;have hplt:=(uh HF) p hpF;have hplt':=(uh HG) p' hpG;have hC:=(fun W (hb:Below w.heap.size w W)=>zkc f l1 l2 heq W a1 a2 c1 c2 G1 G2 (hov.below (fun b hb'=>(uh HF) b (hGF b hb')) hb) (hov'.below (fun b hb'=>(uh HG) b (hGG b hb')) hb) (fun b hb'=>Nat.lt_of_lt_of_le ((uh HF) b (hGF b hb')) hb.size) (fun b hb'=>Nat.lt_of_lt_of_le ((uh HG) b (hGG b hb')) hb.size) (uh HU).1.1 (uh HU).2.1 (uh HU).1.2 (uh HU).2.2)
   rw[←hn1,←hn2] at hC;rw[←hn1] at hrow;rw[←hn2] at hrow';replace hC:=Hi hC;clear hn1 hn2;have hr:=fun (q:Nat) (u:Value) hu=>(hI.cell (p:=⟨p,off+j * 4+q,none⟩) hplt).trans (hrow q u hu)
   have hr':=fun (q:Nat) (u:Value) hu=>(hI.cell (p:=⟨p',off'+j * 4+q,none⟩) hplt').trans (hrow' q u hu)
   have m0:wr.cell? ⟨p,off+j * 4,none⟩=some (.string nm):=hr 0 _ rfl;have m1:wr.cell? ⟨p,off+j * 4+1,none⟩=some (.slice a1 n1 c1):=hr 1 _ rfl;have m2:wr.cell? ⟨p,off+j * 4+2,none⟩=some (.int .i64 x1):=hr 2 _ rfl;have m3:wr.cell? ⟨p,off+j * 4+3,none⟩=some (.int .i64 y1):=hr 3 _ rfl;have n0:wr.cell? ⟨p',off'+j * 4,none⟩=some (.string nm):=hr' 0 _ rfl
   have n1:wr.cell? ⟨p',off'+j * 4+1,none⟩=some (.slice a2 n2 c2):=hr' 1 _ rfl;have n2:wr.cell? ⟨p',off'+j * 4+2,none⟩=some (.int .i64 x1):=hr' 2 _ rfl;have n3:wr.cell? ⟨p',off'+j * 4+3,none⟩=some (.int .i64 y1):=hr' 3 _ rfl;have hq1:p<wr.heap.size:=Nat.lt_of_lt_of_le hplt hI.size;have hq2:p'<wr.heap.size:=Nat.lt_of_lt_of_le hplt' hI.size;clear hr hr' hrow hrow' hov hov' heq hdl hdl' hget hget'
   go_wp2_with fail
   have hS0:Below wr.heap.size wr { wr with drawn:=wr.drawn+1 }:=(Below.refl _ _).drew
   have bD:=hI.trans (hS0.mono hI.size);refine wp_region_noPanic ?_
   refine wp_region_held (S:=fun w'=>Below wr.heap.size wr w') mixed ?_
   refine rgn.u 0 (v:=?v0) ?h0 hS0 ?_
   case h0=>(intro w' hw';go_simp;try with_reducible rfl)
   simp only[zA,zB,zC,Act.put,zD,zE,zF];refine rgn.u 1 (v:=?v1) ?h1 hS0 ?_
   case h1=>(intro w' hw';go_simp;try with_reducible rfl)
   simp only[zA,zB,zC,Act.put,zD,zE,zF];refine rgn.u 2 (v:=?v2) ?h2 hS0 ?_
   case h2=>(intro w' hw';go_simp;try with_reducible rfl)
   simp only[zA,zB,zC,Act.put,zD,zE,zF];refine rgn.u 3 (v:=?v3) ?h3 hS0 ?_
   case h3=>(intro w' hw';go_simp;try with_reducible rfl)
   simp only[zA,zB,zC,Act.put,zD,zE,zF];refine rgn.u 4 (v:=?v4) ?h4 hS0 ?_
   case h4=>(intro w' hw';have m1':=(hw'.cell (p:=⟨p,off+j * 4+1,none⟩) hq1).trans m1;go_simp;try with_reducible rfl)
   simp only[zA,zB,zC,Act.put,zD,zE,zF];refine rgn.u 5 (v:=?v5) ?h5 hS0 ?_
   case h5=>(intro w' hw';go_simp;try with_reducible rfl)
   simp only[zA,zB,zC,Act.put,zD,zE,zF];refine rgn.u 6 (v:=?v6) ?h6 hS0 ?_
   case h6=>(intro w' hw';go_simp;try with_reducible rfl)
   simp only[zA,zB,zC,Act.put,zD,zE,zF];refine rgn.u 7 (v:=?v7) ?h7 hS0 ?_
   case h7=>(intro w' hw';go_simp;try with_reducible rfl)
   simp only[zA,zB,zC,Act.put,zD,zE,zF];refine rgn.u 8 (v:=?v8) ?h8 hS0 ?_
   case h8=>(intro w' hw';go_simp;try with_reducible rfl)
   simp only[zA,zB,zC,Act.put,zD,zE,zF];refine rgn.u 9 (v:=?v9) ?h9 hS0 ?_
   case h9=>(intro w' hw';have n1':=(hw'.cell (p:=⟨p',off'+j * 4+1,none⟩) hq2).trans n1;go_simp;try with_reducible rfl)
   simp only[zA,zB,zC,Act.put,zD,zE,zF];refine rgn.u 10 (v:=?v10) ?h10 hS0 ?_
   case h10=>(intro w' hw';go_simp;try with_reducible rfl)
   simp only[zA,zB,zC,Act.put,zD,zE,zF];refine rgn.one (i:=11) _ rfl (by kernel_rfl) (by rfl) ?_
   simp only[zA,zB,zC,Act.put,zD,zE,zF]
   go_wp2_with fail
   refine ((uh hC) _ bD).mono ?_
   rintro e' w2 ⟨rfl,b2⟩;have b02:Below wr.heap.size wr w2:=hS0.trans b2;refine⟨b02,?_⟩
   clear hS0 b2 bD;have hS0:=b02
   try simp only[zA,zB,zC,Act.put,zD,zE,zF]
   refine rgn.take (i:=12) _ (.bool true) rfl (by kernel_rfl) (by kernel_rfl) (by kernel_rfl) (fun _ _ _ h=>h) (by rfl) hS0 (fun w' hw'=>by go_simp) ?_
   simp only[zA,zB,zC,Act.put,zD,zE,zF];refine wpAnyH_done (by kernel_rfl) ?_ _;refine NoPanic.normal ?_
   have mNx:=(b02.cell (p:=⟨p,off+j * 4,none⟩) hq1).trans m0;have nNx:=(b02.cell (p:=⟨p',off'+j * 4,none⟩) hq2).trans n0;have m8x:=(b02.cell (p:=⟨p,off+j * 4+2,none⟩) hq1).trans m2;have n8x:=(b02.cell (p:=⟨p',off'+j * 4+2,none⟩) hq2).trans n2;have m9x:=(b02.cell (p:=⟨p,off+j * 4+3,none⟩) hq1).trans m3;have n9x:=(b02.cell (p:=⟨p',off'+j * 4+3,none⟩) hq2).trans n3
   have hI2:=hI.trans (b02.mono hI.size);have g2:p<w2.heap.size:=Nat.lt_of_lt_of_le hq1 b02.size;have g3:p'<w2.heap.size:=Nat.lt_of_lt_of_le hq2 b02.size;clear m0 n0 m1 n1 m2 n2 m3 n3 hC hS0
   go_wp2_with fail
   go_quiet (fail)
   obtain⟨V0,hV0⟩:∃ V0,V0=w2.drewN nq:=⟨_,rfl⟩;have hS0:Below w2.heap.size w2 V0:=by rw[hV0];exact Go.below_drewN (Below.refl _ _) nq
   rw[←hV0];clear hV0
   go_wp2_with fail
   go_roundw
   case rel=>exact⟨j+1,by omega,by go_num,hI2.trans (hS0.mono hI2.size)⟩
   case measure=>first | (simp[intOf];omega) | simp[intOf]
  ·have ji:¬(j:Int)<(n:Int):=by omega
   have hI9:=Hi hI;clear hlt
   go_wp2_with fail
   go_ret
   exact⟨rfl,uh hI9⟩
end cu
namespace cr
open ints (Hi uh)
open dt (Dt Kp RowAt Ow OwL OwIn Grow)
open cu
def IsA(N:Nat)(d:Dt):Prop:=∃ nm v a b,d=fldD nm v a b∧IsLit N v
theorem zl6(ct:Bool)(N:Nat)(c:Cu)(d:Dt)(h:(argS (litF ct N) c).1=some d):IsA N d:=by
 unfold argS at h
 cases hr:(litF ct N (c.name.want bCol)).1 with
 | none=>rw[hr] at h;cases h
 | some v =>
  rw[hr] at h
  injection h with h
  exact⟨_,v,_,_,h.symm,zcU ct N _ _ hr⟩
theorem eqA{N:Nat}{l:List Dt}(h:∀ d∈l,IsA N d):EqLs (EqA true N) l l:=⟨rfl,fun i x y hx hy=>by
 rw[hx] at hy;obtain rfl:=Option.some.inj hy;obtain⟨nm,v,a,b,rfl,hv⟩:=h x (List.mem_of_getElem? hx)
 exact⟨nm,v,v,a,b,a,b,rfl,rfl,fun _=>⟨rfl,rfl⟩,hv.same true⟩⟩
theorem zgX(ct:Bool)(N:Nat)(c:Cu):∀ d∈(argsS (litF ct N) c).1.getD [],IsA N d:=by
 unfold argsS
 by_cases hp:c.isP bLp=true
 ·rw[if_pos hp]
  cases hr:(brk (argS (litF ct N)) bLp bRp 1 c).1 with
  | none=>simp
  | some l=>exact ze1 (zl6 ct N) bLp bRp 1 c l hr
 ·rw[if_neg hp]
  by_cases hk:c.kd=0
  ·rw[if_pos hk];simp
  ·rw[if_neg hk];simp
def IsR(N:Nat)(d:Dt):Prop:=∃ nm l a b,d=dirD nm l a b∧∀ x∈l,IsA N x
theorem eqR{N:Nat}{l:List Dt}(h:∀ d∈l,IsR N d):EqLs (EqR true N) l l:=⟨rfl,fun i x y hx hy=>by
 rw[hx] at hy;obtain rfl:=Option.some.inj hy;obtain⟨nm,l,a,b,rfl,hv⟩:=h x (List.mem_of_getElem? hx)
 exact⟨nm,l,l,a,b,a,b,rfl,rfl,fun _=>⟨rfl,rfl⟩,eqA hv⟩⟩
theorem zg8(ct:Bool)(N:Nat):∀ (g:Nat) (l:List Dt) (c:Cu),(∀ d∈l,IsR N d)→∀ d∈(dirsF (litF ct N) g l c).1.getD [],IsR N d
 | 0,l,c,h=>by simp[dirsF]
 | g+1,l,c,h=>by
  rw[dirsF]
  split
  ·cases hr:(dirS (litF ct N) c).1 with
   | none=>simp
   | some d =>
    refine zg8 ct N g (l++[d]) _ (fun x hx=>?_)
    rcases List.mem_append.1 hx with hx | hx
    ·exact h x hx
    ·obtain rfl:x=d:=by simpa using hx
     unfold dirS at hr
     cases hs:(argsS (litF ct N) c.take.name).1 with
     | none=>rw[hs] at hr;cases hr
     | some la =>
      rw[hs] at hr
      injection hr with hr
      refine⟨_,la,_,_,hr.symm,?_⟩
      have:=zgX ct N c.take.name;rw[hs] at this;exact this
  ·split
   ·exact h
   ·simp
theorem zmu(ct:Bool)(N:Nat)(c:Cu):∀ d∈(dirs (litF ct N) c).1.getD [],IsR N d:=zg8 ct N _ [] c (by simp)
theorem zen(ct:Bool)(N:Nat)(c:Cu)(hc:c.Ok)(hlen:c.ts.length≤1099511627777)(hN:c.ts.length≤N):ArgsAt (argsS (litF ct N)) ct c:=
 zkH (litF ct N) ct c hc hlen (zas ct N) (fun cc h1 h2 h3=>zkb (litF ct N) ct cc h1 (zde ct N _ (zaV (zan h1).ok bCol).ok (by rw[((zan h1).trans (zaV (zan h1).ok bCol)).ts,h2];exact hlen) (by rw[((zan h1).trans (zaV (zan h1).ok bCol)).ts,h2];omega)) (zeJ ct N cc))
theorem zg9(ct:Bool)(N:Nat)(c:Cu)(hc:c.Ok)(hlen:c.ts.length≤1099511627777)(hN:c.ts.length≤N):DirsAt (dirs (litF ct N)) ct c:=
 zkS (litF ct N) ct c hc hlen (zas ct N) (fun cc h1 h2 h3 h4=>zmt (litF ct N) ct cc h1 (zaF h1 h4) (zen ct N _ (zan (takeP h1 h4).ok).ok (by rw[((takeP h1 h4).trans (zan (takeP h1 h4).ok)).ts,h2];exact hlen) (by rw[((takeP h1 h4).trans (zan (takeP h1 h4).ok)).ts,h2];exact hN)))
def LsAt(w:World)(k lo:Nat)(l:List Dt)(sl:Value):Prop:=∃ a c F,sl = .slice a l.length c∧Ls w k l a F∧(∀ b∈F,lo≤b∧b<w.heap.size)∧l.length≤c∧c≤maxLen
theorem zkm(w:World)(k lo:Nat):LsAt w k lo [] (.slice none 0 0):=⟨none,0,[],rfl,.inl rfl,by simp,lr _,Nat.zero_le _⟩
theorem zhF{t:TypeId}{w:World}{k lo:Nat}{l:List Dt}{sl:Value}{G:List Nat}(h:Grow t k w lo l sl G):LsAt w k lo l sl:=by
 obtain⟨a,n,c,rfl,h1,h2,h3,rfl,h5⟩:=Grow.shutF h;have h6:=Grow.rngF h;exact⟨a,c,_,rfl,(zkn h5).2,h6.1,h1,h2⟩
theorem LsAt.kp{w w':World}{k lo D:Nat}{l:List Dt}{sl:Value}(h:LsAt w k lo l sl)(hk:Kp D w w')(hD:D<lo):LsAt w' k lo l sl:=by
 obtain⟨a,c,F,rfl,h1,h2,h3,h4⟩:=h;refine⟨a,c,F,rfl,?_,fun b hb=>⟨(h2 b hb).1,Nat.lt_of_lt_of_le (h2 b hb).2 hk.size⟩,h3,h4⟩
 rcases h1 with h1 | ⟨p,off,ha,hp,h1⟩
 ·exact .inl h1
 ·refine .inr ⟨p,off,ha,hp,fun i e he=>?_⟩
  obtain⟨ds,G,g1,g2,g3,g4⟩:=h1 i e he;exact⟨ds,G,fun j u hu=>(dt.zaf (hk.block p (h2 p hp).2 (by have:=(h2 p hp).1;omega)) _).trans (g1 j u hu),g2,dt.Ow.agree e ds G (fun b hb o=>dt.zaf (hk.block b (h2 b (g4 b hb)).2 (by have:=(h2 b (g4 b hb)).1;omega)) o) g3,g4⟩
theorem zhD{r:Option (List Dt)}{lo:Nat}{w:World}{sl:Value}(h:BrkPA r lo w sl):LsAt w 10 lo (r.getD []) sl:=by
 cases r with
 | none=>rw[show sl = .slice none 0 0 from h];exact zkm _ _ _
 | some l=>obtain⟨G,hG⟩:=h;exact zhF hG
theorem zhE{r:Option (List Dt)}{lo:Nat}{w:World}{sl:Value}(h:BrkPD r lo w sl):LsAt w 4 lo (r.getD []) sl:=by
 cases r with
 | none=>rw[show sl = .slice none 0 0 from h];exact zkm _ _ _
 | some l=>obtain⟨G,hG⟩:=h;exact zhF hG
theorem zhG{fn k lo lo':Nat}{l:List Dt}{w:World}{sl sl':Value}(hs:SmLs fn true k l l)(h:LsAt w k lo l sl)(h':LsAt w k lo' l sl'):Calls prog fn #[sl,sl',.bool true] w fun e w'=>e = .returned (.bool true)∧Below w.heap.size w w':=by
 obtain⟨a,c,F,rfl,h1,h2,h3,h4⟩:=h;obtain⟨a',c',F',rfl,g1,g2,g3,g4⟩:=h';exact hs w a a' c c' F F' h1 g1 (fun b hb=>(h2 b hb).2) (fun b hb=>(g2 b hb).2) h3 g3 h4 g4
theorem LsAt.form{w:World}{k lo:Nat}{l:List Dt}{sl:Value}(h:LsAt w k lo l sl):∃ a n c,sl = .slice a n c:=by
 obtain⟨a,c,F,e,_⟩:=h;exact⟨a,_,c,e⟩
theorem zgI(B p D q:Nat)(c:Cu)(S:ByteArray)(aW:Option Addr)(nW cW:Nat)(bb:Bool)(w:World)(h:Pr w B p D q c):Calls prog 16 #[ptr B,ptr D,.agg #[.int .i64 15,.string S,.slice aW nW cW,.bool bb]] w fun e w'=>e = .returned (.bool true)∧PrK B p D q w w':=by
 have bA:=qA w;have hlB:=h.a.lt;have hlD:=h.b.lt;have HH:=Hi h;obtain⟨Z,hZ⟩:∃ Z,Z=noteZ c:=⟨_,rfl⟩;obtain⟨⟨n1,n2,n3⟩,C⟩:=Z;obtain⟨R,eR⟩:∃ R,R=decide (c.kd=0):=⟨_,rfl⟩
 have c1:=Hi (fun W (hc:CurAt W B p c)=>show Calls prog 53 #[ptr B] W fun e w'=>e = .returned (.tuple #[.agg #[.bool n1,.bool n2,.string n3],.bool R])∧CurAt w' B p C∧Kp B W w' from (zjD B p c W hc).mono (by
  rintro e w' ⟨m1,m2,m3,c',hz,he,h1,h2⟩;rw[←hZ] at hz
  injection hz with hz1 hz2
  injection hz1 with hz1 hz3
  injection hz3 with hz3 hz4
  subst hz1 hz2 hz3 hz4
  exact⟨by rw[he,eR],h1,h2⟩))
 have c2:=Hi (fun W (hc:RurAt W D q c)=>show Calls prog 54 #[ptr D] W fun e w'=>e = .returned (.tuple #[.agg #[.bool n1,.bool n2,.string n3],.bool R])∧RurAt w' D q C∧Kp D W w' from (zjP D q c W hc).mono (by
  rintro e w' ⟨m1,m2,m3,c',hz,he,h1,h2⟩;rw[←hZ] at hz
  injection hz with hz1 hz2
  injection hz1 with hz1 hz3
  injection hz3 with hz3 hz4
  subst hz1 hz2 hz3 hz4
  exact⟨by rw[he,eR],h1,h2⟩))
 clear h hZ eR;unfold ptr at c1 c2 ⊢
 go_enter func16,ntmps16
 go_wp2_with fail
 obtain⟨X,hX⟩:∃ X,X=w.alloc (.cells #[.int .i64 15,.string S,.slice aW nW cW,.bool bb] 55):=⟨_,rfl⟩;have bX:Below w.heap.size w X:=by rw[hX];exact (uh bA) _
 have hO:X.heap[w.heap.size]? = some (.cells #[.int .i64 15,.string S,.slice aW nW cW,.bool bb] 55):=by rw[hX];exact heap_alloc_new w _
 have hXs:w.heap.size<X.heap.size:=by rw[hX];simp
 rw[←hX];clear hX;refine ((uh c1) X ((uh HH).a.below bX)).mono ?_
 rintro e w1 ⟨rfl,hc1,hk1⟩;have hR1:RurAt w1 D q c:=((uh HH).b.below bX).kp hk1 (fun e=>(uh HH).ne.1 e.symm) (uh HH).ne.2.2
 have bA1:=Hi (fun o=>show Below w1.heap.size w1 (w1.alloc o) from ba)
 have H1:=Hi (an hc1 (an hk1 hR1));clear c1 hc1 hk1 hR1
 go_wp2_with fail
 refine ((uh c2) _ ((uh H1).2.2.below ((uh bA1) _))).mono ?_
 rintro e w2 ⟨rfl,hc2,hk2⟩;have hs2:w1.heap.size+1≤w2.heap.size:=by have:=hk2.size;simpa using this
 have hD1:=(uh H1).2.2.lt;have hn2:w2.heap[w1.heap.size]? = some (.cells #[.bool n1,.bool n2,.string n3] 89):=(hk2.block _ (by simp) (by omega)).trans (heap_alloc_new w1 _)
 have bA2:=Hi (fun o=>show Below w2.heap.size w2 (w2.alloc o) from ba)
 have y0:∀ o,(w2.alloc o).cell? ⟨w1.heap.size,0,none⟩=some (.bool n1):=fun o=>(zG (((uh bA2) o).block _ (by omega) |>.trans hn2) 0).trans rfl
 have y1:∀ o,(w2.alloc o).cell? ⟨w1.heap.size,1,none⟩=some (.bool n2):=fun o=>(zG (((uh bA2) o).block _ (by omega) |>.trans hn2) 1).trans rfl
 have y2:∀ o,(w2.alloc o).cell? ⟨w1.heap.size,2,none⟩=some (.string n3):=fun o=>(zG (((uh bA2) o).block _ (by omega) |>.trans hn2) 2).trans rfl
 have H2:=Hi (fun o=>show Pr (w2.alloc o) B p D q C∧Kq B D w (w2.alloc o) from ⟨⟨(((uh H1).1.below ((uh bA1) _)).kp hk2 (uh HH).ne.1 (uh HH).ne.2.1).below ((uh bA2) o),hc2.below ((uh bA2) o),(uh HH).ne⟩,(Kq.of bX).trans ((Kq.a (uh H1).2.1).trans ((Kq.of ((uh bA1) _)).trans ((Kq.b hk2).trans (Kq.of ((uh bA2) o)))))⟩)
 clear c2 hc2 hk2 hn2
 go_wp2_with fail
 go_ret
 exact⟨by simp,⟨C,((uh H2) _).1,((uh H2) _).2⟩⟩
theorem zgJ(B p D q:Nat)(c:Cu)(S:ByteArray)(aW:Option Addr)(nW cW:Nat)(bb:Bool)(w:World)(h:Pr w B p D q c):Calls prog 16 #[ptr B,ptr D,.agg #[.int .i64 16,.string S,.slice aW nW cW,.bool bb]] w fun e w'=>e = .returned (.bool true)∧PrK B p D q w w':=by
 have bA:=qA w;have hlB:=h.a.lt;have hlD:=h.b.lt;have HH:=Hi h;have c1:=Hi (fun W (hc:CurAt W B p c)=>zft c.ts.length c h.a.ok h.a.len (Nat.le_add_right _ _) B p W hc)
 have c2:=Hi (fun W (hc:RurAt W D q c)=>zl1 D q c W hc c.ts.length (Nat.le_add_right _ _))
 obtain⟨U,hU⟩:∃ U,U=typF c.ts.length c:=⟨_,rfl⟩;rw[←hU] at c1 c2;unfold trC at c1 c2;obtain⟨r,C⟩:=U;obtain⟨x,hx⟩:∃ x,x=(r.map (·.1)).getD em:=⟨_,rfl⟩;obtain⟨y,hy⟩:∃ y,y=(r.map (·.2)).getD em:=⟨_,rfl⟩;obtain⟨R,eR⟩:∃ R,R=r.isSome:=⟨_,rfl⟩;simp only at c1 c2;rw[←hx,←hy,←eR] at c1 c2;clear h hU hx hy eR;unfold ptr at c1 c2 ⊢
 go_enter func16,ntmps16
 go_wp2_with fail
 obtain⟨X,hX⟩:∃ X,X=w.alloc (.cells #[.int .i64 16,.string S,.slice aW nW cW,.bool bb] 55):=⟨_,rfl⟩;have bX:Below w.heap.size w X:=by rw[hX];exact (uh bA) _
 have hO:X.heap[w.heap.size]? = some (.cells #[.int .i64 16,.string S,.slice aW nW cW,.bool bb] 55):=by rw[hX];exact heap_alloc_new w _
 have hXs:w.heap.size<X.heap.size:=by rw[hX];simp
 rw[←hX];clear hX;refine ((uh c1) X ((uh HH).a.below bX)).mono ?_
 rintro e w1 ⟨rfl,hc1,hk1⟩;have hR1:RurAt w1 D q c:=((uh HH).b.below bX).kp hk1 (fun e=>(uh HH).ne.1 e.symm) (uh HH).ne.2.2
 have bA1:=Hi (fun o=>show Below w1.heap.size w1 (w1.alloc o) from ba)
 have H1:=Hi (an hc1 (an hk1 hR1));clear c1 hc1 hk1 hR1
 go_wp2_with fail
 refine ((uh c2) _ ((uh H1).2.2.below ((uh bA1) _))).mono ?_
 rintro e w2 ⟨rfl,hc2,hk2⟩;have hs2:w1.heap.size+1≤w2.heap.size:=by have:=hk2.size;simpa using this
 have hD1:=(uh H1).2.2.lt;have hn2:w2.heap[w1.heap.size]? = some (.cells #[.string x,.string y] 44):=(hk2.block _ (by simp) (by omega)).trans (heap_alloc_new w1 _)
 have bA2:=Hi (fun o=>show Below w2.heap.size w2 (w2.alloc o) from ba)
 have y0:∀ o,(w2.alloc o).cell? ⟨w1.heap.size,0,none⟩=some (.string x):=fun o=>(zG (((uh bA2) o).block _ (by omega) |>.trans hn2) 0).trans rfl
 have y1:∀ o,(w2.alloc o).cell? ⟨w1.heap.size,1,none⟩=some (.string y):=fun o=>(zG (((uh bA2) o).block _ (by omega) |>.trans hn2) 1).trans rfl
 have H2:=Hi (fun o=>show Pr (w2.alloc o) B p D q C∧Kq B D w (w2.alloc o) from ⟨⟨(((uh H1).1.below ((uh bA1) _)).kp hk2 (uh HH).ne.1 (uh HH).ne.2.1).below ((uh bA2) o),hc2.below ((uh bA2) o),(uh HH).ne⟩,(Kq.of bX).trans ((Kq.a (uh H1).2.1).trans ((Kq.of ((uh bA1) _)).trans ((Kq.b hk2).trans (Kq.of ((uh bA2) o)))))⟩)
 clear c2 hc2 hk2 hn2
 go_wp2_with fail
 go_ret
 exact⟨by simp,⟨C,((uh H2) _).1,((uh H2) _).2⟩⟩
theorem zic(B p D q:Nat)(c:Cu)(S:ByteArray)(aW:Option Addr)(nW cW:Nat)(bb:Bool)(w:World)(h:Pr w B p D q c):Calls prog 16 #[ptr B,ptr D,.agg #[.int .i64 17,.string S,.slice aW nW cW,.bool bb]] w fun e w'=>e = .returned (.bool true)∧PrK B p D q w w':=by
 have bA:=qA w;have hlB:=h.a.lt;have hlD:=h.b.lt;have HH:=Hi h;have c1:=Hi (fun W (hc:CurAt W B p c)=>zde bb c.ts.length c h.a.ok h.a.len (Nat.le_add_right _ _) B p W hc)
 have c2:=Hi (fun W (hc:RurAt W D q c)=>zeG D q c bb W hc c.ts.length (Nat.le_add_right _ _))
 obtain⟨fu,hfu⟩:∃ fu,IsLit fu ((litF bb c.ts.length c).1.getD zeroD):=by
  cases hr:(litF bb c.ts.length c).1 with
  | none=>exact⟨1,zbv 0 0 em false 0 0⟩
  | some v=>exact⟨_,zcU bb _ _ _ hr⟩
 obtain⟨U,hU⟩:∃ U,U=litF bb c.ts.length c:=⟨_,rfl⟩;rw[←hU] at c1 c2 hfu;obtain⟨r,C⟩:=U;obtain⟨R,eR⟩:∃ R,R=r.isSome:=⟨_,rfl⟩;obtain⟨v,hv⟩:∃ v,v=r.getD zeroD:=⟨_,rfl⟩;simp only at c1 c2 hfu;rw[←hv] at hfu;rw[←eR,←hv] at c1 c2;have HL:=Hi hfu;clear h hU hv eR hfu;unfold ptr at c1 c2 ⊢
 go_enter func16,ntmps16
 go_wp2_with fail
 obtain⟨X,hX⟩:∃ X,X=w.alloc (.cells #[.int .i64 17,.string S,.slice aW nW cW,.bool bb] 55):=⟨_,rfl⟩;have bX:Below w.heap.size w X:=by rw[hX];exact (uh bA) _
 have hO:X.heap[w.heap.size]? = some (.cells #[.int .i64 17,.string S,.slice aW nW cW,.bool bb] 55):=by rw[hX];exact heap_alloc_new w _
 have hXs:w.heap.size<X.heap.size:=by rw[hX];simp
 rw[←hX];clear hX;refine ((uh c1) X ((uh HH).a.below bX)).mono ?_
 rintro e w1 ⟨cs,F,rfl,hpo,hc1,hk1⟩;obtain⟨kk,tt,bl,ai,ni,ci,af,nf,cf,ln,co,rfl⟩:=hpo.shape;have hs1:=hk1.size;have hO1:=(hk1.block w.heap.size hXs (by omega)).trans hO
 have hR1:RurAt w1 D q c:=((uh HH).b.below bX).kp hk1 (fun e=>(uh HH).ne.1 e.symm) (uh HH).ne.2.2
 have bA1:=Hi (fun o=>show Below w1.heap.size w1 (w1.alloc o) from ba)
 have q2:∀ o,(w1.alloc o).cell? ⟨w.heap.size,3,none⟩=some (.bool bb):=fun o=>(zG (((uh bA1) o).block _ (by omega) |>.trans hO1) 3).trans rfl
 have H1:=Hi (an hc1 (an hk1 (an hR1 hpo)));clear c1 hc1 hk1 hR1 hpo
 go_wp2_with fail
 refine ((uh c2) _ ((uh H1).2.2.1.below ((uh bA1) _))).mono ?_
 rintro e w2 ⟨cs',F',rfl,hpo',hc2,hk2⟩;obtain⟨kk',tt',bl',ai',ni',ci',af',nf',cf',ln',co',rfl⟩:=hpo'.shape;have hs2:w1.heap.size+1≤w2.heap.size:=by have:=hk2.size;simpa using this
 have hD1:=(uh H1).2.2.1.lt;have hn2:w2.heap[w1.heap.size]? = some (.cells #[.int .i64 kk,.string tt,.bool bl,.slice ai ni ci,.slice af nf cf,.int .i64 ln,.int .i64 co] 33):=(hk2.block _ (by simp) (by omega)).trans (heap_alloc_new w1 _)
 have bA2:=Hi (fun o=>show Below w2.heap.size w2 (w2.alloc o) from ba)
 have hF1:∀ b∈F,X.heap.size≤b∧b<w1.heap.size:=(uh H1).2.2.2.rng;have how2:Ow w2 v [.int .i64 kk,.string tt,.bool bl,.slice ai ni ci,.slice af nf cf,.int .i64 ln,.int .i64 co] F:=dt.Ow.agree v _ F (fun b hb o=>dt.zaf ((hk2.block b (Nat.lt_of_lt_of_le (hF1 b hb).2 ((uh bA1) _).size) (by have:=(hF1 b hb).1;omega)).trans (((uh bA1) _).block b (hF1 b hb).2)) o) (uh H1).2.2.2.own
 have CS:=Hi (fun o=>zil fu v v ((uh HL).same true) (w2.alloc o) _ _ F F' (dt.Ow.agree v _ F (fun b hb k=>((uh bA2) o).cell (p:=⟨b,k,none⟩) (show b<w2.heap.size by have:=(hF1 b hb).2;omega)) how2) (dt.Ow.agree v _ F' (fun b hb k=>((uh bA2) o).cell (p:=⟨b,k,none⟩) (hpo'.rng b hb).2) hpo'.own) (fun b hb=>by have:=(hF1 b hb).2;have:=((uh bA2) o).size;omega) (fun b hb=>Nat.lt_of_lt_of_le (hpo'.rng b hb).2 ((uh bA2) o).size))
 have y0:∀ o,(w2.alloc o).cell? ⟨w1.heap.size,0,none⟩=some (.int .i64 kk):=fun o=>(zG (((uh bA2) o).block _ (by omega) |>.trans hn2) 0).trans rfl
 have y1:∀ o,(w2.alloc o).cell? ⟨w1.heap.size,1,none⟩=some (.string tt):=fun o=>(zG (((uh bA2) o).block _ (by omega) |>.trans hn2) 1).trans rfl
 have y2:∀ o,(w2.alloc o).cell? ⟨w1.heap.size,2,none⟩=some (.bool bl):=fun o=>(zG (((uh bA2) o).block _ (by omega) |>.trans hn2) 2).trans rfl
 have y3:∀ o,(w2.alloc o).cell? ⟨w1.heap.size,3,none⟩=some (.slice ai ni ci):=fun o=>(zG (((uh bA2) o).block _ (by omega) |>.trans hn2) 3).trans rfl
 have y4:∀ o,(w2.alloc o).cell? ⟨w1.heap.size,4,none⟩=some (.slice af nf cf):=fun o=>(zG (((uh bA2) o).block _ (by omega) |>.trans hn2) 4).trans rfl
 have y5:∀ o,(w2.alloc o).cell? ⟨w1.heap.size,5,none⟩=some (.int .i64 ln):=fun o=>(zG (((uh bA2) o).block _ (by omega) |>.trans hn2) 5).trans rfl
 have y6:∀ o,(w2.alloc o).cell? ⟨w1.heap.size,6,none⟩=some (.int .i64 co):=fun o=>(zG (((uh bA2) o).block _ (by omega) |>.trans hn2) 6).trans rfl
 have H2:=Hi (fun o=>show Pr (w2.alloc o) B p D q C∧Kq B D w (w2.alloc o) from ⟨⟨(((uh H1).1.below ((uh bA1) _)).kp hk2 (uh HH).ne.1 (uh HH).ne.2.1).below ((uh bA2) o),hc2.below ((uh bA2) o),(uh HH).ne⟩,(Kq.of bX).trans ((Kq.a (uh H1).2.1).trans ((Kq.of ((uh bA1) _)).trans ((Kq.b hk2).trans (Kq.of ((uh bA2) o)))))⟩)
 clear c2 hc2 hk2 hn2 q2 hO1 hpo' how2 hF1
 go_wp2_with fail
 refine ((uh CS) _).mono ?_
 rintro e w3 ⟨rfl,b3⟩;have H3:=Hi (show Pr w3 B p D q C∧Kq B D w w3 from ⟨((uh H2) _).1.below b3,((uh H2) _).2.trans (Kq.of b3)⟩)
 clear b3 CS
 go_wp2_with fail
 go_ret
 exact⟨by simp,⟨C,(uh H3).1,(uh H3).2⟩⟩
theorem zgF(B p D q:Nat)(c:Cu)(S:ByteArray)(aW:Option Addr)(nW cW:Nat)(bb:Bool)(w:World)(h:Pr w B p D q c):Calls prog 16 #[ptr B,ptr D,.agg #[.int .i64 18,.string S,.slice aW nW cW,.bool bb]] w fun e w'=>e = .returned (.bool true)∧PrK B p D q w w':=by
 have bA:=qA w;have hlB:=h.a.lt;have hlD:=h.b.lt;have HH:=Hi h;have c1:=Hi (fun W (hc:CurAt W B p c)=>zen bb c.ts.length c h.a.ok h.a.len (lr _) B p W hc)
 have c2:=Hi (fun W (hc:RurAt W D q c)=>zf2 D q c bb W hc c.ts.length (Nat.le_add_right _ _))
 have hsm:SmLs 57 true 10 ((argsS (litF bb c.ts.length) c).1.getD []) ((argsS (litF bb c.ts.length) c).1.getD []):=zkc c.ts.length _ _ (eqA (zgX bb c.ts.length c));obtain⟨U,hU⟩:∃ U,U=argsS (litF bb c.ts.length) c:=⟨_,rfl⟩;rw[←hU] at c1 c2 hsm;obtain⟨r,C⟩:=U;obtain⟨R,eR⟩:∃ R,R=r.isSome:=⟨_,rfl⟩;simp only at c1 c2 hsm;rw[←eR] at c1 c2;have HS:=Hi hsm;clear h hU eR hsm
 unfold ptr at c1 c2 ⊢
 go_enter func16,ntmps16
 go_wp2_with fail
 obtain⟨X,hX⟩:∃ X,X=w.alloc (.cells #[.int .i64 18,.string S,.slice aW nW cW,.bool bb] 55):=⟨_,rfl⟩;have bX:Below w.heap.size w X:=by rw[hX];exact (uh bA) _
 have hO:X.heap[w.heap.size]? = some (.cells #[.int .i64 18,.string S,.slice aW nW cW,.bool bb] 55):=by rw[hX];exact heap_alloc_new w _
 have hXs:w.heap.size<X.heap.size:=by rw[hX];simp
 rw[←hX];clear hX;refine ((uh c1) X ((uh HH).a.below bX)).mono ?_
 rintro e w1 ⟨sl,rfl,hbr,hc1,hk1⟩;have hls:=zhD hbr;obtain⟨a1,n1,k1,hsl⟩:=hls.form;subst hsl;have hs1:=hk1.size;have hO1:=(hk1.block w.heap.size hXs (by omega)).trans hO
 have hR1:RurAt w1 D q c:=((uh HH).b.below bX).kp hk1 (fun e=>(uh HH).ne.1 e.symm) (uh HH).ne.2.2
 have q2:w1.cell? ⟨w.heap.size,3,none⟩=some (.bool bb):=(zG hO1 3).trans rfl;have H1:=Hi (an hc1 (an hk1 (an hR1 hls)));clear c1 hc1 hk1 hR1 hbr hls
 go_wp2_with fail
 refine ((uh c2) _ (uh H1).2.2.1).mono ?_
 rintro e w2 ⟨sl,rfl,hbr,hc2,hk2⟩;have hls2:=zhD hbr;obtain⟨a2,n2,k2,hsl⟩:=hls2.form;subst hsl;have CS:=Hi (zhG (uh HS) ((uh H1).2.2.2.kp hk2 (by omega)) hls2)
 have H2:=Hi (show Pr w2 B p D q C∧Kq B D w w2 from ⟨⟨(uh H1).1.kp hk2 (uh HH).ne.1 (uh HH).ne.2.1,hc2,(uh HH).ne⟩,(Kq.of bX).trans ((Kq.a (uh H1).2.1).trans (Kq.b hk2))⟩)
 clear c2 hc2 hk2 q2 hO1 hbr hls2
 go_wp2_with fail
 refine (uh CS).mono ?_
 rintro e w3 ⟨rfl,b3⟩;have H3:=Hi (show Pr w3 B p D q C∧Kq B D w w3 from ⟨(uh H2).1.below b3,(uh H2).2.trans (Kq.of b3)⟩)
 clear b3 CS
 go_wp2_with fail
 go_ret
 exact⟨by simp,⟨C,(uh H3).1,(uh H3).2⟩⟩
theorem zgG(B p D q:Nat)(c:Cu)(S:ByteArray)(aW:Option Addr)(nW cW:Nat)(bb:Bool)(w:World)(h:Pr w B p D q c):Calls prog 16 #[ptr B,ptr D,.agg #[.int .i64 19,.string S,.slice aW nW cW,.bool bb]] w fun e w'=>e = .returned (.bool true)∧PrK B p D q w w':=by
 have bA:=qA w;have hlB:=h.a.lt;have hlD:=h.b.lt;have HH:=Hi h;have c1:=Hi (fun W (hc:CurAt W B p c)=>zg9 bb c.ts.length c h.a.ok h.a.len (lr _) B p W hc)
 have c2:=Hi (fun W (hc:RurAt W D q c)=>zjH D q c bb W hc c.ts.length (Nat.le_add_right _ _))
 have hsm:SmLs 60 true 4 ((dirs (litF bb c.ts.length) c).1.getD []) ((dirs (litF bb c.ts.length) c).1.getD []):=zmv c.ts.length _ _ (eqR (zmu bb c.ts.length c));obtain⟨U,hU⟩:∃ U,U=dirs (litF bb c.ts.length) c:=⟨_,rfl⟩;rw[←hU] at c1 c2 hsm;obtain⟨r,C⟩:=U;obtain⟨R,eR⟩:∃ R,R=r.isSome:=⟨_,rfl⟩;simp only at c1 c2 hsm;rw[←eR] at c1 c2;have HS:=Hi hsm;clear h hU eR hsm;unfold ptr at c1 c2 ⊢
 go_enter func16,ntmps16
 go_wp2_with fail
 obtain⟨X,hX⟩:∃ X,X=w.alloc (.cells #[.int .i64 19,.string S,.slice aW nW cW,.bool bb] 55):=⟨_,rfl⟩;have bX:Below w.heap.size w X:=by rw[hX];exact (uh bA) _
 have hO:X.heap[w.heap.size]? = some (.cells #[.int .i64 19,.string S,.slice aW nW cW,.bool bb] 55):=by rw[hX];exact heap_alloc_new w _
 have hXs:w.heap.size<X.heap.size:=by rw[hX];simp
 rw[←hX];clear hX;refine ((uh c1) X ((uh HH).a.below bX)).mono ?_
 rintro e w1 ⟨sl,rfl,hbr,hc1,hk1⟩;have hls:=zhE hbr;obtain⟨a1,n1,k1,hsl⟩:=hls.form;subst hsl;have hs1:=hk1.size;have hO1:=(hk1.block w.heap.size hXs (by omega)).trans hO
 have hR1:RurAt w1 D q c:=((uh HH).b.below bX).kp hk1 (fun e=>(uh HH).ne.1 e.symm) (uh HH).ne.2.2
 have q2:w1.cell? ⟨w.heap.size,3,none⟩=some (.bool bb):=(zG hO1 3).trans rfl;have H1:=Hi (an hc1 (an hk1 (an hR1 hls)));clear c1 hc1 hk1 hR1 hbr hls
 go_wp2_with fail
 refine ((uh c2) _ (uh H1).2.2.1).mono ?_
 rintro e w2 ⟨sl,rfl,hbr,hc2,hk2⟩;have hls2:=zhE hbr;obtain⟨a2,n2,k2,hsl⟩:=hls2.form;subst hsl;have CS:=Hi (zhG (uh HS) ((uh H1).2.2.2.kp hk2 (by omega)) hls2)
 have H2:=Hi (show Pr w2 B p D q C∧Kq B D w w2 from ⟨⟨(uh H1).1.kp hk2 (uh HH).ne.1 (uh HH).ne.2.1,hc2,(uh HH).ne⟩,(Kq.of bX).trans ((Kq.a (uh H1).2.1).trans (Kq.b hk2))⟩)
 clear c2 hc2 hk2 q2 hO1 hbr hls2
 go_wp2_with fail
 refine (uh CS).mono ?_
 rintro e w3 ⟨rfl,b3⟩;have H3:=Hi (show Pr w3 B p D q C∧Kq B D w w3 from ⟨(uh H2).1.below b3,(uh H2).2.trans (Kq.of b3)⟩)
 clear b3 CS
 go_wp2_with fail
 go_ret
 exact⟨by simp,⟨C,(uh H3).1,(uh H3).2⟩⟩
theorem zgH(B p D q:Nat)(c:Cu)(K:Int)(S:ByteArray)(aW:Option Addr)(nW cW:Nat)(bb:Bool)(w:World)(h:Pr w B p D q c)(h15:K≠15)(h16:K≠16)(h17:K≠17)(h18:K≠18)(h19:K≠19):Calls prog 16 #[ptr B,ptr D,.agg #[.int .i64 K,.string S,.slice aW nW cW,.bool bb]] w fun e w'=>e = .returned (.bool true)∧PrK B p D q w w':=by
 have bA:=qA w;have HH:=Hi h;have n15:(K==15)=false:=by simpa using h15
 have n16:(K==16)=false:=by simpa using h16
 have n17:(K==17)=false:=by simpa using h17
 have n18:(K==18)=false:=by simpa using h18
 have n19:(K==19)=false:=by simpa using h19
 clear h h15 h16 h17 h18 h19;unfold ptr
 go_enter func16,ntmps16
 go_wp2_with fail
 go_ret
 exact⟨rfl,⟨c,(uh HH).below ((uh bA) _),Kq.of ((uh bA) _)⟩⟩
theorem zjI(B p D q:Nat)(c:Cu)(K:Int)(S:ByteArray)(aW:Option Addr)(nW cW:Nat)(bb:Bool)(w:World)(h:Pr w B p D q c):Calls prog 16 #[ptr B,ptr D,.agg #[.int .i64 K,.string S,.slice aW nW cW,.bool bb]] w fun e w'=>e = .returned (.bool true)∧PrK B p D q w w':=by
 by_cases h15:K=15
 ·subst h15;exact zgI B p D q c S _ _ _ bb w h
 by_cases h16:K=16
 ·subst h16;exact zgJ B p D q c S _ _ _ bb w h
 by_cases h17:K=17
 ·subst h17;exact zic B p D q c S _ _ _ bb w h
 by_cases h18:K=18
 ·subst h18;exact zgF B p D q c S _ _ _ bb w h
 by_cases h19:K=19
 ·subst h19;exact zgG B p D q c S _ _ _ bb w h
 exact zgH B p D q c K S _ _ _ bb w h h15 h16 h17 h18 h19
open mem (Row Srow OpsW)
theorem Pr.out{w:World}{B p D q g:Nat}{c:Cu}(h:Pr w B p D q c)(hg:g≠B∧g≠p∧g≠D∧g≠q)(o:Nat)(vs:List Value):Pr (w.setCells g o vs) B p D q c:=
 ⟨h.a.out (fun e=>hg.1 e.symm) (fun e=>hg.2.1 e.symm) o vs,h.b.out (fun e=>hg.2.2.1 e.symm) (fun e=>hg.2.2.2 e.symm) o vs,h.ne⟩
theorem Kq.low{B D lo:Nat}{w w':World}(h:Kq B D w w')(hB:lo≤B)(hD:lo≤D)(hl:lo≤w.heap.size):Below lo w w':=
 ⟨h.os,h.tape,h.output,h.size,fun b hb=>h.block b (by omega) (by omega) (by omega)⟩
theorem zkG{w w':World}{B D b n c:Nat}{ws:List ByteArray}(h:Wds w b n c ws)(hk:Kq B D w w')(h1:b≠B)(h2:b≠D):Wds w' b n c ws:=
 ⟨h.len,h.le,Nat.lt_of_lt_of_le h.lt hk.size,fun i hi=>(dt.zaf (hk.block b h.lt h1 h2) i).trans (h.at_ i hi)⟩
theorem infoOp:(prog.info? 55).map (·.size)=some 4:=by kernel_rfl
theorem law_plays(a:Option Addr)(n c:Nat)(z:List Int)(d:Int)(a2:Option Addr)(n2 c2 N:Nat)(w:World)(h:Row .u8 w a n c z)(hz:mem.Byt z)(hn:n≤1048576)(hd:(Lit.int .i64 d).wf=true)(ho:OpsW w a2 n2 N)(hN:N≤1048576)(hn2:n2≤1048576) :
  Calls prog 4 #[.slice a n c,.int .i64 d,.slice a2 n2 c2] w fun e w'=>e = .returned (.bool true)∧Below w.heap.size w w':=by
 have hFx:=Hi (zi7 w);obtain⟨j0,hj,hy0,hy1,hy2⟩:=info_parts mem.info8;have HRow:=Hi h;have HOps:=Hi ho;have C1:=Hi (fun W aB cB (hr:Row .u8 W aB n cB z)=>zll aB n cB z d W hr (by omega) hz hd)
 have C2:=Hi (fun W (hr:Row .u8 W a n c z)=>zlK a n c z d W hr (by omega) hz hd)
 obtain⟨c0,hc0⟩:∃ c0,c0=newG z d:=⟨_,rfl⟩;rw[←hc0] at C1 C2;clear h ho hc0;unfold ptr at C1 C2
 go_enter func4,ntmps4
 go_wp2_with fail
 refine (uh hFx).mono ?_
 rintro e w1 ⟨rfl,b1⟩;clear hFx
 have hlit:(w1.alloc (.cells #[] 5)).ownsRow w1.heap.size 5 1 (.slice (some ⟨w1.heap.size,0,none⟩) 0 0) 0 []:=by
  have:=World.ownsRow_lit (base:=w1.heap.size) (e:=5) (size:=1) w1 #[] 0 (by simp) (by unfold maxLen;omega) rfl
  simpa using this
 have bL:Below w1.heap.size w1 (w1.alloc (.cells #[] 5)):=ba;have HA:=Hi (an hlit (an bL ((uh HRow).below (b1.trans (bL.mono b1.size)))));have HB1:=Hi b1;clear hlit bL b1
 go_wp2_with (at_builtin;refine lx.zaG _ rfl _ _ 24 rfl w1.heap.size 5 j0 .u8 1 underlying24 hj hy0 hy1 hy2 _ _ _ rfl (uh HA).1 a n c z rfl (uh HA).2.2 (by unfold maxLen;omega) (by omega) (by simp) ?_;intro v1 w2 o1 b1';rw[Nat.zero_add,List.nil_append] at o1;obtain⟨aB,cB,eB⟩:=zbg o1;subst eB;have HO1:=Hi o1;have HB2:=Hi ((uh HA).2.1.trans b1');clear o1 b1')
 refine ((uh C1) w2 aB cB (mem.zeP (uh HO1))).mono ?_
 rintro e w3 ⟨B,p,rfl,hB,hp,hc3,b3⟩;have HC3:=Hi hc3;have HB3:=Hi b3;have hBl:=hc3.lt;have hpl:=hc3.plt;have hw2:=b3.size;clear C1 hc3 b3
 go_wp2_with fail
 refine ((uh C2) w3 ((uh HRow).below ((uh HB1).trans (((uh HB2).trans ((uh HB3).mono (uh HB2).size)).mono (uh HB1).size)))).mono ?_
 rintro e w4 ⟨D,q,rfl,hD,hq,hr4,b4⟩;have hw1:=(uh HB2).size;have hDl:=hr4.lt;have hql:=hr4.plt;have hw0:=(uh HB1).size;have HP4:=Hi (show Pr w4 B p D q c0 from ⟨(uh HC3).below b4,hr4,by omega,by omega,by omega⟩)
 have HO4:=Hi (show w4.ownsRow w1.heap.size 5 1 (.slice aB n cB) n (z.map (Value.int .u8)) from dt.zaA (uh HO1) (fun b h1 h2 h3=>(b4.block b (by omega)).trans ((uh HB3).block b h1)))
 have HB4:=Hi (show Below w.heap.size w w4 from (uh HB1).trans (((uh HB2).trans (((uh HB3).trans (b4.mono (uh HB3).size)).mono (uh HB2).size)).mono (uh HB1).size))
 have hgl:Hid (∀ g,aB=some ⟨g,0,none⟩→w1.heap.size≤g∧g<w2.heap.size):=Hi (fun g e=>(uh HO1).lt g (by rw[e];rfl))
 clear C2 hr4 b4 HC3 HB3 HB2 HA HO1 HRow
 go_wp2_with fail
 go_loopw [10] (fun v wr=>∃ (k:Nat) (xs:List Value),k≤n∧v = .int .i64 k∧Hid (Pr wr B p D q c0)∧Hid (wr.ownsRow w1.heap.size 5 1 (.slice aB n cB) n xs)∧Hid (Below w.heap.size w wr)∧w4.heap.size≤wr.heap.size) (fun v _=>n-(intOf v).toNat)
 case atStart=>exact⟨0,_,Nat.zero_le _,rfl,HP4,HO4,HB4,lr _⟩
 case round =>
  obtain⟨k,xs,hk,rfl,HP,HO,HB,hsz⟩:=hrel
  by_cases hlt:k<n
  ·have ki:(k:Int)<(n:Int):=by omega
   obtain⟨g,cur,hgb⟩:∃ g cap,aB=some ⟨g,0,none⟩∧cB=cap:=by
    rcases (uh HO).2 with ⟨e,h0⟩ | ⟨g',cap',cur,e,_⟩
    ·omega
    ·injection e with e1 e2 e3
     exact⟨g',cap',e1,e3⟩
   obtain⟨hgb,-⟩:=hgb;subst hgb;have hg:=(uh hgl) g rfl;have hxl:k<xs.length:=by have:=(uh HO).1;omega
   have q0:wr.cell? ⟨g,k,none⟩=some xs[k]:=by rw[World.ownsRow.cellAt (uh HO) k (by omega),List.getElem?_eq_getElem hxl]
   have z0:wr.frozen? ⟨g,k,none⟩=false:=World.ownsRow.frozenAt (uh HO) _
   go_wp2_with fail
   go_roundw
   case rel =>
    exact⟨k+1,_,by omega,by go_num,Hi ((uh HP).out ⟨by omega,by omega,by omega,by omega⟩ k [.int .u8 37]),Hi ((uh HO).stored k (.int .u8 37)).1,Hi (dt.zad g [.int .u8 37] k wr (uh HB) (by omega)),by simp;exact hsz⟩
   case measure=>simp[intOf];omega
  ·have ki:¬(k:Int)<(n:Int):=by omega
   clear HO
   go_wp2_with fail
   have HD2:=Hi (show w.heap.size≤B∧w.heap.size≤D from ⟨by omega,by omega⟩)
   clear hB hp hD hq hw0 hw1 hw2 hgl hk hlt ki hsz hBl hpl hDl hql HP4 HO4 HB4 HB1
   go_loopw [11] (fun v wr=>∃ (k2:Nat) (cc:Cu),k2≤n2∧v = .int .i64 k2∧Hid (Pr wr B p D q cc)∧Hid (Below w.heap.size w wr)) (fun v _=>n2-(intOf v).toNat)
   case atStart=>exact⟨0,c0,Nat.zero_le _,rfl,HP,HB⟩
   case round =>
    obtain⟨k2,cc,hk2,rfl,HP2,HB2⟩:=hrel;clear HP HB
    by_cases hlt2:k2<n2
    ·have ki2:(k2:Int)<(n2:Int):=by omega
     rcases uh HOps with h0 | ⟨bS,off,rfl,hbS,hcell⟩
     ·omega
     obtain⟨K,S,aw,nw,cw,bb,ws,⟨t0,t1,t2,t3⟩,hsr,hnw⟩:=hcell k2 hlt2;have s0:=((uh HB2).cell (p:=⟨bS,off+k2 * 4,none⟩) hbS).trans t0;have s1:=((uh HB2).cell (p:=⟨bS,off+k2 * 4+1,none⟩) hbS).trans t1;have s2:=((uh HB2).cell (p:=⟨bS,off+k2 * 4+2,none⟩) hbS).trans t2;have s3:=((uh HB2).cell (p:=⟨bS,off+k2 * 4+3,none⟩) hbS).trans t3
     have hlit:((wr.alloc (.cells #[.int .i64 K,.string S,.slice aw nw cw,.bool bb] 55)).alloc (.cells #[] 9)).ownsRow (wr.heap.size+1) 9 1 (.slice (some ⟨wr.heap.size+1,0,none⟩) 0 0) 0 []:=by
      have:=World.ownsRow_lit (base:=wr.heap.size+1) (e:=9) (size:=1) (wr.alloc (.cells #[.int .i64 K,.string S,.slice aw nw cw,.bool bb] 55)) #[] 0 (by simp) (by unfold maxLen;omega) rfl
      simpa using this
     have bA2:Below wr.heap.size wr ((wr.alloc (.cells #[.int .i64 K,.string S,.slice aw nw cw,.bool bb] 55)).alloc (.cells #[] 9)):=(ba).alloc (by simp) _
     have hO0:((wr.alloc (.cells #[.int .i64 K,.string S,.slice aw nw cw,.bool bb] 55)).alloc (.cells #[] 9)).heap[wr.heap.size]? = some (.cells #[.int .i64 K,.string S,.slice aw nw cw,.bool bb] 55):=(Below.heap_alloc _ _ wr.heap.size (by simp)).trans (heap_alloc_new wr _)
     have HA:=Hi (an hlit (an bA2 (an hO0 ((hsr.below (uh HB2)).below bA2))));have HSR:=Hi (an hsr (an hbS t2));clear hlit bA2 hO0 hsr hcell t0 t1 t2 t3 hbS
     go_wp2_with (first
      | (at_builtin;refine mem.ze0 _ rfl _ _ rfl (wr.heap.size+1) (wr.heap.size+1) rfl (uh HA).1 aw nw cw ws rfl (uh HA).2.2.2 (by omega) (by simp) ?_;intro bW cW w5 hwd hbW b5;have bR5:=(uh HA).2.1.trans (b5.mono (Nat.le_succ _));have hO5:=(b5.block wr.heap.size (Nat.lt_succ_self _)).trans (uh HA).2.2.1;have q2:w5.cell? ⟨wr.heap.size,2,none⟩=some (.slice aw nw cw):=(zG hO5 2).trans rfl;have z2:w5.frozen? ⟨wr.heap.size,2,none⟩=false:=dt.zak hO5 2;have H5:=Hi (an hwd (an hbW (an bR5 hO5)));clear hwd hbW b5 bR5 hO5)
      | (refine wpList_load_mid (by rfl) 55 _ (by rfl) wr.heap.size 0 (by rfl) [.int .i64 K,.string S,.slice (some ⟨bW,0,none⟩) nw cW,.bool bb] _ (dt.zap (show _=some (.cells #[.int .i64 K,.string S,.slice (some ⟨bW,0,none⟩) nw cW,.bool bb] 55 (0,0)) from (dt.zaj (uh H5).2.2.2 2 (.slice (some ⟨bW,0,none⟩) nw cW)).trans rfl) 0 _ (fun j u hu=>by rw[Nat.zero_add,List.getElem?_toArray];exact hu)) underlying55 rfl infoOp ?_;obtain⟨W3,e3⟩:∃ W3,W3=w5.setCell ⟨wr.heap.size,2,none⟩ (.slice (some ⟨bW,0,none⟩) nw cW):=⟨_,rfl⟩;rw[←e3];have E3:=Hi e3;clear e3 q2 z2 s0 s1 s2 s3))
     have hbl3:Below wr.heap.size wr W3:=by rw[uh E3];exact dt.zad wr.heap.size [.slice (some ⟨bW,0,none⟩) nw cW] 2 w5 (uh H5).2.2.1 (lr _)
     have hblk:W3.heap[wr.heap.size]? = some (.cells #[.int .i64 K,.string S,.slice (some ⟨bW,0,none⟩) nw cW,.bool bb] 55 (0,0)):=by rw[uh E3];exact (dt.zaj (uh H5).2.2.2 2 (.slice (some ⟨bW,0,none⟩) nw cW)).trans rfl
     have hbW:=(uh H5).2.1;have hwd3:Wds W3 bW nw cW ws:=⟨(uh H5).1.len,(uh H5).1.le,by rw[uh E3];have:=dt.zag wr.heap.size [.slice (some ⟨bW,0,none⟩) nw cW] 2 w5;have h2:=(uh H5).1.lt;exact Nat.lt_of_lt_of_le h2 (Nat.le_of_eq this.symm),fun i hi=>by rw[uh E3];exact (dt.zaf (dt.zae wr.heap.size bW (by omega) [.slice (some ⟨bW,0,none⟩) nw cW] 2 w5) i).trans ((uh H5).1.at_ i hi)⟩
     have hBl:=(uh HP2).a.lt;have hDl:=(uh HP2).b.lt;have hP3:=(uh HP2).below hbl3;have hlt3:=hwd3.lt;have hb3:Below w.heap.size w W3:=(uh HB2).trans (hbl3.mono (uh HB2).size);clear E3 H5 HA HP2 HB2 hbl3;refine (zcV B p D q cc K S (some ⟨bW,0,none⟩) nw cW ws bb W3 hP3.a hP3.b (fun _=>⟨bW,rfl,hwd3⟩) (by omega)).mono ?_
     rintro e w6 ⟨rfl,b6⟩;have hblk6:=(b6.block wr.heap.size (by omega)).trans hblk
     have hwd6:=hwd3.below b6;have hP6:=hP3.below b6;have hb6:Below w.heap.size w w6:=hb3.trans (b6.mono hb3.size);have hlt6:=hwd6.lt;have q0:w6.cell? ⟨wr.heap.size,0,none⟩=some (.int .i64 K):=(zG hblk6 0).trans rfl;have q1:w6.cell? ⟨wr.heap.size,1,none⟩=some (.string S):=(zG hblk6 1).trans rfl;have q2:w6.cell? ⟨wr.heap.size,2,none⟩=some (.slice (some ⟨bW,0,none⟩) nw cW):=(zG hblk6 2).trans rfl
     have q3:w6.cell? ⟨wr.heap.size,3,none⟩=some (.bool bb):=(zG hblk6 3).trans rfl;have X6:=Hi (an hblk6 (an hwd6 (an hP6 hb6)));clear b6 hblk6 hwd6 hP6 hb6 hblk hwd3 hP3 hb3 hlt3
     go_wp2_with fail
     refine (zjZ B p D q cc K S bW nw cW ws bb w6 (uh X6).2.2.1 (uh X6).2.1 (by omega) ⟨by omega,by omega⟩).mono ?_
     rintro e w7 ⟨rfl,hpk⟩;obtain⟨c7,hP7,k7⟩:=hpk;have hblk7:=(k7.block wr.heap.size (by omega) (by omega) (by omega)).trans (uh X6).1
     have hwd7:=zkG (uh X6).2.1 k7 (by omega) (by omega)
     have hb7:Below w.heap.size w w7:=(uh X6).2.2.2.trans (k7.low (uh HD2).1 (uh HD2).2 (uh X6).2.2.2.size);have hlt7:=hwd7.lt;clear q0 q1 q2 q3 X6 k7;have q0:w7.cell? ⟨wr.heap.size,0,none⟩=some (.int .i64 K):=(zG hblk7 0).trans rfl;have q1:w7.cell? ⟨wr.heap.size,1,none⟩=some (.string S):=(zG hblk7 1).trans rfl;have q2:w7.cell? ⟨wr.heap.size,2,none⟩=some (.slice (some ⟨bW,0,none⟩) nw cW):=(zG hblk7 2).trans rfl
     have q3:w7.cell? ⟨wr.heap.size,3,none⟩=some (.bool bb):=(zG hblk7 3).trans rfl;have X7:=Hi (an hblk7 (an hwd7 (an hP7 hb7)));clear hblk7 hwd7 hP7 hb7 hlt6
     go_wp2_with fail
     refine (zjI B p D q c7 K S (some ⟨bW,0,none⟩) nw cW bb w7 (uh X7).2.2.1).mono ?_
     rintro e w8 ⟨rfl,hpk⟩;obtain⟨c8,hP8,k8⟩:=hpk;have hblk8:=(k8.block wr.heap.size (by omega) (by omega) (by omega)).trans (uh X7).1
     have hwd8:=zkG (uh X7).2.1 k8 (by omega) (by omega)
     have hb8:Below w.heap.size w w8:=(uh X7).2.2.2.trans (k8.low (uh HD2).1 (uh HD2).2 (uh X7).2.2.2.size);clear q0 q1 q2 q3 X7 k8;have q2:w8.cell? ⟨wr.heap.size,2,none⟩=some (.slice (some ⟨bW,0,none⟩) nw cW):=(zG hblk8 2).trans rfl;have s2:w8.cell? ⟨bS,off+k2 * 4+2,none⟩=some (.slice aw nw cw):=(hb8.cell (p:=⟨bS,off+k2 * 4+2,none⟩) (uh HSR).2.1).trans (uh HSR).2.2
     have hlt8:=hwd8.lt;have hbS:=(uh HSR).2.1;have hws:=hb8.size;have HQ:=Hi (fun (W:World) (hW:Below w8.heap.size w8 W)=>an ((hW.cell (p:=⟨wr.heap.size,2,none⟩) (show wr.heap.size<w8.heap.size by omega)).trans q2) (an ((hW.cell (p:=⟨bS,off+k2 * 4+2,none⟩) (show bS<w8.heap.size by omega)).trans s2) (an (((uh HSR).1.below hb8).below hW) (an (hwd8.below hW) (an (hP8.below hW) (hb8.trans (hW.mono hws)))))))
     clear hblk8 hwd8 hP8 hb8 hlt7 HSR hBl hDl hbW hlt8 hbS hws q2 s2
     go_wp2_with fail
     go_loopw [13] (fun v wq=>∃ j:Nat,j≤nw∧v = .int .i64 j∧Below w8.heap.size w8 wq) (fun v _=>nw-(intOf v).toNat)
     case atStart=>exact⟨0,Nat.zero_le _,rfl,Below.refl _ _⟩
     case round =>
      obtain⟨j,hj,rfl,hbel⟩:=hrel
      by_cases hlt3:j<nw
      ·have ki3:(j:Int)<(nw:Int):=by omega
       obtain⟨q2,s2,hsr,hwd,-,-⟩:=(uh HQ) wr hbel
       rcases hsr.at_ with h0 | ⟨bv,ov,rfl,hbv,hcv⟩
       ·omega
       have c1:=hwd.at_ j hlt3;have d1:=hcv j hlt3;obtain⟨x,hx⟩:∃ x,x=ws.getD j em:=⟨_,rfl⟩;rw[←hx] at c1 d1;clear hx hcv hbv hsr hwd HQ
       go_wp2_with fail
       go_quiet (fail)
       go_wp2_with fail
       go_roundw
       case rel=>exact⟨j+1,by omega,by go_num,below_drewN hbel _⟩
       case measure=>simp[intOf];omega
      ·have ki3:¬(j:Int)<(nw:Int):=by omega
       obtain⟨q2,-,-,-,hP9,hB9⟩:=(uh HQ) wr hbel;have HP9:=Hi hP9;have HB9:=Hi hB9;clear hP9 hB9 HQ
       go_wp2_with fail
       go_roundw
       case rel=>exact⟨k2+1,c8,by omega,by go_num,HP9,HB9⟩
       case measure=>simp[intOf];omega
    ·have ki2:¬(k2:Int)<(n2:Int):=by omega
     go_wp2_with fail
     refine (zcV B p D q cc 1 ⟨#[]⟩ none 0 0 [] false wr (uh HP2).a (uh HP2).b (fun e=>absurd e (by decide)) (by omega)).mono ?_
     rintro e w6 ⟨rfl,b6⟩;have HP6:=Hi ((uh HP2).below b6);have HB6:=Hi ((uh HB2).trans (b6.mono (uh HB2).size));clear b6 HP2 HB2
     go_wp2_with fail
     refine (zcV B p D q cc 2 ⟨#[]⟩ none 0 0 [] false w6 (uh HP6).a (uh HP6).b (fun e=>absurd e (by decide)) (by omega)).mono ?_
     rintro e w7 ⟨rfl,b7⟩;have HP7:=Hi ((uh HP6).below b7);have HB7:=Hi ((uh HB6).trans (b7.mono (uh HB6).size));clear b7 HP6 HB6
     go_wp2_with fail
     refine (zcV B p D q cc 3 ⟨#[]⟩ none 0 0 [] false w7 (uh HP7).a (uh HP7).b (fun e=>absurd e (by decide)) (by omega)).mono ?_
     rintro e w8 ⟨rfl,b8⟩;have HB8:=Hi ((uh HB7).trans (b8.mono (uh HB7).size));clear b8 HP7 HB7
     go_wp2_with fail
     go_ret
     exact⟨rfl,uh HB8⟩
end cr
end Go.Proofs.YtepmbmbnlmbhhaaGreat
