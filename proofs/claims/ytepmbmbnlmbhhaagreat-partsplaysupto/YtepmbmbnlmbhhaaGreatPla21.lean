import Derived.Test.YtepmbmbnlmbhhaaGreatPla18
import Derived.Test.YtepmbmbnlmbhhaaGreatPla20
import Derived.Lib.SlBytesConst
set_option linter.unusedVariables false
set_option linter.unusedSimpArgs false
set_option maxHeartbeats 16000000
set_option maxRecDepth 8000
open Go.Proofs.Tryz
namespace Go.Proofs.YtepmbmbnlmbhhaaGreat
open Go.ChangeShapes Go.WideShapes Go.ChangeAt Go.RowKit
namespace cu
open ints (Hi uh)
open dt (Dt Kp RowAt Ow Grow)
theorem zlE(w:World)(b b':Nat)(x y:Int)(h0:w.cell? ⟨b,0,none⟩=some (.int .i64 x))(h1:w.cell? ⟨b,1,none⟩=some (.int .i64 y))(g0:w.cell? ⟨b',0,none⟩=some (.int .i64 x))(g1:w.cell? ⟨b',1,none⟩=some (.int .i64 y))(hb:b<w.heap.size)(hb':b'<w.heap.size):Calls prog 23 #[.slice (some ⟨b,0,none⟩) 1 1,.slice (some ⟨b',0,none⟩) 1 1] w fun e w'=>e = .returned (.int .i64 0)∧Below w.heap.size w w':=by
 have hx:¬x<x:=by omega
 have hy:¬y<y:=by omega
 go_enter func23,ntmps23
 go_wp2_with fail
 refine wp_loop_rounds 2 ?_
 rw[rounds_succ]
 go_wp2_with fail
 go_quiet (fail)
 obtain⟨V1,e1⟩:∃ V1,V1=w.drewN nq:=⟨_,rfl⟩;have c1:Below w.heap.size w V1:=by rw[e1];exact Go.below_drewN (Below.refl _ _) nq
 have B1:Below w.heap.size w V1:=c1;rw[←e1];clear e1 nq;have h0:=(c1.cell (p:=⟨b,0,none⟩) hb).trans h0;have h1:=(c1.cell (p:=⟨b,1,none⟩) hb).trans h1;have g0:=(c1.cell (p:=⟨b',0,none⟩) hb').trans g0;have g1:=(c1.cell (p:=⟨b',1,none⟩) hb').trans g1;replace hb:=Nat.lt_of_lt_of_le hb c1.size;replace hb':=Nat.lt_of_lt_of_le hb' c1.size
 go_wp2_with fail
 go_quiet (fail)
 obtain⟨V2,e2⟩:∃ V2,V2=V1.drewN nq:=⟨_,rfl⟩;have c2:Below V1.heap.size V1 V2:=by rw[e2];exact Go.below_drewN (Below.refl _ _) nq
 have B2:Below w.heap.size w V2:=B1.trans (c2.mono B1.size);rw[←e2];clear e2 nq;have h0:=(c2.cell (p:=⟨b,0,none⟩) hb).trans h0;have h1:=(c2.cell (p:=⟨b,1,none⟩) hb).trans h1;have g0:=(c2.cell (p:=⟨b',0,none⟩) hb').trans g0;have g1:=(c2.cell (p:=⟨b',1,none⟩) hb').trans g1;replace hb:=Nat.lt_of_lt_of_le hb c2.size;replace hb':=Nat.lt_of_lt_of_le hb' c2.size
 go_wp2_with fail
 go_quiet (fail)
 obtain⟨V3,e3⟩:∃ V3,V3=V2.drewN nq:=⟨_,rfl⟩;have c3:Below V2.heap.size V2 V3:=by rw[e3];exact Go.below_drewN (Below.refl _ _) nq
 have B3:Below w.heap.size w V3:=B2.trans (c3.mono B2.size);rw[←e3];clear e3 nq;have h0:=(c3.cell (p:=⟨b,0,none⟩) hb).trans h0;have h1:=(c3.cell (p:=⟨b,1,none⟩) hb).trans h1;have g0:=(c3.cell (p:=⟨b',0,none⟩) hb').trans g0;have g1:=(c3.cell (p:=⟨b',1,none⟩) hb').trans g1;replace hb:=Nat.lt_of_lt_of_le hb c3.size;replace hb':=Nat.lt_of_lt_of_le hb' c3.size
 go_wp2_with fail
 go_quiet (fail)
 obtain⟨V4,e4⟩:∃ V4,V4=V3.drewN nq:=⟨_,rfl⟩;have c4:Below V3.heap.size V3 V4:=by rw[e4];exact Go.below_drewN (Below.refl _ _) nq
 have B4:Below w.heap.size w V4:=B3.trans (c4.mono B3.size);rw[←e4];clear e4 nq;have h0:=(c4.cell (p:=⟨b,0,none⟩) hb).trans h0;have h1:=(c4.cell (p:=⟨b,1,none⟩) hb).trans h1;have g0:=(c4.cell (p:=⟨b',0,none⟩) hb').trans g0;have g1:=(c4.cell (p:=⟨b',1,none⟩) hb').trans g1;replace hb:=Nat.lt_of_lt_of_le hb c4.size;replace hb':=Nat.lt_of_lt_of_le hb' c4.size
 go_wp2_with fail
 rw[rounds_succ]
 go_wp2_with fail
 go_ret
 refine⟨rfl,?_⟩
 exact B4
theorem zcM(w:World)(k:Int)(a a':Option Addr)(n n' c c':Nat)(hP:∀ W,Below w.heap.size w W→Calls prog 23 #[.slice a n c,.slice a' n' c'] W fun e w'=>e = .returned (.int .i64 0)∧Below W.heap.size W w') :
  Calls prog 9 #[.agg #[.int .i64 k,.slice a n c,.slice none 0 0],.agg #[.int .i64 k,.slice a' n' c',.slice none 0 0]] w fun e w'=>e = .returned (.bool true)∧Below w.heap.size w w':=by
 have HP:=Hi hP;have HS:=Hi ziq;clear hP
 go_enter func9,ntmps9
 go_wp2_with fail
 have b2:=ziy w (Obj.cells #[Value.int .i64 k,.slice a n c,.slice none 0 0] 38) (Obj.cells #[Value.int .i64 k,.slice a' n' c',.slice none 0 0] 38);refine ((uh HP) _ b2).mono ?_
 rintro e w1 ⟨rfl,b1⟩;have q:=znt w #[Value.int .i64 k,.slice a n c,.slice none 0 0] #[Value.int .i64 k,.slice a' n' c',.slice none 0 0] 38 38;have q0:=(b1.block w.heap.size (by simp;omega)).trans q.1
 have q1:=(b1.block (w.heap.size+1) (by simp)).trans q.2
 have d0:w1.cell? ⟨w.heap.size,2,none⟩=some (.slice none 0 0):=(zG q0 2).trans rfl;have d1:w1.cell? ⟨w.heap.size+1,2,none⟩=some (.slice none 0 0):=(zG q1 2).trans rfl;have bw1:=b2.trans (b1.mono b2.size);clear q q0 q1
 go_wp2_with fail
 refine ((uh HS) w1).mono ?_
 rintro e w2 ⟨rfl,rfl⟩
 go_wp2_with fail
 go_ret
 exact⟨rfl,bw1⟩
open dt (Dt Kp RowAt Ow)
def sA:List Int:=[91,49,44,32,123,97,58,32,36,98,125,93]
def sB:List Int:=[91,91,73,110,116,33,93,93,33]
def dA:Dt:=litD 8 em false (Dt.of [litD 2 ⟨#[49]⟩ false .nil .nil 1 2,litD 9 em false .nil (Dt.of [fldD ⟨#[97]⟩ (litD 1 ⟨#[98]⟩ false .nil .nil 1 9) 1 6]) 1 5]) .nil 1 1
theorem fx1:(readL sA false 2).1=some dA:=by kernel_rfl
theorem fx2:(readL sA false 2).2.kd=0:=by kernel_rfl
theorem fx3:(readL sA true 2).2.kd=70∧(readL sA true 2).2.tok.ln=1∧(readL sA true 2).2.tok.co=9∧(readL sA true 2).1.isSome=false:=by
 refine⟨?_,?_,?_,?_⟩ <;> kernel_rfl
theorem fx4:(readT sB 2).1=some (⟨#[73,110,116]⟩,⟨#[33,93,93,33]⟩):=by kernel_rfl
theorem fx5:(readT sB 2).2.kd=0:=by kernel_rfl
theorem zjR:lx.Plain sA:=by unfold lx.Plain;decide
theorem zjS:lx.Plain sB:=by unfold lx.Plain;decide
theorem zij(w:World)(l:List Int)(t:TypeId)(fr:Nat × Nat):mem.Row .u8 (w.alloc (.cells (l.map (Value.int .u8)).toArray t fr)) (some ⟨w.heap.size,0,none⟩) l.length l.length l:=by
 refine⟨rfl,lr _,(fun e=>by cases e),?_⟩
 refine .inr ⟨w.heap.size,0,rfl,by simp,fun i hi=>?_⟩
 rw[zG (heap_alloc_new w _)];simp[hi]
theorem ziR{w:World}{cs:List Value}{F:List Nat}(hs:LShape cs)(h:Ow w dA cs F):∃ p1 c1 p2 c2 af nf cf ln co,cs=[.int .i64 8,.string em,.bool false,.slice (some ⟨p1,0,none⟩) 2 c1,.slice af nf cf,.int .i64 ln,.int .i64 co]∧p1∈F∧p2∈F ∧
  w.cell? ⟨p1,1,none⟩=some (.string ⟨#[49]⟩)∧w.cell? ⟨p1,7,none⟩=some (.int .i64 9)∧w.cell? ⟨p1,11,none⟩=some (.slice (some ⟨p2,0,none⟩) 1 c2)∧w.cell? ⟨p2,1,none⟩=some (.int .i64 1):=by
 obtain⟨k,tx,bl,ai,ni,ci,af,nf,cf,ln,co,rfl⟩:=hs;unfold dA litD at h;unfold Ow at h;obtain⟨ds,e,-,h⟩:=h;obtain⟨e1,rfl⟩:=List.cons.inj e;simp only[Value.int.injEq,true_and] at e1;subst e1;unfold Ow at h;obtain⟨ds,e,-,h⟩:=h;obtain⟨e1,rfl⟩:=List.cons.inj e;simp only[Value.string.injEq,true_and] at e1;subst e1;unfold Ow at h;obtain⟨ds,e,-,h⟩:=h;obtain⟨e1,rfl⟩:=List.cons.inj e
 simp only[Value.bool.injEq,true_and] at e1;subst e1;unfold Ow at h;obtain⟨a,n,c,ds,F1,F2,e,hn,hc,ha,h4,h5,rfl⟩:=h;obtain⟨e1,rfl⟩:=List.cons.inj e;simp only[Value.slice.injEq] at e1;obtain⟨rfl,rfl,rfl⟩:=e1;clear h5 ha hc hn
 rcases h4 with ⟨-,e,-⟩ | ⟨p1,G1,rfl,rfl,h4⟩
 ·cases e
 obtain⟨l1,l2⟩:=dt.OwIn.get _ 7 p1 0 ni G1 h4;obtain rfl:ni=2:=l1.symm;obtain⟨r0,g0,s0,s0l,o0,-⟩:=l2 0 _ rfl;obtain⟨r1,g1,s1,s1l,o1,sub1⟩:=l2 1 _ rfl;unfold Ow at o0;obtain⟨ds0,rfl,-,o0⟩:=o0;unfold Ow at o0;obtain⟨ds1,rfl,-,o0⟩:=o0;unfold Ow at o1;obtain⟨es0,rfl,-,o1⟩:=o1;unfold Ow at o1;obtain⟨es1,rfl,-,o1⟩:=o1;unfold Ow at o1;obtain⟨es2,rfl,-,o1⟩:=o1
 unfold Ow at o1;obtain⟨b1,m1,k1,es3,H1,H2,rfl,-,-,-,-,o1,rfl⟩:=o1;unfold Ow at o1;obtain⟨b2,m2,k2,es4,H3,H4,rfl,-,-,-,o2,o3,rfl⟩:=o1
 rcases o2 with ⟨-,e,-⟩ | ⟨p2,G2,rfl,rfl,o2⟩
 ·cases e
 obtain⟨m1',m2'⟩:=dt.OwIn.get _ 10 p2 0 m2 G2 o2;obtain rfl:m2=1:=m1'.symm;obtain⟨f0,g2,s2,s2l,o4,-⟩:=m2' 0 _ rfl;unfold fldD at o4;unfold Ow at o4;obtain⟨fs0,rfl,-,o4⟩:=o4;unfold app at o4;unfold Ow at o4;obtain⟨fs1,rfl,-,o4⟩:=o4;refine⟨p1,ci,p2,k2,af,nf,cf,ln,co,rfl,by simp,?_,?_,?_,?_,?_⟩
 ·have:=sub1 p2 (by simp);simp[this]
 ·have:=s0 1 _ rfl;simpa using this
 ·have:=s1 0 _ rfl;simpa using this
 ·have:=s1 4 _ rfl;simpa using this
 ·have:=s2 1 _ rfl;simpa using this
theorem zhw(ct:Bool)(W:World)(N:Nat)(hN:N=W.heap.size):Calls prog 6 #[.slice (some ⟨N,0,none⟩) 12 12,.bool ct,.int .i64 2] (W.alloc (.cells #[Value.int .u8 91,Value.int .u8 49,Value.int .u8 44,Value.int .u8 32,Value.int .u8 123,Value.int .u8 97,Value.int .u8 58,Value.int .u8 32,Value.int .u8 36,Value.int .u8 98,Value.int .u8 125,Value.int .u8 93] 5 (12,13))) fun e w'=>∃ cs F fs,e = .returned (.tuple #[.agg cs.toArray,.agg fs.toArray])∧LitPost ((readL sA ct 2).1.getD zeroD) (W.alloc (.cells #[Value.int .u8 91,Value.int .u8 49,Value.int .u8 44,Value.int .u8 32,Value.int .u8 123,Value.int .u8 97,Value.int .u8 58,Value.int .u8 32,Value.int .u8 36,Value.int .u8 98,Value.int .u8 125,Value.int .u8 93] 5 (12,13))) w' cs F∧FltAt (W.alloc (.cells #[Value.int .u8 91,Value.int .u8 49,Value.int .u8 44,Value.int .u8 32,Value.int .u8 123,Value.int .u8 97,Value.int .u8 58,Value.int .u8 32,Value.int .u8 36,Value.int .u8 98,Value.int .u8 125,Value.int .u8 93] 5 (12,13))).heap.size w' (readL sA ct 2).2 fs∧Below (W.alloc (.cells #[Value.int .u8 91,Value.int .u8 49,Value.int .u8 44,Value.int .u8 32,Value.int .u8 123,Value.int .u8 97,Value.int .u8 58,Value.int .u8 32,Value.int .u8 36,Value.int .u8 98,Value.int .u8 125,Value.int .u8 93] 5 (12,13))).heap.size (W.alloc (.cells #[Value.int .u8 91,Value.int .u8 49,Value.int .u8 44,Value.int .u8 32,Value.int .u8 123,Value.int .u8 97,Value.int .u8 58,Value.int .u8 32,Value.int .u8 36,Value.int .u8 98,Value.int .u8 125,Value.int .u8 93] 5 (12,13))) w':=by
 subst hN;exact zgE (some ⟨W.heap.size,0,none⟩) 12 12 sA ct 2 (W.alloc (.cells #[Value.int .u8 91,Value.int .u8 49,Value.int .u8 44,Value.int .u8 32,Value.int .u8 123,Value.int .u8 97,Value.int .u8 58,Value.int .u8 32,Value.int .u8 36,Value.int .u8 98,Value.int .u8 125,Value.int .u8 93] 5 (12,13))) (zij W sA 5 (12,13)) (by decide) zjR (by rfl)
theorem zl0(W:World)(N:Nat)(hN:N=W.heap.size):Calls prog 10 #[.slice (some ⟨N,0,none⟩) 9 9,.int .i64 2] (W.alloc (.cells #[Value.int .u8 91,Value.int .u8 91,Value.int .u8 73,Value.int .u8 110,Value.int .u8 116,Value.int .u8 33,Value.int .u8 93,Value.int .u8 93,Value.int .u8 33] 5 (9,10))) fun e w'=>e = .returned (.tuple #[.agg #[Value.string ⟨#[73,110,116]⟩,.string ⟨#[33,93,93,33]⟩],.agg #[Value.int .i64 0,.slice none 0 0,.slice none 0 0]])∧Below (W.alloc (.cells #[Value.int .u8 91,Value.int .u8 91,Value.int .u8 73,Value.int .u8 110,Value.int .u8 116,Value.int .u8 33,Value.int .u8 93,Value.int .u8 93,Value.int .u8 33] 5 (9,10))).heap.size (W.alloc (.cells #[Value.int .u8 91,Value.int .u8 91,Value.int .u8 73,Value.int .u8 110,Value.int .u8 116,Value.int .u8 33,Value.int .u8 93,Value.int .u8 93,Value.int .u8 33] 5 (9,10))) w':=by
 subst hN;have h:=zfk (some ⟨W.heap.size,0,none⟩) 9 9 sB 2 (W.alloc (.cells #[Value.int .u8 91,Value.int .u8 91,Value.int .u8 73,Value.int .u8 110,Value.int .u8 116,Value.int .u8 33,Value.int .u8 93,Value.int .u8 93,Value.int .u8 33] 5 (9,10))) (zij W sB 5 (9,10)) (by decide) zjS (by rfl)
 refine h.mono ?_
 rintro e w2 ⟨fs,rfl,hfl,b2⟩;rw[fx4];unfold FltAt at hfl;rw[if_pos fx5] at hfl;subst hfl;exact⟨rfl,b2⟩
theorem litA1(W:World)(N:Nat)(hN:N=W.heap.size):Calls prog 6 #[.slice (some ⟨N,0,none⟩) 12 12,.bool false,.int .i64 2] (W.alloc (.cells #[Value.int .u8 91,Value.int .u8 49,Value.int .u8 44,Value.int .u8 32,Value.int .u8 123,Value.int .u8 97,Value.int .u8 58,Value.int .u8 32,Value.int .u8 36,Value.int .u8 98,Value.int .u8 125,Value.int .u8 93] 5 (12,13))) fun e w'=>∃ p1 c1 p2 c2 af nf cf ln co,e = .returned (.tuple #[.agg #[Value.int .i64 8,.string em,.bool false,.slice (some ⟨p1,0,none⟩) 2 c1,.slice af nf cf,.int .i64 ln,.int .i64 co],.agg #[Value.int .i64 0,.slice none 0 0,.slice none 0 0]])∧p1<w'.heap.size∧p2<w'.heap.size ∧
  w'.cell? ⟨p1,1,none⟩=some (.string ⟨#[49]⟩)∧w'.cell? ⟨p1,7,none⟩=some (.int .i64 9)∧w'.cell? ⟨p1,11,none⟩=some (.slice (some ⟨p2,0,none⟩) 1 c2)∧w'.cell? ⟨p2,1,none⟩=some (.int .i64 1)∧Below (W.alloc (.cells #[Value.int .u8 91,Value.int .u8 49,Value.int .u8 44,Value.int .u8 32,Value.int .u8 123,Value.int .u8 97,Value.int .u8 58,Value.int .u8 32,Value.int .u8 36,Value.int .u8 98,Value.int .u8 125,Value.int .u8 93] 5 (12,13))).heap.size (W.alloc (.cells #[Value.int .u8 91,Value.int .u8 49,Value.int .u8 44,Value.int .u8 32,Value.int .u8 123,Value.int .u8 97,Value.int .u8 58,Value.int .u8 32,Value.int .u8 36,Value.int .u8 98,Value.int .u8 125,Value.int .u8 93] 5 (12,13))) w':=by
 refine (zhw false W N hN).mono ?_
 rintro e w1 ⟨cs,F,fs,rfl,hpo,hfl,b1⟩;rw[fx1] at hpo;obtain⟨p1,c1,p2,c2,af,nf,cf,ln,co,rfl,hp1,hp2,z1,z2,z3,z4⟩:=ziR hpo.shape hpo.own;unfold FltAt at hfl;rw[if_pos fx2] at hfl;subst hfl;exact⟨p1,c1,p2,c2,af,nf,cf,ln,co,rfl,(hpo.rng p1 hp1).2,(hpo.rng p2 hp2).2,z1,z2,z3,z4,b1⟩
theorem litA2(W:World)(N:Nat)(hN:N=W.heap.size):Calls prog 6 #[.slice (some ⟨N,0,none⟩) 12 12,.bool true,.int .i64 2] (W.alloc (.cells #[Value.int .u8 91,Value.int .u8 49,Value.int .u8 44,Value.int .u8 32,Value.int .u8 123,Value.int .u8 97,Value.int .u8 58,Value.int .u8 32,Value.int .u8 36,Value.int .u8 98,Value.int .u8 125,Value.int .u8 93] 5 (12,13))) fun e w'=>∃ b k tx bl ai ni ci af nf cf ln co,e = .returned (.tuple #[.agg #[.int .i64 k,.string tx,.bool bl,.slice ai ni ci,.slice af nf cf,.int .i64 ln,.int .i64 co],.agg #[.int .i64 70,.slice (some ⟨b,0,none⟩) 1 1,.slice none 0 0]])∧b<w'.heap.size∧w'.cell? ⟨b,1,none⟩=some (.int .i64 9)∧Below (W.alloc (.cells #[Value.int .u8 91,Value.int .u8 49,Value.int .u8 44,Value.int .u8 32,Value.int .u8 123,Value.int .u8 97,Value.int .u8 58,Value.int .u8 32,Value.int .u8 36,Value.int .u8 98,Value.int .u8 125,Value.int .u8 93] 5 (12,13))).heap.size (W.alloc (.cells #[Value.int .u8 91,Value.int .u8 49,Value.int .u8 44,Value.int .u8 32,Value.int .u8 123,Value.int .u8 97,Value.int .u8 58,Value.int .u8 32,Value.int .u8 36,Value.int .u8 98,Value.int .u8 125,Value.int .u8 93] 5 (12,13))) w':=by
 refine (zhw true W N hN).mono ?_
 rintro e w1 ⟨cs,F,fs,rfl,hpo,hfl,b1⟩;obtain⟨k,tx,bl,ai,ni,ci,af,nf,cf,ln,co,rfl⟩:=hpo.shape;unfold FltAt at hfl;rw[if_neg (by rw[fx3.1];decide),fx3.1,fx3.2.1,fx3.2.2.1] at hfl
 obtain⟨b,h1,h2,rfl,h4,h5⟩:=hfl;exact⟨b,k,tx,bl,ai,ni,ci,af,nf,cf,ln,co,rfl,h2,h5,b1⟩
set_option maxRecDepth 10000 in
theorem zi7(w:World):Calls prog 5 #[] w fun e w'=>e = .returned (.bool true)∧Below w.heap.size w w':=by
 have kc:=fun (w:World) (C:Array Value) (n c:Nat)=>Lib.run_convert_bytes_const (P:=prog) w 24 5 C n c underlying24 underlying5
 go_enter func5,ntmps5
 go_wp2_with fail
 refine (litA1 w w.heap.size rfl).mono ?_
 rintro e w1 ⟨p1,c1,p2,c2,af,nf,cf,ln,co,rfl,hq1,hq2,z1,z2,z3,z4,b1⟩;have bw1:Below w.heap.size w w1:=(ba).trans (b1.mono (by simp))
 clear b1;have kc1:=fun (o o':Obj) (C:Array Value) (n c:Nat)=>by simpa using kc ((w1.alloc o).alloc o') C n c
 go_wp2_with fail
 have hX1:((w1.alloc (.cells #[Value.int .i64 8,.string em,.bool false,.slice (some ⟨p1,0,none⟩) 2 c1,.slice af nf cf,.int .i64 ln,.int .i64 co] 33)).alloc (.cells #[Value.int .i64 0,.slice none 0 0,.slice none 0 0] 38)).heap[w1.heap.size]? = some (.cells #[Value.int .i64 8,.string em,.bool false,.slice (some ⟨p1,0,none⟩) 2 c1,.slice af nf cf,.int .i64 ln,.int .i64 co] 33 (0,0)):=(Below.heap_alloc _ _ w1.heap.size (by simp)).trans (heap_alloc_new w1 _)
 have hX2:((w1.alloc (.cells #[Value.int .i64 8,.string em,.bool false,.slice (some ⟨p1,0,none⟩) 2 c1,.slice af nf cf,.int .i64 ln,.int .i64 co] 33)).alloc (.cells #[Value.int .i64 0,.slice none 0 0,.slice none 0 0] 38)).heap[w1.heap.size+1]? = some (.cells #[Value.int .i64 0,.slice none 0 0,.slice none 0 0] 38 (0,0)):=by
  have:=heap_alloc_new (w1.alloc (.cells #[Value.int .i64 8,.string em,.bool false,.slice (some ⟨p1,0,none⟩) 2 c1,.slice af nf cf,.int .i64 ln,.int .i64 co] 33)) (.cells #[Value.int .i64 0,.slice none 0 0,.slice none 0 0] 38)
  simpa using this
 have hX0:w1.heap.size+1+1=((w1.alloc (.cells #[Value.int .i64 8,.string em,.bool false,.slice (some ⟨p1,0,none⟩) 2 c1,.slice af nf cf,.int .i64 ln,.int .i64 co] 33)).alloc (.cells #[Value.int .i64 0,.slice none 0 0,.slice none 0 0] 38)).heap.size:=by simp
 have bX:Below w1.heap.size w1 ((w1.alloc (.cells #[Value.int .i64 8,.string em,.bool false,.slice (some ⟨p1,0,none⟩) 2 c1,.slice af nf cf,.int .i64 ln,.int .i64 co] 33)).alloc (.cells #[Value.int .i64 0,.slice none 0 0,.slice none 0 0] 38)):=(ba).alloc (by simp) _
 obtain⟨X1,e1⟩:∃ X1,X1=(w1.alloc (.cells #[Value.int .i64 8,.string em,.bool false,.slice (some ⟨p1,0,none⟩) 2 c1,.slice af nf cf,.int .i64 ln,.int .i64 co] 33)).alloc (.cells #[Value.int .i64 0,.slice none 0 0,.slice none 0 0] 38):=⟨_,rfl⟩;rw[←e1] at hX1 hX2 hX0 bX ⊢;clear e1 kc1;refine (zl0 X1 _ hX0).mono ?_
 rintro e w2 ⟨rfl,b2⟩;have b12:Below X1.heap.size X1 w2:=(ba).trans (b2.mono (by simp))
 have kc2:=fun (o o':Obj) (C:Array Value) (n c:Nat)=>by simpa using kc ((w2.alloc o).alloc o') C n c
 have hX0':w1.heap.size+1<X1.heap.size:=by omega
 have hX0h:=Hi hX0;clear hX0 b2
 go_wp2_with fail
 have hY1:((w2.alloc (.cells #[Value.string ⟨#[73,110,116]⟩,.string ⟨#[33,93,93,33]⟩] 44)).alloc (.cells #[Value.int .i64 0,.slice none 0 0,.slice none 0 0] 38)).heap[w2.heap.size]? = some (.cells #[Value.string ⟨#[73,110,116]⟩,.string ⟨#[33,93,93,33]⟩] 44 (0,0)):=(Below.heap_alloc _ _ w2.heap.size (by simp)).trans (heap_alloc_new w2 _)
 have hY2:((w2.alloc (.cells #[Value.string ⟨#[73,110,116]⟩,.string ⟨#[33,93,93,33]⟩] 44)).alloc (.cells #[Value.int .i64 0,.slice none 0 0,.slice none 0 0] 38)).heap[w2.heap.size+1]? = some (.cells #[Value.int .i64 0,.slice none 0 0,.slice none 0 0] 38 (0,0)):=by
  have:=heap_alloc_new (w2.alloc (.cells #[Value.string ⟨#[73,110,116]⟩,.string ⟨#[33,93,93,33]⟩] 44)) (.cells #[Value.int .i64 0,.slice none 0 0,.slice none 0 0] 38)
  simpa using this
 have hY0:w2.heap.size+1+1=((w2.alloc (.cells #[Value.string ⟨#[73,110,116]⟩,.string ⟨#[33,93,93,33]⟩] 44)).alloc (.cells #[Value.int .i64 0,.slice none 0 0,.slice none 0 0] 38)).heap.size:=by simp
 have bY:Below w2.heap.size w2 ((w2.alloc (.cells #[Value.string ⟨#[73,110,116]⟩,.string ⟨#[33,93,93,33]⟩] 44)).alloc (.cells #[Value.int .i64 0,.slice none 0 0,.slice none 0 0] 38)):=(ba).alloc (by simp) _
 obtain⟨Y1,e1⟩:∃ Y1,Y1=(w2.alloc (.cells #[Value.string ⟨#[73,110,116]⟩,.string ⟨#[33,93,93,33]⟩] 44)).alloc (.cells #[Value.int .i64 0,.slice none 0 0,.slice none 0 0] 38):=⟨_,rfl⟩;rw[←e1] at hY1 hY2 hY0 bY ⊢;clear e1 kc2 kc;refine (litA2 Y1 _ hY0).mono ?_
 rintro e w3 ⟨b,k3,tx3,bl3,ai3,ni3,ci3,af3,nf3,cf3,ln3,co3,rfl,hb3,z5,b3⟩;have b23:Below Y1.heap.size Y1 w3:=(ba).trans (b3.mono (by simp))
 have hY0':w2.heap.size+1<Y1.heap.size:=by omega
 have hY0h:=Hi hY0;clear hY0 b3
 have g1:∀ (b':Nat),b'<w1.heap.size→∀ o o',((w3.alloc o).alloc o').heap[b']? = w1.heap[b']? := fun b' h' o o'=>by
  have s1:w1.heap.size≤X1.heap.size:=by omega
  have s2:=b12.size;have s3:w2.heap.size≤Y1.heap.size:=by omega
  have s4:=b23.size;rw[Below.heap_alloc (w3.alloc o) o' b' (by simp;omega),Below.heap_alloc w3 o b' (by omega),b23.block b' (by omega),bY.block b' (by omega),b12.block b' (by omega),bX.block b' h']
 have g2:∀ (b':Nat),b'<X1.heap.size→∀ o o',((w3.alloc o).alloc o').heap[b']? = X1.heap[b']? := fun b' h' o o'=>by
  have s2:=b12.size;have s3:w2.heap.size≤Y1.heap.size:=by omega
  have s4:=b23.size;rw[Below.heap_alloc (w3.alloc o) o' b' (by simp;omega),Below.heap_alloc w3 o b' (by omega),b23.block b' (by omega),bY.block b' (by omega),b12.block b' (by omega)]
 have g3:∀ (b':Nat),b'<Y1.heap.size→∀ o o',((w3.alloc o).alloc o').heap[b']? = Y1.heap[b']? := fun b' h' o o'=>by
  have s4:=b23.size;rw[Below.heap_alloc (w3.alloc o) o' b' (by simp;omega),Below.heap_alloc w3 o b' (by omega),b23.block b' (by omega)]
 have f0:∀ o o',((w3.alloc o).alloc o').cell? ⟨w1.heap.size+1,0,none⟩=some (.int .i64 0):=fun o o'=>(zG ((g2 _ hX0' o o').trans hX2) 0).trans rfl
 have v0:∀ o o',((w3.alloc o).alloc o').cell? ⟨w1.heap.size,0,none⟩=some (.int .i64 8):=fun o o'=>(zG ((g2 _ (by omega) o o').trans hX1) 0).trans rfl
 have v3:∀ o o',((w3.alloc o).alloc o').cell? ⟨w1.heap.size,3,none⟩=some (.slice (some ⟨p1,0,none⟩) 2 c1):=fun o o'=>(zG ((g2 _ (by omega) o o').trans hX1) 3).trans rfl
 have y1:∀ o o',((w3.alloc o).alloc o').cell? ⟨p1,1,none⟩=some (.string ⟨#[49]⟩):=fun o o'=>(dt.zaf (g1 p1 hq1 o o') 1).trans z1
 have y2:∀ o o',((w3.alloc o).alloc o').cell? ⟨p1,7,none⟩=some (.int .i64 9):=fun o o'=>(dt.zaf (g1 p1 hq1 o o') 7).trans z2
 have y3:∀ o o',((w3.alloc o).alloc o').cell? ⟨p1,11,none⟩=some (.slice (some ⟨p2,0,none⟩) 1 c2):=fun o o'=>(dt.zaf (g1 p1 hq1 o o') 11).trans z3
 have y4:∀ o o',((w3.alloc o).alloc o').cell? ⟨p2,1,none⟩=some (.int .i64 1):=fun o o'=>(dt.zaf (g1 p2 hq2 o o') 1).trans z4
 have gk:∀ o o',((w3.alloc o).alloc o').cell? ⟨w2.heap.size+1,0,none⟩=some (.int .i64 0):=fun o o'=>(zG ((g3 _ hY0' o o').trans hY2) 0).trans rfl
 have r0:∀ o o',((w3.alloc o).alloc o').cell? ⟨w2.heap.size,0,none⟩=some (.string ⟨#[73,110,116]⟩):=fun o o'=>(zG ((g3 _ (by omega) o o').trans hY1) 0).trans rfl
 have r1:∀ o o',((w3.alloc o).alloc o').cell? ⟨w2.heap.size,1,none⟩=some (.string ⟨#[33,93,93,33]⟩):=fun o o'=>(zG ((g3 _ (by omega) o o').trans hY1) 1).trans rfl
 have y5:∀ o o',((w3.alloc o).alloc o').cell? ⟨b,1,none⟩=some (.int .i64 9):=fun o o'=>((((Below.refl w3.heap.size w3).alloc (lr _) o).alloc (by simp) o').cell (p:=⟨b,1,none⟩) hb3).trans z5
 have hfin:Below w.heap.size w w3:=bw1.trans ((bX.trans ((b12.mono bX.size).trans ((bY.mono (Nat.le_trans bX.size b12.size)).trans (b23.mono (Nat.le_trans (Nat.le_trans bX.size b12.size) bY.size))))).mono bw1.size);have HF:=Hi hfin;clear g1 g2 g3 z1 z2 z3 z4 z5 hX1 hX2 hY1 hY2 bX bY b12 b23 hfin bw1
 go_wp2_with fail
 go_ret
 exact⟨rfl,((uh HF).alloc (uh HF).size _).alloc (Nat.le_trans (uh HF).size (by simp)) _⟩
end cu
namespace cr
open ints (Hi uh)
open dt (Dt Kp RowAt Ow Grow)
open mem (Row Srcs)
open cu
theorem zi8{lo lo':Nat}{w:World}{c:Cu}{fs fs':List Value}(h:FltAt lo w c fs)(h':FltAt lo' w c fs'):Calls prog 9 #[.agg fs.toArray,.agg fs'.toArray] w fun e w'=>e = .returned (.bool true)∧Below w.heap.size w w':=by
 unfold FltAt at h h'
 by_cases hk:c.kd=0
 ·rw[if_pos hk] at h h'
  subst h;subst h';exact zcM w 0 none none 0 0 0 0 (fun W _=>(zlD W).mono (fun e w' hh=>⟨hh.1,by rw[hh.2];exact Below.refl _ _⟩))
 ·rw[if_neg hk] at h h'
  obtain⟨b,x1,x2,rfl,x4,x5⟩:=h;obtain⟨b',y1,y2,rfl,y4,y5⟩:=h';exact zcM w c.kd _ _ 1 1 1 1 (fun W bb=>zlE W b b' _ _ ((bb.cell (p:=⟨b,0,none⟩) x2).trans x4) ((bb.cell (p:=⟨b,1,none⟩) x2).trans x5) ((bb.cell (p:=⟨b',0,none⟩) y2).trans y4) ((bb.cell (p:=⟨b',1,none⟩) y2).trans y5) (Nat.lt_of_lt_of_le x2 bb.size) (Nat.lt_of_lt_of_le y2 bb.size))
theorem zfK{lo:Nat}{w:World}{c:Cu}{fs:List Value}(h:FltAt lo w c fs):∃ K a n cc,fs=[.int .i64 K,.slice a n cc,.slice none 0 0]:=by
 unfold FltAt at h
 by_cases hk:c.kd=0
 ·rw[if_pos hk] at h
  exact⟨_,_,_,_,h⟩
 ·rw[if_neg hk] at h
  obtain⟨b,x1,x2,e,x4,x5⟩:=h;exact⟨_,_,_,_,e⟩
theorem FltAt.more{lo:Nat}{w w':World}{c:Cu}{fs:List Value}(h:FltAt lo w c fs)(hb:Below w.heap.size w w'):FltAt lo w' c fs:=by
 unfold FltAt at h ⊢
 by_cases hk:c.kd=0
 ·rw[if_pos hk] at h ⊢
  exact h
 ·rw[if_neg hk] at h ⊢
  obtain⟨b,x1,x2,e,x4,x5⟩:=h;exact⟨b,x1,Nat.lt_of_lt_of_le x2 hb.size,e,(hb.cell (p:=⟨b,0,none⟩) x2).trans x4,(hb.cell (p:=⟨b,1,none⟩) x2).trans x5⟩
structure Bn (w:World) (O:Nat) (ob:Obj) (aB aS:Option Addr) (nS cB cS:Nat) (zs:List Int) (W:World):Prop where
 bel:Below w.heap.size w W
 rB:Row .u8 W aB nS cB zs
 rS:Row .u8 W aS nS cS zs
 ob:W.heap[O]? = some ob
open dt (Dt Kp RowAt Ow OwL OwIn Grow)
theorem _root_.Go.Proofs.YtepmbmbnlmbhhaaGreat.cu.CurAt.kp{w w':World}{B p D:Nat}{c:Cu}(h:CurAt w B p c)(hk:Kp D w w')(h1:B≠D)(h2:p≠D):CurAt w' B p c:=by
 have hlt:=h.lt;obtain⟨cap,k1,k2,k3,k4⟩:=h.box;exact⟨h.ok,h.len,cap,(hk.block B hlt h1).trans k1,k2,Nat.lt_of_lt_of_le k3 hk.size,fun i t ht j u hu=>(dt.zaf (hk.block p k3 h2) _).trans (k4 i t ht j u hu)⟩
theorem RurAt.kp{w w':World}{B p D:Nat}{c:Cu}(h:RurAt w B p c)(hk:Kp D w w')(h1:B≠D)(h2:p≠D):RurAt w' B p c:=by
 have hlt:=h.lt;obtain⟨cap,k1,k2,k3,k4⟩:=h.box;exact⟨h.ok,h.len,cap,(hk.block B hlt h1).trans k1,k2,Nat.lt_of_lt_of_le k3 hk.size,fun i t ht j u hu=>(dt.zaf (hk.block p k3 h2) _).trans (k4 i t ht j u hu)⟩
theorem zhf{lo:Nat}{w:World}{c:Cu}{k:Int}{x y:Value}(h:FltAt lo w c [.int .i64 k,x,y]):k=c.kd:=by
 unfold FltAt at h
 by_cases hk:c.kd=0
 ·rw[if_pos hk] at h
  rw[hk]
  injection h with h _
  injection h
 ·rw[if_neg hk] at h
  obtain⟨b,_,_,e,_⟩:=h
  injection e with e _
  injection e
theorem zh2(B p:Nat)(c:Cu)(w:World)(h:CurAt w B p c):Calls prog 31 #[ptr B] w fun e w'=>∃ k a n cc,e = .returned (.tuple #[.agg #[.int .i64 k,.slice a n cc,.slice none 0 0],.bool (k != 0)])∧FltAt (w.heap.size+1) w' c [.int .i64 k,.slice a n cc,.slice none 0 0]∧Below w.heap.size w w':=by
 refine zi5 (ptr B) w (fun cs W=>FltAt (w.heap.size+1) W c cs) (fun W bb hW=>?_) (fun cs w1 w2 h1 h2=>FltAt.more h1 h2) (fun cs w1 vs h1=>FltAt.out h1 (Nat.lt_succ_self _) _ _)
 refine (zfr B p c W (h.below bb)).mono ?_
 rintro e w' ⟨fs,rfl,hf,b1⟩;obtain⟨k,a,n,cc,rfl⟩:=zfK hf;exact⟨k,a,n,cc,rfl,hf.mono hW,b1⟩
theorem zcV(B p D q:Nat)(c:Cu)(K:Int)(S:ByteArray)(aW:Option Addr)(nW cW:Nat)(ws:List ByteArray)(bb:Bool)(w:World)(ha:CurAt w B p c)(hb:RurAt w D q c)(hw:K=5→∃ bW,aW=some ⟨bW,0,none⟩∧Wds w bW nW cW ws)(hn:nW≤1048576) :
  Calls prog 14 #[ptr B,ptr D,.agg #[.int .i64 K,.string S,.slice aW nW cW,.bool bb]] w fun e w'=>e = .returned (.bool true)∧Below w.heap.size w w':=by
 have bA:=qA w
 by_cases h1:K=1
 ·subst h1
  have c1:=Hi (fun W (bb:Below w.heap.size w W)=>zaM B p c W (ha.below bb))
  have c2:=Hi (fun W (bb:Below w.heap.size w W)=>zdm D q c W (hb.below bb))
  unfold Tk.cells at c1 c2;obtain⟨t,et⟩:∃ t,t=c.tok:=⟨_,rfl⟩;rw[←et] at c1 c2;clear ha hb hw et;unfold ptr at c1 c2 ⊢
  go_enter func14,ntmps14
  go_wp2_with fail
  refine ((uh c1) _ ((uh bA) _)).mono ?_
  rintro e w1 ⟨rfl,b1⟩;have bw1:=((uh bA) _).trans (b1.mono ((uh bA) _).size);have HB1:=Hi bw1;clear b1 bw1 c1
  go_wp2_with fail
  refine ((uh c2) _ (uh HB1)).mono ?_
  rintro e w2 ⟨rfl,b2⟩;have HB2:=Hi ((uh HB1).trans (b2.mono (uh HB1).size));clear b2 c2
  go_wp2_with fail
  go_ret
  exact⟨rfl,uh HB2⟩
 by_cases h2:K=2
 ·subst h2
  have c1:=Hi (fun W (bb:Below w.heap.size w W)=>zh2 B p c W (ha.below bb))
  have c2:=Hi (fun W (bb:Below w.heap.size w W)=>zie D q c W (hb.below bb))
  clear ha hb hw;unfold ptr at c1 c2 ⊢
  go_enter func14,ntmps14
  go_wp2_with fail
  refine ((uh c1) _ ((uh bA) _)).mono ?_
  rintro e w1 ⟨k1,a1,n1,cc1,rfl,hf1,b1⟩;have bw1:=((uh bA) _).trans (b1.mono ((uh bA) _).size);have HF1:=Hi hf1;have HB1:=Hi bw1;clear b1 bw1 c1 hf1
  go_wp2_with fail
  obtain⟨X,hX⟩:∃ X,X=w1.alloc (.cells #[.int .i64 k1,.slice a1 n1 cc1,.slice none 0 0] 38):=⟨_,rfl⟩;have bX:Below w1.heap.size w1 X:=by rw[hX];exact ba
  have hX1:X.heap[w1.heap.size]? = some (.cells #[.int .i64 k1,.slice a1 n1 cc1,.slice none 0 0] 38):=by rw[hX];exact heap_alloc_new w1 _
  have hXs:w1.heap.size<X.heap.size:=by rw[hX];simp
  rw[←hX];clear hX;have HBX:=Hi ((uh HB1).trans (bX.mono (uh HB1).size));refine ((uh c2) X (uh HBX)).mono ?_
  rintro e w2 ⟨fs,rfl,hf2,b2⟩;obtain⟨k2,a2,n2,cc2,rfl⟩:=zfK hf2;obtain rfl:k1=k2:=(zhf (uh HF1)).trans (zhf hf2).symm;have hkk:(c.kd != 0)=(k1 != 0):=by rw[zhf hf2]
  rw[hkk];have bX2:=bX.trans (b2.mono bX.size);have hs2:=b2.size;have e1:=(b2.block w1.heap.size hXs).trans hX1;have HF2:=Hi (an (FltAt.more (uh HF1) bX2) hf2);have HB2:=Hi ((uh HBX).trans (b2.mono (uh HBX).size));have bA2:=Hi (fun o=>show Below w2.heap.size w2 (w2.alloc o) from ba)
  have f0:∀ o,(w2.alloc o).cell? ⟨w1.heap.size,0,none⟩=some (.int .i64 k1):=fun o=>(zG (((uh bA2) o).block _ (by omega) |>.trans e1) 0).trans rfl
  have f1:∀ o,(w2.alloc o).cell? ⟨w1.heap.size,1,none⟩=some (.slice a1 n1 cc1):=fun o=>(zG (((uh bA2) o).block _ (by omega) |>.trans e1) 1).trans rfl
  have f2:∀ o,(w2.alloc o).cell? ⟨w1.heap.size,2,none⟩=some (.slice none 0 0):=fun o=>(zG (((uh bA2) o).block _ (by omega) |>.trans e1) 2).trans rfl
  have c3:=Hi (fun o=>zi8 (FltAt.more (uh HF2).1 ((uh bA2) o)) (FltAt.more (uh HF2).2 ((uh bA2) o)))
  obtain⟨kb,hkb⟩:∃ kb,kb=(k1 != 0):=⟨_,rfl⟩;rw[←hkb];clear c2 b2 hf2 hkk bX bX2 hX1 e1 hkb HF1
  go_wp2_with fail
  refine ((uh c3) _).mono ?_
  rintro e w3 ⟨rfl,b3⟩;have HB3:=Hi (((uh HB2).trans (((uh bA2) _).mono (uh HB2).size)).trans (b3.mono ((uh HB2).trans (((uh bA2) _).mono (uh HB2).size)).size));clear b3 c3
  go_wp2_with fail
  go_ret
  exact⟨rfl,uh HB3⟩
 by_cases h3:K=3
 ·subst h3
  have c1:=Hi (fun W (bb:Below w.heap.size w W)=>zjC B p c W (ha.below bb))
  have d2:∀ o,(w.alloc o).cell? ⟨D,2,none⟩=some (.int .i64 c.op):=fun o=>(hb.below ((uh bA) o)).c2.1
  clear ha hb hw;unfold ptr at c1 ⊢
  go_enter func14,ntmps14
  go_wp2_with fail
  obtain⟨X,hX⟩:∃ X,X=w.alloc (.cells #[.int .i64 3,.string S,.slice aW nW cW,.bool bb] 55):=⟨_,rfl⟩;have bX:Below w.heap.size w X:=by rw[hX];exact (uh bA) _
  have hd:=d2 (.cells #[.int .i64 3,.string S,.slice aW nW cW,.bool bb] 55);rw[←hX] at hd ⊢;clear hX d2;have bD:Below w.heap.size w { X with drawn:=X.drawn+1 }:=bX.drew
  have hS0:({ X with drawn:=X.drawn+1 }:World).cell? ⟨D,2,none⟩=some (.int .i64 c.op):=hd
  refine wp_region_noPanic ?_
  refine wp_region_held (S:=fun w'=>w'.cell? ⟨D,2,none⟩=some (.int .i64 c.op)) mixed ?_
  refine rgn.u 0 (v:=?v1) ?h1 hS0 ?_
  case h1=>(intro w' hw';go_simp;try with_reducible rfl)
  simp only[zA,zB,zC,Act.put,zD,zE,zF];refine rgn.u 2 (v:=?v2) ?h2 hS0 ?_
  case h2=>(intro w' hw';go_simp;try with_reducible rfl)
  simp only[zA,zB,zC,Act.put,zD,zE,zF];refine rgn.u 3 (v:=?v3) ?h3 hS0 ?_
  case h3=>(intro w' hw';go_simp;try with_reducible rfl)
  simp only[zA,zB,zC,Act.put,zD,zE,zF];refine rgn.u 4 (v:=?v4) ?h4 hS0 ?_
  case h4=>(intro w' hw';go_simp;try with_reducible rfl)
  simp only[zA,zB,zC,Act.put,zD,zE,zF];refine rgn.u 5 (v:=?v5) ?h5 hS0 ?_
  case h5=>(intro w' hw';have q0:=hw';go_simp;try with_reducible rfl)
  simp only[zA,zB,zC,Act.put,zD,zE,zF];refine rgn.one (i:=1) _ rfl (by kernel_rfl) (by rfl) ?_
  simp only[zA,zB,zC,Act.put,zD,zE,zF];refine rgn.zat _ _ _ _ rfl func32 (by kernel_rfl) (by kernel_rfl) #[.pointer (some ⟨B,0,none⟩)] (by first | kernel_rfl | (simp only[List.map_toArray,List.map_cons,List.map_nil];rfl)) ?_
  refine ((uh c1) _ bD).mono ?_
  rintro e w1 ⟨rfl,hw1⟩;rw[hw1];refine⟨_,rfl,hS0,?_⟩
  simp only[zA,zB,zC,Act.put,zD,zE,zF];refine rgn.u 6 (v:=?v6) ?h6 hS0 ?_
  case h6=>(intro w' hw';go_simp;try with_reducible rfl)
  simp only[zA,zB,zC,Act.put,zD,zE,zF];refine rgn.u 7 (v:=?v7) ?h7 hS0 ?_
  case h7=>(intro w' hw';go_simp;try with_reducible rfl)
  simp only[zA,zB,zC,Act.put,zD,zE,zF];refine wpAnyH_done (by kernel_rfl) ?_ _;refine NoPanic.normal ?_
  go_wp2_with fail
  go_ret
  exact⟨by simp,bD⟩
 by_cases h4:K=4
 ·subst h4
  have c1:=Hi (fun W (bb:Below w.heap.size w W)=>zam D q c S W (hb.below bb))
  have c2:=Hi (fun W (bb:Below w.heap.size w W)=>cu.zam B p c S W (ha.below bb))
  obtain⟨R,eR⟩:∃ R,R=c.isP S:=⟨_,rfl⟩;rw[←eR] at c1 c2;clear ha hb hw eR;unfold ptr at c1 c2 ⊢
  go_enter func14,ntmps14
  go_wp2_with fail
  obtain⟨X,hX⟩:∃ X,X=w.alloc (.cells #[.int .i64 4,.string S,.slice aW nW cW,.bool bb] 55):=⟨_,rfl⟩;have bX:Below w.heap.size w X:=by rw[hX];exact (uh bA) _
  have hO:X.heap[w.heap.size]? = some (.cells #[.int .i64 4,.string S,.slice aW nW cW,.bool bb] 55):=by rw[hX];exact heap_alloc_new w _
  have hXs:w.heap.size<X.heap.size:=by rw[hX];simp
  rw[←hX];clear hX;have bD:Below w.heap.size w { X with drawn:=X.drawn+1 }:=bX.drew
  have hOx:X.cell? ⟨w.heap.size,1,none⟩=some (.string S):=(zG hO 1).trans rfl;have hS0:({ X with drawn:=X.drawn+1 }:World).cell? ⟨w.heap.size,1,none⟩=some (.string S):=hOx
  refine wp_region_noPanic ?_
  refine wp_region_held (S:=fun w'=>w'.cell? ⟨w.heap.size,1,none⟩=some (.string S)) mixed ?_
  refine rgn.u 0 (v:=?v8) ?h8 hS0 ?_
  case h8=>(intro w' hw';go_simp;try with_reducible rfl)
  simp only[zA,zB,zC,Act.put,zD,zE,zF];refine rgn.u 1 (v:=?v9) ?h9 hS0 ?_
  case h9=>(intro w' hw';go_simp;try with_reducible rfl)
  simp only[zA,zB,zC,Act.put,zD,zE,zF];refine rgn.u 2 (v:=?v10) ?h10 hS0 ?_
  case h10=>(intro w' hw';have q0:=hw';go_simp;try with_reducible rfl)
  simp only[zA,zB,zC,Act.put,zD,zE,zF];refine rgn.u 4 (v:=?v11) ?h11 hS0 ?_
  case h11=>(intro w' hw';go_simp;try with_reducible rfl)
  simp only[zA,zB,zC,Act.put,zD,zE,zF];refine rgn.u 5 (v:=?v12) ?h12 hS0 ?_
  case h12=>(intro w' hw';go_simp;try with_reducible rfl)
  simp only[zA,zB,zC,Act.put,zD,zE,zF];refine rgn.u 6 (v:=?v13) ?h13 hS0 ?_
  case h13=>(intro w' hw';have q0:=hw';go_simp;try with_reducible rfl)
  simp only[zA,zB,zC,Act.put,zD,zE,zF];refine rgn.one (i:=3) _ rfl (by kernel_rfl) (by rfl) ?_
  simp only[zA,zB,zC,Act.put,zD,zE,zF];refine rgn.zat _ _ _ _ rfl func33 (by kernel_rfl) (by kernel_rfl) #[.pointer (some ⟨B,0,none⟩),.string S] (by first | kernel_rfl | (simp only[List.map_toArray,List.map_cons,List.map_nil];rfl)) ?_
  refine ((uh c2) _ bD).mono ?_
  rintro e w1 ⟨rfl,b1⟩;have b02:=bD.trans (b1.mono bD.size);have hs1:=b1.size;have hS1:w1.cell? ⟨w.heap.size,1,none⟩=some (.string S):=(b1.cell (p:=⟨w.heap.size,1,none⟩) hXs).trans hS0;refine⟨_,rfl,hS1,?_⟩
  clear hS0;have hS0:=hS1;simp only[zA,zB,zC,Act.put,zD,zE,zF];refine rgn.one (i:=7) _ rfl (by kernel_rfl) (by rfl) ?_
  simp only[zA,zB,zC,Act.put,zD,zE,zF];refine rgn.zat _ _ _ _ rfl func34 (by kernel_rfl) (by kernel_rfl) #[.pointer (some ⟨D,0,none⟩),.string S] (by first | kernel_rfl | (simp only[List.map_toArray,List.map_cons,List.map_nil];rfl)) ?_
  refine ((uh c1) _ b02).mono ?_
  rintro e w2 ⟨rfl,b2⟩;have b03:=b02.trans (b2.mono b02.size);have hS2:w2.cell? ⟨w.heap.size,1,none⟩=some (.string S):=(b2.cell (p:=⟨w.heap.size,1,none⟩) (Nat.lt_of_lt_of_le hXs hs1)).trans hS0;refine⟨_,rfl,hS2,?_⟩
  clear hS0;have hS0:=hS2;simp only[zA,zB,zC,Act.put,zD,zE,zF];refine rgn.u 8 (v:=?v14) ?h14 hS0 ?_
  case h14=>(intro w' hw';go_simp;try with_reducible rfl)
  simp only[zA,zB,zC,Act.put,zD,zE,zF];refine rgn.u 9 (v:=?v15) ?h15 hS0 ?_
  case h15=>(intro w' hw';go_simp;try with_reducible rfl)
  simp only[zA,zB,zC,Act.put,zD,zE,zF];refine wpAnyH_done (by kernel_rfl) ?_ _;refine NoPanic.normal ?_
  go_wp2_with fail
  go_ret
  exact⟨by simp,b03⟩
 by_cases h5:K=5
 ·subst h5
  obtain⟨bW,rfl,hwd⟩:=hw rfl;have c1:=Hi (fun W (bb:Below w.heap.size w W)=>zcD D q c bW nW cW ws W (hb.below bb) (hwd.below bb) hn)
  have c2:=Hi (fun W (bb:Below w.heap.size w W)=>cu.zdb B p c bW nW cW ws W (ha.below bb) (hwd.below bb) hn)
  obtain⟨R,eR⟩:∃ R,R=c.isW ws:=⟨_,rfl⟩;rw[←eR] at c1 c2;clear ha hb hw eR hwd;unfold ptr at c1 c2 ⊢
  go_enter func14,ntmps14
  go_wp2_with fail
  obtain⟨X,hX⟩:∃ X,X=w.alloc (.cells #[.int .i64 5,.string S,.slice (some ⟨bW,0,none⟩) nW cW,.bool bb] 55):=⟨_,rfl⟩;have bX:Below w.heap.size w X:=by rw[hX];exact (uh bA) _
  have hO:X.heap[w.heap.size]? = some (.cells #[.int .i64 5,.string S,.slice (some ⟨bW,0,none⟩) nW cW,.bool bb] 55):=by rw[hX];exact heap_alloc_new w _
  have hXs:w.heap.size<X.heap.size:=by rw[hX];simp
  rw[←hX];clear hX;have bD:Below w.heap.size w { X with drawn:=X.drawn+1 }:=bX.drew
  have hOx:X.cell? ⟨w.heap.size,2,none⟩=some (.slice (some ⟨bW,0,none⟩) nW cW):=(zG hO 2).trans rfl;have hS0:({ X with drawn:=X.drawn+1 }:World).cell? ⟨w.heap.size,2,none⟩=some (.slice (some ⟨bW,0,none⟩) nW cW):=hOx
  refine wp_region_noPanic ?_
  refine wp_region_held (S:=fun w'=>w'.cell? ⟨w.heap.size,2,none⟩=some (.slice (some ⟨bW,0,none⟩) nW cW)) mixed ?_
  refine rgn.u 0 (v:=?v16) ?h16 hS0 ?_
  case h16=>(intro w' hw';go_simp;try with_reducible rfl)
  simp only[zA,zB,zC,Act.put,zD,zE,zF];refine rgn.u 1 (v:=?v17) ?h17 hS0 ?_
  case h17=>(intro w' hw';go_simp;try with_reducible rfl)
  simp only[zA,zB,zC,Act.put,zD,zE,zF];refine rgn.u 2 (v:=?v18) ?h18 hS0 ?_
  case h18=>(intro w' hw';have q0:=hw';go_simp;try with_reducible rfl)
  simp only[zA,zB,zC,Act.put,zD,zE,zF];refine rgn.u 4 (v:=?v19) ?h19 hS0 ?_
  case h19=>(intro w' hw';go_simp;try with_reducible rfl)
  simp only[zA,zB,zC,Act.put,zD,zE,zF];refine rgn.u 5 (v:=?v20) ?h20 hS0 ?_
  case h20=>(intro w' hw';go_simp;try with_reducible rfl)
  simp only[zA,zB,zC,Act.put,zD,zE,zF];refine rgn.u 6 (v:=?v21) ?h21 hS0 ?_
  case h21=>(intro w' hw';have q0:=hw';go_simp;try with_reducible rfl)
  simp only[zA,zB,zC,Act.put,zD,zE,zF];refine rgn.one (i:=3) _ rfl (by kernel_rfl) (by rfl) ?_
  simp only[zA,zB,zC,Act.put,zD,zE,zF];refine rgn.zat _ _ _ _ rfl func35 (by kernel_rfl) (by kernel_rfl) #[.pointer (some ⟨B,0,none⟩),.slice (some ⟨bW,0,none⟩) nW cW] (by first | kernel_rfl | (simp only[List.map_toArray,List.map_cons,List.map_nil];rfl)) ?_
  refine ((uh c2) _ bD).mono ?_
  rintro e w1 ⟨rfl,b1⟩;have b02:=bD.trans (b1.mono bD.size);have hs1:=b1.size;have hS1:w1.cell? ⟨w.heap.size,2,none⟩=some (.slice (some ⟨bW,0,none⟩) nW cW):=(b1.cell (p:=⟨w.heap.size,2,none⟩) hXs).trans hS0;refine⟨_,rfl,hS1,?_⟩
  clear hS0;have hS0:=hS1;simp only[zA,zB,zC,Act.put,zD,zE,zF];refine rgn.one (i:=7) _ rfl (by kernel_rfl) (by rfl) ?_
  simp only[zA,zB,zC,Act.put,zD,zE,zF];refine rgn.zat _ _ _ _ rfl func36 (by kernel_rfl) (by kernel_rfl) #[.pointer (some ⟨D,0,none⟩),.slice (some ⟨bW,0,none⟩) nW cW] (by first | kernel_rfl | (simp only[List.map_toArray,List.map_cons,List.map_nil];rfl)) ?_
  refine ((uh c1) _ b02).mono ?_
  rintro e w2 ⟨rfl,b2⟩;have b03:=b02.trans (b2.mono b02.size);have hS2:w2.cell? ⟨w.heap.size,2,none⟩=some (.slice (some ⟨bW,0,none⟩) nW cW):=(b2.cell (p:=⟨w.heap.size,2,none⟩) (Nat.lt_of_lt_of_le hXs hs1)).trans hS0;refine⟨_,rfl,hS2,?_⟩
  clear hS0;have hS0:=hS2;simp only[zA,zB,zC,Act.put,zD,zE,zF];refine rgn.u 8 (v:=?v22) ?h22 hS0 ?_
  case h22=>(intro w' hw';go_simp;try with_reducible rfl)
  simp only[zA,zB,zC,Act.put,zD,zE,zF];refine rgn.u 9 (v:=?v23) ?h23 hS0 ?_
  case h23=>(intro w' hw';go_simp;try with_reducible rfl)
  simp only[zA,zB,zC,Act.put,zD,zE,zF];refine wpAnyH_done (by kernel_rfl) ?_ _;refine NoPanic.normal ?_
  go_wp2_with fail
  go_ret
  exact⟨by simp,b03⟩
 ·have n1:(K==1)=false:=by simpa using h1
  have n2:(K==2)=false:=by simpa using h2
  have n3:(K==3)=false:=by simpa using h3
  have n4:(K==4)=false:=by simpa using h4
  have n5:(K==5)=false:=by simpa using h5
  clear h1 h2 h3 h4 h5 ha hb hw;unfold ptr
  go_enter func14,ntmps14
  go_wp2_with fail
  go_ret
  exact⟨rfl,(uh bA) _⟩
structure Kq (B D:Nat) (w w':World):Prop where
 os:w'.os=w.os
 tape:w'.tape=w.tape
 output:w'.output=w.output
 size:w.heap.size≤w'.heap.size
 block:∀ b,b<w.heap.size→b≠B→b≠D→w'.heap[b]? = w.heap[b]?
theorem Kq.of{B D:Nat}{w w':World}(h:Below w.heap.size w w'):Kq B D w w':=⟨h.os,h.tape,h.output,h.size,fun b h1 _ _=>h.block b h1⟩
theorem Kq.a{B D:Nat}{w w':World}(h:Kp B w w'):Kq B D w w':=⟨h.os,h.tape,h.output,h.size,fun b h1 h2 _=>h.block b h1 h2⟩
theorem Kq.b{B D:Nat}{w w':World}(h:Kp D w w'):Kq B D w w':=⟨h.os,h.tape,h.output,h.size,fun b h1 _ h2=>h.block b h1 h2⟩
theorem Kq.trans{B D:Nat}{w w1 w2:World}(h:Kq B D w w1)(k:Kq B D w1 w2):Kq B D w w2:=⟨k.os.trans h.os,k.tape.trans h.tape,k.output.trans h.output,Nat.le_trans h.size k.size,fun b h1 h2 h3=>(k.block b (Nat.lt_of_lt_of_le h1 h.size) h2 h3).trans (h.block b h1 h2 h3)⟩
structure Pr (w:World) (B p D q:Nat) (c:Cu):Prop where
 a:CurAt w B p c
 b:RurAt w D q c
 ne:B≠D∧p≠D∧q≠B
def PrK(B p D q:Nat)(w w':World):Prop:=∃ c',Pr w' B p D q c'∧Kq B D w w'
theorem Pr.below{w w':World}{B p D q:Nat}{c:Cu}(h:Pr w B p D q c)(hb:Below w.heap.size w w'):Pr w' B p D q c:=⟨h.a.below hb,h.b.below hb,h.ne⟩
theorem zfq(B p D q:Nat)(c:Cu)(S:ByteArray)(aW:Option Addr)(nW cW:Nat)(bb:Bool)(w:World)(h:Pr w B p D q c)  : Calls prog 15 #[ptr B,ptr D,.agg #[.int .i64 6,.string S,.slice aW nW cW,.bool bb]] w fun e w'=>e = .returned (.bool true)∧PrK B p D q w w':=by
 have bA:=qA w;have hlB:=h.a.lt;have hlD:=h.b.lt;have HH:=Hi h;have c1:=Hi (fun W (hc:CurAt W B p c)=>cu.zbe B p c S W hc)
 have c2:=Hi (fun W (hc:RurAt W D q c)=>zbe D q c S W hc)
 obtain⟨R,eR⟩:∃ R,R=c.isP S:=⟨_,rfl⟩;obtain⟨C,eC⟩:∃ C,C=c.punct S:=⟨_,rfl⟩;rw[←eR,←eC] at c1 c2;clear h eR eC;unfold ptr at c1 c2 ⊢
 go_enter func15,ntmps15
 go_wp2_with fail
 obtain⟨X,hX⟩:∃ X,X=w.alloc (.cells #[.int .i64 6,.string S,.slice aW nW cW,.bool bb] 55):=⟨_,rfl⟩;have bX:Below w.heap.size w X:=by rw[hX];exact (uh bA) _
 have hO:X.heap[w.heap.size]? = some (.cells #[.int .i64 6,.string S,.slice aW nW cW,.bool bb] 55):=by rw[hX];exact heap_alloc_new w _
 have hXs:w.heap.size<X.heap.size:=by rw[hX];simp
 rw[←hX];clear hX;have bD:Below w.heap.size w { X with drawn:=X.drawn+1 }:=bX.drew
 have hOx:X.cell? ⟨w.heap.size,1,none⟩=some (.string S):=(zG hO 1).trans rfl;have hS0:({ X with drawn:=X.drawn+1 }:World).cell? ⟨w.heap.size,1,none⟩=some (.string S):=hOx
 refine wp_region_noPanic ?_
 refine wp_region_held (S:=fun w'=>w'.cell? ⟨w.heap.size,1,none⟩=some (.string S)) mixed ?_
 refine rgn.u 0 (v:=?v0) ?h0 hS0 ?_
 case h0=>(intro w' hw';go_simp;try with_reducible rfl)
 simp only[zA,zB,zC,Act.put,zD,zE,zF];refine rgn.u 1 (v:=?v1) ?h1 hS0 ?_
 case h1=>(intro w' hw';go_simp;try with_reducible rfl)
 simp only[zA,zB,zC,Act.put,zD,zE,zF];refine rgn.u 2 (v:=?v2) ?h2 hS0 ?_
 case h2=>(intro w' hw';have q0:=hw';go_simp;try with_reducible rfl)
 simp only[zA,zB,zC,Act.put,zD,zE,zF];refine rgn.u 4 (v:=?v4) ?h4 hS0 ?_
 case h4=>(intro w' hw';go_simp;try with_reducible rfl)
 simp only[zA,zB,zC,Act.put,zD,zE,zF];refine rgn.u 5 (v:=?v5) ?h5 hS0 ?_
 case h5=>(intro w' hw';go_simp;try with_reducible rfl)
 simp only[zA,zB,zC,Act.put,zD,zE,zF];refine rgn.u 6 (v:=?v6) ?h6 hS0 ?_
 case h6=>(intro w' hw';have q0:=hw';go_simp;try with_reducible rfl)
 simp only[zA,zB,zC,Act.put,zD,zE,zF];refine rgn.one (i:=3) _ rfl (by kernel_rfl) (by rfl) ?_
 simp only[zA,zB,zC,Act.put,zD,zE,zF];refine rgn.zat _ _ _ _ rfl func37 (by kernel_rfl) (by kernel_rfl) #[.pointer (some ⟨B,0,none⟩),.string S] (by first | kernel_rfl | (simp only[List.map_toArray,List.map_cons,List.map_nil];rfl)) ?_
 refine ((uh c1) _ ((uh HH).a.below bD)).mono ?_
 rintro e w1 ⟨rfl,hc1,hk1⟩;have hR1:RurAt w1 D q c:=((uh HH).b.below bD).kp hk1 (fun e=>(uh HH).ne.1 e.symm) (uh HH).ne.2.2
 have hs1:=hk1.size;have hS1:w1.cell? ⟨w.heap.size,1,none⟩=some (.string S):=(dt.zaf (hk1.block w.heap.size hXs (by omega)) _).trans hS0
 refine⟨_,rfl,hS1,?_⟩
 clear hS0;have hS0:=hS1;simp only[zA,zB,zC,Act.put,zD,zE,zF];refine rgn.one (i:=7) _ rfl (by kernel_rfl) (by rfl) ?_
 simp only[zA,zB,zC,Act.put,zD,zE,zF];refine rgn.zat _ _ _ _ rfl func38 (by kernel_rfl) (by kernel_rfl) #[.pointer (some ⟨D,0,none⟩),.string S] (by first | kernel_rfl | (simp only[List.map_toArray,List.map_cons,List.map_nil];rfl)) ?_
 refine ((uh c2) _ hR1).mono ?_
 rintro e w2 ⟨rfl,hc2,hk2⟩;have hS2:w2.cell? ⟨w.heap.size,1,none⟩=some (.string S):=(dt.zaf (hk2.block w.heap.size (Nat.lt_of_lt_of_le hXs hs1) (by omega)) _).trans hS0
 refine⟨_,rfl,hS2,?_⟩
 clear hS0;have hS0:=hS2;simp only[zA,zB,zC,Act.put,zD,zE,zF];refine rgn.u 8 (v:=?v8) ?h8 hS0 ?_
 case h8=>(intro w' hw';go_simp;try with_reducible rfl)
 simp only[zA,zB,zC,Act.put,zD,zE,zF];refine rgn.u 9 (v:=?v9) ?h9 hS0 ?_
 case h9=>(intro w' hw';go_simp;try with_reducible rfl)
 simp only[zA,zB,zC,Act.put,zD,zE,zF];refine wpAnyH_done (by kernel_rfl) ?_ _;refine NoPanic.normal ?_
 go_wp2_with fail
 go_ret
 exact⟨by simp,⟨C,⟨hc1.kp hk2 (uh HH).ne.1 (uh HH).ne.2.1,hc2,(uh HH).ne⟩,(Kq.of bD).trans ((Kq.a hk1).trans (Kq.b hk2))⟩⟩
theorem zgU(B p D q:Nat)(c:Cu)(S:ByteArray)(aW:Option Addr)(nW cW:Nat)(bb:Bool)(w:World)(h:Pr w B p D q c)  : Calls prog 15 #[ptr B,ptr D,.agg #[.int .i64 7,.string S,.slice aW nW cW,.bool bb]] w fun e w'=>e = .returned (.bool true)∧PrK B p D q w w':=by
 have bA:=qA w;have hlB:=h.a.lt;have hlD:=h.b.lt;have HH:=Hi h;have c1:=Hi (fun W (hc:CurAt W B p c)=>cu.zj7 B p c S W hc)
 have c2:=Hi (fun W (hc:RurAt W D q c)=>zjQ D q c S W hc)
 obtain⟨R,eR⟩:∃ R,R=c.isW [S]:=⟨_,rfl⟩;obtain⟨C,eC⟩:∃ C,C=c.word S:=⟨_,rfl⟩;rw[←eR,←eC] at c1 c2;clear h eR eC;unfold ptr at c1 c2 ⊢
 go_enter func15,ntmps15
 go_wp2_with fail
 obtain⟨X,hX⟩:∃ X,X=w.alloc (.cells #[.int .i64 7,.string S,.slice aW nW cW,.bool bb] 55):=⟨_,rfl⟩;have bX:Below w.heap.size w X:=by rw[hX];exact (uh bA) _
 have hO:X.heap[w.heap.size]? = some (.cells #[.int .i64 7,.string S,.slice aW nW cW,.bool bb] 55):=by rw[hX];exact heap_alloc_new w _
 have hXs:w.heap.size<X.heap.size:=by rw[hX];simp
 rw[←hX];clear hX;have bD:Below w.heap.size w { X with drawn:=X.drawn+1 }:=bX.drew
 have hOx:X.cell? ⟨w.heap.size,1,none⟩=some (.string S):=(zG hO 1).trans rfl;have hS0:({ X with drawn:=X.drawn+1 }:World).cell? ⟨w.heap.size,1,none⟩=some (.string S):=hOx
 refine wp_region_noPanic ?_
 refine wp_region_held (S:=fun w'=>w'.cell? ⟨w.heap.size,1,none⟩=some (.string S)) mixed ?_
 refine rgn.u 0 (v:=?v0) ?h0 hS0 ?_
 case h0=>(intro w' hw';go_simp;try with_reducible rfl)
 simp only[zA,zB,zC,Act.put,zD,zE,zF];refine rgn.u 1 (v:=?v1) ?h1 hS0 ?_
 case h1=>(intro w' hw';go_simp;try with_reducible rfl)
 simp only[zA,zB,zC,Act.put,zD,zE,zF];refine rgn.u 2 (v:=?v2) ?h2 hS0 ?_
 case h2=>(intro w' hw';have q0:=hw';go_simp;try with_reducible rfl)
 simp only[zA,zB,zC,Act.put,zD,zE,zF];refine rgn.u 4 (v:=?v4) ?h4 hS0 ?_
 case h4=>(intro w' hw';go_simp;try with_reducible rfl)
 simp only[zA,zB,zC,Act.put,zD,zE,zF];refine rgn.u 5 (v:=?v5) ?h5 hS0 ?_
 case h5=>(intro w' hw';go_simp;try with_reducible rfl)
 simp only[zA,zB,zC,Act.put,zD,zE,zF];refine rgn.u 6 (v:=?v6) ?h6 hS0 ?_
 case h6=>(intro w' hw';have q0:=hw';go_simp;try with_reducible rfl)
 simp only[zA,zB,zC,Act.put,zD,zE,zF];refine rgn.one (i:=3) _ rfl (by kernel_rfl) (by rfl) ?_
 simp only[zA,zB,zC,Act.put,zD,zE,zF];refine rgn.zat _ _ _ _ rfl func39 (by kernel_rfl) (by kernel_rfl) #[.pointer (some ⟨B,0,none⟩),.string S] (by first | kernel_rfl | (simp only[List.map_toArray,List.map_cons,List.map_nil];rfl)) ?_
 refine ((uh c1) _ ((uh HH).a.below bD)).mono ?_
 rintro e w1 ⟨rfl,hc1,hk1⟩;have hR1:RurAt w1 D q c:=((uh HH).b.below bD).kp hk1 (fun e=>(uh HH).ne.1 e.symm) (uh HH).ne.2.2
 have hs1:=hk1.size;have hS1:w1.cell? ⟨w.heap.size,1,none⟩=some (.string S):=(dt.zaf (hk1.block w.heap.size hXs (by omega)) _).trans hS0
 refine⟨_,rfl,hS1,?_⟩
 clear hS0;have hS0:=hS1;simp only[zA,zB,zC,Act.put,zD,zE,zF];refine rgn.one (i:=7) _ rfl (by kernel_rfl) (by rfl) ?_
 simp only[zA,zB,zC,Act.put,zD,zE,zF];refine rgn.zat _ _ _ _ rfl func40 (by kernel_rfl) (by kernel_rfl) #[.pointer (some ⟨D,0,none⟩),.string S] (by first | kernel_rfl | (simp only[List.map_toArray,List.map_cons,List.map_nil];rfl)) ?_
 refine ((uh c2) _ hR1).mono ?_
 rintro e w2 ⟨rfl,hc2,hk2⟩;have hS2:w2.cell? ⟨w.heap.size,1,none⟩=some (.string S):=(dt.zaf (hk2.block w.heap.size (Nat.lt_of_lt_of_le hXs hs1) (by omega)) _).trans hS0
 refine⟨_,rfl,hS2,?_⟩
 clear hS0;have hS0:=hS2;simp only[zA,zB,zC,Act.put,zD,zE,zF];refine rgn.u 8 (v:=?v8) ?h8 hS0 ?_
 case h8=>(intro w' hw';go_simp;try with_reducible rfl)
 simp only[zA,zB,zC,Act.put,zD,zE,zF];refine rgn.u 9 (v:=?v9) ?h9 hS0 ?_
 case h9=>(intro w' hw';go_simp;try with_reducible rfl)
 simp only[zA,zB,zC,Act.put,zD,zE,zF];refine wpAnyH_done (by kernel_rfl) ?_ _;refine NoPanic.normal ?_
 go_wp2_with fail
 go_ret
 exact⟨by simp,⟨C,⟨hc1.kp hk2 (uh HH).ne.1 (uh HH).ne.2.1,hc2,(uh HH).ne⟩,(Kq.of bD).trans ((Kq.a hk1).trans (Kq.b hk2))⟩⟩
theorem zgT(B p D q:Nat)(c:Cu)(S:ByteArray)(aW:Option Addr)(nW cW:Nat)(bb:Bool)(w:World)(h:Pr w B p D q c)  : Calls prog 15 #[ptr B,ptr D,.agg #[.int .i64 8,.string S,.slice aW nW cW,.bool bb]] w fun e w'=>e = .returned (.bool true)∧PrK B p D q w w':=by
 have bA:=qA w;have hlB:=h.a.lt;have hlD:=h.b.lt;have HH:=Hi h;have c1:=Hi (fun W (hc:CurAt W B p c)=>cu.zbB B p c S W hc)
 have c2:=Hi (fun W (hc:RurAt W D q c)=>zbB D q c S W hc)
 obtain⟨R,eR⟩:∃ R,R=c.isP S:=⟨_,rfl⟩;obtain⟨C,eC⟩:∃ C,C=c.want S:=⟨_,rfl⟩;rw[←eR,←eC] at c1 c2;clear h eR eC;unfold ptr at c1 c2 ⊢
 go_enter func15,ntmps15
 go_wp2_with fail
 obtain⟨X,hX⟩:∃ X,X=w.alloc (.cells #[.int .i64 8,.string S,.slice aW nW cW,.bool bb] 55):=⟨_,rfl⟩;have bX:Below w.heap.size w X:=by rw[hX];exact (uh bA) _
 have hO:X.heap[w.heap.size]? = some (.cells #[.int .i64 8,.string S,.slice aW nW cW,.bool bb] 55):=by rw[hX];exact heap_alloc_new w _
 have hXs:w.heap.size<X.heap.size:=by rw[hX];simp
 rw[←hX];clear hX;have bD:Below w.heap.size w { X with drawn:=X.drawn+1 }:=bX.drew
 have hOx:X.cell? ⟨w.heap.size,1,none⟩=some (.string S):=(zG hO 1).trans rfl;have hS0:({ X with drawn:=X.drawn+1 }:World).cell? ⟨w.heap.size,1,none⟩=some (.string S):=hOx
 refine wp_region_noPanic ?_
 refine wp_region_held (S:=fun w'=>w'.cell? ⟨w.heap.size,1,none⟩=some (.string S)) mixed ?_
 refine rgn.u 0 (v:=?v0) ?h0 hS0 ?_
 case h0=>(intro w' hw';go_simp;try with_reducible rfl)
 simp only[zA,zB,zC,Act.put,zD,zE,zF];refine rgn.u 1 (v:=?v1) ?h1 hS0 ?_
 case h1=>(intro w' hw';go_simp;try with_reducible rfl)
 simp only[zA,zB,zC,Act.put,zD,zE,zF];refine rgn.u 2 (v:=?v2) ?h2 hS0 ?_
 case h2=>(intro w' hw';have q0:=hw';go_simp;try with_reducible rfl)
 simp only[zA,zB,zC,Act.put,zD,zE,zF];refine rgn.u 4 (v:=?v4) ?h4 hS0 ?_
 case h4=>(intro w' hw';go_simp;try with_reducible rfl)
 simp only[zA,zB,zC,Act.put,zD,zE,zF];refine rgn.u 5 (v:=?v5) ?h5 hS0 ?_
 case h5=>(intro w' hw';go_simp;try with_reducible rfl)
 simp only[zA,zB,zC,Act.put,zD,zE,zF];refine rgn.u 6 (v:=?v6) ?h6 hS0 ?_
 case h6=>(intro w' hw';have q0:=hw';go_simp;try with_reducible rfl)
 simp only[zA,zB,zC,Act.put,zD,zE,zF];refine rgn.one (i:=3) _ rfl (by kernel_rfl) (by rfl) ?_
 simp only[zA,zB,zC,Act.put,zD,zE,zF];refine rgn.zat _ _ _ _ rfl func41 (by kernel_rfl) (by kernel_rfl) #[.pointer (some ⟨B,0,none⟩),.string S] (by first | kernel_rfl | (simp only[List.map_toArray,List.map_cons,List.map_nil];rfl)) ?_
 refine ((uh c1) _ ((uh HH).a.below bD)).mono ?_
 rintro e w1 ⟨rfl,hc1,hk1⟩;have hR1:RurAt w1 D q c:=((uh HH).b.below bD).kp hk1 (fun e=>(uh HH).ne.1 e.symm) (uh HH).ne.2.2
 have hs1:=hk1.size;have hS1:w1.cell? ⟨w.heap.size,1,none⟩=some (.string S):=(dt.zaf (hk1.block w.heap.size hXs (by omega)) _).trans hS0
 refine⟨_,rfl,hS1,?_⟩
 clear hS0;have hS0:=hS1;simp only[zA,zB,zC,Act.put,zD,zE,zF];refine rgn.one (i:=7) _ rfl (by kernel_rfl) (by rfl) ?_
 simp only[zA,zB,zC,Act.put,zD,zE,zF];refine rgn.zat _ _ _ _ rfl func42 (by kernel_rfl) (by kernel_rfl) #[.pointer (some ⟨D,0,none⟩),.string S] (by first | kernel_rfl | (simp only[List.map_toArray,List.map_cons,List.map_nil];rfl)) ?_
 refine ((uh c2) _ hR1).mono ?_
 rintro e w2 ⟨rfl,hc2,hk2⟩;have hS2:w2.cell? ⟨w.heap.size,1,none⟩=some (.string S):=(dt.zaf (hk2.block w.heap.size (Nat.lt_of_lt_of_le hXs hs1) (by omega)) _).trans hS0
 refine⟨_,rfl,hS2,?_⟩
 clear hS0;have hS0:=hS2;simp only[zA,zB,zC,Act.put,zD,zE,zF];refine rgn.u 8 (v:=?v8) ?h8 hS0 ?_
 case h8=>(intro w' hw';go_simp;try with_reducible rfl)
 simp only[zA,zB,zC,Act.put,zD,zE,zF];refine rgn.u 9 (v:=?v9) ?h9 hS0 ?_
 case h9=>(intro w' hw';go_simp;try with_reducible rfl)
 simp only[zA,zB,zC,Act.put,zD,zE,zF];refine wpAnyH_done (by kernel_rfl) ?_ _;refine NoPanic.normal ?_
 go_wp2_with fail
 go_ret
 exact⟨by simp,⟨C,⟨hc1.kp hk2 (uh HH).ne.1 (uh HH).ne.2.1,hc2,(uh HH).ne⟩,(Kq.of bD).trans ((Kq.a hk1).trans (Kq.b hk2))⟩⟩
theorem zgS(B p D q:Nat)(c:Cu)(S:ByteArray)(aW:Option Addr)(nW cW:Nat)(bb:Bool)(w:World)(h:Pr w B p D q c)  : Calls prog 15 #[ptr B,ptr D,.agg #[.int .i64 11,.string S,.slice aW nW cW,.bool bb]] w fun e w'=>e = .returned (.bool true)∧PrK B p D q w w':=by
 have bA:=qA w;have hlB:=h.a.lt;have hlD:=h.b.lt;have HH:=Hi h;have c1:=Hi (fun W (hc:CurAt W B p c)=>cu.zbb B p c S W hc)
 have c2:=Hi (fun W (hc:RurAt W D q c)=>zbb D q c S W hc)
 obtain⟨R,eR⟩:∃ R,R=c.opB S:=⟨_,rfl⟩;obtain⟨C,eC⟩:∃ C,C=c.opn S:=⟨_,rfl⟩;rw[←eR,←eC] at c1 c2;clear h eR eC;unfold ptr at c1 c2 ⊢
 go_enter func15,ntmps15
 go_wp2_with fail
 obtain⟨X,hX⟩:∃ X,X=w.alloc (.cells #[.int .i64 11,.string S,.slice aW nW cW,.bool bb] 55):=⟨_,rfl⟩;have bX:Below w.heap.size w X:=by rw[hX];exact (uh bA) _
 have hO:X.heap[w.heap.size]? = some (.cells #[.int .i64 11,.string S,.slice aW nW cW,.bool bb] 55):=by rw[hX];exact heap_alloc_new w _
 have hXs:w.heap.size<X.heap.size:=by rw[hX];simp
 rw[←hX];clear hX;have bD:Below w.heap.size w { X with drawn:=X.drawn+1 }:=bX.drew
 have hOx:X.cell? ⟨w.heap.size,1,none⟩=some (.string S):=(zG hO 1).trans rfl;have hS0:({ X with drawn:=X.drawn+1 }:World).cell? ⟨w.heap.size,1,none⟩=some (.string S):=hOx
 refine wp_region_noPanic ?_
 refine wp_region_held (S:=fun w'=>w'.cell? ⟨w.heap.size,1,none⟩=some (.string S)) mixed ?_
 refine rgn.u 0 (v:=?v0) ?h0 hS0 ?_
 case h0=>(intro w' hw';go_simp;try with_reducible rfl)
 simp only[zA,zB,zC,Act.put,zD,zE,zF];refine rgn.u 1 (v:=?v1) ?h1 hS0 ?_
 case h1=>(intro w' hw';go_simp;try with_reducible rfl)
 simp only[zA,zB,zC,Act.put,zD,zE,zF];refine rgn.u 2 (v:=?v2) ?h2 hS0 ?_
 case h2=>(intro w' hw';have q0:=hw';go_simp;try with_reducible rfl)
 simp only[zA,zB,zC,Act.put,zD,zE,zF];refine rgn.u 4 (v:=?v4) ?h4 hS0 ?_
 case h4=>(intro w' hw';go_simp;try with_reducible rfl)
 simp only[zA,zB,zC,Act.put,zD,zE,zF];refine rgn.u 5 (v:=?v5) ?h5 hS0 ?_
 case h5=>(intro w' hw';go_simp;try with_reducible rfl)
 simp only[zA,zB,zC,Act.put,zD,zE,zF];refine rgn.u 6 (v:=?v6) ?h6 hS0 ?_
 case h6=>(intro w' hw';have q0:=hw';go_simp;try with_reducible rfl)
 simp only[zA,zB,zC,Act.put,zD,zE,zF];refine rgn.one (i:=3) _ rfl (by kernel_rfl) (by rfl) ?_
 simp only[zA,zB,zC,Act.put,zD,zE,zF];refine rgn.zat _ _ _ _ rfl func47 (by kernel_rfl) (by kernel_rfl) #[.pointer (some ⟨B,0,none⟩),.string S] (by first | kernel_rfl | (simp only[List.map_toArray,List.map_cons,List.map_nil];rfl)) ?_
 refine ((uh c1) _ ((uh HH).a.below bD)).mono ?_
 rintro e w1 ⟨rfl,hc1,hk1⟩;have hR1:RurAt w1 D q c:=((uh HH).b.below bD).kp hk1 (fun e=>(uh HH).ne.1 e.symm) (uh HH).ne.2.2
 have hs1:=hk1.size;have hS1:w1.cell? ⟨w.heap.size,1,none⟩=some (.string S):=(dt.zaf (hk1.block w.heap.size hXs (by omega)) _).trans hS0
 refine⟨_,rfl,hS1,?_⟩
 clear hS0;have hS0:=hS1;simp only[zA,zB,zC,Act.put,zD,zE,zF];refine rgn.one (i:=7) _ rfl (by kernel_rfl) (by rfl) ?_
 simp only[zA,zB,zC,Act.put,zD,zE,zF];refine rgn.zat _ _ _ _ rfl func48 (by kernel_rfl) (by kernel_rfl) #[.pointer (some ⟨D,0,none⟩),.string S] (by first | kernel_rfl | (simp only[List.map_toArray,List.map_cons,List.map_nil];rfl)) ?_
 refine ((uh c2) _ hR1).mono ?_
 rintro e w2 ⟨rfl,hc2,hk2⟩;have hS2:w2.cell? ⟨w.heap.size,1,none⟩=some (.string S):=(dt.zaf (hk2.block w.heap.size (Nat.lt_of_lt_of_le hXs hs1) (by omega)) _).trans hS0
 refine⟨_,rfl,hS2,?_⟩
 clear hS0;have hS0:=hS2;simp only[zA,zB,zC,Act.put,zD,zE,zF];refine rgn.u 8 (v:=?v8) ?h8 hS0 ?_
 case h8=>(intro w' hw';go_simp;try with_reducible rfl)
 simp only[zA,zB,zC,Act.put,zD,zE,zF];refine rgn.u 9 (v:=?v9) ?h9 hS0 ?_
 case h9=>(intro w' hw';go_simp;try with_reducible rfl)
 simp only[zA,zB,zC,Act.put,zD,zE,zF];refine wpAnyH_done (by kernel_rfl) ?_ _;refine NoPanic.normal ?_
 go_wp2_with fail
 go_ret
 exact⟨by simp,⟨C,⟨hc1.kp hk2 (uh HH).ne.1 (uh HH).ne.2.1,hc2,(uh HH).ne⟩,(Kq.of bD).trans ((Kq.a hk1).trans (Kq.b hk2))⟩⟩
theorem zfp(B p D q:Nat)(c:Cu)(S:ByteArray)(aW:Option Addr)(nW cW:Nat)(bb:Bool)(w:World)(h:Pr w B p D q c)  : Calls prog 15 #[ptr B,ptr D,.agg #[.int .i64 12,.string S,.slice aW nW cW,.bool bb]] w fun e w'=>e = .returned (.bool true)∧PrK B p D q w w':=by
 have bA:=qA w;have hlB:=h.a.lt;have hlD:=h.b.lt;have HH:=Hi h;have c1:=Hi (fun W (hc:CurAt W B p c)=>cu.zaL B p c S W hc)
 have c2:=Hi (fun W (hc:RurAt W D q c)=>zaL D q c S W hc)
 obtain⟨R,eR⟩:∃ R,R=c.isP S:=⟨_,rfl⟩;obtain⟨C,eC⟩:∃ C,C=c.cls S:=⟨_,rfl⟩;rw[←eR,←eC] at c1 c2;clear h eR eC;unfold ptr at c1 c2 ⊢
 go_enter func15,ntmps15
 go_wp2_with fail
 obtain⟨X,hX⟩:∃ X,X=w.alloc (.cells #[.int .i64 12,.string S,.slice aW nW cW,.bool bb] 55):=⟨_,rfl⟩;have bX:Below w.heap.size w X:=by rw[hX];exact (uh bA) _
 have hO:X.heap[w.heap.size]? = some (.cells #[.int .i64 12,.string S,.slice aW nW cW,.bool bb] 55):=by rw[hX];exact heap_alloc_new w _
 have hXs:w.heap.size<X.heap.size:=by rw[hX];simp
 rw[←hX];clear hX;have bD:Below w.heap.size w { X with drawn:=X.drawn+1 }:=bX.drew
 have hOx:X.cell? ⟨w.heap.size,1,none⟩=some (.string S):=(zG hO 1).trans rfl;have hS0:({ X with drawn:=X.drawn+1 }:World).cell? ⟨w.heap.size,1,none⟩=some (.string S):=hOx
 refine wp_region_noPanic ?_
 refine wp_region_held (S:=fun w'=>w'.cell? ⟨w.heap.size,1,none⟩=some (.string S)) mixed ?_
 refine rgn.u 0 (v:=?v0) ?h0 hS0 ?_
 case h0=>(intro w' hw';go_simp;try with_reducible rfl)
 simp only[zA,zB,zC,Act.put,zD,zE,zF];refine rgn.u 1 (v:=?v1) ?h1 hS0 ?_
 case h1=>(intro w' hw';go_simp;try with_reducible rfl)
 simp only[zA,zB,zC,Act.put,zD,zE,zF];refine rgn.u 2 (v:=?v2) ?h2 hS0 ?_
 case h2=>(intro w' hw';have q0:=hw';go_simp;try with_reducible rfl)
 simp only[zA,zB,zC,Act.put,zD,zE,zF];refine rgn.u 4 (v:=?v4) ?h4 hS0 ?_
 case h4=>(intro w' hw';go_simp;try with_reducible rfl)
 simp only[zA,zB,zC,Act.put,zD,zE,zF];refine rgn.u 5 (v:=?v5) ?h5 hS0 ?_
 case h5=>(intro w' hw';go_simp;try with_reducible rfl)
 simp only[zA,zB,zC,Act.put,zD,zE,zF];refine rgn.u 6 (v:=?v6) ?h6 hS0 ?_
 case h6=>(intro w' hw';have q0:=hw';go_simp;try with_reducible rfl)
 simp only[zA,zB,zC,Act.put,zD,zE,zF];refine rgn.one (i:=3) _ rfl (by kernel_rfl) (by rfl) ?_
 simp only[zA,zB,zC,Act.put,zD,zE,zF];refine rgn.zat _ _ _ _ rfl func49 (by kernel_rfl) (by kernel_rfl) #[.pointer (some ⟨B,0,none⟩),.string S] (by first | kernel_rfl | (simp only[List.map_toArray,List.map_cons,List.map_nil];rfl)) ?_
 refine ((uh c1) _ ((uh HH).a.below bD)).mono ?_
 rintro e w1 ⟨rfl,hc1,hk1⟩;have hR1:RurAt w1 D q c:=((uh HH).b.below bD).kp hk1 (fun e=>(uh HH).ne.1 e.symm) (uh HH).ne.2.2
 have hs1:=hk1.size;have hS1:w1.cell? ⟨w.heap.size,1,none⟩=some (.string S):=(dt.zaf (hk1.block w.heap.size hXs (by omega)) _).trans hS0
 refine⟨_,rfl,hS1,?_⟩
 clear hS0;have hS0:=hS1;simp only[zA,zB,zC,Act.put,zD,zE,zF];refine rgn.one (i:=7) _ rfl (by kernel_rfl) (by rfl) ?_
 simp only[zA,zB,zC,Act.put,zD,zE,zF];refine rgn.zat _ _ _ _ rfl func50 (by kernel_rfl) (by kernel_rfl) #[.pointer (some ⟨D,0,none⟩),.string S] (by first | kernel_rfl | (simp only[List.map_toArray,List.map_cons,List.map_nil];rfl)) ?_
 refine ((uh c2) _ hR1).mono ?_
 rintro e w2 ⟨rfl,hc2,hk2⟩;have hS2:w2.cell? ⟨w.heap.size,1,none⟩=some (.string S):=(dt.zaf (hk2.block w.heap.size (Nat.lt_of_lt_of_le hXs hs1) (by omega)) _).trans hS0
 refine⟨_,rfl,hS2,?_⟩
 clear hS0;have hS0:=hS2;simp only[zA,zB,zC,Act.put,zD,zE,zF];refine rgn.u 8 (v:=?v8) ?h8 hS0 ?_
 case h8=>(intro w' hw';go_simp;try with_reducible rfl)
 simp only[zA,zB,zC,Act.put,zD,zE,zF];refine rgn.u 9 (v:=?v9) ?h9 hS0 ?_
 case h9=>(intro w' hw';go_simp;try with_reducible rfl)
 simp only[zA,zB,zC,Act.put,zD,zE,zF];refine wpAnyH_done (by kernel_rfl) ?_ _;refine NoPanic.normal ?_
 go_wp2_with fail
 go_ret
 exact⟨by simp,⟨C,⟨hc1.kp hk2 (uh HH).ne.1 (uh HH).ne.2.1,hc2,(uh HH).ne⟩,(Kq.of bD).trans ((Kq.a hk1).trans (Kq.b hk2))⟩⟩
theorem zdt(B p D q:Nat)(c:Cu)(S:ByteArray)(bW nW cW:Nat)(ws:List ByteArray)(bb:Bool)(w:World)(h:Pr w B p D q c)(hw:Wds w bW nW cW ws)(hn:nW≤1048576)(hbw:bW≠B∧bW≠D):Calls prog 15 #[ptr B,ptr D,.agg #[.int .i64 9,.string S,.slice (some ⟨bW,0,none⟩) nW cW,.bool bb]] w fun e w'=>e = .returned (.bool true)∧PrK B p D q w w':=by
 have bA:=qA w;have hlB:=h.a.lt;have hlD:=h.b.lt;have HH:=Hi h;have c1:=Hi (fun W (hc:CurAt W B p c) (hd:Wds W bW nW cW ws)=>cu.zfu B p c bW nW cW ws W hc hd hn)
 have c2:=Hi (fun W (hc:RurAt W D q c) (hd:Wds W bW nW cW ws)=>zeS D q c bW nW cW ws W hc hd hn)
 obtain⟨R,eR⟩:∃ R,R=(c.isW ws):=⟨_,rfl⟩;rw[←eR] at c1 c2;obtain⟨V,hV⟩:∃ V,V=nmV c.tok R:=⟨_,rfl⟩;obtain⟨C,eC⟩:∃ C,C=c.nmC R:=⟨_,rfl⟩;rw[←hV,←eC] at c1 c2;obtain⟨x,y,z,hxyz⟩:∃ x y z,V=[.string x,.int .i64 y,.int .i64 z]:=by rw[hV];unfold nmV;cases R <;> exact⟨_,_,_,rfl⟩
 subst hxyz;have HW:=Hi hw;clear h eR eC hV hw;unfold ptr at c1 c2 ⊢
 go_enter func15,ntmps15
 go_wp2_with fail
 obtain⟨X,hX⟩:∃ X,X=w.alloc (.cells #[.int .i64 9,.string S,.slice (some ⟨bW,0,none⟩) nW cW,.bool bb] 55):=⟨_,rfl⟩;have bX:Below w.heap.size w X:=by rw[hX];exact (uh bA) _
 have hO:X.heap[w.heap.size]? = some (.cells #[.int .i64 9,.string S,.slice (some ⟨bW,0,none⟩) nW cW,.bool bb] 55):=by rw[hX];exact heap_alloc_new w _
 have hXs:w.heap.size<X.heap.size:=by rw[hX];simp
 rw[←hX];clear hX;refine ((uh c1) X ((uh HH).a.below bX) ((uh HW).below bX)).mono ?_
 rintro e w1 ⟨rfl,hc1,hk1⟩;have hs1:=hk1.size;have hO1:=(hk1.block w.heap.size hXs (by omega)).trans hO
 have hR1:RurAt w1 D q c:=((uh HH).b.below bX).kp hk1 (fun e=>(uh HH).ne.1 e.symm) (uh HH).ne.2.2
 have hW1:=((uh HW).below bX).kp hk1 hbw.1;have bA1:=Hi (fun o=>show Below w1.heap.size w1 (w1.alloc o) from ba)
 have q2:∀ o,(w1.alloc o).cell? ⟨w.heap.size,2,none⟩=some (.slice (some ⟨bW,0,none⟩) nW cW):=fun o=>(zG (((uh bA1) o).block _ (by omega) |>.trans hO1) 2).trans rfl
 have H1:=Hi (an hc1 (an hk1 (an hR1 hW1)));clear c1 hc1 hk1 hR1 hW1
 go_wp2_with fail
 refine ((uh c2) _ ((uh H1).2.2.1.below ((uh bA1) _)) ((uh H1).2.2.2.below ((uh bA1) _))).mono ?_
 rintro e w2 ⟨rfl,hc2,hk2⟩;have hs2:w1.heap.size+1≤w2.heap.size:=by have:=hk2.size;simpa using this
 have hD1:=(uh H1).2.2.1.lt;have hn2:w2.heap[w1.heap.size]? = some (.cells #[.string x,.int .i64 y,.int .i64 z] 84):=(hk2.block _ (by simp) (by omega)).trans (heap_alloc_new w1 _)
 have bA2:=Hi (fun o=>show Below w2.heap.size w2 (w2.alloc o) from ba)
 have y0:∀ o,(w2.alloc o).cell? ⟨w1.heap.size,0,none⟩=some (.string x):=fun o=>(zG (((uh bA2) o).block _ (by omega) |>.trans hn2) 0).trans rfl
 have y1:∀ o,(w2.alloc o).cell? ⟨w1.heap.size,1,none⟩=some (.int .i64 y):=fun o=>(zG (((uh bA2) o).block _ (by omega) |>.trans hn2) 1).trans rfl
 have y2:∀ o,(w2.alloc o).cell? ⟨w1.heap.size,2,none⟩=some (.int .i64 z):=fun o=>(zG (((uh bA2) o).block _ (by omega) |>.trans hn2) 2).trans rfl
 have H2:=Hi (fun o=>show Pr (w2.alloc o) B p D q C∧Kq B D w (w2.alloc o) from ⟨⟨(((uh H1).1.below ((uh bA1) _)).kp hk2 (uh HH).ne.1 (uh HH).ne.2.1).below ((uh bA2) o),hc2.below ((uh bA2) o),(uh HH).ne⟩,(Kq.of bX).trans ((Kq.a (uh H1).2.1).trans ((Kq.of ((uh bA1) _)).trans ((Kq.b hk2).trans (Kq.of ((uh bA2) o)))))⟩)
 clear c2 hc2 hk2 hn2 q2 hO1
 go_wp2_with fail
 go_ret
 exact⟨by simp,⟨C,((uh H2) _).1,((uh H2) _).2⟩⟩
theorem zgR(B p D q:Nat)(c:Cu)(S:ByteArray)(bW nW cW:Nat)(ws:List ByteArray)(bb:Bool)(w:World)(h:Pr w B p D q c)(hw:Wds w bW nW cW ws)(hn:nW≤1048576)(hbw:bW≠B∧bW≠D):Calls prog 15 #[ptr B,ptr D,.agg #[.int .i64 10,.string S,.slice (some ⟨bW,0,none⟩) nW cW,.bool bb]] w fun e w'=>e = .returned (.bool true)∧PrK B p D q w w':=by
 have bA:=qA w;have hlB:=h.a.lt;have hlD:=h.b.lt;have HH:=Hi h;have c1:=Hi (fun W (hc:CurAt W B p c) (hd:Wds W bW nW cW ws)=>cu.zgw B p c bW nW cW ws W hc hd hn)
 have c2:=Hi (fun W (hc:RurAt W D q c) (hd:Wds W bW nW cW ws)=>zjo D q c bW nW cW ws W hc hd hn)
 obtain⟨R,eR⟩:∃ R,R=(c.isN && !inW ws c.tok.tx):=⟨_,rfl⟩;rw[←eR] at c1 c2;obtain⟨V,hV⟩:∃ V,V=nmV c.tok R:=⟨_,rfl⟩;obtain⟨C,eC⟩:∃ C,C=c.nmC R:=⟨_,rfl⟩;rw[←hV,←eC] at c1 c2;obtain⟨x,y,z,hxyz⟩:∃ x y z,V=[.string x,.int .i64 y,.int .i64 z]:=by rw[hV];unfold nmV;cases R <;> exact⟨_,_,_,rfl⟩
 subst hxyz;have HW:=Hi hw;clear h eR eC hV hw;unfold ptr at c1 c2 ⊢
 go_enter func15,ntmps15
 go_wp2_with fail
 obtain⟨X,hX⟩:∃ X,X=w.alloc (.cells #[.int .i64 10,.string S,.slice (some ⟨bW,0,none⟩) nW cW,.bool bb] 55):=⟨_,rfl⟩;have bX:Below w.heap.size w X:=by rw[hX];exact (uh bA) _
 have hO:X.heap[w.heap.size]? = some (.cells #[.int .i64 10,.string S,.slice (some ⟨bW,0,none⟩) nW cW,.bool bb] 55):=by rw[hX];exact heap_alloc_new w _
 have hXs:w.heap.size<X.heap.size:=by rw[hX];simp
 rw[←hX];clear hX;refine ((uh c1) X ((uh HH).a.below bX) ((uh HW).below bX)).mono ?_
 rintro e w1 ⟨rfl,hc1,hk1⟩;have hs1:=hk1.size;have hO1:=(hk1.block w.heap.size hXs (by omega)).trans hO
 have hR1:RurAt w1 D q c:=((uh HH).b.below bX).kp hk1 (fun e=>(uh HH).ne.1 e.symm) (uh HH).ne.2.2
 have hW1:=((uh HW).below bX).kp hk1 hbw.1;have bA1:=Hi (fun o=>show Below w1.heap.size w1 (w1.alloc o) from ba)
 have q2:∀ o,(w1.alloc o).cell? ⟨w.heap.size,2,none⟩=some (.slice (some ⟨bW,0,none⟩) nW cW):=fun o=>(zG (((uh bA1) o).block _ (by omega) |>.trans hO1) 2).trans rfl
 have H1:=Hi (an hc1 (an hk1 (an hR1 hW1)));clear c1 hc1 hk1 hR1 hW1
 go_wp2_with fail
 refine ((uh c2) _ ((uh H1).2.2.1.below ((uh bA1) _)) ((uh H1).2.2.2.below ((uh bA1) _))).mono ?_
 rintro e w2 ⟨rfl,hc2,hk2⟩;have hs2:w1.heap.size+1≤w2.heap.size:=by have:=hk2.size;simpa using this
 have hD1:=(uh H1).2.2.1.lt;have hn2:w2.heap[w1.heap.size]? = some (.cells #[.string x,.int .i64 y,.int .i64 z] 84):=(hk2.block _ (by simp) (by omega)).trans (heap_alloc_new w1 _)
 have bA2:=Hi (fun o=>show Below w2.heap.size w2 (w2.alloc o) from ba)
 have y0:∀ o,(w2.alloc o).cell? ⟨w1.heap.size,0,none⟩=some (.string x):=fun o=>(zG (((uh bA2) o).block _ (by omega) |>.trans hn2) 0).trans rfl
 have y1:∀ o,(w2.alloc o).cell? ⟨w1.heap.size,1,none⟩=some (.int .i64 y):=fun o=>(zG (((uh bA2) o).block _ (by omega) |>.trans hn2) 1).trans rfl
 have y2:∀ o,(w2.alloc o).cell? ⟨w1.heap.size,2,none⟩=some (.int .i64 z):=fun o=>(zG (((uh bA2) o).block _ (by omega) |>.trans hn2) 2).trans rfl
 have H2:=Hi (fun o=>show Pr (w2.alloc o) B p D q C∧Kq B D w (w2.alloc o) from ⟨⟨(((uh H1).1.below ((uh bA1) _)).kp hk2 (uh HH).ne.1 (uh HH).ne.2.1).below ((uh bA2) o),hc2.below ((uh bA2) o),(uh HH).ne⟩,(Kq.of bX).trans ((Kq.a (uh H1).2.1).trans ((Kq.of ((uh bA1) _)).trans ((Kq.b hk2).trans (Kq.of ((uh bA2) o)))))⟩)
 clear c2 hc2 hk2 hn2 q2 hO1
 go_wp2_with fail
 go_ret
 exact⟨by simp,⟨C,((uh H2) _).1,((uh H2) _).2⟩⟩
theorem zit(B p D q:Nat)(c:Cu)(S:ByteArray)(aW:Option Addr)(nW cW:Nat)(bb:Bool)(w:World)(h:Pr w B p D q c)  : Calls prog 15 #[ptr B,ptr D,.agg #[.int .i64 13,.string S,.slice aW nW cW,.bool bb]] w fun e w'=>e = .returned (.bool true)∧PrK B p D q w w':=by
 have bA:=qA w;have hlB:=h.a.lt;have hlD:=h.b.lt;have HH:=Hi h;have c1:=Hi (fun W (hc:CurAt W B p c)=>cu.zeu B p c W hc)
 have c2:=Hi (fun W (hc:RurAt W D q c)=>zeu D q c W hc)
 obtain⟨R,eR⟩:∃ R,R=c.finB:=⟨_,rfl⟩;obtain⟨C,eC⟩:∃ C,C=c.fin:=⟨_,rfl⟩;rw[←eR,←eC] at c1 c2;clear h eR eC;unfold ptr at c1 c2 ⊢
 go_enter func15,ntmps15
 go_wp2_with fail
 obtain⟨X,hX⟩:∃ X,X=w.alloc (.cells #[.int .i64 13,.string S,.slice aW nW cW,.bool bb] 55):=⟨_,rfl⟩;have bX:Below w.heap.size w X:=by rw[hX];exact (uh bA) _
 have hO:X.heap[w.heap.size]? = some (.cells #[.int .i64 13,.string S,.slice aW nW cW,.bool bb] 55):=by rw[hX];exact heap_alloc_new w _
 have hXs:w.heap.size<X.heap.size:=by rw[hX];simp
 rw[←hX];clear hX;refine ((uh c1) X ((uh HH).a.below bX)).mono ?_
 rintro e w1 ⟨rfl,hc1,hk1⟩;have hR1:RurAt w1 D q c:=((uh HH).b.below bX).kp hk1 (fun e=>(uh HH).ne.1 e.symm) (uh HH).ne.2.2
 have H1:=Hi (an hc1 (an hk1 hR1));clear c1 hc1 hk1 hR1
 go_wp2_with fail
 refine ((uh c2) _ (uh H1).2.2).mono ?_
 rintro e w2 ⟨rfl,hc2,hk2⟩;have H2:=Hi (show Pr w2 B p D q C∧Kq B D w w2 from ⟨⟨(uh H1).1.kp hk2 (uh HH).ne.1 (uh HH).ne.2.1,hc2,(uh HH).ne⟩,(Kq.of bX).trans ((Kq.a (uh H1).2.1).trans (Kq.b hk2))⟩)
 clear c2 hc2 hk2
 go_wp2_with fail
 go_ret
 exact⟨by simp,⟨C,(uh H2).1,(uh H2).2⟩⟩
theorem zeU(B p D q:Nat)(c:Cu)(S:ByteArray)(aW:Option Addr)(nW cW:Nat)(bb:Bool)(w:World)(h:Pr w B p D q c)  : Calls prog 15 #[ptr B,ptr D,.agg #[.int .i64 14,.string S,.slice aW nW cW,.bool bb]] w fun e w'=>e = .returned (.bool true)∧PrK B p D q w w':=by
 have bA:=qA w;have hlB:=h.a.lt;have hlD:=h.b.lt;have HH:=Hi h;have c1:=Hi (fun W (hc:CurAt W B p c)=>zcC B p c W hc)
 have c2:=Hi (fun W (hc:RurAt W D q c)=>zgN D q c W hc)
 obtain⟨C,eC⟩:∃ C,C=c.stop 70:=⟨_,rfl⟩;rw[←eC] at c1 c2;clear h eC;unfold ptr at c1 c2 ⊢
 go_enter func15,ntmps15
 go_wp2_with fail
 obtain⟨X,hX⟩:∃ X,X=w.alloc (.cells #[.int .i64 14,.string S,.slice aW nW cW,.bool bb] 55):=⟨_,rfl⟩;have bX:Below w.heap.size w X:=by rw[hX];exact (uh bA) _
 have hO:X.heap[w.heap.size]? = some (.cells #[.int .i64 14,.string S,.slice aW nW cW,.bool bb] 55):=by rw[hX];exact heap_alloc_new w _
 have hXs:w.heap.size<X.heap.size:=by rw[hX];simp
 rw[←hX];clear hX;refine ((uh c1) X ((uh HH).a.below bX)).mono ?_
 rintro e w1 ⟨rfl,hc1,hk1⟩;have hR1:RurAt w1 D q c:=((uh HH).b.below bX).kp hk1 (fun e=>(uh HH).ne.1 e.symm) (uh HH).ne.2.2
 have H1:=Hi (an hc1 (an hk1 hR1));clear c1 hc1 hk1 hR1
 go_wp2_with fail
 refine ((uh c2) _ (uh H1).2.2).mono ?_
 rintro e w2 ⟨rfl,hc2,hk2⟩;have H2:=Hi (show Pr w2 B p D q C∧Kq B D w w2 from ⟨⟨(uh H1).1.kp hk2 (uh HH).ne.1 (uh HH).ne.2.1,hc2,(uh HH).ne⟩,(Kq.of bX).trans ((Kq.a (uh H1).2.1).trans (Kq.b hk2))⟩)
 clear c2 hc2 hk2
 go_wp2_with fail
 go_ret
 exact⟨by simp,⟨C,(uh H2).1,(uh H2).2⟩⟩
theorem zgQ(B p D q:Nat)(c:Cu)(K:Int)(S:ByteArray)(aW:Option Addr)(nW cW:Nat)(bb:Bool)(w:World)(h:Pr w B p D q c)(h6:K≠6)(h7:K≠7)(h8:K≠8)(h9:K≠9)(h10:K≠10)(h11:K≠11)(h12:K≠12)(h13:K≠13)(h14:K≠14):Calls prog 15 #[ptr B,ptr D,.agg #[.int .i64 K,.string S,.slice aW nW cW,.bool bb]] w fun e w'=>e = .returned (.bool true)∧PrK B p D q w w':=by
 have bA:=qA w;have HH:=Hi h;have n6:(K==6)=false:=by simpa using h6
 have n7:(K==7)=false:=by simpa using h7
 have n8:(K==8)=false:=by simpa using h8
 have n9:(K==9)=false:=by simpa using h9
 have n10:(K==10)=false:=by simpa using h10
 have n11:(K==11)=false:=by simpa using h11
 have n12:(K==12)=false:=by simpa using h12
 have n13:(K==13)=false:=by simpa using h13
 have n14:(K==14)=false:=by simpa using h14
 clear h h6 h7 h8 h9 h10 h11 h12 h13 h14;unfold ptr
 go_enter func15,ntmps15
 go_wp2_with fail
 go_ret
 exact⟨rfl,⟨c,(uh HH).below ((uh bA) _),Kq.of ((uh bA) _)⟩⟩
theorem zjZ(B p D q:Nat)(c:Cu)(K:Int)(S:ByteArray)(bW nW cW:Nat)(ws:List ByteArray)(bb:Bool)(w:World)(h:Pr w B p D q c)(hw:Wds w bW nW cW ws)(hn:nW≤1048576)(hbw:bW≠B∧bW≠D):Calls prog 15 #[ptr B,ptr D,.agg #[.int .i64 K,.string S,.slice (some ⟨bW,0,none⟩) nW cW,.bool bb]] w fun e w'=>e = .returned (.bool true)∧PrK B p D q w w':=by
 by_cases h6:K=6
 ·subst h6;exact zfq B p D q c S _ _ _ bb w h
 by_cases h7:K=7
 ·subst h7;exact zgU B p D q c S _ _ _ bb w h
 by_cases h8:K=8
 ·subst h8;exact zgT B p D q c S _ _ _ bb w h
 by_cases h9:K=9
 ·subst h9;exact zdt B p D q c S bW nW cW ws bb w h hw hn hbw
 by_cases h10:K=10
 ·subst h10;exact zgR B p D q c S bW nW cW ws bb w h hw hn hbw
 by_cases h11:K=11
 ·subst h11;exact zgS B p D q c S _ _ _ bb w h
 by_cases h12:K=12
 ·subst h12;exact zfp B p D q c S _ _ _ bb w h
 by_cases h13:K=13
 ·subst h13;exact zit B p D q c S _ _ _ bb w h
 by_cases h14:K=14
 ·subst h14;exact zeU B p D q c S _ _ _ bb w h
 exact zgQ B p D q c K S _ _ _ bb w h h6 h7 h8 h9 h10 h11 h12 h13 h14
end cr
namespace cu
open dt (Dt Kp RowAt Ow Grow)
open dt (Dt)
structure Sim (m:Nat) (c c':Cu):Prop where
 ix:c'.ix=c.ix
 op:c'.op=c.op
 mo:c'.mo=c.mo
 kd:c'.kd=c.kd
 ts:∀ q,q≤m→c'.ts[q]? = c.ts[q]?
section
variable {m:Nat}
end
end cu
end Go.Proofs.YtepmbmbnlmbhhaaGreat
