import Derived.Test.YtepmbmbnlmbhhaaGreatLit18
import Derived.Lib.SlBytesConst
set_option linter.unusedVariables false
set_option linter.unusedSimpArgs false
namespace Go.Proofs.YtepmbmbnlmbhhaaGreat.cu
open Go.ChangeShapes Go.WideShapes Go.ChangeAt Go.RowKit
open ints (Hi uh)
open dt (Dt Kp RowAt Ow Grow)
theorem pos_one (w:World) (b b':Nat) (x y:Int) (h0:w.cell? ⟨b,0,none⟩ = some (.int .i64 x)) (h1:w.cell? ⟨b,1,none⟩ = some (.int .i64 y)) (g0:w.cell? ⟨b',0,none⟩ = some (.int .i64 x)) (g1:w.cell? ⟨b',1,none⟩ = some (.int .i64 y)) (hb:b < w.heap.size) (hb':b' < w.heap.size):Calls Tryz.prog 23 #[.slice (some ⟨b,0,none⟩) 1 1,.slice (some ⟨b',0,none⟩) 1 1] w fun e w' => e = .returned (.int .i64 0) ∧ Below w.heap.size w w':=by
 have hx:¬ x < x:=by omega
 have hy:¬ y < y:=by omega
 go_enter Tryz.func23,Tryz.ntmps23
 go_wp2_with fail
 refine wp_loop_rounds 2 ?_
 rw [rounds_succ]
 go_wp2_with fail
 go_quiet (fail)
 obtain ⟨V1,e1⟩:∃ V1,V1 = w.drewN nq:=⟨_,rfl⟩
 have c1:Below w.heap.size w V1:=by rw [e1];exact Go.below_drewN (Below.refl _ _) nq
 have B1:Below w.heap.size w V1:=c1
 rw [← e1]
 clear e1 nq
 have h0:=(c1.cell (p:=⟨b,0,none⟩) hb).trans h0;have h1:=(c1.cell (p:=⟨b,1,none⟩) hb).trans h1;have g0:=(c1.cell (p:=⟨b',0,none⟩) hb').trans g0;have g1:=(c1.cell (p:=⟨b',1,none⟩) hb').trans g1
 replace hb:=Nat.lt_of_lt_of_le hb c1.size;replace hb':=Nat.lt_of_lt_of_le hb' c1.size
 go_wp2_with fail
 go_quiet (fail)
 obtain ⟨V2,e2⟩:∃ V2,V2 = V1.drewN nq:=⟨_,rfl⟩
 have c2:Below V1.heap.size V1 V2:=by rw [e2];exact Go.below_drewN (Below.refl _ _) nq
 have B2:Below w.heap.size w V2:=B1.trans (c2.mono B1.size)
 rw [← e2]
 clear e2 nq
 have h0:=(c2.cell (p:=⟨b,0,none⟩) hb).trans h0;have h1:=(c2.cell (p:=⟨b,1,none⟩) hb).trans h1;have g0:=(c2.cell (p:=⟨b',0,none⟩) hb').trans g0;have g1:=(c2.cell (p:=⟨b',1,none⟩) hb').trans g1
 replace hb:=Nat.lt_of_lt_of_le hb c2.size;replace hb':=Nat.lt_of_lt_of_le hb' c2.size
 go_wp2_with fail
 go_quiet (fail)
 obtain ⟨V3,e3⟩:∃ V3,V3 = V2.drewN nq:=⟨_,rfl⟩
 have c3:Below V2.heap.size V2 V3:=by rw [e3];exact Go.below_drewN (Below.refl _ _) nq
 have B3:Below w.heap.size w V3:=B2.trans (c3.mono B2.size)
 rw [← e3]
 clear e3 nq
 have h0:=(c3.cell (p:=⟨b,0,none⟩) hb).trans h0;have h1:=(c3.cell (p:=⟨b,1,none⟩) hb).trans h1;have g0:=(c3.cell (p:=⟨b',0,none⟩) hb').trans g0;have g1:=(c3.cell (p:=⟨b',1,none⟩) hb').trans g1
 replace hb:=Nat.lt_of_lt_of_le hb c3.size;replace hb':=Nat.lt_of_lt_of_le hb' c3.size
 go_wp2_with fail
 go_quiet (fail)
 obtain ⟨V4,e4⟩:∃ V4,V4 = V3.drewN nq:=⟨_,rfl⟩
 have c4:Below V3.heap.size V3 V4:=by rw [e4];exact Go.below_drewN (Below.refl _ _) nq
 have B4:Below w.heap.size w V4:=B3.trans (c4.mono B3.size)
 rw [← e4]
 clear e4 nq
 have h0:=(c4.cell (p:=⟨b,0,none⟩) hb).trans h0;have h1:=(c4.cell (p:=⟨b,1,none⟩) hb).trans h1;have g0:=(c4.cell (p:=⟨b',0,none⟩) hb').trans g0;have g1:=(c4.cell (p:=⟨b',1,none⟩) hb').trans g1
 replace hb:=Nat.lt_of_lt_of_le hb c4.size;replace hb':=Nat.lt_of_lt_of_le hb' c4.size
 go_wp2_with fail
 rw [rounds_succ]
 go_wp2_with fail
 go_ret
 refine ⟨rfl,?_⟩
 exact B4
set_option maxRecDepth 4000 in
theorem sameFault_ok (w:World) (k:Int) (a a':Option Addr) (n n' c c':Nat) (hP:∀ W,Below w.heap.size w W → Calls Tryz.prog 23 #[.slice a n c,.slice a' n' c'] W fun e w' => e = .returned (.int .i64 0) ∧ Below W.heap.size W w') :
  Calls Tryz.prog 9 #[.agg #[.int .i64 k,.slice a n c,.slice none 0 0],.agg #[.int .i64 k,.slice a' n' c',.slice none 0 0]] w fun e w' => e = .returned (.bool true) ∧ Below w.heap.size w w':=by
 have HP:=Hi hP
 have HS:=Hi steps_nil
 clear hP
 go_enter Tryz.func9,Tryz.ntmps9
 go_wp2_with fail
 have b2:=two_alloc w (Obj.cells #[Value.int .i64 k,.slice a n c,.slice none 0 0] 38) (Obj.cells #[Value.int .i64 k,.slice a' n' c',.slice none 0 0] 38)
 refine ((uh HP) _ b2).mono ?_
 rintro e w1 ⟨rfl,b1⟩
 have q:=two_at w #[Value.int .i64 k,.slice a n c,.slice none 0 0] #[Value.int .i64 k,.slice a' n' c',.slice none 0 0] 38 38
 have q0:=(b1.block w.heap.size (by simp;omega)).trans q.1
 have q1:=(b1.block (w.heap.size + 1) (by simp)).trans q.2
 have d0:w1.cell? ⟨w.heap.size,2,none⟩ = some (.slice none 0 0):=(dt.cell_cells q0 2).trans rfl
 have d1:w1.cell? ⟨w.heap.size + 1,2,none⟩ = some (.slice none 0 0):=(dt.cell_cells q1 2).trans rfl
 have bw1:=b2.trans (b1.mono b2.size)
 clear q q0 q1
 go_wp2_with fail
 refine ((uh HS) w1).mono ?_
 rintro e w2 ⟨rfl,rfl⟩
 go_wp2_with fail
 go_ret
 exact ⟨rfl,bw1⟩
open dt (Dt Kp RowAt Ow)
def sA:List Int:=[91,49,44,32,123,97,58,32,36,98,125,93]
def sB:List Int:=[91,91,73,110,116,33,93,93,33]
def dA:Dt:=litD 8 em false (Dt.of [litD 2 ⟨#[49]⟩ false .nil .nil 1 2,litD 9 em false .nil (Dt.of [fldD ⟨#[97]⟩ (litD 1 ⟨#[98]⟩ false .nil .nil 1 9) 1 6]) 1 5]) .nil 1 1
theorem fx1:(readL sA false 2).1 = some dA:=by kernel_rfl
theorem fx2:(readL sA false 2).2.kd = 0:=by kernel_rfl
theorem fx3:(readL sA true 2).2.kd = 70 ∧ (readL sA true 2).2.tok.ln = 1 ∧ (readL sA true 2).2.tok.co = 9 ∧ (readL sA true 2).1.isSome = false:=by
 refine ⟨?_,?_,?_,?_⟩ <;> kernel_rfl
theorem fx4:(readT sB 2).1 = some (⟨#[73,110,116]⟩,⟨#[33,93,93,33]⟩):=by kernel_rfl
theorem fx5:(readT sB 2).2.kd = 0:=by kernel_rfl
theorem sA_plain:lx.Plain sA:=by unfold lx.Plain;decide
theorem sB_plain:lx.Plain sB:=by unfold lx.Plain;decide
theorem row_new (w:World) (l:List Int) (t:TypeId) (fr:Nat × Nat):mem.Row .u8 (w.alloc (.cells (l.map (Value.int .u8)).toArray t fr)) (some ⟨w.heap.size,0,none⟩) l.length l.length l:=by
 refine ⟨rfl,Nat.le_refl _,(fun e => by cases e),?_⟩
 refine .inr ⟨w.heap.size,0,rfl,by simp,fun i hi => ?_⟩
 rw [dt.cell_cells (heap_alloc_new w _)]
 simp [hi]
theorem dA_cells {w:World} {cs:List Value} {F:List Nat} (hs:LShape cs) (h:Ow w dA cs F):∃ p1 c1 p2 c2 af nf cf ln co,cs = [.int .i64 8,.string em,.bool false,.slice (some ⟨p1,0,none⟩) 2 c1,.slice af nf cf,.int .i64 ln,.int .i64 co] ∧ p1 ∈ F ∧ p2 ∈ F ∧
  w.cell? ⟨p1,1,none⟩ = some (.string ⟨#[49]⟩) ∧ w.cell? ⟨p1,7,none⟩ = some (.int .i64 9) ∧ w.cell? ⟨p1,11,none⟩ = some (.slice (some ⟨p2,0,none⟩) 1 c2) ∧ w.cell? ⟨p2,1,none⟩ = some (.int .i64 1):=by
 obtain ⟨k,tx,bl,ai,ni,ci,af,nf,cf,ln,co,rfl⟩:=hs
 unfold dA litD at h
 unfold Ow at h
 obtain ⟨ds,e,-,h⟩:=h
 obtain ⟨e1,rfl⟩:=List.cons.inj e
 simp only [Value.int.injEq,true_and] at e1
 subst e1
 unfold Ow at h
 obtain ⟨ds,e,-,h⟩:=h
 obtain ⟨e1,rfl⟩:=List.cons.inj e
 simp only [Value.string.injEq,true_and] at e1
 subst e1
 unfold Ow at h
 obtain ⟨ds,e,-,h⟩:=h
 obtain ⟨e1,rfl⟩:=List.cons.inj e
 simp only [Value.bool.injEq,true_and] at e1
 subst e1
 unfold Ow at h
 obtain ⟨a,n,c,ds,F1,F2,e,hn,hc,ha,h4,h5,rfl⟩:=h
 obtain ⟨e1,rfl⟩:=List.cons.inj e
 simp only [Value.slice.injEq] at e1
 obtain ⟨rfl,rfl,rfl⟩:=e1
 clear h5 ha hc hn
 rcases h4 with ⟨-,e,-⟩ | ⟨p1,G1,rfl,rfl,h4⟩
 ·cases e
 obtain ⟨l1,l2⟩:=dt.OwIn.get _ 7 p1 0 ni G1 h4
 obtain rfl:ni = 2:=l1.symm
 obtain ⟨r0,g0,s0,s0l,o0,-⟩:=l2 0 _ rfl
 obtain ⟨r1,g1,s1,s1l,o1,sub1⟩:=l2 1 _ rfl
 unfold Ow at o0
 obtain ⟨ds0,rfl,-,o0⟩:=o0
 unfold Ow at o0
 obtain ⟨ds1,rfl,-,o0⟩:=o0
 unfold Ow at o1
 obtain ⟨es0,rfl,-,o1⟩:=o1
 unfold Ow at o1
 obtain ⟨es1,rfl,-,o1⟩:=o1
 unfold Ow at o1
 obtain ⟨es2,rfl,-,o1⟩:=o1
 unfold Ow at o1
 obtain ⟨b1,m1,k1,es3,H1,H2,rfl,-,-,-,-,o1,rfl⟩:=o1
 unfold Ow at o1
 obtain ⟨b2,m2,k2,es4,H3,H4,rfl,-,-,-,o2,o3,rfl⟩:=o1
 rcases o2 with ⟨-,e,-⟩ | ⟨p2,G2,rfl,rfl,o2⟩
 ·cases e
 obtain ⟨m1',m2'⟩:=dt.OwIn.get _ 10 p2 0 m2 G2 o2
 obtain rfl:m2 = 1:=m1'.symm
 obtain ⟨f0,g2,s2,s2l,o4,-⟩:=m2' 0 _ rfl
 unfold fldD at o4
 unfold Ow at o4
 obtain ⟨fs0,rfl,-,o4⟩:=o4
 unfold app at o4
 unfold Ow at o4
 obtain ⟨fs1,rfl,-,o4⟩:=o4
 refine ⟨p1,ci,p2,k2,af,nf,cf,ln,co,rfl,by simp,?_,?_,?_,?_,?_⟩
 ·have:=sub1 p2 (by simp);simp [this]
 ·have:=s0 1 _ rfl;simpa using this
 ·have:=s1 0 _ rfl;simpa using this
 ·have:=s1 4 _ rfl;simpa using this
 ·have:=s2 1 _ rfl;simpa using this
theorem litA_ok (ct:Bool) (W:World) (N:Nat) (hN:N = W.heap.size):Calls Tryz.prog 6 #[.slice (some ⟨N,0,none⟩) 12 12,.bool ct,.int .i64 2] (W.alloc (.cells #[Value.int .u8 91,Value.int .u8 49,Value.int .u8 44,Value.int .u8 32,Value.int .u8 123,Value.int .u8 97,Value.int .u8 58,Value.int .u8 32,Value.int .u8 36,Value.int .u8 98,Value.int .u8 125,Value.int .u8 93] 5 (12,13))) fun e w' => ∃ cs F fs,e = .returned (.tuple #[.agg cs.toArray,.agg fs.toArray]) ∧ LitPost ((readL sA ct 2).1.getD zeroD) (W.alloc (.cells #[Value.int .u8 91,Value.int .u8 49,Value.int .u8 44,Value.int .u8 32,Value.int .u8 123,Value.int .u8 97,Value.int .u8 58,Value.int .u8 32,Value.int .u8 36,Value.int .u8 98,Value.int .u8 125,Value.int .u8 93] 5 (12,13))) w' cs F ∧ FltAt (W.alloc (.cells #[Value.int .u8 91,Value.int .u8 49,Value.int .u8 44,Value.int .u8 32,Value.int .u8 123,Value.int .u8 97,Value.int .u8 58,Value.int .u8 32,Value.int .u8 36,Value.int .u8 98,Value.int .u8 125,Value.int .u8 93] 5 (12,13))).heap.size w' (readL sA ct 2).2 fs ∧ Below (W.alloc (.cells #[Value.int .u8 91,Value.int .u8 49,Value.int .u8 44,Value.int .u8 32,Value.int .u8 123,Value.int .u8 97,Value.int .u8 58,Value.int .u8 32,Value.int .u8 36,Value.int .u8 98,Value.int .u8 125,Value.int .u8 93] 5 (12,13))).heap.size (W.alloc (.cells #[Value.int .u8 91,Value.int .u8 49,Value.int .u8 44,Value.int .u8 32,Value.int .u8 123,Value.int .u8 97,Value.int .u8 58,Value.int .u8 32,Value.int .u8 36,Value.int .u8 98,Value.int .u8 125,Value.int .u8 93] 5 (12,13))) w':=by
 subst hN
 exact readLit_ok (some ⟨W.heap.size,0,none⟩) 12 12 sA ct 2 (W.alloc (.cells #[Value.int .u8 91,Value.int .u8 49,Value.int .u8 44,Value.int .u8 32,Value.int .u8 123,Value.int .u8 97,Value.int .u8 58,Value.int .u8 32,Value.int .u8 36,Value.int .u8 98,Value.int .u8 125,Value.int .u8 93] 5 (12,13))) (row_new W sA 5 (12,13)) (by decide) sA_plain (by rfl)
theorem typB_ok (W:World) (N:Nat) (hN:N = W.heap.size):Calls Tryz.prog 10 #[.slice (some ⟨N,0,none⟩) 9 9,.int .i64 2] (W.alloc (.cells #[Value.int .u8 91,Value.int .u8 91,Value.int .u8 73,Value.int .u8 110,Value.int .u8 116,Value.int .u8 33,Value.int .u8 93,Value.int .u8 93,Value.int .u8 33] 5 (9,10))) fun e w' => e = .returned (.tuple #[.agg #[Value.string ⟨#[73,110,116]⟩,.string ⟨#[33,93,93,33]⟩],.agg #[Value.int .i64 0,.slice none 0 0,.slice none 0 0]]) ∧ Below (W.alloc (.cells #[Value.int .u8 91,Value.int .u8 91,Value.int .u8 73,Value.int .u8 110,Value.int .u8 116,Value.int .u8 33,Value.int .u8 93,Value.int .u8 93,Value.int .u8 33] 5 (9,10))).heap.size (W.alloc (.cells #[Value.int .u8 91,Value.int .u8 91,Value.int .u8 73,Value.int .u8 110,Value.int .u8 116,Value.int .u8 33,Value.int .u8 93,Value.int .u8 93,Value.int .u8 33] 5 (9,10))) w':=by
 subst hN
 have h:=readType_ok (some ⟨W.heap.size,0,none⟩) 9 9 sB 2 (W.alloc (.cells #[Value.int .u8 91,Value.int .u8 91,Value.int .u8 73,Value.int .u8 110,Value.int .u8 116,Value.int .u8 33,Value.int .u8 93,Value.int .u8 93,Value.int .u8 33] 5 (9,10))) (row_new W sB 5 (9,10)) (by decide) sB_plain (by rfl)
 refine h.mono ?_
 rintro e w2 ⟨fs,rfl,hfl,b2⟩
 rw [fx4]
 unfold FltAt at hfl
 rw [if_pos fx5] at hfl
 subst hfl
 exact ⟨rfl,b2⟩
theorem litA1 (W:World) (N:Nat) (hN:N = W.heap.size):Calls Tryz.prog 6 #[.slice (some ⟨N,0,none⟩) 12 12,.bool false,.int .i64 2] (W.alloc (.cells #[Value.int .u8 91,Value.int .u8 49,Value.int .u8 44,Value.int .u8 32,Value.int .u8 123,Value.int .u8 97,Value.int .u8 58,Value.int .u8 32,Value.int .u8 36,Value.int .u8 98,Value.int .u8 125,Value.int .u8 93] 5 (12,13))) fun e w' => ∃ p1 c1 p2 c2 af nf cf ln co,e = .returned (.tuple #[.agg #[Value.int .i64 8,.string em,.bool false,.slice (some ⟨p1,0,none⟩) 2 c1,.slice af nf cf,.int .i64 ln,.int .i64 co],.agg #[Value.int .i64 0,.slice none 0 0,.slice none 0 0]]) ∧ p1 < w'.heap.size ∧ p2 < w'.heap.size ∧
  w'.cell? ⟨p1,1,none⟩ = some (.string ⟨#[49]⟩) ∧ w'.cell? ⟨p1,7,none⟩ = some (.int .i64 9) ∧ w'.cell? ⟨p1,11,none⟩ = some (.slice (some ⟨p2,0,none⟩) 1 c2) ∧ w'.cell? ⟨p2,1,none⟩ = some (.int .i64 1) ∧ Below (W.alloc (.cells #[Value.int .u8 91,Value.int .u8 49,Value.int .u8 44,Value.int .u8 32,Value.int .u8 123,Value.int .u8 97,Value.int .u8 58,Value.int .u8 32,Value.int .u8 36,Value.int .u8 98,Value.int .u8 125,Value.int .u8 93] 5 (12,13))).heap.size (W.alloc (.cells #[Value.int .u8 91,Value.int .u8 49,Value.int .u8 44,Value.int .u8 32,Value.int .u8 123,Value.int .u8 97,Value.int .u8 58,Value.int .u8 32,Value.int .u8 36,Value.int .u8 98,Value.int .u8 125,Value.int .u8 93] 5 (12,13))) w':=by
 refine (litA_ok false W N hN).mono ?_
 rintro e w1 ⟨cs,F,fs,rfl,hpo,hfl,b1⟩
 rw [fx1] at hpo
 obtain ⟨p1,c1,p2,c2,af,nf,cf,ln,co,rfl,hp1,hp2,z1,z2,z3,z4⟩:=dA_cells hpo.shape hpo.own
 unfold FltAt at hfl
 rw [if_pos fx2] at hfl
 subst hfl
 exact ⟨p1,c1,p2,c2,af,nf,cf,ln,co,rfl,(hpo.rng p1 hp1).2,(hpo.rng p2 hp2).2,z1,z2,z3,z4,b1⟩
theorem litA2 (W:World) (N:Nat) (hN:N = W.heap.size):Calls Tryz.prog 6 #[.slice (some ⟨N,0,none⟩) 12 12,.bool true,.int .i64 2] (W.alloc (.cells #[Value.int .u8 91,Value.int .u8 49,Value.int .u8 44,Value.int .u8 32,Value.int .u8 123,Value.int .u8 97,Value.int .u8 58,Value.int .u8 32,Value.int .u8 36,Value.int .u8 98,Value.int .u8 125,Value.int .u8 93] 5 (12,13))) fun e w' => ∃ b k tx bl ai ni ci af nf cf ln co,e = .returned (.tuple #[.agg #[.int .i64 k,.string tx,.bool bl,.slice ai ni ci,.slice af nf cf,.int .i64 ln,.int .i64 co],.agg #[.int .i64 70,.slice (some ⟨b,0,none⟩) 1 1,.slice none 0 0]]) ∧ b < w'.heap.size ∧ w'.cell? ⟨b,1,none⟩ = some (.int .i64 9) ∧ Below (W.alloc (.cells #[Value.int .u8 91,Value.int .u8 49,Value.int .u8 44,Value.int .u8 32,Value.int .u8 123,Value.int .u8 97,Value.int .u8 58,Value.int .u8 32,Value.int .u8 36,Value.int .u8 98,Value.int .u8 125,Value.int .u8 93] 5 (12,13))).heap.size (W.alloc (.cells #[Value.int .u8 91,Value.int .u8 49,Value.int .u8 44,Value.int .u8 32,Value.int .u8 123,Value.int .u8 97,Value.int .u8 58,Value.int .u8 32,Value.int .u8 36,Value.int .u8 98,Value.int .u8 125,Value.int .u8 93] 5 (12,13))) w':=by
 refine (litA_ok true W N hN).mono ?_
 rintro e w1 ⟨cs,F,fs,rfl,hpo,hfl,b1⟩
 obtain ⟨k,tx,bl,ai,ni,ci,af,nf,cf,ln,co,rfl⟩:=hpo.shape
 unfold FltAt at hfl
 rw [if_neg (by rw [fx3.1];decide),fx3.1,fx3.2.1,fx3.2.2.1] at hfl
 obtain ⟨b,h1,h2,rfl,h4,h5⟩:=hfl
 exact ⟨b,k,tx,bl,ai,ni,ci,af,nf,cf,ln,co,rfl,h2,h5,b1⟩
set_option maxRecDepth 10000 in
set_option maxHeartbeats 4000000 in
theorem fixed_ok (w:World):Calls Tryz.prog 5 #[] w fun e w' => e = .returned (.bool true) ∧ Below w.heap.size w w':=by
 have kc:=fun (w:World) (C:Array Value) (n c:Nat) => Lib.run_convert_bytes_const (P:=Tryz.prog) w 24 5 C n c Tryz.underlying24 Tryz.underlying5
 go_enter Tryz.func5,Tryz.ntmps5
 go_wp2_with fail
 refine (litA1 w w.heap.size rfl).mono ?_
 rintro e w1 ⟨p1,c1,p2,c2,af,nf,cf,ln,co,rfl,hq1,hq2,z1,z2,z3,z4,b1⟩
 have bw1:Below w.heap.size w w1:=(ba).trans (b1.mono (by simp))
 clear b1
 have kc1:=fun (o o':Obj) (C:Array Value) (n c:Nat) => by simpa using kc ((w1.alloc o).alloc o') C n c
 go_wp2_with fail
 have hX1:((w1.alloc (.cells #[Value.int .i64 8,.string em,.bool false,.slice (some ⟨p1,0,none⟩) 2 c1,.slice af nf cf,.int .i64 ln,.int .i64 co] 33)).alloc (.cells #[Value.int .i64 0,.slice none 0 0,.slice none 0 0] 38)).heap[w1.heap.size]? = some (.cells #[Value.int .i64 8,.string em,.bool false,.slice (some ⟨p1,0,none⟩) 2 c1,.slice af nf cf,.int .i64 ln,.int .i64 co] 33 (0,0)):=(Below.heap_alloc _ _ w1.heap.size (by simp)).trans (heap_alloc_new w1 _)
 have hX2:((w1.alloc (.cells #[Value.int .i64 8,.string em,.bool false,.slice (some ⟨p1,0,none⟩) 2 c1,.slice af nf cf,.int .i64 ln,.int .i64 co] 33)).alloc (.cells #[Value.int .i64 0,.slice none 0 0,.slice none 0 0] 38)).heap[w1.heap.size + 1]? = some (.cells #[Value.int .i64 0,.slice none 0 0,.slice none 0 0] 38 (0,0)):=by
  have:=heap_alloc_new (w1.alloc (.cells #[Value.int .i64 8,.string em,.bool false,.slice (some ⟨p1,0,none⟩) 2 c1,.slice af nf cf,.int .i64 ln,.int .i64 co] 33)) (.cells #[Value.int .i64 0,.slice none 0 0,.slice none 0 0] 38)
  simpa using this
 have hX0:w1.heap.size + 1 + 1 = ((w1.alloc (.cells #[Value.int .i64 8,.string em,.bool false,.slice (some ⟨p1,0,none⟩) 2 c1,.slice af nf cf,.int .i64 ln,.int .i64 co] 33)).alloc (.cells #[Value.int .i64 0,.slice none 0 0,.slice none 0 0] 38)).heap.size:=by simp
 have bX:Below w1.heap.size w1 ((w1.alloc (.cells #[Value.int .i64 8,.string em,.bool false,.slice (some ⟨p1,0,none⟩) 2 c1,.slice af nf cf,.int .i64 ln,.int .i64 co] 33)).alloc (.cells #[Value.int .i64 0,.slice none 0 0,.slice none 0 0] 38)):=(ba).alloc (by simp) _
 obtain ⟨X1,e1⟩:∃ X1,X1 = (w1.alloc (.cells #[Value.int .i64 8,.string em,.bool false,.slice (some ⟨p1,0,none⟩) 2 c1,.slice af nf cf,.int .i64 ln,.int .i64 co] 33)).alloc (.cells #[Value.int .i64 0,.slice none 0 0,.slice none 0 0] 38):=⟨_,rfl⟩
 rw [← e1] at hX1 hX2 hX0 bX ⊢
 clear e1 kc1
 refine (typB_ok X1 _ hX0).mono ?_
 rintro e w2 ⟨rfl,b2⟩
 have b12:Below X1.heap.size X1 w2:=(ba).trans (b2.mono (by simp))
 have kc2:=fun (o o':Obj) (C:Array Value) (n c:Nat) => by simpa using kc ((w2.alloc o).alloc o') C n c
 have hX0':w1.heap.size + 1 < X1.heap.size:=by omega
 have hX0h:=Hi hX0
 clear hX0 b2
 go_wp2_with fail
 have hY1:((w2.alloc (.cells #[Value.string ⟨#[73,110,116]⟩,.string ⟨#[33,93,93,33]⟩] 44)).alloc (.cells #[Value.int .i64 0,.slice none 0 0,.slice none 0 0] 38)).heap[w2.heap.size]? = some (.cells #[Value.string ⟨#[73,110,116]⟩,.string ⟨#[33,93,93,33]⟩] 44 (0,0)):=(Below.heap_alloc _ _ w2.heap.size (by simp)).trans (heap_alloc_new w2 _)
 have hY2:((w2.alloc (.cells #[Value.string ⟨#[73,110,116]⟩,.string ⟨#[33,93,93,33]⟩] 44)).alloc (.cells #[Value.int .i64 0,.slice none 0 0,.slice none 0 0] 38)).heap[w2.heap.size + 1]? = some (.cells #[Value.int .i64 0,.slice none 0 0,.slice none 0 0] 38 (0,0)):=by
  have:=heap_alloc_new (w2.alloc (.cells #[Value.string ⟨#[73,110,116]⟩,.string ⟨#[33,93,93,33]⟩] 44)) (.cells #[Value.int .i64 0,.slice none 0 0,.slice none 0 0] 38)
  simpa using this
 have hY0:w2.heap.size + 1 + 1 = ((w2.alloc (.cells #[Value.string ⟨#[73,110,116]⟩,.string ⟨#[33,93,93,33]⟩] 44)).alloc (.cells #[Value.int .i64 0,.slice none 0 0,.slice none 0 0] 38)).heap.size:=by simp
 have bY:Below w2.heap.size w2 ((w2.alloc (.cells #[Value.string ⟨#[73,110,116]⟩,.string ⟨#[33,93,93,33]⟩] 44)).alloc (.cells #[Value.int .i64 0,.slice none 0 0,.slice none 0 0] 38)):=(ba).alloc (by simp) _
 obtain ⟨Y1,e1⟩:∃ Y1,Y1 = (w2.alloc (.cells #[Value.string ⟨#[73,110,116]⟩,.string ⟨#[33,93,93,33]⟩] 44)).alloc (.cells #[Value.int .i64 0,.slice none 0 0,.slice none 0 0] 38):=⟨_,rfl⟩
 rw [← e1] at hY1 hY2 hY0 bY ⊢
 clear e1 kc2 kc
 refine (litA2 Y1 _ hY0).mono ?_
 rintro e w3 ⟨b,k3,tx3,bl3,ai3,ni3,ci3,af3,nf3,cf3,ln3,co3,rfl,hb3,z5,b3⟩
 have b23:Below Y1.heap.size Y1 w3:=(ba).trans (b3.mono (by simp))
 have hY0':w2.heap.size + 1 < Y1.heap.size:=by omega
 have hY0h:=Hi hY0
 clear hY0 b3
 have g1:∀ (b':Nat),b' < w1.heap.size → ∀ o o',((w3.alloc o).alloc o').heap[b']? = w1.heap[b']? := fun b' h' o o' => by
  have s1:w1.heap.size ≤ X1.heap.size:=by omega
  have s2:=b12.size
  have s3:w2.heap.size ≤ Y1.heap.size:=by omega
  have s4:=b23.size
  rw [Below.heap_alloc (w3.alloc o) o' b' (by simp;omega),Below.heap_alloc w3 o b' (by omega),b23.block b' (by omega),bY.block b' (by omega),b12.block b' (by omega),bX.block b' h']
 have g2:∀ (b':Nat),b' < X1.heap.size → ∀ o o',((w3.alloc o).alloc o').heap[b']? = X1.heap[b']? := fun b' h' o o' => by
  have s2:=b12.size
  have s3:w2.heap.size ≤ Y1.heap.size:=by omega
  have s4:=b23.size
  rw [Below.heap_alloc (w3.alloc o) o' b' (by simp;omega),Below.heap_alloc w3 o b' (by omega),b23.block b' (by omega),bY.block b' (by omega),b12.block b' (by omega)]
 have g3:∀ (b':Nat),b' < Y1.heap.size → ∀ o o',((w3.alloc o).alloc o').heap[b']? = Y1.heap[b']? := fun b' h' o o' => by
  have s4:=b23.size
  rw [Below.heap_alloc (w3.alloc o) o' b' (by simp;omega),Below.heap_alloc w3 o b' (by omega),b23.block b' (by omega)]
 have f0:∀ o o',((w3.alloc o).alloc o').cell? ⟨w1.heap.size + 1,0,none⟩ = some (.int .i64 0):=fun o o' => (dt.cell_cells ((g2 _ hX0' o o').trans hX2) 0).trans rfl
 have v0:∀ o o',((w3.alloc o).alloc o').cell? ⟨w1.heap.size,0,none⟩ = some (.int .i64 8):=fun o o' => (dt.cell_cells ((g2 _ (by omega) o o').trans hX1) 0).trans rfl
 have v3:∀ o o',((w3.alloc o).alloc o').cell? ⟨w1.heap.size,3,none⟩ = some (.slice (some ⟨p1,0,none⟩) 2 c1):=fun o o' => (dt.cell_cells ((g2 _ (by omega) o o').trans hX1) 3).trans rfl
 have y1:∀ o o',((w3.alloc o).alloc o').cell? ⟨p1,1,none⟩ = some (.string ⟨#[49]⟩):=fun o o' => (dt.cell_blk (g1 p1 hq1 o o') 1).trans z1
 have y2:∀ o o',((w3.alloc o).alloc o').cell? ⟨p1,7,none⟩ = some (.int .i64 9):=fun o o' => (dt.cell_blk (g1 p1 hq1 o o') 7).trans z2
 have y3:∀ o o',((w3.alloc o).alloc o').cell? ⟨p1,11,none⟩ = some (.slice (some ⟨p2,0,none⟩) 1 c2):=fun o o' => (dt.cell_blk (g1 p1 hq1 o o') 11).trans z3
 have y4:∀ o o',((w3.alloc o).alloc o').cell? ⟨p2,1,none⟩ = some (.int .i64 1):=fun o o' => (dt.cell_blk (g1 p2 hq2 o o') 1).trans z4
 have gk:∀ o o',((w3.alloc o).alloc o').cell? ⟨w2.heap.size + 1,0,none⟩ = some (.int .i64 0):=fun o o' => (dt.cell_cells ((g3 _ hY0' o o').trans hY2) 0).trans rfl
 have r0:∀ o o',((w3.alloc o).alloc o').cell? ⟨w2.heap.size,0,none⟩ = some (.string ⟨#[73,110,116]⟩):=fun o o' => (dt.cell_cells ((g3 _ (by omega) o o').trans hY1) 0).trans rfl
 have r1:∀ o o',((w3.alloc o).alloc o').cell? ⟨w2.heap.size,1,none⟩ = some (.string ⟨#[33,93,93,33]⟩):=fun o o' => (dt.cell_cells ((g3 _ (by omega) o o').trans hY1) 1).trans rfl
 have y5:∀ o o',((w3.alloc o).alloc o').cell? ⟨b,1,none⟩ = some (.int .i64 9):=fun o o' => ((((Below.refl w3.heap.size w3).alloc (Nat.le_refl _) o).alloc (by simp) o').cell (p:=⟨b,1,none⟩) hb3).trans z5
 have hfin:Below w.heap.size w w3:=bw1.trans ((bX.trans ((b12.mono bX.size).trans ((bY.mono (Nat.le_trans bX.size b12.size)).trans (b23.mono (Nat.le_trans (Nat.le_trans bX.size b12.size) bY.size))))).mono bw1.size)
 have HF:=Hi hfin
 clear g1 g2 g3 z1 z2 z3 z4 z5 hX1 hX2 hY1 hY2 bX bY b12 b23 hfin bw1
 go_wp2_with fail
 go_ret
 exact ⟨rfl,((uh HF).alloc (uh HF).size _).alloc (Nat.le_trans (uh HF).size (by simp)) _⟩
end Go.Proofs.YtepmbmbnlmbhhaaGreat.cu
namespace Go.Proofs.YtepmbmbnlmbhhaaGreat.cr
open Go.ChangeShapes Go.WideShapes Go.ChangeAt Go.RowKit
open ints (Hi uh)
open dt (Dt Kp RowAt Ow Grow)
open mem (Row Srcs)
open cu
theorem readLG_lit (z:List Int) (ct:Bool) (d:Int):∃ f,IsLit f ((readLG z ct d).1.getD zeroD):=by
 cases h:(readLG z ct d).1 with
 | none => exact ⟨1,leaf_lit 0 0 em false 0 0⟩
 | some v =>
  refine ⟨(lx.toks z).length,?_⟩
  unfold readLG at h
  split at h
  ·split at h
   ·exact litF_lit ct _ _ _ h
   ·cases h
  ·cases h
theorem flt_same {lo lo':Nat} {w:World} {c:Cu} {fs fs':List Value} (h:FltAt lo w c fs) (h':FltAt lo' w c fs'):Calls Tryz.prog 9 #[.agg fs.toArray,.agg fs'.toArray] w fun e w' => e = .returned (.bool true) ∧ Below w.heap.size w w':=by
 unfold FltAt at h h'
 by_cases hk:c.kd = 0
 ·rw [if_pos hk] at h h'
  subst h
  subst h'
  exact sameFault_ok w 0 none none 0 0 0 0 (fun W _ => (pos_nil W).mono (fun e w' hh => ⟨hh.1,by rw [hh.2];exact Below.refl _ _⟩))
 ·rw [if_neg hk] at h h'
  obtain ⟨b,x1,x2,rfl,x4,x5⟩:=h
  obtain ⟨b',y1,y2,rfl,y4,y5⟩:=h'
  exact sameFault_ok w c.kd _ _ 1 1 1 1 (fun W bb => pos_one W b b' _ _ ((bb.cell (p:=⟨b,0,none⟩) x2).trans x4) ((bb.cell (p:=⟨b,1,none⟩) x2).trans x5) ((bb.cell (p:=⟨b',0,none⟩) y2).trans y4) ((bb.cell (p:=⟨b',1,none⟩) y2).trans y5) (Nat.lt_of_lt_of_le x2 bb.size) (Nat.lt_of_lt_of_le y2 bb.size))
theorem flt_form {lo:Nat} {w:World} {c:Cu} {fs:List Value} (h:FltAt lo w c fs):∃ K a n cc,fs = [.int .i64 K,.slice a n cc,.slice none 0 0]:=by
 unfold FltAt at h
 by_cases hk:c.kd = 0
 ·rw [if_pos hk] at h
  exact ⟨_,_,_,_,h⟩
 ·rw [if_neg hk] at h
  obtain ⟨b,x1,x2,e,x4,x5⟩:=h
  exact ⟨_,_,_,_,e⟩
theorem FltAt.more {lo:Nat} {w w':World} {c:Cu} {fs:List Value} (h:FltAt lo w c fs) (hb:Below w.heap.size w w'):FltAt lo w' c fs:=by
 unfold FltAt at h ⊢
 by_cases hk:c.kd = 0
 ·rw [if_pos hk] at h ⊢
  exact h
 ·rw [if_neg hk] at h ⊢
  obtain ⟨b,x1,x2,e,x4,x5⟩:=h
  exact ⟨b,x1,Nat.lt_of_lt_of_le x2 hb.size,e,(hb.cell (p:=⟨b,0,none⟩) x2).trans x4,(hb.cell (p:=⟨b,1,none⟩) x2).trans x5⟩
structure Bn (w:World) (O:Nat) (ob:Obj) (aB aS:Option Addr) (nS cB cS:Nat) (zs:List Int) (W:World):Prop where
 bel:Below w.heap.size w W
 rB:Row .u8 W aB nS cB zs
 rS:Row .u8 W aS nS cS zs
 ob:W.heap[O]? = some ob
theorem Bn.lt {w:World} {O:Nat} {ob:Obj} {aB aS:Option Addr} {nS cB cS:Nat} {zs:List Int} {W:World} (h:Bn w O ob aB aS nS cB cS zs W):O < W.heap.size:=by
 rcases Nat.lt_or_ge O W.heap.size with g | g
 ·exact g
 ·have:=h.ob
  rw [Array.getElem?_eq_none g] at this
  cases this
theorem Bn.more {w:World} {O:Nat} {ob:Obj} {aB aS:Option Addr} {nS cB cS:Nat} {zs:List Int} {W W':World} (h:Bn w O ob aB aS nS cB cS zs W) (hb:Below W.heap.size W W'):Bn w O ob aB aS nS cB cS zs W':=
 ⟨h.bel.trans (hb.mono h.bel.size),h.rB.below hb,h.rS.below hb,(hb.block O h.lt).trans h.ob⟩
set_option maxHeartbeats 4000000 in
set_option maxRecDepth 8000 in
theorem law_lits (a:Option Addr) (n c N:Nat) (w:World) (h:Srcs w a n N) (hN:N ≤ 1048576) (hn:n ≤ 1048576) :
  Calls Tryz.prog 3 #[.slice a n c] w fun e w' => e = .returned (.bool true) ∧ Below w.heap.size w w':=by
 have hFx:=Hi (fixed_ok w)
 obtain ⟨j0,hj,hy0,hy1,hy2⟩:=info_parts mem.info8
 go_enter Tryz.func3,Tryz.ntmps3
 go_wp2_with fail
 refine (uh hFx).mono ?_
 rintro e w1 ⟨rfl,b1⟩
 clear hFx
 go_wp2_with fail
 go_loopw [3] (fun v wr => ∃ k:Nat,k ≤ n ∧ v = .int .i64 k ∧ Below w.heap.size w wr) (fun v _ => n - (intOf v).toNat)
 case atStart => exact ⟨0,Nat.zero_le _,rfl,b1⟩
 case round =>
  obtain ⟨k,hk,rfl,hbk⟩:=hrel
  by_cases hlt:k < n
  ·have ki:(k:Int) < (n:Int):=by omega
   rcases h.below hbk with h0 | ⟨b,off,rfl,hbw,hcell⟩
   ·omega
   obtain ⟨aS,nS,cS,ct,x,zs,⟨c0,c1,c2⟩,rS,hby,hbS,hwx⟩:=hcell k hlt
   clear hcell
   have hlit:((wr.alloc (.cells #[.slice aS nS cS,.bool ct,.int .i64 x] 26)).alloc (.cells #[] 5)).ownsRow (wr.heap.size + 1) 5 1 (.slice (some ⟨wr.heap.size + 1,0,none⟩) 0 0) 0 []:=by
    have:=World.ownsRow_lit (base:=wr.heap.size + 1) (e:=5) (size:=1) (wr.alloc (.cells #[.slice aS nS cS,.bool ct,.int .i64 x] 26)) #[] 0 (by simp) (by unfold maxLen;omega) rfl
    simpa using this
   have bA2:Below wr.heap.size wr ((wr.alloc (.cells #[.slice aS nS cS,.bool ct,.int .i64 x] 26)).alloc (.cells #[] 5)):=(ba).alloc (by simp) _
   have hS0:=rS.below bA2
   have hO0:((wr.alloc (.cells #[.slice aS nS cS,.bool ct,.int .i64 x] 26)).alloc (.cells #[] 5)).heap[wr.heap.size]? = some (.cells #[.slice aS nS cS,.bool ct,.int .i64 x] 26):=(Below.heap_alloc _ _ wr.heap.size (by simp)).trans (heap_alloc_new wr _)
   have hsA:((wr.alloc (.cells #[.slice aS nS cS,.bool ct,.int .i64 x] 26)).alloc (.cells #[] 5)).heap.size = wr.heap.size + 2:=by simp
   have HA:=Hi (And.intro hlit (And.intro bA2 (And.intro hS0 (And.intro hO0 hsA))))
   have HRS:=Hi rS
   have HBY:=Hi hby
   have HBK:=Hi hbk
   clear hlit bA2 hS0 hO0 hsA rS hby hbk
   go_wp2_with (at_builtin;refine lx.append_row _ rfl _ _ 24 rfl (wr.heap.size + 1) 5 j0 .u8 1 Tryz.underlying24 hj hy0 hy1 hy2 _ _ _ rfl (uh HA).1 aS nS cS zs rfl (uh HA).2.2.1 (by unfold maxLen;omega) (by omega) (by simp) ?_;intro v1 w2 o1 b1';rw [Nat.zero_add,List.nil_append] at o1;obtain ⟨aB,cB,eB⟩:=own_len o1;subst eB;have bR2:=(uh HA).2.1.trans (b1'.mono (Nat.le_succ _));have hO2:=(b1'.block wr.heap.size (Nat.lt_succ_self _)).trans (uh HA).2.2.2.1;have hRB:=mem.row_at o1;have hsz2:=b1'.size;have q0:w2.cell? ⟨wr.heap.size,0,none⟩ = some (.slice aS nS cS):=(dt.cell_cells hO2 0).trans rfl;have q1:w2.cell? ⟨wr.heap.size,1,none⟩ = some (.bool ct):=(dt.cell_cells hO2 1).trans rfl;have q2:w2.cell? ⟨wr.heap.size,2,none⟩ = some (.int .i64 x):=(dt.cell_cells hO2 2).trans rfl;have HB2:=Hi (And.intro ((uh HBK).trans (bR2.mono (uh HBK).size)) (And.intro hRB (And.intro ((uh HRS).below bR2) hO2)));clear o1 b1' bR2 hRB hO2)
   obtain ⟨fu,hlit⟩:=readLG_lit zs ct x
   have C1:=Hi (readLitG_ok aB nS cB zs ct x w2 (uh HB2).2.1 (by omega) (uh HBY) hwx)
   have C2:=Hi (fun W (hb:Row .u8 W aS nS cS zs) => rreadLit_ok aS nS cS zs ct x W hb (by omega) (uh HBY) hwx)
   have C3:=Hi (fun W (hb:Row .u8 W aB nS cB zs) => readTypeG_ok aB nS cB zs x W hb (by omega) (uh HBY) hwx)
   have C4:=Hi (fun W (hb:Row .u8 W aS nS cS zs) => rreadType_ok aS nS cS zs x W hb (by omega) (uh HBY) hwx)
   obtain ⟨RL,hRL⟩:∃ RL,RL = readLG zs ct x:=⟨_,rfl⟩
   rw [← hRL] at C1 C2 hlit
   obtain ⟨RT,hRT⟩:∃ RT,RT = readTG zs x:=⟨_,rfl⟩
   rw [← hRT] at C3 C4
   unfold trC at C3 C4
   obtain ⟨NM,hNM⟩:∃ NM,NM = (RT.1.map (·.1)).getD em:=⟨_,rfl⟩
   obtain ⟨WP,hWP⟩:∃ WP,WP = (RT.1.map (·.2)).getD em:=⟨_,rfl⟩
   rw [← hNM,← hWP] at C3 C4
   have HLIT:=Hi hlit
   have hbn2:Bn w wr.heap.size (.cells #[.slice aS nS cS,.bool ct,.int .i64 x] 26) aB aS nS cB cS zs w2:=⟨(uh HB2).1,(uh HB2).2.1,(uh HB2).2.2.1,(uh HB2).2.2.2⟩
   clear hRL hRT hNM hWP hlit HB2 HA HRS HBK q0 q1 q2 hsz2
   refine (uh C1).mono ?_
   rintro e w3 ⟨cs,F,fs,rfl,hpo,hflt,b3⟩
   obtain ⟨kk,tt,bl,ai,ni,ci,af,nf,cf,ln,co,rfl⟩:=hpo.shape
   obtain ⟨K1,a1,n1,c1,rfl⟩:=flt_form hflt
   have HP:=Hi hpo
   have HFL:=Hi hflt
   have hbn3:=hbn2.more b3
   have HB3:=Hi hbn3
   have hO3:=hbn3.lt
   have two:∀ o o',Below w3.heap.size w3 ((w3.alloc o).alloc o'):=fun o o' => two_alloc _ _ _
   have q0:∀ o o',((w3.alloc o).alloc o').cell? ⟨wr.heap.size,0,none⟩ = some (.slice aS nS cS):=fun o o' => (dt.cell_cells (((two o o').block _ hO3).trans hbn3.ob) 0).trans rfl
   have q1:∀ o o',((w3.alloc o).alloc o').cell? ⟨wr.heap.size,1,none⟩ = some (.bool ct):=fun o o' => (dt.cell_cells (((two o o').block _ hO3).trans hbn3.ob) 1).trans rfl
   have q2:∀ o o',((w3.alloc o).alloc o').cell? ⟨wr.heap.size,2,none⟩ = some (.int .i64 x):=fun o o' => (dt.cell_cells (((two o o').block _ hO3).trans hbn3.ob) 2).trans rfl
   clear C1 hpo hflt hbn2 hbn3 b3 two
   go_wp2_with fail
   obtain ⟨X,hX⟩:∃ X,X = (w3.alloc (.cells #[.int .i64 kk,.string tt,.bool bl,.slice ai ni ci,.slice af nf cf,.int .i64 ln,.int .i64 co] 33)).alloc (.cells #[.int .i64 K1,.slice a1 n1 c1,.slice none 0 0] 38):=⟨_,rfl⟩
   have bX:Below w3.heap.size w3 X:=by rw [hX];exact two_alloc _ _ _
   have hXs:X.heap.size = w3.heap.size + 1 + 1:=by rw [hX];simp
   have hX1:=(show X.heap[w3.heap.size]? = _ ∧ X.heap[w3.heap.size + 1]? = _ from by rw [hX];exact two_at _ _ _ _ _)
   rw [← hX]
   clear hX q0 q1 q2
   have hbX:=(uh HB3).more bX
   refine ((uh C2) X hbX.rS).mono ?_
   rintro e w4 ⟨cs',F',fs',rfl,hpo',hflt',b4⟩
   obtain ⟨kk',tt',bl',ai',ni',ci',af',nf',cf',ln',co',rfl⟩:=hpo'.shape
   obtain ⟨K2,a2,n2,c2,rfl⟩:=flt_form hflt'
   have hbn4:=hbX.more b4
   have b34:=bX.trans (b4.mono bX.size)
   have hs4:w3.heap.size + 1 + 1 ≤ w4.heap.size:=by rw [← hXs];exact b4.size
   have e1:=(b4.block w3.heap.size (by omega)).trans hX1.1
   have e2:=(b4.block (w3.heap.size + 1) (by omega)).trans hX1.2
   have HO1:=Hi (show Ow w4 (RL.1.getD zeroD) [.int .i64 kk,.string tt,.bool bl,.slice ai ni ci,.slice af nf cf,.int .i64 ln,.int .i64 co] F from dt.Ow.agree _ _ F (fun b hb o => b34.cell (p:=⟨b,o,none⟩) ((uh HP).rng b hb).2) (uh HP).own)
   have HF1:=Hi (show ∀ b ∈ F,b < w4.heap.size from fun b hb => Nat.lt_of_lt_of_le ((uh HP).rng b hb).2 b34.size)
   have HO2:=Hi (show Ow w4 (RL.1.getD zeroD) [.int .i64 kk',.string tt',.bool bl',.slice ai' ni' ci',.slice af' nf' cf',.int .i64 ln',.int .i64 co'] F' from hpo'.own)
   have HF2:=Hi (show ∀ b ∈ F',b < w4.heap.size from fun b hb => (hpo'.rng b hb).2)
   have HFL1:=Hi (FltAt.more (uh HFL) b34)
   have HFL2:=Hi hflt'
   have HB4:=Hi hbn4
   have hO4:=hbn4.lt
   have CS:=Hi (fun W (bb:Below w4.heap.size w4 W) => same_t fu _ _ ((uh HLIT).same true) W _ _ F F' (dt.Ow.agree _ _ F (fun b hb o => bb.cell (p:=⟨b,o,none⟩) ((uh HF1) b hb)) (uh HO1)) (dt.Ow.agree _ _ F' (fun b hb o => bb.cell (p:=⟨b,o,none⟩) ((uh HF2) b hb)) (uh HO2)) (fun b hb => Nat.lt_of_lt_of_le ((uh HF1) b hb) bb.size) (fun b hb => Nat.lt_of_lt_of_le ((uh HF2) b hb) bb.size))
   have CF:=Hi (fun W (bb:Below w4.heap.size w4 W) => flt_same (FltAt.more (uh HFL1) bb) (FltAt.more (uh HFL2) bb))
   have two:∀ o o',Below w4.heap.size w4 ((w4.alloc o).alloc o'):=fun o o' => two_alloc _ _ _
   have HV:=Hi (fun o o' => show ((w4.alloc o).alloc o').rangeAt w3.heap.size 0 [.int .i64 kk,.string tt,.bool bl,.slice ai ni ci,.slice af nf cf,.int .i64 ln,.int .i64 co] from dt.range_cells (((two o o').block _ (by omega)).trans e1) 0 [.int .i64 kk,.string tt,.bool bl,.slice ai ni ci,.slice af nf cf,.int .i64 ln,.int .i64 co] (fun j u hu => by rw [Nat.zero_add];simpa using hu))
   have HVf:=Hi (fun o o' => show ((w4.alloc o).alloc o').rangeAt (w3.heap.size + 1) 0 [.int .i64 K1,.slice a1 n1 c1,.slice none 0 0] from dt.range_cells (((two o o').block _ (by omega)).trans e2) 0 [.int .i64 K1,.slice a1 n1 c1,.slice none 0 0] (fun j u hu => by rw [Nat.zero_add];simpa using hu))
   have HE:=Hi (And.intro e1 e2)
   clear C2 hpo' hflt' hbn4 hbX bX hX1 b4 HP HFL HO1 HF1 HO2 HF2 HFL1 HFL2 two e1 e2 hXs
   go_wp2_with (first
    | refine wpList_load_mid (by rfl) 33 _ (by rfl) w3.heap.size 0 (by rfl) [.int .i64 kk,.string tt,.bool bl,.slice ai ni ci,.slice af nf cf,.int .i64 ln,.int .i64 co] _ ((uh HV) _ _) Tryz.underlying33 (by rfl) infoLt ?_)
   obtain ⟨Y,hY⟩:∃ Y,Y = (w4.alloc (.cells #[.int .i64 kk',.string tt',.bool bl',.slice ai' ni' ci',.slice af' nf' cf',.int .i64 ln',.int .i64 co'] 33)).alloc (.cells #[.int .i64 K2,.slice a2 n2 c2,.slice none 0 0] 38):=⟨_,rfl⟩
   have bY:Below w4.heap.size w4 Y:=by rw [hY];exact two_alloc _ _ _
   have hYs:Y.heap.size = w4.heap.size + 1 + 1:=by rw [hY];simp
   have hY1:=(show Y.heap[w4.heap.size]? = _ ∧ Y.heap[w4.heap.size + 1]? = _ from by rw [hY];exact two_at _ _ _ _ _)
   rw [← hY]
   clear hY HV HVf
   refine ((uh CS) Y bY).mono ?_
   rintro e w5 ⟨rfl,b5⟩
   have b45:=bY.trans (b5.mono bY.size)
   have hs5:w4.heap.size + 1 + 1 ≤ w5.heap.size:=by rw [← hYs];exact b5.size
   have ef5:=(b45.block (w3.heap.size + 1) (by omega)).trans (uh HE).2
   have eg5:=(b5.block (w4.heap.size + 1) (by omega)).trans hY1.2
   have g0:w5.cell? ⟨w3.heap.size + 1,0,none⟩ = some (.int .i64 K1):=(dt.cell_cells ef5 0).trans rfl
   have g1:w5.cell? ⟨w3.heap.size + 1,1,none⟩ = some (.slice a1 n1 c1):=(dt.cell_cells ef5 1).trans rfl
   have g2:w5.cell? ⟨w3.heap.size + 1,2,none⟩ = some (.slice none 0 0):=(dt.cell_cells ef5 2).trans rfl
   have g3:w5.cell? ⟨w4.heap.size + 1,0,none⟩ = some (.int .i64 K2):=(dt.cell_cells eg5 0).trans rfl
   have g4:w5.cell? ⟨w4.heap.size + 1,1,none⟩ = some (.slice a2 n2 c2):=(dt.cell_cells eg5 1).trans rfl
   have g5:w5.cell? ⟨w4.heap.size + 1,2,none⟩ = some (.slice none 0 0):=(dt.cell_cells eg5 2).trans rfl
   have b35:=b34.trans (b45.mono b34.size)
   have HEF:=Hi (And.intro ef5 eg5)
   have CFx:=Hi ((uh CF) w5 b45)
   clear CS CF bY hY1 b5 b45 b34 ef5 eg5 HE HB4 hO4 hYs
   go_wp2_with fail
   refine (uh CFx).mono ?_
   rintro e w6 ⟨rfl,b6⟩
   have b36:=b35.trans (b6.mono b35.size)
   have hs6:=b6.size
   have HEF6:=Hi (And.intro ((b6.block (w3.heap.size + 1) (by omega)).trans (uh HEF).1) ((b6.block (w4.heap.size + 1) (by omega)).trans (uh HEF).2))
   have hbn6:=(uh HB3).more b36
   have q0:w6.cell? ⟨wr.heap.size,0,none⟩ = some (.slice aS nS cS):=(dt.cell_cells hbn6.ob 0).trans rfl
   have q2:w6.cell? ⟨wr.heap.size,2,none⟩ = some (.int .i64 x):=(dt.cell_cells hbn6.ob 2).trans rfl
   have C3x:=Hi ((uh C3) w6 hbn6.rB)
   have HB36:=Hi b36
   clear CFx b6 b35 b36 HEF C3 hbn6 g0 g1 g2 g3 g4 g5
   go_wp2_with fail
   refine (uh C3x).mono ?_
   rintro e w7 ⟨fs,rfl,hflt7,b7⟩
   obtain ⟨K3,a3,n3,c3,rfl⟩:=flt_form hflt7
   have HF7:=Hi hflt7
   have hs7:=b7.size
   have b37:=(uh HB36).trans (b7.mono (uh HB36).size)
   have bA7:=Hi (fun o => show Below w7.heap.size w7 (w7.alloc o) from ba)
   have ef7:=(b7.block (w3.heap.size + 1) (by omega)).trans (uh HEF6).1
   have eg7:=(b7.block (w4.heap.size + 1) (by omega)).trans (uh HEF6).2
   obtain ⟨W8,e8⟩:∃ W8,W8 = (w7.alloc (.cells #[.string NM,.string WP] 44)).setCells (w3.heap.size + 1) 0 (#[.int .i64 K3,.slice a3 n3 c3,.slice none 0 0]:Array Value).toList:=⟨_,rfl⟩
   have hT7:(w7.alloc (.cells #[.string NM,.string WP] 44)).there (w3.heap.size + 1) 0 3:=dt.there_cells (((uh bA7) _).block (w3.heap.size + 1) (by omega) |>.trans ef7) (by simp)
   have HT7:=Hi hT7
   have b38:Below w3.heap.size w3 W8:=by rw [e8];exact dt.below_setCells _ _ _ _ (b37.trans (((uh bA7) _).mono b37.size)) (Nat.le_succ _)
   have hs8:W8.heap.size = w7.heap.size + 1:=by rw [e8,dt.size_setCells];simp
   have hr8:W8.heap[w7.heap.size]? = some (.cells #[.string NM,.string WP] 44):=by rw [e8];exact (dt.heap_setCells (w3.heap.size + 1) w7.heap.size (by omega) _ _ _).trans (heap_alloc_new w7 _)
   have hf8:W8.rangeAt (w3.heap.size + 1) 0 [.int .i64 K3,.slice a3 n3 c3,.slice none 0 0]:=by rw [e8];exact World.rangeAt_setCells_same _ _ _ _ hT7
   have hg8:W8.heap[w4.heap.size + 1]? = some (.cells #[.int .i64 K2,.slice a2 n2 c2,.slice none 0 0] 38):=by rw [e8];exact (dt.heap_setCells (w3.heap.size + 1) (w4.heap.size + 1) (by omega) _ _ _).trans ((((uh bA7) _).block (w4.heap.size + 1) (by omega)).trans eg7)
   have hF8:FltAt w6.heap.size W8 RT.2 [.int .i64 K3,.slice a3 n3 c3,.slice none 0 0]:=by rw [e8];exact FltAt.out (FltAt.more (uh HF7) ((uh bA7) _)) (by omega) _ _
   have hbn8:=(uh HB3).more b38
   have q0:W8.cell? ⟨wr.heap.size,0,none⟩ = some (.slice aS nS cS):=(dt.cell_cells hbn8.ob 0).trans rfl
   have q2:W8.cell? ⟨wr.heap.size,2,none⟩ = some (.int .i64 x):=(dt.cell_cells hbn8.ob 2).trans rfl
   have C4x:=Hi ((uh C4) W8 hbn8.rS)
   have HX8:=Hi (And.intro hr8 (And.intro hf8 (And.intro hg8 (And.intro hF8 b38))))
   have E8:=Hi e8
   clear C3x HF7 hflt7 b7 b37 ef7 eg7 hT7 b38 hr8 hf8 hg8 hF8 hbn8 e8 bA7 C4 HEF6 HB36
   go_wp2_with (first
    | (refine wpList_store_mid (by rfl) 38 _ _ (by rfl) (w3.heap.size + 1) 0 #[.int .i64 K3,.slice a3 n3 c3,.slice none 0 0] (by rfl) (by rfl) (uh HT7) infoFl (dt.one_cells (cs:=[.int .i64 K3,.slice a3 n3 c3,.slice none 0 0]) (by rfl)) ?_;rw [← uh E8]))
   refine (uh C4x).mono ?_
   rintro e w9 ⟨fs,rfl,hflt9,b9⟩
   obtain ⟨K4,a4,n4,c4,rfl⟩:=flt_form hflt9
   have hs9:=b9.size
   obtain ⟨hr8,hf8,hg8,hF8,b38⟩:=uh HX8
   have b39:=b38.trans (b9.mono b38.size)
   have bA9:=Hi (fun o => show Below w9.heap.size w9 (w9.alloc o) from ba)
   have er9:=(b9.block w7.heap.size (by omega)).trans hr8
   have eg9:=(b9.block (w4.heap.size + 1) (by omega)).trans hg8
   have HF9:=Hi hflt9
   obtain ⟨WX,ex⟩:∃ WX,WX = (w9.alloc (.cells #[.string NM,.string WP] 44)).setCells (w4.heap.size + 1) 0 (#[.int .i64 K4,.slice a4 n4 c4,.slice none 0 0]:Array Value).toList:=⟨_,rfl⟩
   have hT9:(w9.alloc (.cells #[.string NM,.string WP] 44)).there (w4.heap.size + 1) 0 3:=dt.there_cells (((uh bA9) _).block (w4.heap.size + 1) (by omega) |>.trans eg9) (by simp)
   have HT9:=Hi hT9
   have b3x:Below w3.heap.size w3 WX:=by rw [ex];exact dt.below_setCells _ _ _ _ (b39.trans (((uh bA9) _).mono b39.size)) (by omega)
   have hsx:WX.heap.size = w9.heap.size + 1:=by rw [ex,dt.size_setCells];simp
   have erx:WX.heap[w7.heap.size]? = some (.cells #[.string NM,.string WP] 44):=by rw [ex];exact (dt.heap_setCells (w4.heap.size + 1) w7.heap.size (by omega) _ _ _).trans ((((uh bA9) _).block w7.heap.size (by omega)).trans er9)
   have esx:WX.heap[w9.heap.size]? = some (.cells #[.string NM,.string WP] 44):=by rw [ex];exact (dt.heap_setCells (w4.heap.size + 1) w9.heap.size (by omega) _ _ _).trans (heap_alloc_new w9 _)
   have hgx:WX.rangeAt (w4.heap.size + 1) 0 [.int .i64 K4,.slice a4 n4 c4,.slice none 0 0]:=by rw [ex];exact World.rangeAt_setCells_same _ _ _ _ hT9
   have hfx:WX.rangeAt (w3.heap.size + 1) 0 [.int .i64 K3,.slice a3 n3 c3,.slice none 0 0]:=fun j u hu => by rw [ex];exact (dt.cell_blk ((dt.heap_setCells (w4.heap.size + 1) (w3.heap.size + 1) (by omega) _ _ _).trans ((((uh bA9) _).block (w3.heap.size + 1) (by omega)).trans (b9.block (w3.heap.size + 1) (by omega)))) _).trans (hf8 j u hu)
   have hFx1:FltAt w6.heap.size WX RT.2 [.int .i64 K3,.slice a3 n3 c3,.slice none 0 0]:=by rw [ex];exact FltAt.out (FltAt.more (FltAt.more hF8 b9) ((uh bA9) _)) (by omega) _ _
   have hFx2:FltAt W8.heap.size WX RT.2 [.int .i64 K4,.slice a4 n4 c4,.slice none 0 0]:=by rw [ex];exact FltAt.out (FltAt.more (uh HF9) ((uh bA9) _)) (by omega) _ _
   have hbnx:=(uh HB3).more b3x
   have r0:WX.cell? ⟨w7.heap.size,0,none⟩ = some (.string NM):=(dt.cell_cells erx 0).trans rfl
   have r1:WX.cell? ⟨w7.heap.size,1,none⟩ = some (.string WP):=(dt.cell_cells erx 1).trans rfl
   have s0:WX.cell? ⟨w9.heap.size,0,none⟩ = some (.string NM):=(dt.cell_cells esx 0).trans rfl
   have s1:WX.cell? ⟨w9.heap.size,1,none⟩ = some (.string WP):=(dt.cell_cells esx 1).trans rfl
   have f0:WX.cell? ⟨w3.heap.size + 1,0,none⟩ = some (.int .i64 K3):=hfx 0 _ rfl
   have f1:WX.cell? ⟨w3.heap.size + 1,1,none⟩ = some (.slice a3 n3 c3):=hfx 1 _ rfl
   have f2:WX.cell? ⟨w3.heap.size + 1,2,none⟩ = some (.slice none 0 0):=hfx 2 _ rfl
   have g0:WX.cell? ⟨w4.heap.size + 1,0,none⟩ = some (.int .i64 K4):=hgx 0 _ rfl
   have g1:WX.cell? ⟨w4.heap.size + 1,1,none⟩ = some (.slice a4 n4 c4):=hgx 1 _ rfl
   have g2:WX.cell? ⟨w4.heap.size + 1,2,none⟩ = some (.slice none 0 0):=hgx 2 _ rfl
   have CFx:=Hi (fun W (bb:Below WX.heap.size WX W) => flt_same (FltAt.more hFx1 bb) (FltAt.more hFx2 bb))
   have HBX:=Hi hbnx
   have EX:=Hi ex
   clear C4x HF9 hflt9 b9 b38 b39 er9 eg9 hT9 b3x erx esx hgx hfx hFx1 hFx2 hbnx ex bA9 HX8 hr8 hf8 hg8 hF8 HB3 q0 q2
   go_wp2_with (first
    | (refine wpList_store_mid (by rfl) 38 _ _ (by rfl) (w4.heap.size + 1) 0 #[.int .i64 K4,.slice a4 n4 c4,.slice none 0 0] (by rfl) (by rfl) (uh HT9) infoFl (dt.one_cells (cs:=[.int .i64 K4,.slice a4 n4 c4,.slice none 0 0]) (by rfl)) ?_;rw [← uh EX]))
   refine ((uh CFx) WX (Below.refl _ _)).mono ?_
   rintro e wz ⟨rfl,bz⟩
   have hbz:=(uh HBX).more bz
   have kB:=mem.row_string (P:=Tryz.prog) hbz.rB 24 9 5 Tryz.underlying24 Tryz.underlying5 Tryz.underlying9
   have kS:=mem.row_string (P:=Tryz.prog) hbz.rS 24 9 5 Tryz.underlying24 Tryz.underlying5 Tryz.underlying9
   obtain ⟨SS,hSS⟩:∃ SS,SS = strOfNums zs:=⟨_,rfl⟩
   rw [← hSS] at kB kS
   have q0:wz.cell? ⟨wr.heap.size,0,none⟩ = some (.slice aS nS cS):=(dt.cell_cells hbz.ob 0).trans rfl
   have HBZ:=Hi hbz.bel
   clear CFx HBX bz hbz hSS r0 r1 s0 s1 f0 f1 f2 g0 g1 g2 hs4 hs5 hs6 hs7 hs8 hs9 hsx hO3
   go_wp2_with fail
   go_roundw
   case rel => exact ⟨k + 1,by omega,by go_num,uh HBZ⟩
   case measure => simp [intOf];omega
  ·have ki:¬ (k:Int) < (n:Int):=by omega
   go_wp2
   go_ret
   exact ⟨rfl,hbk⟩
end Go.Proofs.YtepmbmbnlmbhhaaGreat.cr
