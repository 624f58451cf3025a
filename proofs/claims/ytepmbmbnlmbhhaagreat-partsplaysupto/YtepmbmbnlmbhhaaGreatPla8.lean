import Derived.Test.YtepmbmbnlmbhhaaGreatPla7
import Derived.Laws.CopyOwn
set_option linter.unusedVariables false
set_option linter.unusedSimpArgs false
set_option maxHeartbeats 16000000
set_option maxRecDepth 8000
open Go.Proofs.Tryz
namespace Go.Proofs.YtepmbmbnlmbhhaaGreat
open Go.ChangeShapes Go.WideShapes Go.ChangeAt Go.RowKit
namespace cu
open ints (Hi uh)
open dt (Dt Kp RowAt Ow Grow)
open mem (Row)
theorem zhx(ct:Bool):∀ (f:Nat) (c:Cu),c.kd≠0→(litF ct f c).1=none
 | 0,c,h=>rfl
 | f+1,c,h=>by
  show (litS (litF ct f) ct c).1=none
  unfold litS;rw[if_pos h]
theorem zg3{c:Cu}(k:Int)(h:c.kd≠0):c.stop k=c:=if_neg h
theorem zeJ(ct:Bool)(f:Nat)(c:Cu)(h:(litF ct f (c.name.want bCol)).1.isSome=true):c.isN=true:=by
 cases hN:c.isN
 ·exfalso
  have h1:c.name=c.stop 70:=by unfold Cu.name;rw[hN];rfl
  have h2:(c.stop 70).kd≠0:=by
   unfold Cu.stop
   split
   ·show (70:Int)≠0;decide
   ·assumption
  have h3:(c.stop 70).want bCol=c.stop 70:=by
   unfold Cu.want;have:(c.stop 70).isP bCol=false:=by unfold Cu.isP;simp[h2]
   rw[this];exact zg3 70 h2
  rw[h1,h3,zhx ct f _ h2] at h
  cases h
 ·rfl
theorem zde(ct:Bool):∀ (f:Nat) (c:Cu),c.Ok→c.ts.length≤1099511627777→c.ts.length≤f+c.ix→LitAt (litF ct f) ct c
 | 0,c,hc,hl,hf=>by have:=hc.lt;omega
 | f+1,c,hc,hl,hf =>
  zeG (litF ct f) ct c hc
   (zld (litF ct f) ct c hc hl (zas ct f) (fun cc h1 h2 h3=>zde ct f cc h1 (by rw[h2];exact hl) (by rw[h2];omega)))
   (zmR (litF ct f) ct c hc hl (zas ct f) (fun cc h1 h2 h3=>zi6 _ ct cc (zkb (litF ct f) ct cc h1
    (by
     have s1:=zan h1;have s2:=zaV s1.ok bCol;have s:=s1.trans s2
     exact zde ct f (cc.name.want bCol) s.ok (by rw[s.ts,h2];exact hl) (by rw[s.ts,h2];have:=s.ix;omega))
    (zeJ ct f cc))))
def readL(l:List Int)(ct:Bool)(d:Int):Option Dt × Cu:=
 if (litF ct (lx.tks l 0).length (newS l d)).1.isSome then (if (litF ct (lx.tks l 0).length (newS l d)).2.finB then (litF ct (lx.tks l 0).length (newS l d)).1 else none,(litF ct (lx.tks l 0).length (newS l d)).2.fin) else (none,(litF ct (lx.tks l 0).length (newS l d)).2)
theorem zgE(a:Option Addr)(n c:Nat)(l:List Int)(ct:Bool)(d:Int)(w:World)(h:Row .u8 w a n c l)(hn:n≤1099511627776)(hp:lx.Plain l)(hd:(Lit.int .i64 d).wf=true) :
  Calls prog 6 #[.slice a n c,.bool ct,.int .i64 d] w fun e w'=>∃ cs F fs,e = .returned (.tuple #[.agg cs.toArray,.agg fs.toArray])∧LitPost ((readL l ct d).1.getD zeroD) w w' cs F∧FltAt w.heap.size w' (readL l ct d).2 fs∧Below w.heap.size w w':=by
 have hN:=Hi (fun W (bb:Below w.heap.size w W)=>zks a n c l d W (h.below bb) hn hp hd)
 have hok:=zfa l d
 have hlen:(newS l d).ts.length≤1099511627777:=by
  have:=zcZ l (l.length+1) 0 (Nat.zero_le _)
  show (lx.tksF l (l.length+1) 0).length≤_
  rw[h.len] at this ⊢;omega
 have hT:=Hi (zde ct (lx.tks l 0).length (newS l d) hok hlen (Nat.le_add_right _ _));have hg:=Hi (zas ct (lx.tks l 0).length (newS l d) hok).1;unfold readL;obtain⟨U,hU⟩:∃ U,U=litF ct (lx.tks l 0).length (newS l d):=⟨_,rfl⟩;unfold LitAt at hT;rw[←hU] at hT hg ⊢;obtain⟨c0,hc0⟩:∃ c0,c0=newS l d:=⟨_,rfl⟩;rw[←hc0] at hN hT hg;clear h hU hok hlen hc0;obtain⟨r,C⟩:=U
 go_enter func6,ntmps6
 go_wp2_with fail
 have bW0:Below w.heap.size w ((w.alloc (.cells #[Value.int .i64 0,.string { data:=#[] },.bool false,.slice none 0 0,.slice none 0 0,.int .i64 0,.int .i64 0] 33)).alloc (.cells #[Value.int .i64 0,.slice none 0 0,.slice none 0 0] 38)):=(ba).alloc (by simp) _
 have hR1:((w.alloc (.cells #[Value.int .i64 0,.string { data:=#[] },.bool false,.slice none 0 0,.slice none 0 0,.int .i64 0,.int .i64 0] 33)).alloc (.cells #[Value.int .i64 0,.slice none 0 0,.slice none 0 0] 38)).heap[w.heap.size]? = some (.cells #[Value.int .i64 0,.string { data:=#[] },.bool false,.slice none 0 0,.slice none 0 0,.int .i64 0,.int .i64 0] 33 (0,0)):=(Below.heap_alloc _ _ w.heap.size (by simp)).trans (heap_alloc_new w _)
 have hR2:((w.alloc (.cells #[Value.int .i64 0,.string { data:=#[] },.bool false,.slice none 0 0,.slice none 0 0,.int .i64 0,.int .i64 0] 33)).alloc (.cells #[Value.int .i64 0,.slice none 0 0,.slice none 0 0] 38)).heap[w.heap.size+1]? = some (.cells #[Value.int .i64 0,.slice none 0 0,.slice none 0 0] 38 (0,0)):=by
  have:=heap_alloc_new (w.alloc (.cells #[Value.int .i64 0,.string { data:=#[] },.bool false,.slice none 0 0,.slice none 0 0,.int .i64 0,.int .i64 0] 33)) (.cells #[Value.int .i64 0,.slice none 0 0,.slice none 0 0] 38)
  simpa using this
 have hz0:w.heap.size+1<((w.alloc (.cells #[Value.int .i64 0,.string { data:=#[] },.bool false,.slice none 0 0,.slice none 0 0,.int .i64 0,.int .i64 0] 33)).alloc (.cells #[Value.int .i64 0,.slice none 0 0,.slice none 0 0] 38)).heap.size:=by simp
 obtain⟨W0,hW0⟩:∃ W0,W0=(w.alloc (.cells #[Value.int .i64 0,.string { data:=#[] },.bool false,.slice none 0 0,.slice none 0 0,.int .i64 0,.int .i64 0] 33)).alloc (.cells #[Value.int .i64 0,.slice none 0 0,.slice none 0 0] 38):=⟨_,rfl⟩;rw[←hW0] at bW0 hR1 hR2 hz0 ⊢;clear hW0;refine ((uh hN) W0 bW0).mono ?_
 rintro e w1 ⟨B,p,rfl,hB,hp0,hc1,b1⟩;have hTB:=Hi ((uh hT) B p);have hend:=Hi (fun W (hc:CurAt W B p C)=>zeu B p C W hc)
 have htold:=Hi (fun W (D:Cu) (hc:CurAt W B p D)=>zfr B p D W hc)
 clear hN hT;unfold ptr at hTB hend htold ⊢
 go_wp2_with fail
 refine ((uh hTB) w1 hc1).mono ?_
 rintro e w2 ⟨cs,F,rfl,hpo,hc2,hk2⟩;obtain⟨kk,tt,bl,ai,ni,ci,af,nf,cf,ln,co,rfl⟩:=hpo.shape;have HP:=Hi hpo;have hrF:∀ b∈F,W0.heap.size≤b∧b<w2.heap.size:=fun b hb=>⟨Nat.le_trans b1.size (hpo.rng b hb).1,(hpo.rng b hb).2⟩
 clear hpo;have hB1:=hc1.lt;have b02:Below W0.heap.size W0 w2:=b1.trans (hk2.below hB b1.size);have HC2:=Hi hc2;clear hTB hc1 hc2 hk2 b1;have bA2:=Hi (fun o=>show Below w2.heap.size w2 (w2.alloc o) from ba)
 cases r with
 | none =>
  go_wp2_with fail
  have bT:=b02.alloc b02.size (.cells #[.int .i64 kk,.string tt,.bool bl,.slice ai ni ci,.slice af nf cf,.int .i64 ln,.int .i64 co] 33);refine ((uh htold) _ C ((uh HC2).below ((uh bA2) _))).mono ?_
  rintro e w5 ⟨fs,rfl,hflt,b5⟩;have b05:Below W0.heap.size W0 w5:=bT.trans (b5.mono bT.size);have hne12:w.heap.size≠w.heap.size+1:=by omega
  have HT1:=Hi (show w5.there w.heap.size 0 7 from dt.zac ((b05.block w.heap.size (by omega)).trans hR1) (by decide))
  have HT2:=Hi (show w5.there (w.heap.size+1) 0 fs.length from by rw[hflt.three.1];exact dt.zac ((b05.block (w.heap.size+1) hz0).trans hR2) (by decide))
  have HX0:=res2 hne12 [.int .i64 0,.string ⟨#[]⟩,.bool false,.slice none 0 0,.slice none 0 0,.int .i64 0,.int .i64 0] fs (uh HT1) (uh HT2);obtain⟨W6,e6⟩:∃ W6,W6=w5.setCells w.heap.size 0 (#[.int .i64 0,.string ⟨#[]⟩,.bool false,.slice none 0 0,.slice none 0 0,.int .i64 0,.int .i64 0]:Array Value).toList:=⟨_,rfl⟩;have HX:=Hi (show W6.there (w.heap.size+1) 0 _∧(W6.setCells (w.heap.size+1) 0 fs).rangeAt w.heap.size 0 [.int .i64 0,.string ⟨#[]⟩,.bool false,.slice none 0 0,.slice none 0 0,.int .i64 0,.int .i64 0]∧(W6.setCells (w.heap.size+1) 0 fs).rangeAt (w.heap.size+1) 0 fs from by rw[e6];exact HX0)
  have E6:=Hi e6;clear HX0 e6;have HI:=Hi (show (prog.info? 38).map (·.size)=some fs.length from by rw[hflt.three.1];exact infoFl)
  have HO:=Hi (dt.zab hflt.three.2);have HF:=Hi hflt;have hbw:=Hi (bW0.trans (b05.mono bW0.size));have hlo:=Hi (show w.heap.size+1<_∧w.heap.size<_ from an (Nat.lt_of_lt_of_le hz0 bT.size) (Nat.lt_of_lt_of_le (Nat.lt_of_succ_lt hz0) bT.size))
  clear b05 b5 htold hflt
  go_wp2_with (first
   | (refine wpList_store_mid (by rfl) 33 _ _ (by rfl) w.heap.size 0 #[.int .i64 0,.string ⟨#[]⟩,.bool false,.slice none 0 0,.slice none 0 0,.int .i64 0,.int .i64 0] (by rfl) (by rfl) (uh HT1) infoLt (dt.zab (cs:=[.int .i64 0,.string ⟨#[]⟩,.bool false,.slice none 0 0,.slice none 0 0,.int .i64 0,.int .i64 0]) (by rfl)) ?_;rw[←uh E6])
   | refine wpList_store_mid (by rfl) 38 _ _ (by rfl) (w.heap.size+1) 0 fs.toArray (by rfl) (by rfl) (by have:=(uh HX).1;simpa using this) (by have:=uh HI;simpa using this) (uh HO) ?_)
  refine bodyPost_ret (zaT rfl _ _ w.heap.size 0 [.int .i64 0,.string ⟨#[]⟩,.bool false,.slice none 0 0,.slice none 0 0,.int .i64 0,.int .i64 0] _ rfl (uh HX).2.1 underlying33 rfl infoLt (w.heap.size+1) 0 fs _ rfl (uh HX).2.2 underlying38 rfl (uh HI)) rfl ?_
  have e6:=uh E6;subst e6;refine⟨_,[],_,rfl,⟨zao 0 em false 0 0,zar _ 0 em false 0 0,List.nodup_nil,by simp⟩,?_,dt.zad _ _ _ _ (dt.zad _ _ _ _ (uh hbw) (lr _)) (Nat.le_add_right _ 1)⟩
  exact (((uh HF).out (uh hlo).2 _ _).out (uh hlo).1 _ _).mono (Nat.le_of_lt (uh hlo).2)
 | some it =>
  cases hF:C.finB
  ·rw[hF] at hend
   go_wp2_with fail
   refine ((uh hend) _ ((uh HC2).below ((uh bA2) _))).mono ?_
   rintro e w3 ⟨rfl,hc3,hk3⟩;have bT:Below W0.heap.size W0 w3:=(b02.alloc b02.size _).trans (hk3.below hB (Nat.le_trans b02.size ((uh bA2) _).size))
   go_wp2_with fail
   refine ((uh htold) _ C.fin hc3).mono ?_
   rintro e w5 ⟨fs,rfl,hflt,b5⟩;have b05:Below W0.heap.size W0 w5:=bT.trans (b5.mono bT.size);have hne12:w.heap.size≠w.heap.size+1:=by omega
   have HT1:=Hi (show w5.there w.heap.size 0 7 from dt.zac ((b05.block w.heap.size (by omega)).trans hR1) (by decide))
   have HT2:=Hi (show w5.there (w.heap.size+1) 0 fs.length from by rw[hflt.three.1];exact dt.zac ((b05.block (w.heap.size+1) hz0).trans hR2) (by decide))
   have HX0:=res2 hne12 [.int .i64 0,.string ⟨#[]⟩,.bool false,.slice none 0 0,.slice none 0 0,.int .i64 0,.int .i64 0] fs (uh HT1) (uh HT2);obtain⟨W6,e6⟩:∃ W6,W6=w5.setCells w.heap.size 0 (#[.int .i64 0,.string ⟨#[]⟩,.bool false,.slice none 0 0,.slice none 0 0,.int .i64 0,.int .i64 0]:Array Value).toList:=⟨_,rfl⟩;have HX:=Hi (show W6.there (w.heap.size+1) 0 _∧(W6.setCells (w.heap.size+1) 0 fs).rangeAt w.heap.size 0 [.int .i64 0,.string ⟨#[]⟩,.bool false,.slice none 0 0,.slice none 0 0,.int .i64 0,.int .i64 0]∧(W6.setCells (w.heap.size+1) 0 fs).rangeAt (w.heap.size+1) 0 fs from by rw[e6];exact HX0)
   have E6:=Hi e6;clear HX0 e6;have HI:=Hi (show (prog.info? 38).map (·.size)=some fs.length from by rw[hflt.three.1];exact infoFl)
   have HO:=Hi (dt.zab hflt.three.2);have HF:=Hi hflt;have hbw:=Hi (bW0.trans (b05.mono bW0.size));have hlo:=Hi (show w.heap.size+1<_∧w.heap.size<_ from an (Nat.lt_of_lt_of_le hz0 bT.size) (Nat.lt_of_lt_of_le (Nat.lt_of_succ_lt hz0) bT.size))
   clear b05 b5 htold hflt
   go_wp2_with (first
    | (refine wpList_store_mid (by rfl) 33 _ _ (by rfl) w.heap.size 0 #[.int .i64 0,.string ⟨#[]⟩,.bool false,.slice none 0 0,.slice none 0 0,.int .i64 0,.int .i64 0] (by rfl) (by rfl) (uh HT1) infoLt (dt.zab (cs:=[.int .i64 0,.string ⟨#[]⟩,.bool false,.slice none 0 0,.slice none 0 0,.int .i64 0,.int .i64 0]) (by rfl)) ?_;rw[←uh E6])
    | refine wpList_store_mid (by rfl) 38 _ _ (by rfl) (w.heap.size+1) 0 fs.toArray (by rfl) (by rfl) (by have:=(uh HX).1;simpa using this) (by have:=uh HI;simpa using this) (uh HO) ?_)
   refine bodyPost_ret (zaT rfl _ _ w.heap.size 0 [.int .i64 0,.string ⟨#[]⟩,.bool false,.slice none 0 0,.slice none 0 0,.int .i64 0,.int .i64 0] _ rfl (uh HX).2.1 underlying33 rfl infoLt (w.heap.size+1) 0 fs _ rfl (uh HX).2.2 underlying38 rfl (uh HI)) rfl ?_
   have e6:=uh E6;subst e6;refine⟨_,[],_,rfl,⟨zao 0 em false 0 0,zar _ 0 em false 0 0,List.nodup_nil,by simp⟩,?_,dt.zad _ _ _ _ (dt.zad _ _ _ _ (uh hbw) (lr _)) (Nat.le_add_right _ 1)⟩
   exact (((uh HF).out (uh hlo).2 _ _).out (uh hlo).1 _ _).mono (Nat.le_of_lt (uh hlo).2)
  ·rw[hF] at hend
   go_wp2_with fail
   refine ((uh hend) _ ((uh HC2).below ((uh bA2) _))).mono ?_
   rintro e w3 ⟨rfl,hc3,hk3⟩;have hI3:=(hk3.block w2.heap.size (by simp) (by have:=(uh HC2).lt;omega)).trans (heap_alloc_new w2 _)
   have b03:Below W0.heap.size W0 w3:=(b02.alloc b02.size _).trans (hk3.below hB (Nat.le_trans b02.size ((uh bA2) _).size));have i0:w3.cell? ⟨w2.heap.size,0,none⟩=some (.int .i64 kk):=(zG hI3 0).trans rfl;have i1:w3.cell? ⟨w2.heap.size,1,none⟩=some (.string tt):=(zG hI3 1).trans rfl;have i2:w3.cell? ⟨w2.heap.size,2,none⟩=some (.bool bl):=(zG hI3 2).trans rfl;have i3:w3.cell? ⟨w2.heap.size,3,none⟩=some (.slice ai ni ci):=(zG hI3 3).trans rfl
   have i4:w3.cell? ⟨w2.heap.size,4,none⟩=some (.slice af nf cf):=(zG hI3 4).trans rfl;have i5:w3.cell? ⟨w2.heap.size,5,none⟩=some (.int .i64 ln):=(zG hI3 5).trans rfl;have i6:w3.cell? ⟨w2.heap.size,6,none⟩=some (.int .i64 co):=(zG hI3 6).trans rfl;have HW3:=Hi (show Ow w3 (it) [.int .i64 kk,.string tt,.bool bl,.slice ai ni ci,.slice af nf cf,.int .i64 ln,.int .i64 co] F from znJ (zaX (uh HP).own ((uh bA2) _) (fun b hb=>(hrF b hb).2)) hk3 (Nat.lt_of_lt_of_le (Nat.lt_succ_self B) (lr _)) (fun b hb=>⟨by have h1:=(uh HP).rng b hb;have h2:=hB1;omega,by have:=(hrF b hb).2;simp;omega⟩))
   have hz23:=Hi (show w2.heap.size≤w3.heap.size from by have:=hk3.size;simp at this;omega)
   have hne12:w.heap.size≠w.heap.size+1:=by omega
   have HT1:=Hi (show w3.there w.heap.size 0 7 from dt.zac ((b03.block w.heap.size (by omega)).trans hR1) (by decide))
   have HT2:=Hi (show w3.there (w.heap.size+1) 0 3 from dt.zac ((b03.block (w.heap.size+1) hz0).trans hR2) (by decide))
   have HX0:=res2 hne12 [.int .i64 kk,.string tt,.bool bl,.slice ai ni ci,.slice af nf cf,.int .i64 ln,.int .i64 co] [.int .i64 0,.slice none 0 0,.slice none 0 0] (uh HT1) (uh HT2);obtain⟨W6,e6⟩:∃ W6,W6=w3.setCells w.heap.size 0 (#[.int .i64 kk,.string tt,.bool bl,.slice ai ni ci,.slice af nf cf,.int .i64 ln,.int .i64 co]:Array Value).toList:=⟨_,rfl⟩;have HX:=Hi (show W6.there (w.heap.size+1) 0 _∧(W6.setCells (w.heap.size+1) 0 [.int .i64 0,.slice none 0 0,.slice none 0 0]).rangeAt w.heap.size 0 [.int .i64 kk,.string tt,.bool bl,.slice ai ni ci,.slice af nf cf,.int .i64 ln,.int .i64 co]∧(W6.setCells (w.heap.size+1) 0 [.int .i64 0,.slice none 0 0,.slice none 0 0]).rangeAt (w.heap.size+1) 0 [.int .i64 0,.slice none 0 0,.slice none 0 0] from by rw[e6];exact HX0)
   have E6:=Hi e6;clear HX0 e6;have hfin:=Hi (show C.fin=C∧C.kd=0 from ⟨by unfold Cu.fin;rw[hF];rfl,(of_decide_eq_true hF).1⟩)
   have hbw:=Hi (bW0.trans (b03.mono bW0.size));clear hI3 b03 hk3 hc3 hend htold b02 bA2
   go_wp2_with (first
    | (refine wpList_store_mid (by rfl) 33 _ _ (by rfl) w.heap.size 0 #[.int .i64 kk,.string tt,.bool bl,.slice ai ni ci,.slice af nf cf,.int .i64 ln,.int .i64 co] (by rfl) (by rfl) (uh HT1) infoLt (dt.zab (cs:=[.int .i64 kk,.string tt,.bool bl,.slice ai ni ci,.slice af nf cf,.int .i64 ln,.int .i64 co]) (by rfl)) ?_;rw[←uh E6])
    | refine wpList_store_mid (by rfl) 38 _ _ (by rfl) (w.heap.size+1) 0 #[.int .i64 0,.slice none 0 0,.slice none 0 0] (by rfl) (by rfl) (uh HX).1 infoFl (dt.zab (cs:=[.int .i64 0,.slice none 0 0,.slice none 0 0]) (by rfl)) ?_)
   refine bodyPost_ret (zaT rfl _ _ w.heap.size 0 [.int .i64 kk,.string tt,.bool bl,.slice ai ni ci,.slice af nf cf,.int .i64 ln,.int .i64 co] _ rfl (uh HX).2.1 underlying33 rfl infoLt (w.heap.size+1) 0 [.int .i64 0,.slice none 0 0,.slice none 0 0] _ rfl (uh HX).2.2 underlying38 rfl infoFl) rfl ?_
   have e6:=uh E6;subst e6;refine⟨_,F,_,rfl,⟨⟨kk,tt,bl,ai,ni,ci,af,nf,cf,ln,co,rfl⟩,zbc (zbc (uh HW3) (fun hm=>by have:=(hrF _ hm).1;omega) _ _) (fun hm=>by have:=(hrF _ hm).1;omega) _ _,(uh HP).nodup,fun b hb=>⟨by have:=(hrF b hb).1;have:=bW0.size;omega,by rw[dt.zag,dt.zag];have:=(hrF b hb).2;have:=uh hz23;omega⟩⟩,?_,dt.zad _ _ _ _ (dt.zad _ _ _ _ (uh hbw) (lr _)) (Nat.le_add_right _ 1)⟩
   unfold FltAt
   show (if C.fin.kd=0 then _ else _)
   rw[(uh hfin).1,if_pos (uh hfin).2]
theorem infoAz:∃ i z,prog.info? 123=some i∧i.zero=some z∧i.size=10∧i.bytes=128∧z.cells.size=10:=by
 have hin:(prog.info? 123).map (fun i=>(i.bytes,i.size,i.zero.map (·.cells.size)))=some (128,10,some 10):=by kernel_rfl
 cases hq:prog.info? 123 with
 | none=>simp[hq] at hin
 | some i =>
  simp[hq] at hin;obtain⟨h1,h2,z,hz,h3⟩:=hin;exact⟨i,z,rfl,hz,h2,h1,h3⟩
def BrkPA(r:Option (List Dt))(lo:Nat)(w':World)(sl:Value):Prop:=match r with | none=>sl = .slice none 0 0 | some l=>∃ G,Grow 123 10 w' lo l sl G
theorem zkM(E:Cu→Option Dt × Cu)(ct:Bool)(c:Cu)(left right:ByteArray)(hc0:c.Ok)(hlen:c.ts.length≤1099511627777)(hG:Goes E)(hE:∀ cc:Cu,cc.Ok→cc.ts=c.ts→c.ix<cc.ix→FldAt 89 E ct cc)(B p:Nat)(w:World)(h:CurAt w B p c) :
  Calls prog 88 #[ptr B,.string left,.string right,.int .i64 1,.bool ct,.func (.func 89) #[ptr B] #[]] w fun e w'=>∃ sl,e = .returned (.tuple #[sl,.bool (brk E left right 1 c).1.isSome])∧BrkPA (brk E left right 1 c).1 w.heap.size w' sl∧CurAt w' B p (brk E left right 1 c).2∧Kp B w w':=by
 have en:∀ args w,(callFunc 89 args).run prog w = .ok (.enter 89 args) w:=fun _ _=>rfl
 have ho:=Hi (zbb B p c left w h);have hB:=h.lt;have hp:=h.plt
 cases hO:c.opB left
 ·have hs:=Hi (show brk E left right 1 c=(none,c.opn left) from by unfold brk;rw[hO];rfl)
  rw[hO] at ho;clear h hE;unfold ptr at ho ⊢
  go_enter func88,ntmps88
  go_wp2_with fail
  refine (uh ho).mono ?_
  rintro e w1 ⟨rfl,hc1,hk1⟩;clear ho
  go_wp2_with fail
  go_ret2
  rw[uh hs];exact⟨_,rfl,rfl,hc1,hk1⟩
 ·have hst:=za2 hc0 left
  have hoi:=zbL hO;obtain⟨R,hR⟩:∃ R,R=brkF E right 1 c.ts.length [] (c.opn left):=⟨_,rfl⟩;have hs:=Hi (show brk E left right 1 c=R from by unfold brk;rw[hO,hR];rfl)
  rw[hO] at ho;have HR:=Hi hR.symm;clear h hR hO;have hcl:=Hi (fun W (cc:Cu) (hc:CurAt W B p cc)=>zaL B p cc right W hc)
  have hip:=Hi (fun W (cc:Cu) (hc:CurAt W B p cc)=>zam B p cc right W hc)
  have hEE:=Hi (fun (cc:Cu) (h1:cc.Ok) (h2:cc.ts=c.ts) (h3:c.ix<cc.ix)=>hE cc h1 h2 h3 B p)
  clear hE;unfold ptr at ho hcl hip hEE ⊢
  go_enter func88,ntmps88
  go_wp2_with fail
  refine (uh ho).mono ?_
  rintro e w1 ⟨rfl,hc1,hk1⟩;clear ho;have hz1:=hk1.size
  go_wp2_with fail
  go_loopg [14] c.ts.length (fun g sl wr=>∃ (l:List Dt) (cc:Cu) (Gs:List Nat),Hid (brkF E right 1 g l cc=R)∧CurAt wr B p cc∧Hid (Grow 123 10 wr w.heap.size l sl Gs)∧Kp B w wr∧Hid (cc.ts=c.ts)∧c.ts.length≤g+cc.ix∧l.length+1+c.ix≤cc.ix)
  case atStart=>exact⟨[],c.opn left,[],HR,hc1,Hi Grow.nil,hk1,Hi hst.ts,Nat.le_add_right _ _,by rw[hoi];simp;omega⟩
  case round =>
   obtain⟨l,cc,Gs,hrun,hcc,hgr,hkr,hts,hfu,hll⟩:=hrel;have hixl:=hcc.ok.lt;rw[uh hts] at hixl;obtain⟨al,cl,hsl⟩:=(uh hgr).form;subst hsl;obtain⟨g',rfl⟩:∃ g',gk=g'+1:=⟨gk-1,by omega⟩
   by_cases hl0:l.length=0
   ·have hlz:(l.length:Int)<1:=by omega
    have hl1:l.length<1:=by omega
    obtain⟨w2,hw2⟩:∃ w2,w2=wr:=⟨_,rfl⟩;subst hw2;have b2:=Below.refl w2.heap.size w2;have hc2:=hcc;have hgr2:=hgr;have hk2:=hkr;clear hl0
    have hrun2:=Hi (show (match (E cc).1 with | none=>(none,(E cc).2) | some d=>brkF E right 1 g' (l++[d]) (E cc).2)=R from by
     have e:=uh hrun;rw[brkF,if_pos (.inl hl1)] at e
     exact e)
    have hgo:=hG cc hcc.ok;have hcall:=Hi ((uh hEE) cc hcc.ok (uh hts) (by omega) w2 hc2)
    go_wp2_with fail
    refine (uh hcall).mono ?_
    rintro e w3 ⟨cs,F,rfl,hpo,hc3,hk3⟩;obtain⟨U,hU⟩:∃ U,U=E cc:=⟨_,rfl⟩;rw[←hU] at hrun2 hgo hpo hc3 ⊢;obtain⟨r,C⟩:=U;obtain⟨nm,ds,X,Y,⟨k,tx,bl,ai,ni,ci,af,nf,cf,ln,co,rfl⟩,rfl⟩:=hpo.shape;clear hcall hU hrun;have HP:=Hi hpo;clear hpo;have HC3:=Hi hc3;have HK3:=Hi hk3;have hz3:=hk3.size
    cases r with
    | none =>
     have hrun3:=Hi (show (none,C)=R from uh hrun2)
     go_wp2_with fail
     go_ret2
     rw[uh hs,←uh hrun3];exact⟨_,rfl,rfl,(uh HC3).below (ba),(hk2.trans (uh HK3)).trans (Kp.of (ba))⟩
    | some d =>
     have hrun3:=Hi (show brkF E right 1 g' (l++[d]) C=R from uh hrun2)
     have hix3:cc.ix<C.ix:=hgo.2 rfl;have hts3:=hgo.1.ts;have hlt3:=hgo.1.ok.lt;rw[hts3,uh hts] at hlt3;have hgr3:=(uh hgr2).kp (uh HK3) hB;obtain⟨it,zt,q1,q2,q3,q4,q5⟩:=infoAz;have HQ:=Hi (an q1 (an q2 (an q3 (an q4 q5))));clear q1 q2 q3 q4 q5;obtain⟨xss,hr3,hol3,hx3⟩:=hgr3.row;have hr4:=Hi (fun o=>World.ownsRow.alloc hr3 o)
     have hbyt:=Hi (show (l.length+1) * 128≤140737488355328∧l.length+1≤maxLen from ⟨by omega,by unfold maxLen;omega⟩)
     have hsz4:=Hi (fun o=>show w.heap.size≤(w3.alloc o).heap.size from by have:=hz3;have:=b2.size;have:=hkr.size;simp;omega)
     have hone:=Hi ((uh HP).own.one);have HG:=Hi (an hgr3 (an hol3 hx3));have hTS:=Hi hts3;clear hrun2 hgo hts3 hgr3 hr3 hol3 hx3
     go_wp2_with (first
      | (at_builtin;refine dt.zaq (by rfl) _ _ (by rfl) underlying92 (uh HQ).1 (uh HQ).2.1 (uh HQ).2.2.1 (uh HQ).2.2.2.1 (uh HQ).2.2.2.2 (by omega) w.heap.size l.length xss.flatten _ (by rfl) ((uh hr4) _) [.string nm,.int .i64 k,.string tx,.bool bl,.slice ai ni ci,.slice af nf cf,.int .i64 ln,.int .i64 co,.int .i64 X,.int .i64 Y] (by rfl) (uh hone) (w3.heap.size+1) (by simp) (by rfl) (uh hbyt).1 (uh hbyt).2 ((uh hsz4) _) ?_;intro sl' w7 hr7 b7 hold7 hat7;have H7:=Hi (an hr7 (an b7 (an hold7 hat7)));clear hr7 b7 hold7 hat7))
     go_roundg g'
     case rel =>
      obtain⟨hr7,b7,hold7,hat7⟩:=uh H7;obtain⟨hgr3,hol3,hx3⟩:=uh HG;have bA:Below w3.heap.size w3 (w3.alloc (.cells #[.string nm,.int .i64 k,.string tx,.bool bl,.slice ai ni ci,.slice af nf cf,.int .i64 ln,.int .i64 co,.int .i64 X,.int .i64 Y] 123)):=ba;have hgr4:=hgr3.keep bA.size (fun b hb _=>bA.block b hb)
      have hown:=fun b (hb:(Value.slice al l.length cl).ownBlock=some b)=>(let ⟨_,hr,_⟩:=(uh hgr2).row;(hr.lt b hb).2)
      have hF3:∀ b∈F,w2.heap.size≤b∧b<w3.heap.size:=(uh HP).rng;have hsz:w.heap.size≤w2.heap.size:=hk2.size;have hmore:=hgr4.more (dt.OwL.agree (fun w w' e cs F=>dt.Ow.agree e cs F) (fun b hb j=>dt.zaf (bA.block b (hgr3.rng b hb).2) j) hol3) hx3 (zaX (uh HP).own bA (fun b hb=>(hF3 b hb).2)) (uh HP).nodup (fun b hb=>⟨by have:=(hF3 b hb).1;omega,by have:=(hF3 b hb).2;have:=bA.size;omega,fun hm=>by have:=((uh hgr2).rng b hm).2;have:=(hF3 b hb).1;omega,fun e=>by have:=hown b e;have:=(hF3 b hb).1;omega⟩) (by rfl) hr7 (by have:=(hr7.lt);have:=b7.size;exact this) hold7 hat7
      have hBs:B<w3.heap.size:=by omega
      have hCA:=(uh HC3).below bA;refine⟨l++[d],C,Gs++F,hrun3,?_,Hi hmore,?_,Hi ((uh hTS).trans (uh hts)),by omega,by rw[List.length_append];simp;omega⟩
      ·exact hCA.low b7 hB hp
      ·exact ((hk2.trans (uh HK3)).trans (Kp.of bA)).low b7
     case measure=>exact Nat.lt_succ_self _
   ·have hlz:¬((l.length:Int)<1):=by omega
    have hl1:¬l.length<1:=by omega
    clear hl0;have hip2:=Hi ((uh hip) wr cc hcc)
    go_wp2_with fail
    refine (uh hip2).mono ?_
    rintro e w2 ⟨rfl,b2⟩;have hc2:=hcc.below b2;have hgr2:=Hi ((uh hgr).keep b2.size (fun b hb _=>b2.block b hb))
    have hk2:=hkr.trans (Kp.of b2)
    cases hQ:cc.isP right
    ·have hrun2:=Hi (show (match (E cc).1 with | none=>(none,(E cc).2) | some d=>brkF E right 1 g' (l++[d]) (E cc).2)=R from by
      have e:=uh hrun;rw[brkF,if_pos (.inr hQ)] at e
      exact e)
     have hgo:=hG cc hcc.ok;have hcall:=Hi ((uh hEE) cc hcc.ok (uh hts) (by omega) w2 hc2)
     go_wp2_with fail
     refine (uh hcall).mono ?_
     rintro e w3 ⟨cs,F,rfl,hpo,hc3,hk3⟩;obtain⟨U,hU⟩:∃ U,U=E cc:=⟨_,rfl⟩;rw[←hU] at hrun2 hgo hpo hc3 ⊢;obtain⟨r,C⟩:=U;obtain⟨nm,ds,X,Y,⟨k,tx,bl,ai,ni,ci,af,nf,cf,ln,co,rfl⟩,rfl⟩:=hpo.shape;clear hcall hU hip2 hrun;have HP:=Hi hpo;clear hpo;have HC3:=Hi hc3;have HK3:=Hi hk3;have hz3:=hk3.size
     cases r with
     | none =>
      have hrun3:=Hi (show (none,C)=R from uh hrun2)
      go_wp2_with fail
      go_ret2
      rw[uh hs,←uh hrun3];exact⟨_,rfl,rfl,(uh HC3).below (ba),(hk2.trans (uh HK3)).trans (Kp.of (ba))⟩
     | some d =>
      have hrun3:=Hi (show brkF E right 1 g' (l++[d]) C=R from uh hrun2)
      have hix3:cc.ix<C.ix:=hgo.2 rfl;have hts3:=hgo.1.ts;have hlt3:=hgo.1.ok.lt;rw[hts3,uh hts] at hlt3;have hgr3:=(uh hgr2).kp (uh HK3) hB;obtain⟨it,zt,q1,q2,q3,q4,q5⟩:=infoAz;have HQ:=Hi (an q1 (an q2 (an q3 (an q4 q5))));clear q1 q2 q3 q4 q5;obtain⟨xss,hr3,hol3,hx3⟩:=hgr3.row;have hr4:=Hi (fun o=>World.ownsRow.alloc hr3 o)
      have hbyt:=Hi (show (l.length+1) * 128≤140737488355328∧l.length+1≤maxLen from ⟨by omega,by unfold maxLen;omega⟩)
      have hsz4:=Hi (fun o=>show w.heap.size≤(w3.alloc o).heap.size from by have:=hz3;have:=b2.size;have:=hkr.size;simp;omega)
      have hone:=Hi ((uh HP).own.one);have HG:=Hi (an hgr3 (an hol3 hx3));have hTS:=Hi hts3;clear hrun2 hgo hts3 hgr3 hr3 hol3 hx3
      go_wp2_with (first
       | (at_builtin;refine dt.zaq (by rfl) _ _ (by rfl) underlying92 (uh HQ).1 (uh HQ).2.1 (uh HQ).2.2.1 (uh HQ).2.2.2.1 (uh HQ).2.2.2.2 (by omega) w.heap.size l.length xss.flatten _ (by rfl) ((uh hr4) _) [.string nm,.int .i64 k,.string tx,.bool bl,.slice ai ni ci,.slice af nf cf,.int .i64 ln,.int .i64 co,.int .i64 X,.int .i64 Y] (by rfl) (uh hone) (w3.heap.size+1) (by simp) (by rfl) (uh hbyt).1 (uh hbyt).2 ((uh hsz4) _) ?_;intro sl' w7 hr7 b7 hold7 hat7;have H7:=Hi (an hr7 (an b7 (an hold7 hat7)));clear hr7 b7 hold7 hat7))
      go_roundg g'
      case rel =>
       obtain⟨hr7,b7,hold7,hat7⟩:=uh H7;obtain⟨hgr3,hol3,hx3⟩:=uh HG;have bA:Below w3.heap.size w3 (w3.alloc (.cells #[.string nm,.int .i64 k,.string tx,.bool bl,.slice ai ni ci,.slice af nf cf,.int .i64 ln,.int .i64 co,.int .i64 X,.int .i64 Y] 123)):=ba;have hgr4:=hgr3.keep bA.size (fun b hb _=>bA.block b hb)
       have hown:=fun b (hb:(Value.slice al l.length cl).ownBlock=some b)=>(let ⟨_,hr,_⟩:=(uh hgr2).row;(hr.lt b hb).2)
       have hF3:∀ b∈F,w2.heap.size≤b∧b<w3.heap.size:=(uh HP).rng;have hsz:w.heap.size≤w2.heap.size:=hk2.size;have hmore:=hgr4.more (dt.OwL.agree (fun w w' e cs F=>dt.Ow.agree e cs F) (fun b hb j=>dt.zaf (bA.block b (hgr3.rng b hb).2) j) hol3) hx3 (zaX (uh HP).own bA (fun b hb=>(hF3 b hb).2)) (uh HP).nodup (fun b hb=>⟨by have:=(hF3 b hb).1;omega,by have:=(hF3 b hb).2;have:=bA.size;omega,fun hm=>by have:=((uh hgr2).rng b hm).2;have:=(hF3 b hb).1;omega,fun e=>by have:=hown b e;have:=(hF3 b hb).1;omega⟩) (by rfl) hr7 (by have:=(hr7.lt);have:=b7.size;exact this) hold7 hat7
       have hBs:B<w3.heap.size:=by omega
       have hCA:=(uh HC3).below bA;refine⟨l++[d],C,Gs++F,hrun3,?_,Hi hmore,?_,Hi ((uh hTS).trans (uh hts)),by omega,by rw[List.length_append];simp;omega⟩
       ·exact hCA.low b7 hB hp
       ·exact ((hk2.trans (uh HK3)).trans (Kp.of bA)).low b7
      case measure=>exact Nat.lt_succ_self _
    ·have hrun2:=Hi (show (some l,cc.cls right)=R from by
      have e:=uh hrun;rw[brkF,if_neg (fun e=>by rcases e with e | e;omega;rw[hQ] at e;cases e)] at e
      exact e)
     have hcl2:=Hi ((uh hcl) w2 cc hc2);rw[hQ] at hcl2;clear hrun hip2
     go_wp2_with fail
     refine (uh hcl2).mono ?_
     rintro e w3 ⟨rfl,hc3,hk3⟩;clear hcl2
     go_wp2_with fail
     go_ret2
     rw[uh hs,←uh hrun2];exact⟨_,rfl,⟨Gs,(uh hgr2).kp hk3 hB⟩,hc3,hk2.trans hk3⟩
theorem _root_.Go.Proofs.YtepmbmbnlmbhhaaGreat.dt.Grow.lo{t:TypeId}{size:Nat}{w:World}{B B':Nat}{l:List Dt}{sl:Value}{G:List Nat}(h:Grow t size w B l sl G)(hb:B'≤B):Grow t size w B' l sl G:=
 ⟨h.nodup,fun b hb'=>⟨Nat.le_trans hb (h.rng b hb').1,(h.rng b hb').2⟩,h.own,by
  obtain⟨xss,h1,h2,h3⟩:=h.row
  exact⟨xss,⟨h1.1,h1.2.imp id (fun ⟨g',r1,r2,r3,r4,r5⟩=>⟨g',r1,r2,r3,Nat.le_trans hb r4,r5⟩)⟩,h2,h3⟩⟩
def bLp:ByteArray:=⟨#[40]⟩
def bRp:ByteArray:=⟨#[41]⟩
def bAt:ByteArray:=⟨#[64]⟩
def argsS(L:Cu→Option Dt × Cu)(c:Cu):Option (List Dt) × Cu:=if c.isP bLp then brk (argS L) bLp bRp 1 c else (if c.kd=0 then some [] else none,c)
def ArgsAt(A:Cu→Option (List Dt) × Cu)(ct:Bool)(c:Cu):Prop:=∀ (B p:Nat) (w:World),CurAt w B p c→Calls prog 55 #[ptr B,.bool ct] w fun e w'=>∃ sl,e = .returned (.tuple #[sl,.bool (A c).1.isSome])∧BrkPA (A c).1 w.heap.size w' sl∧CurAt w' B p (A c).2∧Kp B w w'
theorem zkH(L:Cu→Option Dt × Cu)(ct:Bool)(c:Cu)(hc0:c.Ok)(hlen:c.ts.length≤1099511627777)(hG:Goes L)(hE:∀ cc:Cu,cc.Ok→cc.ts=c.ts→c.ix<cc.ix→FldAt 89 (argS L) ct cc):ArgsAt (argsS L) ct c:=by
 intro B p w h;have hi:=Hi (zam B p c bLp w h);have hd:=Hi (fun W (bb:Below w.heap.size w W)=>zbE B p c W (h.below bb))
 have hb:=Hi (fun W (bb:Below w.heap.size w W)=>zkM (argS L) ct c bLp bRp hc0 hlen (zbi hG) hE B p W (h.below bb))
 have hcb:=Hi (fun W (bb:Below w.heap.size w W)=>h.below bb)
 unfold argsS
 cases hP:c.isP bLp
 ·rw[hP] at hi
  simp only[Bool.false_eq_true,if_false];clear hb h hE;unfold ptr at hi hd ⊢
  by_cases hk:c.kd=0
  ·rw[if_pos hk]
   rw[show (c.kd != 0)=false by simpa using hk] at hd
   clear hk
   go_enter func55,ntmps55
   go_wp2_with fail
   refine (uh hi).mono ?_
   rintro e w1 ⟨rfl,b1⟩
   go_wp2_with fail
   refine ((uh hd) w1 b1).mono ?_
   rintro e w2 ⟨rfl,hw⟩;obtain rfl:w1=w2:=hw.symm
   go_wp2_with fail
   go_ret2
   exact⟨_,rfl,⟨[],Grow.nil⟩,(uh hcb) _ b1,Kp.of b1⟩
  ·rw[if_neg hk]
   rw[show (c.kd != 0)=true by simpa using hk] at hd
   clear hk
   go_enter func55,ntmps55
   go_wp2_with fail
   refine (uh hi).mono ?_
   rintro e w1 ⟨rfl,b1⟩
   go_wp2_with fail
   refine ((uh hd) w1 b1).mono ?_
   rintro e w2 ⟨rfl,hw⟩;obtain rfl:w1=w2:=hw.symm
   go_wp2_with fail
   go_ret2
   exact⟨_,rfl,rfl,(uh hcb) _ b1,Kp.of b1⟩
 ·rw[hP] at hi
  simp only[if_true];clear h hE hd;unfold ptr at hi hb ⊢
  go_enter func55,ntmps55
  go_wp2_with fail
  refine (uh hi).mono ?_
  rintro e w1 ⟨rfl,b1⟩
  go_wp2_with fail
  refine ((uh hb) w1 b1).mono ?_
  rintro e w2 ⟨sl,rfl,hbp,hc2,hk2⟩
  go_wp2_with fail
  go_ret2
  refine⟨sl,rfl,?_,hc2,(Kp.of b1).trans hk2⟩
  have h1:=b1.size;unfold BrkPA at hbp ⊢
  split at hbp
  ·exact hbp
  ·obtain⟨G,hg⟩:=hbp
   exact⟨G,hg.lo h1⟩
theorem infoDi:(prog.info? 126).map (·.size)=some 4:=by kernel_rfl
def dirD(nm:ByteArray)(l:List Dt)(ln co:Int):Dt:=.val (.string nm) (.lst 10 (Dt.of l) (.val (.int .i64 ln) (.val (.int .i64 co) .nil)))
def dirZ:Dt:=dirD em [] 0 0
def dirS(L:Cu→Option Dt × Cu)(c:Cu):Option Dt × Cu:=
 match (argsS L c.take.name).1 with
 | none=>(none,(argsS L c.take.name).2)
 | some l=>(some (dirD c.take.tok.tx l c.tok.ln c.tok.co),(argsS L c.take.name).2)
structure DirPost (d:Dt) (w w':World) (cs:List Value) (F:List Nat):Prop where
 shape:∃ nm a n c ln co,cs=[.string nm,.slice a n c,.int .i64 ln,.int .i64 co]
 own:Ow w' d cs F
 nodup:F.Nodup
 rng:∀ b∈F,w.heap.size≤b∧b<w'.heap.size
def DirAt(E:Cu→Option Dt × Cu)(ct:Bool)(c:Cu):Prop:=∀ (B p:Nat) (w:World),CurAt w B p c→Calls prog 90 #[ptr B,.bool ct] w fun e w'=>∃ cs F,e = .returned (.tuple #[.agg cs.toArray,.bool (E c).1.isSome])∧DirPost ((E c).1.getD dirZ) w w' cs F∧CurAt w' B p (E c).2∧Kp B w w'
theorem zg7{t:TypeId}{w:World}{lo:Nat}{l:List Dt}{sl:Value}{G:List Nat}(h:Grow t 10 w lo l sl G)(nm:ByteArray)(ln co:Int):∃ a n c F,sl = .slice a n c∧Ow w (dirD nm l ln co) [.string nm,.slice a n c,.int .i64 ln,.int .i64 co] F∧F.Nodup∧∀ b∈F,lo≤b∧b<w.heap.size:=by
 obtain⟨a,n,c,F,rfl,h1,h2,h3,h4,h5,h6,h7⟩:=h.shut;refine⟨a,n,c,F,rfl,?_,h4,h5⟩
 unfold dirD;unfold Ow;refine⟨_,rfl,rfl,?_⟩
 unfold Ow;exact⟨a,n,c,_,F,[],rfl,h1,h2,h3,h7,zdD _ _ _,by simp⟩
theorem zgl(L:Cu→Option Dt × Cu){c:Cu}(h:c.kd≠0):(argsS L c).1=none:=by
 unfold argsS;have:c.isP bLp=false:=by unfold Cu.isP;simp[h]
 rw[this];simp[h]
theorem zkr(L:Cu→Option Dt × Cu)(c:Cu)(h:(argsS L c.name).1.isSome=true):c.isN=true:=by
 cases hN:c.isN
 ·exfalso
  have h1:c.name.kd≠0:=by
   unfold Cu.name;rw[hN];unfold Cu.stop;simp only[Bool.false_eq_true,if_false]
   split
   ·show (70:Int)≠0;decide
   ·assumption
  rw[zgl L h1] at h
  cases h
 ·rfl
theorem zmt(L:Cu→Option Dt × Cu)(ct:Bool)(c:Cu)(hc0:c.Ok)(hm:c.ix+1<c.ts.length)(hA:ArgsAt (argsS L) ct c.take.name):DirAt (dirS L) ct c:=by
 intro B p w h;have ht:=Hi (fun W (bb:Below w.heap.size w W)=>zcH B p c W (h.below bb) hm)
 have hn:=Hi (fun W (hc:CurAt W B p c.take)=>zbU B p c.take W hc)
 have ha:=Hi (fun W (hc:CurAt W B p c.take.name)=>hA B p W hc)
 have hlt:=h.lt;have hplt:=h.plt;have hne:B≠w.heap.size:=by omega
 have hnp:p≠w.heap.size:=by omega
 have bA:=qA w;have hs0:=Hi (show (argsS L c.take.name).1=none→dirS L c=(none,(argsS L c.take.name).2) from fun e=>by unfold dirS;rw[e])
 have hs1:=Hi (show ∀ l,(argsS L c.take.name).1=some l→dirS L c=(some (dirD c.take.tok.tx l c.tok.ln c.tok.co),(argsS L c.take.name).2) from fun l e=>by unfold dirS;rw[e])
 have hN:=Hi (zkr L c.take);rw[zaW] at hn;obtain⟨U,hU⟩:∃ U,U=argsS L c.take.name:=⟨_,rfl⟩;rw[←hU] at ha hs0 hs1 hN;clear h hA hU;obtain⟨r,C⟩:=U;obtain⟨t,et⟩:∃ t,t=c.tok:=⟨_,rfl⟩;rw[←et] at ht hs1;clear et;obtain⟨A,hA⟩:∃ A,A=if c.take.isN then c.take.tok.tx else em:=⟨_,rfl⟩
 rw[←hA] at hn;have HA:=Hi hA;obtain⟨X,hX⟩:∃ X,X=if c.take.isN then c.take.tok.ln else 0:=⟨_,rfl⟩
 obtain⟨Y,hY⟩:∃ Y,Y=if c.take.isN then c.take.tok.co else 0:=⟨_,rfl⟩
 rw[←hX,←hY] at hn;clear hA hX hY;unfold Tk.cells at ht;unfold ptr at ht hn ha ⊢
 go_enter func90,ntmps90
 go_wp2_with fail
 refine ((uh ht) _ ((uh bA) _)).mono ?_
 rintro e w1 ⟨rfl,hc1,hk1⟩;have hR1:=(hk1.block w.heap.size (by simp) (by omega)).trans (heap_alloc_new w _)
 have hz1:w.heap.size<w1.heap.size:=by have:=hk1.size;simp at this;omega
 clear ht
 go_wp2_with fail
 have bT:=fun o=>show Below w1.heap.size w1 (w1.alloc o) from ba
 refine ((uh hn) _ (hc1.below (bT _))).mono ?_
 rintro e w2 ⟨rfl,hc2,hk2⟩;have hT2:=(hk2.block w1.heap.size (by simp) (by omega)).trans (heap_alloc_new w1 _)
 have hR2:=(hk2.block w.heap.size (by simp;omega) (by omega)).trans (((bT _).block _ hz1).trans hR1)
 have hz2:w1.heap.size<w2.heap.size:=by have:=hk2.size;simp at this;omega
 have hk12:=hk1.trans ((Kp.of (bT _)).trans hk2);clear hn
 go_wp2_with fail
 have bN:=fun o=>show Below w2.heap.size w2 (w2.alloc o) from ba
 refine ((uh ha) _ (hc2.below (bN _))).mono ?_
 rintro e w3 ⟨sl,rfl,hbp,hc3,hk3⟩;have hz3:w2.heap.size<w3.heap.size:=by have:=hk3.size;simp at this;omega
 have hN3:=(hk3.block w2.heap.size (by simp) (by omega)).trans (heap_alloc_new w2 _)
 have hT3:=(hk3.block w1.heap.size (by simp;omega) (by omega)).trans (((bN _).block _ hz2).trans hT2)
 have hR3:=(hk3.block w.heap.size (by simp;omega) (by omega)).trans (((bN _).block _ (by omega)).trans hR2)
 have HK:=Hi ((Kp.of ((uh bA) _)).trans (hk12.trans ((Kp.of (bN _)).trans hk3)));have HC:=Hi hc3;have HB:=Hi hbp;have d0:w3.cell? ⟨w2.heap.size,0,none⟩=some (.string A):=(zG hN3 0).trans rfl;have d1:w3.cell? ⟨w1.heap.size,1,none⟩=some (.int .i64 t.ln):=(zG hT3 1).trans rfl;have d2:w3.cell? ⟨w1.heap.size,2,none⟩=some (.int .i64 t.co):=(zG hT3 2).trans rfl;have HT:=Hi (dt.zac hR3 (o:=0) (n:=4) (by decide))
 have hlo:=Hi (show w.heap.size<w2.heap.size∧w2.heap.size≤(w2.alloc (.cells #[.string A,.int .i64 X,.int .i64 Y] 84)).heap.size from ⟨by omega,by simp⟩)
 clear ha hk1 hk2 hk3 hk12 hc1 hc2 hc3 hbp bT bN hR1 hR2 hR3 hT2 hT3 hN3 bA
 cases r with
 | none =>
  have hs2:=Hi ((uh hs0) rfl);obtain rfl:sl = .slice none 0 0:=uh HB;clear hs0 hs1
  go_wp2_with (first
   | refine wpList_store_mid (by rfl) 126 _ _ (by rfl) w.heap.size 0 #[.string ⟨#[]⟩,.slice none 0 0,.int .i64 0,.int .i64 0] (by rfl) (by rfl) (uh HT) infoDi (dt.zab (cs:=[.string ⟨#[]⟩,.slice none 0 0,.int .i64 0,.int .i64 0]) (by rfl)) ?_)
  refine bodyPost_ret (rgn.zaa rfl _ _ w.heap.size 0 [.string ⟨#[]⟩,.slice none 0 0,.int .i64 0,.int .i64 0] _ rfl (World.rangeAt_setCells_same _ _ _ _ (uh HT)) underlying126 rfl infoDi) rfl ?_
  rw[uh hs2];obtain⟨a0,n0,c0,F0,e0,o0,nd0,rg0⟩:=zg7 (t:=123) (w:=w3.setCells w.heap.size 0 [.string ⟨#[]⟩,.slice none 0 0,.int .i64 0,.int .i64 0]) (lo:=w.heap.size) (G:=[]) Grow.nil em 0 0;simp only[Value.slice.injEq] at e0;obtain⟨rfl,rfl,rfl⟩:=e0;exact⟨_,F0,rfl,⟨⟨_,_,_,_,_,_,rfl⟩,o0,nd0,rg0⟩,(uh HC).out hne hnp _ _,(uh HK).out (lr _) _ _⟩
 | some l =>
  have hs2:=Hi ((uh hs1) l rfl);have hNN:=(uh hN) rfl;have hAe:A=c.take.tok.tx:=by have:=uh HA;rw[hNN] at this;exact this
  have hAh:=Hi hAe;obtain⟨Gs,hgr⟩:=uh HB;obtain⟨a,n,c',F,rfl,how,hnd,hrg⟩:=zg7 hgr A t.ln t.co;have HO:=Hi (an how (an hnd hrg));clear hs0 hs1 how hnd hrg hgr HB hAe hNN
  go_wp2_with (first
   | refine wpList_store_mid (by rfl) 126 _ _ (by rfl) w.heap.size 0 #[.string A,.slice a n c',.int .i64 t.ln,.int .i64 t.co] (by rfl) (by rfl) (uh HT) infoDi (dt.zab (cs:=[.string A,.slice a n c',.int .i64 t.ln,.int .i64 t.co]) (by rfl)) ?_)
  refine bodyPost_ret (rgn.zaa rfl _ _ w.heap.size 0 [.string A,.slice a n c',.int .i64 t.ln,.int .i64 t.co] _ rfl (World.rangeAt_setCells_same _ _ _ _ (uh HT)) underlying126 rfl infoDi) rfl ?_
  obtain⟨how,hnd,hrg⟩:=uh HO;have hlo2:=uh hlo;rw[uh hs2,←uh hAh];exact⟨_,F,rfl,⟨⟨_,_,_,_,_,_,rfl⟩,zbc how (fun hb=>by have:=(hrg _ hb).1;omega) 0 _,hnd,fun b hb=>⟨by have:=(hrg b hb).1;omega,by rw[dt.zag];exact (hrg b hb).2⟩⟩,(uh HC).out hne hnp _ _,(uh HK).out (lr _) _ _⟩
theorem infoDz:∃ i z,prog.info? 126=some i∧i.zero=some z∧i.size=4∧i.bytes=56∧z.cells.size=4:=by
 have hin:(prog.info? 126).map (fun i=>(i.bytes,i.size,i.zero.map (·.cells.size)))=some (56,4,some 4):=by kernel_rfl
 cases hq:prog.info? 126 with
 | none=>simp[hq] at hin
 | some i =>
  simp[hq] at hin;obtain⟨h1,h2,z,hz,h3⟩:=hin;exact⟨i,z,rfl,hz,h2,h1,h3⟩
def BrkPD(r:Option (List Dt))(lo:Nat)(w':World)(sl:Value):Prop:=match r with | none=>sl = .slice none 0 0 | some l=>∃ G,Grow 126 4 w' lo l sl G
def dirsF(L:Cu→Option Dt × Cu):Nat→List Dt→Cu→Option (List Dt) × Cu
 | 0,l,c=>(none,c)
 | g+1,l,c=>if c.isP bAt=true then (match (dirS L c).1 with | none=>(none,(dirS L c).2) | some d=>dirsF L g (l++[d]) (dirS L c).2) else (if c.kd=0 then some l else none,c)
def dirs(L:Cu→Option Dt × Cu)(c:Cu):Option (List Dt) × Cu:=dirsF L c.ts.length [] c
theorem zdv{E:Cu→Option Dt × Cu}(right:ByteArray)(least:Nat):∀ (g:Nat) (l:List Dt) (c:Cu),(brkF E right least g l c).1.isSome=true→(brkF E right least g l c).2.kd=0
 | 0,l,c,h=>by cases h
 | g+1,l,c,h=>by
  simp only[brkF] at h ⊢
  by_cases hc:l.length<least∨c.isP right=false
  ·rw[if_pos hc] at h ⊢
   cases hq:(E c).1 with
   | none=>rw[hq] at h;cases h
   | some d=>rw[hq] at h;exact zdv right least g _ _ h
  ·rw[if_neg hc]
   have hp:c.isP right=true:=by cases hp:c.isP right with | true=>rfl | false=>exact absurd (.inr hp) hc
   show (c.cls right).kd=0
   unfold Cu.cls;rw[if_pos hp];exact (ze7 hp).1
theorem zgZ{E:Cu→Option Dt × Cu}{left right:ByteArray}{least:Nat}{c:Cu}(h:(brk E left right least c).1.isSome=true):(brk E left right least c).2.kd=0:=by
 unfold brk at h ⊢
 split at h
 ·rename_i ho
  rw[if_pos ho];exact zdv _ _ _ _ _ h
 ·cases h
theorem zc1{L:Cu→Option Dt × Cu}{c:Cu}(h:(argsS L c).1.isSome=true):(argsS L c).2.kd=0:=by
 unfold argsS at h ⊢
 split at h
 ·rename_i ho
  rw[if_pos ho];exact zgZ h
 ·rename_i ho
  rw[if_neg ho]
  by_cases hk:c.kd=0
  ·exact hk
  ·rw[if_neg hk] at h;cases h
theorem zgr{L:Cu→Option Dt × Cu}{c:Cu}(h:(dirS L c).1.isSome=true):(dirS L c).2.kd=0:=by
 unfold dirS at h ⊢
 cases hq:(argsS L c.take.name).1 with
 | none=>rw[hq] at h;cases h
 | some l=>exact zc1 (by rw[hq];rfl)
theorem zb4{L:Cu→Option Dt × Cu}(hL:Goes L){c:Cu}(h:c.Ok):Stp c (argsS L c).2:=by
 unfold argsS
 split
 ·exact (zdM (zbi hL) bLp bRp 1 c h).1
 ·exact Stp.refl h
theorem zi0{L:Cu→Option Dt × Cu}(hL:Goes L){c:Cu}(h:c.Ok)(hp:c.isP bAt=true):Stp c (dirS L c).2∧c.ix<(dirS L c).2.ix:=by
 have h1:=takeP h hp;have h2:=zan h1.ok;have h3:=zb4 hL h2.ok;have h4:=(h1.trans h2).trans h3;have h5:c.ix<(argsS L c.take.name).2.ix:=Nat.lt_of_lt_of_le (Nat.lt_succ_self _) (Nat.le_trans h2.ix h3.ix);unfold dirS
 cases (argsS L c.take.name).1 <;> exact⟨h4,h5⟩
def DirsAt(A:Cu→Option (List Dt) × Cu)(ct:Bool)(c:Cu):Prop:=∀ (B p:Nat) (w:World),CurAt w B p c→Calls prog 58 #[ptr B,.bool ct] w fun e w'=>∃ sl,e = .returned (.tuple #[sl,.bool (A c).1.isSome])∧BrkPD (A c).1 w.heap.size w' sl∧CurAt w' B p (A c).2∧Kp B w w'
theorem zkS(L:Cu→Option Dt × Cu)(ct:Bool)(c:Cu)(hc0:c.Ok)(hlen:c.ts.length≤1099511627777)(hL:Goes L)(hE:∀ cc:Cu,cc.Ok→cc.ts=c.ts→c.ix≤cc.ix→cc.isP bAt=true→DirAt (dirS L) ct cc):DirsAt (dirs L) ct c:=by
 intro B p w h;have hB:=h.lt;have hp:=h.plt;have hG:∀ cc:Cu,cc.Ok→cc.isP bAt=true→Stp cc (dirS L cc).2∧cc.ix<(dirS L cc).2.ix:=fun cc h hp=>zi0 hL h hp
 obtain⟨R,hR⟩:∃ R,R=dirsF L c.ts.length [] c:=⟨_,rfl⟩;have hs:=Hi (show dirs L c=R from hR.symm)
 have HR:=Hi hR.symm;have HC0:=Hi h;clear h hR;have hip:=Hi (fun W (cc:Cu) (hc:CurAt W B p cc)=>zam B p cc bAt W hc)
 have hdd:=Hi (fun W (cc:Cu) (hc:CurAt W B p cc)=>zbE B p cc W hc)
 have hEE:=Hi (fun (cc:Cu) (h1:cc.Ok) (h2:cc.ts=c.ts) (h3:c.ix≤cc.ix) h4=>hE cc h1 h2 h3 h4 B p)
 clear hE;unfold ptr at hip hdd hEE ⊢
 go_enter func58,ntmps58
 go_wp2_with fail
 go_loopg [6] c.ts.length (fun g sl wr=>∃ (l:List Dt) (cc:Cu) (Gs:List Nat),Hid (dirsF L g l cc=R)∧CurAt wr B p cc∧Hid (Grow 126 4 wr w.heap.size l sl Gs)∧Kp B w wr∧Hid (cc.ts=c.ts)∧c.ts.length≤g+cc.ix∧l.length+c.ix≤cc.ix∧Hid ((l=[]→sl = .slice none 0 0)∧(l≠[]→cc.kd=0)))
 case atStart=>exact⟨[],c,[],HR,uh HC0,Hi Grow.nil,Kp.refl _ _,Hi rfl,Nat.le_add_right _ _,by simp,Hi ⟨fun _=>rfl,fun h=>absurd rfl h⟩⟩
 case round =>
  obtain⟨l,cc,Gs,hrun,hcc,hgr,hkr,hts,hfu,hll,hnl⟩:=hrel;have hixl:=hcc.ok.lt;rw[uh hts] at hixl;obtain⟨al,cl,hsl⟩:=(uh hgr).form;subst hsl;obtain⟨g',rfl⟩:∃ g',gk=g'+1:=⟨gk-1,by omega⟩
  have hip2:=Hi ((uh hip) wr cc hcc)
  go_wp2_with fail
  refine (uh hip2).mono ?_
  rintro e w2 ⟨rfl,b2⟩;have hc2:=hcc.below b2;have hgr2:=Hi ((uh hgr).keep b2.size (fun b hb _=>b2.block b hb))
  have hk2:=hkr.trans (Kp.of b2)
  cases hQ:cc.isP bAt
  ·have hdd2:=Hi ((uh hdd) w2 cc hc2)
   have hrun2:=Hi (show ((if cc.kd=0 then some l else none),cc)=R from by
    have e:=uh hrun;rw[dirsF,if_neg (by rw[hQ];decide)] at e
    exact e)
   clear hrun hip2
   by_cases hk:cc.kd=0
   ·rw[if_pos hk] at hrun2
    rw[show (cc.kd != 0)=false by simpa using hk] at hdd2
    clear hk
    go_wp2_with fail
    refine (uh hdd2).mono ?_
    rintro e w3 ⟨rfl,hw⟩;obtain rfl:w2=w3:=hw.symm
    go_wp2_with fail
    go_ret2
    rw[uh hs,←uh hrun2];exact⟨_,rfl,⟨Gs,uh hgr2⟩,hc2,hk2⟩
   ·rw[if_neg hk] at hrun2
    rw[show (cc.kd != 0)=true by simpa using hk] at hdd2
    have hnil:=Hi ((uh hnl).1 (Classical.byContradiction fun e=>hk ((uh hnl).2 e)))
    clear hk
    go_wp2_with fail
    refine (uh hdd2).mono ?_
    rintro e w3 ⟨rfl,hw⟩;obtain rfl:w2=w3:=hw.symm
    go_wp2_with fail
    go_ret2
    rw[uh hs,←uh hrun2];exact⟨_,rfl,uh hnil,hc2,hk2⟩
  ·have hrun2:=Hi (show (match (dirS L cc).1 with | none=>(none,(dirS L cc).2) | some d=>dirsF L g' (l++[d]) (dirS L cc).2)=R from by
    have e:=uh hrun;rw[dirsF,if_pos hQ] at e
    exact e)
   have hgo:=hG cc hcc.ok hQ;have hal:=fun h=>zgr (L:=L) (c:=cc) h
   have hcall:=Hi ((uh hEE) cc hcc.ok (uh hts) (by omega) hQ w2 hc2)
   go_wp2_with fail
   refine (uh hcall).mono ?_
   rintro e w3 ⟨cs,F,rfl,hpo,hc3,hk3⟩;obtain⟨U,hU⟩:∃ U,U=dirS L cc:=⟨_,rfl⟩;rw[←hU] at hrun2 hgo hpo hc3 hal ⊢;obtain⟨r,C⟩:=U;obtain⟨nm,ai,ni,ci,ln,co,rfl⟩:=hpo.shape;clear hcall hU hrun;have HP:=Hi hpo;clear hpo;have HC3:=Hi hc3;have HK3:=Hi hk3;have hz3:=hk3.size
   cases r with
   | none =>
    have hrun3:=Hi (show (none,C)=R from uh hrun2)
    go_wp2_with fail
    go_ret2
    rw[uh hs,←uh hrun3];exact⟨_,rfl,rfl,(uh HC3).below (ba),(hk2.trans (uh HK3)).trans (Kp.of (ba))⟩
   | some d =>
    have hrun3:=Hi (show dirsF L g' (l++[d]) C=R from uh hrun2)
    have hix3:cc.ix<C.ix:=hgo.2;have hts3:=hgo.1.ts;have hal3:=Hi (show C.kd=0 from hal rfl)
    have hlt3:=hgo.1.ok.lt;rw[hts3,uh hts] at hlt3;have hgr3:=(uh hgr2).kp (uh HK3) hB;obtain⟨it,zt,q1,q2,q3,q4,q5⟩:=infoDz;have HQ:=Hi (an q1 (an q2 (an q3 (an q4 q5))));clear q1 q2 q3 q4 q5;obtain⟨xss,hr3,hol3,hx3⟩:=hgr3.row;have hr4:=Hi (fun o=>World.ownsRow.alloc hr3 o)
    have hbyt:=Hi (show (l.length+1) * 56≤140737488355328∧l.length+1≤maxLen from ⟨by omega,by unfold maxLen;omega⟩)
    have hsz4:=Hi (fun o=>show w.heap.size≤(w3.alloc o).heap.size from by have:=hz3;have:=b2.size;have:=hkr.size;simp;omega)
    have hone:=Hi ((uh HP).own.one);have HG:=Hi (an hgr3 (an hol3 hx3));have hTS:=Hi hts3;clear hrun2 hgo hts3 hgr3 hr3 hol3 hx3 hal
    go_wp2_with (first
     | (at_builtin;refine dt.zaq (by rfl) _ _ (by rfl) underlying96 (uh HQ).1 (uh HQ).2.1 (uh HQ).2.2.1 (uh HQ).2.2.2.1 (uh HQ).2.2.2.2 (by omega) w.heap.size l.length xss.flatten _ (by rfl) ((uh hr4) _) [.string nm,.slice ai ni ci,.int .i64 ln,.int .i64 co] (by rfl) (uh hone) (w3.heap.size+1) (by simp) (by rfl) (uh hbyt).1 (uh hbyt).2 ((uh hsz4) _) ?_;intro sl' w7 hr7 b7 hold7 hat7;have H7:=Hi (an hr7 (an b7 (an hold7 hat7)));clear hr7 b7 hold7 hat7))
    go_roundg g'
    case rel =>
     obtain⟨hr7,b7,hold7,hat7⟩:=uh H7;obtain⟨hgr3,hol3,hx3⟩:=uh HG;have bA:Below w3.heap.size w3 (w3.alloc (.cells #[.string nm,.slice ai ni ci,.int .i64 ln,.int .i64 co] 126)):=ba;have hgr4:=hgr3.keep bA.size (fun b hb _=>bA.block b hb)
     have hown:=fun b (hb:(Value.slice al l.length cl).ownBlock=some b)=>(let ⟨_,hr,_⟩:=(uh hgr2).row;(hr.lt b hb).2)
     have hF3:∀ b∈F,w2.heap.size≤b∧b<w3.heap.size:=(uh HP).rng;have hsz:w.heap.size≤w2.heap.size:=hk2.size;have hmore:=hgr4.more (dt.OwL.agree (fun w w' e cs F=>dt.Ow.agree e cs F) (fun b hb j=>dt.zaf (bA.block b (hgr3.rng b hb).2) j) hol3) hx3 (zaX (uh HP).own bA (fun b hb=>(hF3 b hb).2)) (uh HP).nodup (fun b hb=>⟨by have:=(hF3 b hb).1;omega,by have:=(hF3 b hb).2;have:=bA.size;omega,fun hm=>by have:=((uh hgr2).rng b hm).2;have:=(hF3 b hb).1;omega,fun e=>by have:=hown b e;have:=(hF3 b hb).1;omega⟩) (by rfl) hr7 (by have:=(hr7.lt);have:=b7.size;exact this) hold7 hat7
     have hBs:B<w3.heap.size:=by omega
     have hCA:=(uh HC3).below bA;refine⟨l++[d],C,Gs++F,hrun3,?_,Hi hmore,?_,Hi ((uh hTS).trans (uh hts)),by omega,by rw[List.length_append];simp;omega,Hi ⟨fun e=>by simp at e,fun _=>uh hal3⟩⟩
     ·exact hCA.low b7 hB hp
     ·exact ((hk2.trans (uh HK3)).trans (Kp.of bA)).low b7
    case measure=>exact Nat.lt_succ_self _
structure Wds (w:World) (b n c:Nat) (ws:List ByteArray):Prop where
 len:ws.length=n
 le:n≤c
 lt:b<w.heap.size
 at_:∀ i,i<n→w.cell? ⟨b,i,none⟩=some (.string (ws.getD i em))
theorem Wds.below{w w':World}{b n c:Nat}{ws:List ByteArray}(h:Wds w b n c ws)(hb:Below w.heap.size w w'):Wds w' b n c ws:=
 ⟨h.len,h.le,Nat.lt_of_lt_of_le h.lt hb.size,fun i hi=>(hb.cell (p:=⟨b,i,none⟩) h.lt).trans (h.at_ i hi)⟩
theorem Wds.kp{w w':World}{B b n c:Nat}{ws:List ByteArray}(h:Wds w b n c ws)(hk:Kp B w w')(hne:b≠B):Wds w' b n c ws:=
 ⟨h.len,h.le,Nat.lt_of_lt_of_le h.lt hk.size,fun i hi=>(dt.zaf (hk.block b h.lt hne) i).trans (h.at_ i hi)⟩
def inW(ws:List ByteArray)(s:ByteArray):Bool:=ws.any (fun x=>decide (x=s))
theorem zjf(b n c:Nat)(ws:List ByteArray)(s:ByteArray)(w:World)(h:Wds w b n c ws)(hn:n≤1048576) :
  Calls prog 105 #[.slice (some ⟨b,0,none⟩) n c,.string s] w fun e w'=>∃ i:Int,e = .returned (.int .i64 i)∧decide (0≤i)=inW ws s∧w'=w:=by
 have HL:=Hi h.len
 go_enter func105,ntmps105
 go_wp2_with fail
 go_loopw [8] (fun i wr=>∃ k:Nat,k≤n∧i = .int .i64 k∧w=wr∧Hid (∀ j,j<k→ws.getD j em≠s)) (fun i _=>n-(intOf i).toNat)
 case atStart=>exact⟨0,Nat.zero_le _,rfl,rfl,Hi (fun j hj=>by omega)⟩
 case round =>
  obtain⟨k,hk,rfl,rfl,hno⟩:=hrel
  by_cases hlt:k<n
  ·have ki:(k:Int)<(n:Int):=by omega
   have c1:=h.at_ k hlt
   by_cases he:ws.getD k em=s
   ·have hin:=Hi (show inW ws s=true from by
     unfold inW;have hkl:k<ws.length:=by rw[uh HL];exact hlt
     rw[List.any_eq_true];refine⟨ws[k],List.getElem_mem hkl,?_⟩
     rw[List.getD_eq_getElem?_getD,List.getElem?_eq_getElem hkl] at he
     exact decide_eq_true he)
    rw[he] at c1;clear he
    go_wp2_with fail
    go_ret
    exact⟨k,rfl,by rw[uh hin];simp,rfl⟩
   ·have hb:(s.toList==(ws.getD k em).toList)=false:=zlU (fun e=>he e.symm)
    have He:=Hi he;obtain⟨x,hx⟩:∃ x,x=ws.getD k em:=⟨_,rfl⟩;rw[←hx] at c1 hb;clear he hx
    go_wp2_with fail
    refine⟨⟨k+1,by omega,by first | rfl | go_num,trivial,Hi (fun j hj=>?_)⟩,by simp only[intOf];omega⟩
    by_cases e:j=k
    ·rw[e];exact uh He
    ·exact uh hno j (by omega)
  ·obtain rfl:k=n:=by omega
   have ki:¬(k:Int)<(k:Int):=by omega
   have hin:=Hi (show inW ws s=false from by
    unfold inW;rw[←Bool.not_eq_true,List.any_eq_true];rintro ⟨x,hm,hx⟩;obtain⟨j,hj,rfl⟩:=List.mem_iff_getElem.1 hm
    apply uh hno j (by rw[←uh HL];exact hj)
    rw[List.getD_eq_getElem?_getD,List.getElem?_eq_getElem hj]
    exact of_decide_eq_true hx)
   go_wp2_with fail
   go_ret
   exact⟨-1,rfl,by rw[uh hin];rfl,rfl⟩
theorem za7(b n c:Nat)(ws:List ByteArray)(s:ByteArray)(w:World)(h:Wds w b n c ws)(hn:n≤1048576) :
  Calls prog 82 #[.slice (some ⟨b,0,none⟩) n c,.string s] w fun e w'=>e = .returned (.bool (inW ws s))∧w'=w:=by
 have hi:=Hi (zjf b n c ws s w h hn)
 go_enter func82,ntmps82
 go_wp2_with fail
 refine (uh hi).mono ?_
 rintro e w1 ⟨i,rfl,hd,rfl⟩;clear hi;have Hd:=Hi hd;clear hd
 go_wp2_with fail
 go_ret
 exact⟨by rw[←uh Hd];rfl,rfl⟩
def _root_.Go.Proofs.YtepmbmbnlmbhhaaGreat.cu.Cu.isW(c:Cu)(ws:List ByteArray):Bool:=c.isN && inW ws c.tok.tx
theorem zdb(B p:Nat)(c:Cu)(b n cp:Nat)(ws:List ByteArray)(w:World)(h:CurAt w B p c)(hw:Wds w b n cp ws)(hn:n≤1048576) :
  Calls prog 35 #[ptr B,.slice (some ⟨b,0,none⟩) n cp] w fun e w'=>e = .returned (.bool (c.isW ws))∧Below w.heap.size w w':=by
 have hi:=Hi (zda B p c w h);have ht:=Hi (fun W (bb:Below w.heap.size w W)=>zaM B p c W (h.below bb))
 have hc:=Hi (fun W (bb:Below w.heap.size w W) s=>za7 b n cp ws s W (hw.below bb) hn)
 have hf1:=zcS c.tok;unfold Cu.isW;obtain⟨t,et⟩:∃ t,t=c.tok:=⟨_,rfl⟩;rw[←et] at ht hf1 ⊢;clear h hw et;unfold Tk.cells at ht;unfold ptr at hi ht ⊢
 cases hN:c.isN
 ·rw[hN] at hi
  go_enter func35,ntmps35
  go_wp2_with fail
  refine (uh hi).mono ?_
  rintro e w1 ⟨rfl,b1⟩
  go_wp2_with fail
  go_ret
  exact⟨rfl,b1⟩
 ·rw[hN] at hi
  obtain⟨R,hR⟩:∃ R,R=inW ws t.tx:=⟨_,rfl⟩;have hc2:=Hi (fun W (bb:Below w.heap.size w W)=>(uh hc) W bb t.tx)
  rw[←hR] at hc2 ⊢;clear hR hc
  go_enter func35,ntmps35
  go_wp2_with fail
  refine (uh hi).mono ?_
  rintro e w1 ⟨rfl,b1⟩
  go_wp2_with fail
  refine ((uh ht) w1 b1).mono ?_
  rintro e w2 ⟨rfl,b2⟩;have b12:=b1.trans (b2.mono b1.size)
  go_wp2_with fail
  refine ((uh hc2) w2 b12).mono ?_
  rintro e w3 ⟨rfl,hw3⟩;obtain rfl:w2=w3:=hw3.symm
  cases R
  ·go_wp2_with fail
   go_ret
   exact⟨rfl,b12⟩
  ·go_wp2_with fail
   go_ret
   exact⟨rfl,b12⟩
end cu
namespace mem
open cu (em Wds)
structure Srow (w:World) (a:Option Addr) (n c:Nat) (ws:List ByteArray):Prop where
 len:ws.length=n
 nil:a=none→n=0∧c=0
 at_:n=0∨∃ b off,a=some ⟨b,off,none⟩∧b<w.heap.size∧∀ j,j<n→w.cell? ⟨b,off+j,none⟩=some (.string (ws.getD j em))
theorem Srow.below{w w':World}{a:Option Addr}{n c:Nat}{ws:List ByteArray}(h:Srow w a n c ws)(hb:Below w.heap.size w w'):Srow w' a n c ws:=by
 refine⟨h.len,h.nil,?_⟩
 rcases h.at_ with h0 | ⟨b,off,ha,hlt,hc⟩
 ·exact .inl h0
 ·exact .inr ⟨b,off,ha,Nat.lt_of_lt_of_le hlt hb.size,fun j hj=>(hb.cell (p:=⟨b,off+j,none⟩) hlt).trans (hc j hj)⟩
theorem zjY(ws:List ByteArray)(j:Nat)(u:Value)(h:(ws.map Value.string)[j]? = some u):j<ws.length∧u = .string (ws.getD j em):=by
 rw[List.getElem?_map] at h
 cases hg:ws[j]? with
 | none=>rw[hg] at h;cases h
 | some x =>
  rw[hg] at h;have hj:=(List.getElem?_eq_some_iff.1 hg).1
  refine⟨hj,?_⟩
  rw[List.getD_eq_getElem?_getD,hg]
  exact (Option.some.inj h).symm
theorem infoStr:(prog.info? 9).map (fun i=>(i.zero,i.size,i.bytes))=some (some (.string ⟨#[]⟩),1,16):=by kernel_rfl
theorem ze0(w:World){ops:Array Oper}{rest:List Oper}{o:Oper}{a:Act}{Q:Exit→Act→World→Prop}(hgd:o.guard=none)(s x:Operand)
  (ho:o.op = .call { callee:=.builtin .append,args:=#[s,x],argTypes:=#[53,53] }) (base g:Nat) (hs:a.eval s = .slice (some ⟨g,0,none⟩) 0 0) (hown:w.ownsRow base 9 1 (.slice (some ⟨g,0,none⟩) 0 0) 0 [])
  (ad:Option Addr) (m c:Nat) (ws:List ByteArray) (hx:a.eval x = .slice ad m c) (hrow:Srow w ad m c ws) (hm:m≤1048576) (hbase:base≤w.heap.size)
  (h:∀ bW cW w',Wds w' bW m cW ws→base≤bW→Below base w w'→wpList prog ops Q rest (a.put o.dst (.slice (some ⟨bW,0,none⟩) m cW)) w') :
  wpList prog ops Q (o::rest) a w:=by
 obtain⟨i0,hi,hz0,hz1,hz2⟩:=info_parts infoStr;have hlt:=hown.lt g rfl
 cases ad with
 | none =>
  obtain⟨rfl,rfl⟩:=hrow.nil rfl;refine wpList_append_own_none hgd s x 53 ho base 9 i0 1 underlying53 hi _ 0 [] hs hown hx ?_
  exact h g 0 w ⟨hrow.len,lr _,hlt.2,fun i hi=>by omega⟩ hlt.1 (Below.refl _ _)
 | some ad =>
  have hcells:∀ j u,(ws.map Value.string)[j]? = some u→w.cell? (ad.add j)=some u:=fun j u hu=>by
   obtain⟨hj,rfl⟩:=zjY ws j u hu
   rcases hrow.at_ with h0 | ⟨b,off,ha,hb,hc⟩
   ·rw[hrow.len,h0] at hj;omega
   ·obtain rfl:=Option.some.inj ha
    have:=hc j (by rw[←hrow.len];exact hj)
    rw[Addr.add_lit];exact this
  refine wpList_append_own w hgd s x 53 ho base 9 i0 (.string ⟨#[]⟩) 1 16 underlying53 hi hz0 hz1 hz2 rfl (by decide) _ 0 [] hs hown ad m c (ws.map Value.string) hx (by simp[hrow.len]) hcells (fun u hu=>by obtain⟨y,_,rfl⟩:=List.mem_map.1 hu;rfl) (by unfold maxLen;omega) (by omega) hbase ?_
  intro v' w' hr hg hnil;rw[Nat.zero_add,List.nil_append] at hr;have hr2:=hr;obtain⟨h1,h2⟩:=hr
  rcases h2 with ⟨e,_⟩ | ⟨g',cap,cur,rfl,hg',hh,hnc,hcm,r⟩
  ·exact absurd (hnil.1 e).1 (by simp)
  ·have hlt':=hr2.lt g' rfl
   refine h g' cap w' ⟨hrow.len,hnc,hlt'.2,fun i hi=>?_⟩ hlt'.1 ((Below.refl _ _).grown hg hbase (fun q hq=>(hown.lt q hq).1))
   rw[World.ownsRow.cellAt hr2 i (by omega),List.getElem?_map,List.getElem?_eq_getElem (by rw[hrow.len];exact hi),List.getD_eq_getElem?_getD,List.getElem?_eq_getElem (by rw[hrow.len];exact hi)]
   rfl
def OpsW(w:World)(a:Option Addr)(n N:Nat):Prop:=
 n=0∨∃ b off,a=some ⟨b,off,none⟩∧b<w.heap.size∧∀ i,i<n→∃ (K:Int) (S:ByteArray) (aw:Option Addr) (nw cw:Nat) (bb:Bool) (ws:List ByteArray),
  (w.cell? ⟨b,off+i * 4,none⟩=some (.int .i64 K)∧w.cell? ⟨b,off+i * 4+1,none⟩=some (.string S)∧w.cell? ⟨b,off+i * 4+2,none⟩=some (.slice aw nw cw)∧w.cell? ⟨b,off+i * 4+3,none⟩=some (.bool bb))∧Srow w aw nw cw ws∧nw≤N
theorem zeE{α:Type}{l:List α}(h:l.length=4):∃ x y z u,l=[x,y,z,u]:=by
 match l,h with
 | [x,y,z,u],_=>exact⟨x,y,z,u,rfl⟩
theorem struct4{H:Type}{enc:TypeId × Value→H}{w:World}{base:Nat}{held:Bool}{P:Program}{spare:Nat→Bool}{t:TypeId}{f0 f1 f2 f3:Field}{fuel:Nat}{cs:List Value}{x:DataW H × List MemPlace}(ht:P.underlying t=some (.struct #[f0,f1,f2,f3]))(h:DataW.trod enc P w base spare held fuel t cs=some x) :
  ∃ x0 x1 x2 x3 n,fuel=n+1∧x.1 = .agg [x0.1,x1.1,x2.1,x3.1]∧cs.length=P.cellsOf t ∧
   DataW.trod enc P w base spare held n f0.type ((cs.drop f0.offset).take (P.cellsOf f0.type))=some x0 ∧
   DataW.trod enc P w base spare held n f1.type ((cs.drop f1.offset).take (P.cellsOf f1.type))=some x1 ∧
   DataW.trod enc P w base spare held n f2.type ((cs.drop f2.offset).take (P.cellsOf f2.type))=some x2 ∧
   DataW.trod enc P w base spare held n f3.type ((cs.drop f3.offset).take (P.cellsOf f3.type))=some x3:=by
 obtain⟨xs,n,hfu,hx,hl,hlen,hf⟩:=DataW.trod_struct ht h
 match xs,hlen with
 | [x0,x1,x2,x3],_=>exact⟨x0,x1,x2,x3,n,hfu,by rw[hx];rfl,hl,by simpa using hf 0 f0 rfl,by simpa using hf 1 f1 rfl,by simpa using hf 2 f2 rfl,by simpa using hf 3 f3 rfl⟩
theorem zlR{H:Type}{enc:TypeId × Value→H}{w:World}{base:Nat}{held:Bool}{fuel:Nat}{v:Value}{x:DataW H × List MemPlace}(h:DataW.trod enc prog w base (fun _=>true) held fuel 53 [v]=some x):∃ a n c ws,v = .slice a n c∧Srow w a n c ws∧n≤Rows.uptoBulk x.1:=by
 rcases Go.Deep.open_strs underlying53 underlying9 (by kernel_rfl) h with ⟨e,hx⟩ | ⟨a,len,cap,m,Sx,e,hb,hl,hm,hmm,hx,hc⟩
 ·simp at e
  subst e;exact⟨none,0,0,[],rfl,⟨rfl,fun _=>⟨rfl,rfl⟩,.inl rfl⟩,Nat.zero_le _⟩
 ·simp at e
  subst e;simp only[if_true] at hmm;refine⟨some a,len,cap,(List.range len).map Sx,rfl,⟨by simp,(fun e=>by cases e),?_⟩,?_⟩
  ·by_cases h0:len=0
   ·exact .inl h0
   ·right
    obtain⟨b,off,spot⟩:=a;have h1:=(hc 0 (by omega)).1
    have hspot:spot=none:=by simpa[Addr.add] using World.cell?_spot h1
    subst hspot;refine⟨b,off,rfl,by simpa[Addr.add] using World.block_lt_of_cell? w _ h1,fun j hj=>?_⟩
    have:=(hc j (by omega)).1
    rw[List.getD_eq_getElem?_getD,List.getElem?_map,List.getElem?_range hj]
    rw[Addr.add_lit] at this;exact this
  ·rw[hx]
   refine Nat.le_trans ?_ (zcq _ _)
   simp
theorem zlA{H:Type}{enc:TypeId × Value→H}{w:World}{base:Nat}{held:Bool}{fuel:Nat}{a0:Option Addr}{len0 cap0:Nat}{d:DataW H}{p:List MemPlace}
  (h:DataW.trod enc prog w base (fun _=>true) held fuel 48 [.slice a0 len0 cap0]=some (d,p)) :
  OpsW w a0 len0 (Rows.uptoBulk d)∧len0≤Rows.uptoBulk d∧len0≤cap0:=by
 have ce:prog.cellsOf 55=4:=by kernel_rfl
 have ce0:prog.cellsOf 3=1:=by kernel_rfl
 have ce1:prog.cellsOf 9=1:=by kernel_rfl
 have ce2:prog.cellsOf 53=1:=by kernel_rfl
 have ce3:prog.cellsOf 4=1:=by kernel_rfl
 rcases Go.Deep.open_slice underlying48 h with ⟨hcs,_⟩ | ⟨a,len,cap,m,n,D,Pl,hcs,hb,hl,hm,hmm,hx,hcell⟩
 ·simp at hcs
  obtain⟨rfl,rfl,rfl⟩:=hcs;exact⟨.inl rfl,Nat.zero_le _,lr _⟩
 ·simp at hcs
  obtain⟨rfl,rfl,rfl⟩:=hcs;simp only[if_true] at hmm;subst hmm;simp only[Prod.mk.injEq] at hx;obtain⟨hd,_⟩:=hx;refine⟨?_,?_,hl⟩
  ·by_cases h0:len0=0
   ·exact .inl h0
   ·right
    rw[ce] at hcell
    have spot0:∃ b off,a=⟨b,off,none⟩∧b<w.heap.size:=by
     obtain⟨cs',h1,h2⟩:=hcell 0 (by omega)
     obtain⟨_,hlen,hc⟩:=World.cells?_some h1
     obtain⟨v,hv⟩:∃ v,w.cell? (a.add (0 * 4))=some v:=by
      have:=hc 0 (by omega)
      obtain⟨v0,v1,v2,v3,rfl⟩:=zeE hlen;exact⟨v0,by simpa[Addr.add] using this⟩
     obtain⟨b,off,spot⟩:=a;have hspot:spot=none:=by simpa[Addr.add] using World.cell?_spot hv
     subst hspot;exact⟨b,off,rfl,World.block_lt_of_cell? w _ hv⟩
    obtain⟨b,off,rfl,hbw⟩:=spot0;refine⟨b,off,rfl,hbw,fun i hi=>?_⟩
    obtain⟨cs',h1,h2⟩:=hcell i (by omega)
    obtain⟨_,hlen,hc⟩:=World.cells?_some h1
    obtain⟨y0,y1,y2,y3,n',_,hD,_,t0,t1,t2,t3⟩:=struct4 underlying55 h2;obtain⟨v0,v1,v2,v3,rfl⟩:=zeE hlen;have e0:=hc 0 (by omega)
    have e1:=hc 1 (by omega)
    have e2:=hc 2 (by omega)
    have e3:=hc 3 (by omega)
    rw[Go.Deep.add_add,Addr.add_lit] at e0 e1 e2 e3;simp only[ce0,List.drop_zero,List.take_succ_cons,List.take_zero] at t0;simp only[ce1,List.drop_succ_cons,List.drop_zero,List.take_succ_cons,List.take_zero] at t1;simp only[ce2,List.drop_succ_cons,List.drop_zero,List.take_succ_cons,List.take_zero] at t2;simp only[ce3,List.drop_succ_cons,List.drop_zero,List.take_succ_cons,List.take_zero] at t3
    simp only[List.getElem?_cons_zero,List.getElem?_cons_succ] at e0 e1 e2 e3
    obtain⟨K,hk,_⟩:=DataW.trod_int underlying3 t0;obtain⟨S,hs,_⟩:=DataW.trod_string underlying9 t1;obtain⟨B,hbb,_⟩:=DataW.trod_bool underlying4 t3;obtain⟨aw,nw,cw,ws,rfl,hsr,hbk⟩:=zlR t2;simp only[List.cons.injEq,and_true] at hk hs hbb;subst hk hs hbb
    have hbi:Rows.uptoBulk (D i)≤Rows.uptoBulk d:=by
     rw[hd];exact Nat.le_trans (zdO (List.mem_map.2 ⟨i,by simp[hi],rfl⟩)) (zgn _ _)
    have hD2:D i = .agg [y0.1,y1.1,y2.1,y3.1]:=hD;rw[hD2] at hbi;have q2:Rows.uptoBulk y2.1≤Rows.uptoBulk d:=Nat.le_trans (ziI (by simp)) hbi
    exact⟨K,S,aw,nw,cw,B,ws,⟨e0,by rw[Nat.add_assoc];exact e1,by rw[Nat.add_assoc];exact e2,by rw[Nat.add_assoc];exact e3⟩,hsr,Nat.le_trans hbk q2⟩
  ·rw[hd]
   refine Nat.le_trans ?_ (zcq _ _)
   simp
open ints (Hi uh)
theorem size32:(prog.info? 21).map (·.size)=some 1:=by kernel_rfl
theorem zcG{α:Type}(L cs:List α)(h:L.length=cs.length):splice L 0 cs=cs:=by
 unfold splice;rw[Nat.zero_add,List.drop_eq_nil_of_le (by omega)]
 simp
theorem zbM{w:World}{base g n cap:Nat}{e:TypeId}{xs:List Value}(h:w.ownsRow base e 1 (.slice (some ⟨g,0,none⟩) n cap) n xs):∃ cur:Array Value,w.heap[g]? = some (.cells cur.toList.toArray e (0,0))∧cur.size=cap:=by
 rcases h.2 with ⟨h2,_⟩ | ⟨g',cap',cur,hv,hg,hh,hnc,hcm,hcs,hx⟩
 ·cases h2
 ·simp only[Value.slice.injEq,Option.some.injEq,Addr.mk.injEq] at hv
  obtain⟨⟨rfl,_,_⟩,_,rfl⟩:=hv;exact⟨cur,by simpa using hh,by simpa using hcs⟩
theorem zf6{k:IntKind}{w:World}{a:Option Addr}{n cap:Nat}{zs:List Int}(h:Row k w a n cap zs)(hn:0<n):∃ ad,a=some ad∧∀ j u,(zs.map (Value.int k))[j]? = some u→w.cell? (ad.add j)=some u:=by
 rcases h.at_ with h0 | ⟨b,off,rfl,_,_⟩
 ·omega
 ·exact⟨_,rfl,h.cells _ rfl⟩
theorem zaS{w:World}{base base':Nat}{e:TypeId}{size:Nat}{v:Value}{n:Nat}{xs:List Value}(h:w.ownsRow base e size v n xs)(hb:base'≤base):w.ownsRow base' e size v n xs:=
 ⟨h.1,h.2.imp id (fun ⟨g',r1,r2,r3,r4,r5⟩=>⟨g',r1,r2,r3,Nat.le_trans hb r4,r5⟩)⟩
theorem zba(a:Option Addr)(n c:Nat)(l:List Int)(w:World)(h:Row .i32 w a n c l)(hn:4 * n≤281474976710656) :
  Calls prog 176 #[.slice a n c] w fun e w'=>e = .returned (.slice (some ⟨w.heap.size,0,none⟩) n n) ∧
   w'.ownsRow w.heap.size 21 1 (.slice (some ⟨w.heap.size,0,none⟩) n n) n (l.map (Value.int .i32))∧Below w.heap.size w w':=by
 obtain⟨i0,hi,hz0,hz1,hz2⟩:=info_parts info32;have hl:(l.map (Value.int .i32)).length=n:=by simp[h.len]
 go_enter func176,ntmps176
 go_wp2_with (first
  | (refine wpList_make_full _ rfl _ _ 109 rfl w.heap.size 21 i0 (.int .i32 0) 1 underlying109 hi hz0 hz1 .i64 .i64 _ _ n rfl rfl rfl rfl (by rw[hz2];omega) (by unfold maxLen;omega) (lr _) ?_;intro w1 hown hgrow;have hg1:=belowNone hgrow;have hr1:=h.below hg1;obtain⟨cur,hcur,hcs⟩:=zbM hown)
  | (refine wpList_copy_splice rfl (.tmp 7) (.tmp 8) 109 109 rfl 21 underlying109 size32 _ _ n n n c rfl rfl w.heap.size 0 cur.toList 21 hcur (l.map (Value.int .i32)) (by rw[hl];exact (Nat.min_self n).symm) (fun hp=>⟨rfl,zf6 hr1 (by rw[hl] at hp;exact hp)⟩) (by rw[hl];simp;omega) (ints_oneCell _ _) w.heap.size w hg1 (lr _) ?_;intro w2 hrow2 hb2))
 go_ret
 refine⟨rfl,?_,hb2⟩
 have:=hrow2.out;rw[zcG _ _ (by rw[hl];simpa using hcs)] at this
 exact⟨by simp[h.len],.inr ⟨w.heap.size,n,_,rfl,lr _,this,lr _,by unfold maxLen;omega,by simp[h.len],by rw[Nat.mul_one];exact List.take_of_length_le (by simp[h.len])⟩⟩
def toOf(l:List Int)(k:Nat):Nat:=if 1≤k∧prB l (k-1)=true then k-1 else k
def cut(l:List Int)(a b:Nat):List Int:=(l.drop a).take (b-a)
def linesTo(l:List Int):Nat→List (List Int) × Nat
 | 0=>([],0)
 | k+1=>if enB l k then ((linesTo l k).1++[cut l (linesTo l k).2 (toOf l k)],k+1) else linesTo l k
def linesL(l:List Int):List (List Int):=(linesTo l l.length).1++[l.drop (linesTo l l.length).2]
theorem znE(l:List Int)(k:Nat)(h:prB l k=true):enB l k=false:=by
 have h2:=h;simp only[prB,Bool.and_eq_true,beq_iff_eq] at h2;unfold enB;rw[h,h2.1.2];rfl
theorem zdd(l:List Int)(k:Nat):(linesTo l k).2≤k∧((linesTo l k).2=0∨enB l ((linesTo l k).2-1)=true)∧(linesTo l k).1.length≤k:=by
 induction k with
 | zero=>simp[linesTo]
 | succ k ih =>
  simp only[linesTo]
  split
  ·rename_i h
   refine⟨lr _,.inr (by simpa using h),by simp;omega⟩
  ·exact⟨by omega,ih.2.1,by omega⟩
theorem zc8(l:List Int)(k:Nat):(linesTo l k).2≤toOf l k∧toOf l k≤k:=by
 have h:=zdd l k;unfold toOf
 split
 ·rename_i hp
  refine⟨?_,by omega⟩
  rcases Nat.lt_or_ge (linesTo l k).2 k with h1 | h1
  ·omega
  ·exfalso
   have e:(linesTo l k).2=k:=by omega
   rcases h.2.1 with h2 | h2
   ·omega
   ·rw[e,znE l (k-1) hp.2] at h2
    cases h2
 ·omega
def lineVal(g:Nat)(ln:List Int):Value:=.slice (some ⟨g,0,none⟩) ln.length ln.length
structure LinesAt (w:World) (base:Nat) (v:Value) (gs:List Nat) (lns:List (List Int)):Prop where
 len:gs.length=lns.length
 own:w.ownsRow base 109 1 v lns.length (List.zipWith lineVal gs lns)
 each:∀ i,i<lns.length→w.ownsRow base 21 1 (lineVal (gs.getD i 0) (lns.getD i [])) (lns.getD i []).length ((lns.getD i []).map (Value.int .i32))
 nodup:gs.Nodup
theorem zdA{w:World}{base g:Nat}{ln:List Int}(h:w.ownsRow base 21 1 (lineVal g ln) ln.length (ln.map (Value.int .i32))):base≤g∧∃ cur,w.heap[g]? = some (.cells cur 21 (0,0)):=by
 rcases h.2 with ⟨h2,_⟩ | ⟨g',cap',cur,hv,hg,hh,_⟩
 ·cases h2
 ·simp only[lineVal,Value.slice.injEq,Option.some.injEq,Addr.mk.injEq] at hv
  obtain⟨⟨rfl,_,_⟩,_,_⟩:=hv;exact⟨hg,cur,hh⟩
theorem zfg{w:World}{base:Nat}{v:Value}{n:Nat}{xs:List Value}(h:w.ownsRow base 109 1 v n xs):∀ G,v.ownBlock=some G→∃ cur,w.heap[G]? = some (.cells cur 109 (0,0)):=by
 intro G hG
 rcases h.2 with ⟨rfl,_⟩ | ⟨g',cap',cur,rfl,hg,hh,_⟩
 ·cases hG
 ·obtain rfl:=Option.some.inj hG
  exact⟨cur,hh⟩
theorem LinesAt.snoc{w w1 w2:World}{base:Nat}{v v':Value}{gs:List Nat}{lns:List (List Int)}{o:Obj}{g:Nat}{ln:List Int}
  (h:LinesAt w base v gs lns) (hg:g=w.heap.size) (hb:Below w.heap.size w w1) (hln:w1.ownsRow base 21 1 (lineVal g ln) ln.length (ln.map (Value.int .i32)))
  (hown:w2.ownsRow base 109 1 v' (lns.length+1) (List.zipWith lineVal gs lns++[lineVal g ln])) (hgrow:(w1.alloc o).grownBy w2 v.ownBlock) :
  LinesAt w2 base v' (gs++[g]) (lns++[ln]):=by
 have hne:∀ (g':Nat) (ln':List Int),w1.ownsRow base 21 1 (lineVal g' ln') ln'.length (ln'.map (Value.int .i32))→w2.ownsRow base 21 1 (lineVal g' ln') ln'.length (ln'.map (Value.int .i32)):=by
  intro g' ln' h';refine (h'.alloc o).kept hgrow (.inr ?_)
  intro e;obtain⟨cur,hcur⟩:=zfg (zah h.own hb) g' (by rw[←e];rfl)
  obtain⟨_,cur',hcur'⟩:=zdA h';rw[hcur'] at hcur;simp at hcur
 refine⟨by simp[h.len],?_,fun i hi=>?_,?_⟩
 ·rw[List.zipWith_append (by exact h.len)]
  simpa using hown
 ·by_cases hi':i<lns.length
  ·have e1:(gs++[g]).getD i 0=gs.getD i 0:=by simp[List.getD,List.getElem?_append_left (show i<gs.length by rw[h.len];exact hi')]
   have e2:(lns++[ln]).getD i []=lns.getD i []:=by simp[List.getD,List.getElem?_append_left hi']
   rw[e1,e2];exact hne _ _ (zah (h.each i hi') hb)
  ·have e:i=lns.length:=by simp at hi;omega
   have e1:(gs++[g]).getD i 0=g:=by rw[e,←h.len];simp[List.getD]
   have e2:(lns++[ln]).getD i []=ln:=by rw[e];simp[List.getD]
   rw[e1,e2];exact hne _ _ hln
 ·rw[List.nodup_append]
  refine⟨h.nodup,by simp,?_⟩
  intro x hx y hy e;simp at hy;subst hy;subst e;obtain⟨i,hi,rfl⟩:=List.mem_iff_getElem.1 hx;obtain⟨_,cur,hcur⟩:=zdA (h.each i (by rw[←h.len];exact hi))
  have e1:gs.getD i 0=gs[i]:=by simp[List.getD,hi]
  rw[e1,hg,Array.getElem?_eq_none (lr _)] at hcur
  cases hcur
theorem infoSl:(prog.info? 109).map (fun i=>(i.zero,i.size,i.bytes))=some (some (.slice none 0 0),1,24):=by kernel_rfl
theorem zbW(l:List Int)(a b:Nat)(h:b≤l.length):(cut l a b).length=b-a:=by simp[cut];omega
theorem Row.sub{k:IntKind}{w:World}{b off n c:Nat}{l:List Int}(hl:l.length=n)(hc:n≤c){f t:Nat}(hft:f≤t)(ht:t≤n)(hbw:b<w.heap.size)(hcell:∀ i,i<n→w.cell? ⟨b,off+i,none⟩=some (.int k (l.getD i 0))) :
  Row k w (some ⟨b,off+f,none⟩) (t-f) (c-f) (cut l f t):=by
 refine⟨zbW l f t (by omega),by omega,(fun e=>by cases e),.inr ⟨b,off+f,rfl,hbw,fun i hi=>?_⟩⟩
 rw[Nat.add_assoc,hcell (f+i) (by omega)]
 simp[cut,List.getD,hi]
theorem zaC(v:Value)(h:v.oneCell'=true):∀ u∈[v],u.oneCell'=true:=by intro u hu;simp at hu;subst hu;exact h
theorem cellv(w:World)(x:Value)(t:TypeId):∀ j u,[x][j]? = some u→(w.alloc (.cells #[x] t)).cell? ((⟨w.heap.size,0,none⟩:Addr).add j)=some u:=by
 intro j u hj
 match j,hj with
 | 0,hj=>simp at hj;subst hj;simp[Addr.add]
 | (j+1),hj=>simp at hj
theorem rowZ{k:IntKind}{w:World}{a:Option Addr}{n c:Nat}(h:n=0)(hn:a=none→c=0):Row k w a n c []:=⟨by simp[h],by omega,hn,.inl h⟩
theorem linesNil(w:World)(base:Nat):LinesAt w base (.slice none 0 0) [] []:=⟨rfl,World.ownsRow_nil _ _ _ _,fun i hi=>by simp at hi,List.nodup_nil⟩
theorem za9{l:List Int}{k:Nat}(h:enB l k=true):linesTo l (k+1)=((linesTo l k).1++[cut l (linesTo l k).2 (toOf l k)],k+1):=by simp[linesTo,h]
theorem zcx{l:List Int}{k:Nat}(h:enB l k=false):linesTo l (k+1)=linesTo l k:=by simp[linesTo,h]
theorem zfh(a:Option Addr)(n c:Nat)(l:List Int)(k:Nat)(w:World)(h:Row .i32 w a n c l)(hn:n≤9223372036854775806)(hk:k≤n) :
  Calls prog 135 #[.slice a n c,.int .i64 ((k:Int)-1)] w fun e w'=>e = .returned (.bool (decide (1≤k) && prB l (k-1)))∧w'=w:=by
 cases k with
 | zero=>exact zgz a n c w
 | succ k =>
  have e:(((k+1:Nat):Int)-1)=(k:Int):=by omega
  rw[e];have:=zdB a n c l k w h hn (by omega)
  simpa using this
theorem zhv(a:Option Addr)(n c:Nat)(l:List Int)(w:World)(h:Row .i32 w a n c l)(hn:n≤1099511627776) :
  Calls prog 161 #[.slice a n c] w fun e w'=>∃ v gs,e = .returned v∧LinesAt w' w.heap.size v gs (linesL l)∧Below w.heap.size w w':=by
 obtain⟨i0,hi,hz0,hz1,hz2⟩:=info_parts infoSl
 go_enter func161,ntmps161
 go_wp2
 go_loopw [3,4,9] (fun v f i wr=>∃ (k:Nat) (gs:List Nat),k≤n∧i = .int .i64 k∧f = .int .i64 ((linesTo l k).2:Nat)∧LinesAt wr w.heap.size v gs (linesTo l k).1∧Below w.heap.size w wr) (fun _ _ i _=>n-(intOf i).toNat)
 case atStart=>exact⟨0,[],Nat.zero_le _,rfl,rfl,linesNil _ _,Below.refl _ _⟩
 case round =>
  obtain⟨k,gs,hk,rfl,rfl,hat,hbel⟩:=hrel;have hinv:=zdd l k;have hft:=zc8 l k;obtain⟨F,hF⟩:∃ F,F=(linesTo l k).2:=⟨_,rfl⟩;obtain⟨L,hL⟩:∃ L,L=(linesTo l k).1:=⟨_,rfl⟩;rw[←hF] at hinv hft ⊢;rw[←hL] at hat hinv;have HF:=Hi hF;have HL:=Hi hL;clear hF hL
  by_cases hlt:k<n
  ·have hr:=h.below hbel
   have P:=Hi (zfH a n c l k wr hr (by omega) hlt)
   have hki:(k:Int)<(n:Int):=by omega
   cases hp:enB l k
   ·rw[hp] at P
    have HP:=Hi hp;clear hp
    go_wp2_with fail
    refine (uh P).mono ?_
    rintro e w' ⟨rfl,rfl⟩;clear P
    go_wp2
    go_roundw
    case rel=>exact⟨k+1,gs,by omega,by go_num,by rw[zcx (uh HP),←uh HF],by rw[zcx (uh HP),←uh HL];exact hat,hbel⟩
    case measure=>simp[intOf];omega
   ·rw[hp] at P
    have HP:=Hi hp;have Q:=Hi (zfh a n c l k wr hr (by omega) (by omega))
    obtain⟨T,hT⟩:∃ T,T=toOf l k:=⟨_,rfl⟩;rw[←hT] at hft;have HT:=Hi hT
    rcases h.at_ with h0 | ⟨b,off,rfl,hbw,hcell⟩
    ·omega
    have hle:=h.le;have hsub:=Row.sub (k:=.i32) (w:=wr) (b:=b) (off:=off) (c:=c) h.len hle hft.1 (show T≤n by omega) (Nat.lt_of_lt_of_le hbw hbel.size) (fun i hi=>(hbel.cell (p:=⟨b,off+i,none⟩) hbw).trans (hcell i hi))
    have N:=Hi (zba _ _ _ _ wr hsub (by omega))
    have hlen:=zbW l F T (by rw[h.len];omega)
    have f1:=hft.1;have f2:=hft.2;have hcF:¬c=F:=by omega
    clear hp hT hcell hsub hr
    cases hpp:(decide (1≤k) && prB l (k-1))
    ·have eT:T=k:=by rw[uh HT];unfold toOf;rw[if_neg (fun hh=>by rw[decide_eq_true hh.1,hh.2] at hpp;cases hpp)]
     rw[hpp] at Q;have HS:=Hi (show cut l F k=cut l F (toOf l k) from by rw[←uh HT,eT])
     rw[eT] at N hlen f1 f2;clear HT hpp eT hft
     go_wp2_with fail
     refine (uh P).mono ?_
     rintro e w' ⟨rfl,rfl⟩;clear P
     go_wp2_with fail
     refine (uh Q).mono ?_
     rintro e w' ⟨rfl,rfl⟩;clear Q
     go_wp2_with fail
     have hkF:0≤(k:Int):=by omega
     refine (uh N).mono ?_
     rintro e w2 ⟨rfl,hln,hb2⟩;have Hlen:=Hi hlen;have hown2:=zah hat.own hb2
     have hl2:w2.ownsRow w.heap.size 21 1 (lineVal w'.heap.size (cut l F k)) (cut l F k).length ((cut l F k).map (Value.int .i32)):=by
      unfold lineVal;rw[uh Hlen];exact zaS hln hbel.size
     have HL2:=Hi hl2;have HB2:=Hi hb2;have hsz2:=Nat.le_trans hbel.size hb2.size;have hLk:=hinv.2.2;have HLT:=Hi hown2.lt;clear N hln hlen hl2 hb2 hinv
     go_wp2_with (at_builtin;refine wpList_append_own _ rfl (.tmp 23) (.tmp 29) 183 rfl w.heap.size 109 i0 (.slice none 0 0) 1 24 underlying183 hi hz0 hz1 hz2 rfl (by decide) _ _ _ rfl (hown2.alloc _) ⟨w2.heap.size,0,none⟩ 1 1 [.slice (some ⟨w'.heap.size,0,none⟩) (k-F) (k-F)] rfl rfl (cellv _ _ _) (zaC _ rfl) (by unfold maxLen;omega) (by omega) (by simp;omega) ?_;intro v' w3 hown3 hgrow3 _)
     go_roundw
     case rel =>
      have e3:Value.slice (some ⟨w'.heap.size,0,none⟩) (k-F) (k-F)=lineVal w'.heap.size (cut l F k):=by unfold lineVal;rw[uh Hlen]
      rw[e3] at hown3;have R:=hat.snoc rfl (uh HB2) (uh HL2) hown3 hgrow3;refine⟨k+1,gs++[w'.heap.size],by omega,by go_num,?_,?_,?_⟩
      ·rw[za9 (uh HP)];go_num
      ·rw[za9 (uh HP),←uh HL,←uh HF,←uh HS];exact R
      ·exact ((hbel.trans ((uh HB2).mono hbel.size)).alloc hsz2 _).grown hgrow3 (by simp;omega) (fun k hk=>(uh HLT k hk).1)
     case measure=>simp[intOf];omega
    ·have hk1:1≤k:=by simp at hpp;exact hpp.1
     have eT:T=k-1:=by rw[uh HT];unfold toOf;rw[if_pos (by simpa using hpp)]
     rw[hpp] at Q;have HS:=Hi (show cut l F (k-1)=cut l F (toOf l k) from by rw[←uh HT,eT])
     rw[eT] at N hlen f1 f2;clear HT hpp eT hft
     go_wp2_with fail
     refine (uh P).mono ?_
     rintro e w' ⟨rfl,rfl⟩;clear P
     go_wp2_with fail
     refine (uh Q).mono ?_
     rintro e w' ⟨rfl,rfl⟩;clear Q
     go_wp2_with fail
     have hkF:0≤(k:Int):=by omega
     refine (uh N).mono ?_
     rintro e w2 ⟨rfl,hln,hb2⟩;have Hlen:=Hi hlen;have hown2:=zah hat.own hb2
     have hl2:w2.ownsRow w.heap.size 21 1 (lineVal w'.heap.size (cut l F (k-1))) (cut l F (k-1)).length ((cut l F (k-1)).map (Value.int .i32)):=by
      unfold lineVal;rw[uh Hlen];exact zaS hln hbel.size
     have HL2:=Hi hl2;have HB2:=Hi hb2;have hsz2:=Nat.le_trans hbel.size hb2.size;have hLk:=hinv.2.2;have HLT:=Hi hown2.lt;clear N hln hlen hl2 hb2 hinv
     go_wp2_with (at_builtin;refine wpList_append_own _ rfl (.tmp 23) (.tmp 29) 183 rfl w.heap.size 109 i0 (.slice none 0 0) 1 24 underlying183 hi hz0 hz1 hz2 rfl (by decide) _ _ _ rfl (hown2.alloc _) ⟨w2.heap.size,0,none⟩ 1 1 [.slice (some ⟨w'.heap.size,0,none⟩) ((k-1)-F) ((k-1)-F)] rfl rfl (cellv _ _ _) (zaC _ rfl) (by unfold maxLen;omega) (by omega) (by simp;omega) ?_;intro v' w3 hown3 hgrow3 _)
     go_roundw
     case rel =>
      have e3:Value.slice (some ⟨w'.heap.size,0,none⟩) ((k-1)-F) ((k-1)-F)=lineVal w'.heap.size (cut l F (k-1)):=by unfold lineVal;rw[uh Hlen]
      rw[e3] at hown3;have R:=hat.snoc rfl (uh HB2) (uh HL2) hown3 hgrow3;refine⟨k+1,gs++[w'.heap.size],by omega,by go_num,?_,?_,?_⟩
      ·rw[za9 (uh HP)];go_num
      ·rw[za9 (uh HP),←uh HL,←uh HF,←uh HS];exact R
      ·exact ((hbel.trans ((uh HB2).mono hbel.size)).alloc hsz2 _).grown hgrow3 (by simp;omega) (fun k hk=>(uh HLT k hk).1)
     case measure=>simp[intOf];omega
  ·have hkn:k=n:=by omega
   have HLL:=Hi (show linesL l=L++[l.drop F] from by unfold linesL;rw[h.len,←hkn,←uh HF,←uh HL])
   have Hdl:=Hi (show (l.drop F).length=n-F from by simp[h.len])
   have hFn:F≤n:=by omega
   have hnk:¬(k:Int)<(n:Int):=by omega
   have hle:=h.le;clear hft
   by_cases hpos:0<n
   ·rcases h.at_ with h0 | ⟨b,off,rfl,hbw,hcell⟩
    ·omega
    by_cases hcF:c=F
    ·have hz0':n-F=0:=by omega
     have hnil:l.drop F=[]:=List.drop_eq_nil_of_le (by rw[h.len];omega)
     have HN:=Hi hnil;have N:=Hi (zba (some ⟨b,off,none⟩) (n-F) 0 (l.drop F) wr (by rw[hnil];exact rowZ hz0' (fun e=>by cases e)) (by omega))
     have hfi:(F:Int)≤(n:Int):=by omega
     clear hcell hnil hz0'
     go_wp2_with fail
     refine (uh N).mono ?_
     rintro e w2 ⟨rfl,hln,hb2⟩;have hown2:=zah hat.own hb2
     have hl2:w2.ownsRow w.heap.size 21 1 (lineVal wr.heap.size (l.drop F)) (l.drop F).length ((l.drop F).map (Value.int .i32)):=by
      unfold lineVal;rw[uh Hdl];exact zaS hln hbel.size
     have HL2:=Hi hl2;have HB2:=Hi hb2;have hsz2:=Nat.le_trans hbel.size hb2.size;have hLk:=hinv.2.2;have HLT:=Hi hown2.lt;clear hln hl2 hb2 hinv
     go_wp2_with (at_builtin;refine wpList_append_own _ rfl (.tmp 34) (.tmp 39) 183 rfl w.heap.size 109 i0 (.slice none 0 0) 1 24 underlying183 hi hz0 hz1 hz2 rfl (by decide) _ _ _ rfl (hown2.alloc _) ⟨w2.heap.size,0,none⟩ 1 1 [.slice (some ⟨wr.heap.size,0,none⟩) (n-F) (n-F)] rfl rfl (cellv _ _ _) (zaC _ rfl) (by unfold maxLen;omega) (by omega) (by simp;omega) ?_;intro v' w3 hown3 hgrow3 _)
     go_ret
     have e3:Value.slice (some ⟨wr.heap.size,0,none⟩) (n-F) (n-F)=lineVal wr.heap.size (l.drop F):=by unfold lineVal;rw[uh Hdl]
     rw[e3] at hown3;have R:=hat.snoc rfl (uh HB2) (uh HL2) hown3 hgrow3;rw[uh HLL];exact⟨v',_,rfl,R,((hbel.trans ((uh HB2).mono hbel.size)).alloc hsz2 _).grown hgrow3 (by simp;omega) (fun k hk=>(uh HLT k hk).1)⟩
    ·have ecut:cut l F n=l.drop F:=by unfold cut;rw[List.take_of_length_le (by simp[h.len])]
     have hsub:=Row.sub (k:=.i32) (w:=wr) (b:=b) (off:=off) (c:=c) h.len hle hFn (lr n) (Nat.lt_of_lt_of_le hbw hbel.size) (fun i hi=>(hbel.cell (p:=⟨b,off+i,none⟩) hbw).trans (hcell i hi))
     rw[ecut] at hsub;have N:=Hi (zba _ _ _ _ wr hsub (by omega))
     have hfi:(F:Int)≤(n:Int):=by omega
     clear hcell hsub ecut
     go_wp2_with fail
     refine (uh N).mono ?_
     rintro e w2 ⟨rfl,hln,hb2⟩;have hown2:=zah hat.own hb2
     have hl2:w2.ownsRow w.heap.size 21 1 (lineVal wr.heap.size (l.drop F)) (l.drop F).length ((l.drop F).map (Value.int .i32)):=by
      unfold lineVal;rw[uh Hdl];exact zaS hln hbel.size
     have HL2:=Hi hl2;have HB2:=Hi hb2;have hsz2:=Nat.le_trans hbel.size hb2.size;have hLk:=hinv.2.2;have HLT:=Hi hown2.lt;clear hln hl2 hb2 hinv
     go_wp2_with (at_builtin;refine wpList_append_own _ rfl (.tmp 34) (.tmp 39) 183 rfl w.heap.size 109 i0 (.slice none 0 0) 1 24 underlying183 hi hz0 hz1 hz2 rfl (by decide) _ _ _ rfl (hown2.alloc _) ⟨w2.heap.size,0,none⟩ 1 1 [.slice (some ⟨wr.heap.size,0,none⟩) (n-F) (n-F)] rfl rfl (cellv _ _ _) (zaC _ rfl) (by unfold maxLen;omega) (by omega) (by simp;omega) ?_;intro v' w3 hown3 hgrow3 _)
     go_ret
     have e3:Value.slice (some ⟨wr.heap.size,0,none⟩) (n-F) (n-F)=lineVal wr.heap.size (l.drop F):=by unfold lineVal;rw[uh Hdl]
     rw[e3] at hown3;have R:=hat.snoc rfl (uh HB2) (uh HL2) hown3 hgrow3;rw[uh HLL];exact⟨v',_,rfl,R,((hbel.trans ((uh HB2).mono hbel.size)).alloc hsz2 _).grown hgrow3 (by simp;omega) (fun k hk=>(uh HLT k hk).1)⟩
   ·have hn0:n=0:=by omega
    have hF0:F=0:=by omega
    have hl0:l=[]:=List.eq_nil_of_length_eq_zero (by rw[h.len];exact hn0)
    have hnil':=h.nil;subst hn0 hF0;have Hdl0:=Hi (show (l.drop 0).length=0 from by rw[hl0];rfl)
    have Hl0:=Hi hl0;clear hl0 Hdl;have Hdl:=Hdl0;clear Hdl0
    cases a with
    | none =>
     have hc0:c=0:=hnil' rfl;subst hc0;have N:=Hi (zba none 0 0 (l.drop 0) wr (by rw[uh Hl0];exact rowZ rfl (fun _=>rfl)) (by omega))
     clear hnil' h
     go_wp2_with fail
     refine (uh N).mono ?_
     rintro e w2 ⟨rfl,hln,hb2⟩;have hown2:=zah hat.own hb2
     have hl2:w2.ownsRow w.heap.size 21 1 (lineVal wr.heap.size (l.drop 0)) (l.drop 0).length ((l.drop 0).map (Value.int .i32)):=by
      unfold lineVal;rw[uh Hdl];exact zaS hln hbel.size
     have HL2:=Hi hl2;have HB2:=Hi hb2;have hsz2:=Nat.le_trans hbel.size hb2.size;have hLk:=hinv.2.2;have HLT:=Hi hown2.lt;clear hln hl2 hb2 hinv
     go_wp2_with (at_builtin;refine wpList_append_own _ rfl (.tmp 34) (.tmp 39) 183 rfl w.heap.size 109 i0 (.slice none 0 0) 1 24 underlying183 hi hz0 hz1 hz2 rfl (by decide) _ _ _ rfl (hown2.alloc _) ⟨w2.heap.size,0,none⟩ 1 1 [.slice (some ⟨wr.heap.size,0,none⟩) 0 0] rfl rfl (cellv _ _ _) (zaC _ rfl) (by unfold maxLen;omega) (by omega) (by simp;omega) ?_;intro v' w3 hown3 hgrow3 _)
     go_ret
     have e3:Value.slice (some ⟨wr.heap.size,0,none⟩) 0 0=lineVal wr.heap.size (l.drop 0):=by unfold lineVal;rw[uh Hdl]
     rw[e3] at hown3;have R:=hat.snoc rfl (uh HB2) (uh HL2) hown3 hgrow3;rw[uh HLL];exact⟨v',_,rfl,R,((hbel.trans ((uh HB2).mono hbel.size)).alloc hsz2 _).grown hgrow3 (by simp;omega) (fun k hk=>(uh HLT k hk).1)⟩
    | some ad =>
     have N:=Hi (zba (some ad) 0 c (l.drop 0) wr (by rw[uh Hl0];exact rowZ rfl (fun e=>by cases e)) (by omega))
     by_cases hc0:c=0
     ·subst hc0
      clear hnil' h
      go_wp2_with fail
      refine (uh N).mono ?_
      rintro e w2 ⟨rfl,hln,hb2⟩;have hown2:=zah hat.own hb2
      have hl2:w2.ownsRow w.heap.size 21 1 (lineVal wr.heap.size (l.drop 0)) (l.drop 0).length ((l.drop 0).map (Value.int .i32)):=by
       unfold lineVal;rw[uh Hdl];exact zaS hln hbel.size
      have HL2:=Hi hl2;have HB2:=Hi hb2;have hsz2:=Nat.le_trans hbel.size hb2.size;have hLk:=hinv.2.2;have HLT:=Hi hown2.lt;clear hln hl2 hb2 hinv
      go_wp2_with (at_builtin;refine wpList_append_own _ rfl (.tmp 34) (.tmp 39) 183 rfl w.heap.size 109 i0 (.slice none 0 0) 1 24 underlying183 hi hz0 hz1 hz2 rfl (by decide) _ _ _ rfl (hown2.alloc _) ⟨w2.heap.size,0,none⟩ 1 1 [.slice (some ⟨wr.heap.size,0,none⟩) 0 0] rfl rfl (cellv _ _ _) (zaC _ rfl) (by unfold maxLen;omega) (by omega) (by simp;omega) ?_;intro v' w3 hown3 hgrow3 _)
      go_ret
      have e3:Value.slice (some ⟨wr.heap.size,0,none⟩) 0 0=lineVal wr.heap.size (l.drop 0):=by unfold lineVal;rw[uh Hdl]
      rw[e3] at hown3;have R:=hat.snoc rfl (uh HB2) (uh HL2) hown3 hgrow3;rw[uh HLL];exact⟨v',_,rfl,R,((hbel.trans ((uh HB2).mono hbel.size)).alloc hsz2 _).grown hgrow3 (by simp;omega) (fun k hk=>(uh HLT k hk).1)⟩
     ·clear hnil' h
      go_wp2_with fail
      refine (uh N).mono ?_
      rintro e w2 ⟨rfl,hln,hb2⟩;have hown2:=zah hat.own hb2
      have hl2:w2.ownsRow w.heap.size 21 1 (lineVal wr.heap.size (l.drop 0)) (l.drop 0).length ((l.drop 0).map (Value.int .i32)):=by
       unfold lineVal;rw[uh Hdl];exact zaS hln hbel.size
      have HL2:=Hi hl2;have HB2:=Hi hb2;have hsz2:=Nat.le_trans hbel.size hb2.size;have hLk:=hinv.2.2;have HLT:=Hi hown2.lt;clear hln hl2 hb2 hinv
      go_wp2_with (at_builtin;refine wpList_append_own _ rfl (.tmp 34) (.tmp 39) 183 rfl w.heap.size 109 i0 (.slice none 0 0) 1 24 underlying183 hi hz0 hz1 hz2 rfl (by decide) _ _ _ rfl (hown2.alloc _) ⟨w2.heap.size,0,none⟩ 1 1 [.slice (some ⟨wr.heap.size,0,none⟩) 0 0] rfl rfl (cellv _ _ _) (zaC _ rfl) (by unfold maxLen;omega) (by omega) (by simp;omega) ?_;intro v' w3 hown3 hgrow3 _)
      go_ret
      have e3:Value.slice (some ⟨wr.heap.size,0,none⟩) 0 0=lineVal wr.heap.size (l.drop 0):=by unfold lineVal;rw[uh Hdl]
      rw[e3] at hown3;have R:=hat.snoc rfl (uh HB2) (uh HL2) hown3 hgrow3;rw[uh HLL];exact⟨v',_,rfl,R,((hbel.trans ((uh HB2).mono hbel.size)).alloc hsz2 _).grown hgrow3 (by simp;omega) (fun k hk=>(uh HLT k hk).1)⟩
end mem
end Go.Proofs.YtepmbmbnlmbhhaaGreat
