import Derived.Test.YtifbkdicglcogaaGreatSjo14
set_option linter.unusedVariables false
set_option linter.unusedSimpArgs false
namespace Go.Proofs.YtifbkdicglcogaaGreat.cu
open Go.ChangeShapes Go.WideShapes Go.ChangeAt Go.RowKit
open ints (Hi uh)
open dt (Dt Kp RowAt Ow Grow OwIn)
section
variable {N B p D:Nat} {c:Cu} {w:World}
set_option maxRecDepth 4000 in
set_option maxHeartbeats 4000000 in
theorem zqe {k0 l0 o0:Int} {ex n1 n2:Bool} {n3:ByteArray} (hD:w.heap[D]? = some (.cells #[.int .i64 k0,.bool ex,.bool n1,.bool n2,.string n3,.string ⟨#[]⟩,.slice none 0 0,.slice none 0 0,.slice none 0 0,.slice none 0 0,.slice none 0 0,.slice none 0 0,.slice none 0 0,.bool false,.slice none 0 0,.int .i64 l0,.int .i64 o0] 62 (0,0))) (hDB:D ≠ B) (hDp:D ≠ p) (h:CurN N w B p c):Calls Tryz.prog 85 #[.agg #[.pointer (some ⟨B,0,none⟩)],.pointer (some ⟨D,0,none⟩)] w fun e w'=>∃ (s:Sy) (c':Cu) (cs:List Value) (F:List Nat),schT (litF true N) ⟨k0,ex,(n1,n2,n3),em,[],[],[],[],[],[],[],false,[],l0,o0⟩ c=(s,c')∧e = .returned (.tuple #[])∧SyC s cs∧w'.heap[D]? = some (.cells cs.toArray 62 (0,0))∧Ho w' s.d cs F w.heap.size w'.heap.size∧CurN N w' B p c'∧Kq B D w w':=by
 have hlt:=h.lt;have hplt:=h.plt;have hDlt:D<w.heap.size:=(Array.getElem?_eq_some_iff.1 hD).1
 cases ex
 ·go_enter Tryz.func85,Tryz.ntmps85
  go_wp2_with fail
  have hD0:=hD;obtain⟨W1,hW1⟩:∃ W1,W1=allocs w [(#[.pointer (some ⟨B,0,none⟩)],74)]:=⟨_,rfl⟩;have gW1:W1=(w.alloc (.cells #[.pointer (some ⟨B,0,none⟩)] 74)):=hW1;have aa:=zaq [(#[.pointer (some ⟨B,0,none⟩)],74)] w;have fP1:W1.heap[w.heap.size]? = some (.cells #[.pointer (some ⟨B,0,none⟩)] 74 (0,0)):=by rw[hW1];exact aa 0 _ rfl
  have bw:Below w.heap.size w W1:=by rw[hW1];exact zak _ _
  have sz1:w.heap.size+1≤W1.heap.size:=by rw[hW1,zal];exact lr _
  have K1:Kp B w W1:=Kp.of bw;have fD1:W1.heap[D]? = some (.cells #[.int .i64 k0,.bool false,.bool n1,.bool n2,.string n3,.string ⟨#[]⟩,.slice none 0 0,.slice none 0 0,.slice none 0 0,.slice none 0 0,.slice none 0 0,.slice none 0 0,.slice none 0 0,.bool false,.slice none 0 0,.int .i64 l0,.int .i64 o0] 62 (0,0)):=(bw.block _ hDlt).trans hD0;have C1:=h.below bw;rw[← gW1];clear gW1 hW1 bw aa h
  have K1q:=Kq.of (D:=D) K1;clear hD0 hD K1;have cP2_0:W1.cell? ⟨w.heap.size,0,none⟩=some (.pointer (some ⟨B,0,none⟩)):=(zG fP1 0).trans rfl;have HH3:=Hi (an fP1 (an fD1 (an C1 (K1q))));clear fP1 fD1 C1 K1q
  go_wp2_with fail
  obtain⟨fP1,fD1,C1,K1q⟩:=uh HH3;clear HH3;refine (zbn C1).mono ?_
  rintro e W4 ⟨ds,u1,a2,m2,c2,F2,kE1,qE1,rfl,sD24,C4,J4⟩;have E1:=Hi qE1;clear qE1;have sz4:=J4.size;have fP4:W4.heap[w.heap.size]? = some (.cells #[.pointer (some ⟨B,0,none⟩)] 74 (0,0)):=(J4.block _ (by omega) (by omega)).trans fP1
  have fD4:W4.heap[D]? = some (.cells #[.int .i64 k0,.bool false,.bool n1,.bool n2,.string n3,.string ⟨#[]⟩,.slice none 0 0,.slice none 0 0,.slice none 0 0,.slice none 0 0,.slice none 0 0,.slice none 0 0,.slice none 0 0,.bool false,.slice none 0 0,.int .i64 l0,.int .i64 o0] 62 (0,0)):=(J4.block _ (by omega) (by omega)).trans fD1
  have K4:=K1q.trans J4;clear fP1 fD1 K1q C1 J4 cP2_0;have cD6_7:W4.cell? ⟨D,7,none⟩=some (.slice none 0 0):=(zG fD4 7).trans rfl;have zD6_7:W4.frozen? ⟨D,7,none⟩=false:=dt.zag fD4 7;have fP5:(W4.setCell ⟨D,7,none⟩ (.slice a2 m2 c2)).heap[w.heap.size]? = some (.cells #[.pointer (some ⟨B,0,none⟩)] 74 (0,0)):=(Below.heap_setCell W4 _ _ _ (show w.heap.size ≠ D by omega)).trans fP4
  have fD5:(W4.setCell ⟨D,7,none⟩ (.slice a2 m2 c2)).heap[D]? = some (.cells #[.int .i64 k0,.bool false,.bool n1,.bool n2,.string n3,.string ⟨#[]⟩,.slice none 0 0,.slice a2 m2 c2,.slice none 0 0,.slice none 0 0,.slice none 0 0,.slice none 0 0,.slice none 0 0,.bool false,.slice none 0 0,.int .i64 l0,.int .i64 o0] 62 (0,0)):=(dt.zac fD4 7 _).trans (by kernel_rfl)
  have C5:=C4.outC (b:=D) (by omega) (by omega) 7 (.slice a2 m2 c2)
  have K5:=K4.setB (b:=D) (by omega) 7 (.slice a2 m2 c2)
  have sD25:=sD24.outC (b:=D) (by omega) 7 (.slice a2 m2 c2)
  have cD7_1:(W4.setCell ⟨D,7,none⟩ (.slice a2 m2 c2)).cell? ⟨D,1,none⟩=some (.bool false):=(zG fD5 1).trans rfl;have cP8_0:(W4.setCell ⟨D,7,none⟩ (.slice a2 m2 c2)).cell? ⟨w.heap.size,0,none⟩=some (.pointer (some ⟨B,0,none⟩)):=(zG fP5 0).trans rfl;have HH9:=Hi (an fP5 (an fD5 (an sD25 (an C5 (an K5 (an fP4 (an fD4 (an sD24 (an K4 (C4))))))))));clear fP5 fD5 sD25 C5 K5 fP4 fD4 sD24 K4 C4
  go_wp2_with fail
  obtain⟨fP5,fD5,sD25,C5,K5,fP4,fD4,sD24,K4,C4⟩:=uh HH9;clear HH9;obtain⟨W10,hW10⟩:∃ W10,W10=(W4.setCell ⟨D,7,none⟩ (.slice a2 m2 c2)):=⟨_,rfl⟩;rw[← hW10] at fP5 fD5 sD25 C5 K5 ⊢;have sz10:W4.heap.size+0≤W10.heap.size:=by rw[hW10];simp only[zaf,dt.zaa,World.size_alloc];exact lr _
  clear hW10 cD6_7 zD6_7 cD7_1 cP8_0 fP4 fD4 sD24 K4 C4;refine (zhz ⟨#[123]⟩ ⟨#[125]⟩ C5).mono ?_
  rintro e W11 ⟨il,u3,a7,m7,c7,F7,qE3,rfl,sD711,C11,J11⟩;have E3:=Hi qE3;clear qE3;have sz11:=J11.size;have fP11:W11.heap[w.heap.size]? = some (.cells #[.pointer (some ⟨B,0,none⟩)] 74 (0,0)):=(J11.block _ (by omega) (by omega)).trans fP5
  have fD11:W11.heap[D]? = some (.cells #[.int .i64 k0,.bool false,.bool n1,.bool n2,.string n3,.string ⟨#[]⟩,.slice none 0 0,.slice a2 m2 c2,.slice none 0 0,.slice none 0 0,.slice none 0 0,.slice none 0 0,.slice none 0 0,.bool false,.slice none 0 0,.int .i64 l0,.int .i64 o0] 62 (0,0)):=(J11.block _ (by omega) (by omega)).trans fD5
  have sD211:=sD25.kp J11 (by omega)
  have K11:=K5.trans J11;clear fP5 fD5 sD25 K5 C5 J11;have cD13_12:W11.cell? ⟨D,12,none⟩=some (.slice none 0 0):=(zG fD11 12).trans rfl;have zD13_12:W11.frozen? ⟨D,12,none⟩=false:=dt.zag fD11 12;have fP12:(W11.setCell ⟨D,12,none⟩ (.slice a7 m7 c7)).heap[w.heap.size]? = some (.cells #[.pointer (some ⟨B,0,none⟩)] 74 (0,0)):=(Below.heap_setCell W11 _ _ _ (show w.heap.size ≠ D by omega)).trans fP11
  have fD12:(W11.setCell ⟨D,12,none⟩ (.slice a7 m7 c7)).heap[D]? = some (.cells #[.int .i64 k0,.bool false,.bool n1,.bool n2,.string n3,.string ⟨#[]⟩,.slice none 0 0,.slice a2 m2 c2,.slice none 0 0,.slice none 0 0,.slice none 0 0,.slice none 0 0,.slice a7 m7 c7,.bool false,.slice none 0 0,.int .i64 l0,.int .i64 o0] 62 (0,0)):=(dt.zac fD11 12 _).trans (by kernel_rfl)
  have C12:=C11.outC (b:=D) (by omega) (by omega) 12 (.slice a7 m7 c7)
  have K12:=K11.setB (b:=D) (by omega) 12 (.slice a7 m7 c7)
  have sD212:=sD211.outC (b:=D) (by omega) 12 (.slice a7 m7 c7)
  have sD712:=sD711.outC (b:=D) (by omega) 12 (.slice a7 m7 c7)
  have HH14:=Hi (an fP12 (an fD12 (an sD212 (an sD712 (an C12 (an K12 (an fP11 (an fD11 (an sD211 (an sD711 (an K11 (C11))))))))))));clear fP12 fD12 sD212 sD712 C12 K12 fP11 fD11 sD211 sD711 K11 C11
  go_wp2_with fail
  obtain⟨fP12,fD12,sD212,sD712,C12,K12,fP11,fD11,sD211,sD711,K11,C11⟩:=uh HH14;clear HH14;obtain⟨W15,hW15⟩:∃ W15,W15=(W11.setCell ⟨D,12,none⟩ (.slice a7 m7 c7)):=⟨_,rfl⟩;rw[← hW15] at fP12 fD12 sD212 sD712 C12 K12 ⊢;have sz15:W11.heap.size+0≤W15.heap.size:=by rw[hW15];simp only[zaf,dt.zaa,World.size_alloc];exact lr _
  clear hW15 cD13_12 zD13_12 fP11 fD11 sD211 sD711 K11 C11
  go_end0
  have hfin:schT (litF true N) ⟨k0,false,(n1,n2,n3),em,[],[],[],[],[],[],[],false,[],l0,o0⟩ c=(⟨k0,false,(n1,n2,n3),em,[],ds.getD [],[],[],[],[],il,false,[],l0,o0⟩,u3):=by
   unfold schT;exact (zah (uh E1)).trans ((zah (show isPR bLc u1=(u1.isP bLc,u1) from rfl)).trans ((zah (show _=(il,u3) from (zcm (E:=brkT rooT bLc bRc) (F:=ret []) (uh E3):(cond true (brkT rooT bLc bRc) (ret [])) u1=(il,u3)))).trans rfl))
  obtain⟨hS9,F9,hF9⟩:=zbr (X:=W15) (s:=⟨k0,false,(n1,n2,n3),em,[],ds.getD [],[],[],[],[],il,false,[],l0,o0⟩) (lo:=w.heap.size) (Sh.nil (w:=W15) (k:=3) (lo:=w.heap.size) (hi:=w.heap.size) (by omega)) sD212 (Sh.nil (w:=W15) (k:=10) (lo:=W4.heap.size) (hi:=W4.heap.size) (by omega)) (Sh.nil (w:=W15) (k:=17) (lo:=W4.heap.size) (hi:=W4.heap.size) (by omega)) (Sh.nil (w:=W15) (k:=3) (lo:=W4.heap.size) (hi:=W4.heap.size) (by omega)) (Sh.nil (w:=W15) (k:=7) (lo:=W4.heap.size) (hi:=W4.heap.size) (by omega)) sD712 (Sh.nil (w:=W15) (k:=3) (lo:=W11.heap.size) (hi:=W11.heap.size) (by omega)) (by omega) (by omega) (by omega) (by omega) (by omega) (by omega) (by omega) (by omega) (by omega) (by omega) (by omega) (by omega) (by omega) (by omega) (by omega) (by omega)
  exact⟨_,u3,_,F9,hfin,rfl,hS9,fD12,hF9,C12,K12⟩
 ·go_enter Tryz.func85,Tryz.ntmps85
  go_wp2_with fail
  have hD0:=hD;obtain⟨W1,hW1⟩:∃ W1,W1=allocs w [(#[.pointer (some ⟨B,0,none⟩)],74)]:=⟨_,rfl⟩;have gW1:W1=(w.alloc (.cells #[.pointer (some ⟨B,0,none⟩)] 74)):=hW1;have aa:=zaq [(#[.pointer (some ⟨B,0,none⟩)],74)] w;have fP1:W1.heap[w.heap.size]? = some (.cells #[.pointer (some ⟨B,0,none⟩)] 74 (0,0)):=by rw[hW1];exact aa 0 _ rfl
  have bw:Below w.heap.size w W1:=by rw[hW1];exact zak _ _
  have sz1:w.heap.size+1≤W1.heap.size:=by rw[hW1,zal];exact lr _
  have K1:Kp B w W1:=Kp.of bw;have fD1:W1.heap[D]? = some (.cells #[.int .i64 k0,.bool true,.bool n1,.bool n2,.string n3,.string ⟨#[]⟩,.slice none 0 0,.slice none 0 0,.slice none 0 0,.slice none 0 0,.slice none 0 0,.slice none 0 0,.slice none 0 0,.bool false,.slice none 0 0,.int .i64 l0,.int .i64 o0] 62 (0,0)):=(bw.block _ hDlt).trans hD0;have C1:=h.below bw;rw[← gW1];clear gW1 hW1 bw aa h
  have K1q:=Kq.of (D:=D) K1;clear hD0 hD K1;have cP2_0:W1.cell? ⟨w.heap.size,0,none⟩=some (.pointer (some ⟨B,0,none⟩)):=(zG fP1 0).trans rfl;have HH3:=Hi (an fP1 (an fD1 (an C1 (K1q))));clear fP1 fD1 C1 K1q
  go_wp2_with fail
  obtain⟨fP1,fD1,C1,K1q⟩:=uh HH3;clear HH3;refine (zbn C1).mono ?_
  rintro e W4 ⟨ds,u1,a2,m2,c2,F2,kE1,qE1,rfl,sD24,C4,J4⟩;have E1:=Hi qE1;clear qE1;have sz4:=J4.size;have fP4:W4.heap[w.heap.size]? = some (.cells #[.pointer (some ⟨B,0,none⟩)] 74 (0,0)):=(J4.block _ (by omega) (by omega)).trans fP1
  have fD4:W4.heap[D]? = some (.cells #[.int .i64 k0,.bool true,.bool n1,.bool n2,.string n3,.string ⟨#[]⟩,.slice none 0 0,.slice none 0 0,.slice none 0 0,.slice none 0 0,.slice none 0 0,.slice none 0 0,.slice none 0 0,.bool false,.slice none 0 0,.int .i64 l0,.int .i64 o0] 62 (0,0)):=(J4.block _ (by omega) (by omega)).trans fD1
  have K4:=K1q.trans J4;clear fP1 fD1 K1q C1 J4 cP2_0;have cD6_7:W4.cell? ⟨D,7,none⟩=some (.slice none 0 0):=(zG fD4 7).trans rfl;have zD6_7:W4.frozen? ⟨D,7,none⟩=false:=dt.zag fD4 7;have fP5:(W4.setCell ⟨D,7,none⟩ (.slice a2 m2 c2)).heap[w.heap.size]? = some (.cells #[.pointer (some ⟨B,0,none⟩)] 74 (0,0)):=(Below.heap_setCell W4 _ _ _ (show w.heap.size ≠ D by omega)).trans fP4
  have fD5:(W4.setCell ⟨D,7,none⟩ (.slice a2 m2 c2)).heap[D]? = some (.cells #[.int .i64 k0,.bool true,.bool n1,.bool n2,.string n3,.string ⟨#[]⟩,.slice none 0 0,.slice a2 m2 c2,.slice none 0 0,.slice none 0 0,.slice none 0 0,.slice none 0 0,.slice none 0 0,.bool false,.slice none 0 0,.int .i64 l0,.int .i64 o0] 62 (0,0)):=(dt.zac fD4 7 _).trans (by kernel_rfl)
  have C5:=C4.outC (b:=D) (by omega) (by omega) 7 (.slice a2 m2 c2)
  have K5:=K4.setB (b:=D) (by omega) 7 (.slice a2 m2 c2)
  have sD25:=sD24.outC (b:=D) (by omega) 7 (.slice a2 m2 c2)
  have cD7_1:(W4.setCell ⟨D,7,none⟩ (.slice a2 m2 c2)).cell? ⟨D,1,none⟩=some (.bool true):=(zG fD5 1).trans rfl;have cP8_0:(W4.setCell ⟨D,7,none⟩ (.slice a2 m2 c2)).cell? ⟨w.heap.size,0,none⟩=some (.pointer (some ⟨B,0,none⟩)):=(zG fP5 0).trans rfl;have HH9:=Hi (an fP5 (an fD5 (an sD25 (an C5 (an K5 (an fP4 (an fD4 (an sD24 (an K4 (C4))))))))));clear fP5 fD5 sD25 C5 K5 fP4 fD4 sD24 K4 C4
  go_wp2_with fail
  obtain⟨fP5,fD5,sD25,C5,K5,fP4,fD4,sD24,K4,C4⟩:=uh HH9;clear HH9;obtain⟨W10,hW10⟩:∃ W10,W10=(W4.setCell ⟨D,7,none⟩ (.slice a2 m2 c2)):=⟨_,rfl⟩;rw[← hW10] at fP5 fD5 sD25 C5 K5 ⊢;have sz10:W4.heap.size+0≤W10.heap.size:=by rw[hW10];simp only[zaf,dt.zaa,World.size_alloc];exact lr _
  clear hW10 cD6_7 zD6_7 cD7_1 cP8_0 fP4 fD4 sD24 K4 C4;refine (zhX bLc C5).mono ?_
  rintro e W11 ⟨q,qE2,rfl,C11,J11⟩;have E2:=Hi qE2;clear qE2;have sz11:=J11.size;have fP11:W11.heap[w.heap.size]? = some (.cells #[.pointer (some ⟨B,0,none⟩)] 74 (0,0)):=(J11.block _ (by omega) (by omega)).trans fP5
  have fD11:W11.heap[D]? = some (.cells #[.int .i64 k0,.bool true,.bool n1,.bool n2,.string n3,.string ⟨#[]⟩,.slice none 0 0,.slice a2 m2 c2,.slice none 0 0,.slice none 0 0,.slice none 0 0,.slice none 0 0,.slice none 0 0,.bool false,.slice none 0 0,.int .i64 l0,.int .i64 o0] 62 (0,0)):=(J11.block _ (by omega) (by omega)).trans fD5
  have sD211:=sD25.kp J11 (by omega)
  have K11:=K5.trans J11;clear fP5 fD5 sD25 K5 C5 J11
  cases q
  ·have HH12:=Hi (an fP11 (an fD11 (an sD211 (an C11 (K11)))))
   clear fP11 fD11 sD211 C11 K11
   go_wp2_with fail
   obtain⟨fP11,fD11,sD211,C11,K11⟩:=uh HH12;clear HH12
   go_end0
   have hfin:schT (litF true N) ⟨k0,true,(n1,n2,n3),em,[],[],[],[],[],[],[],false,[],l0,o0⟩ c=(⟨k0,true,(n1,n2,n3),em,[],ds.getD [],[],[],[],[],[],false,[],l0,o0⟩,u1):=by
    unfold schT;exact (zah (uh E1)).trans ((zah (uh E2)).trans ((zah (show _=([],u1) from (zcO (E:=brkT rooT bLc bRc) (zeG [] u1):(cond false (brkT rooT bLc bRc) (ret [])) u1=([],u1)))).trans rfl))
   obtain⟨hS9,F9,hF9⟩:=zbr (X:=W11) (s:=⟨k0,true,(n1,n2,n3),em,[],ds.getD [],[],[],[],[],[],false,[],l0,o0⟩) (lo:=w.heap.size) (Sh.nil (w:=W11) (k:=3) (lo:=w.heap.size) (hi:=w.heap.size) (by omega)) sD211 (Sh.nil (w:=W11) (k:=10) (lo:=W4.heap.size) (hi:=W4.heap.size) (by omega)) (Sh.nil (w:=W11) (k:=17) (lo:=W4.heap.size) (hi:=W4.heap.size) (by omega)) (Sh.nil (w:=W11) (k:=3) (lo:=W4.heap.size) (hi:=W4.heap.size) (by omega)) (Sh.nil (w:=W11) (k:=7) (lo:=W4.heap.size) (hi:=W4.heap.size) (by omega)) (Sh.nil (w:=W11) (k:=4) (lo:=W4.heap.size) (hi:=W4.heap.size) (by omega)) (Sh.nil (w:=W11) (k:=3) (lo:=W4.heap.size) (hi:=W4.heap.size) (by omega)) (by omega) (by omega) (by omega) (by omega) (by omega) (by omega) (by omega) (by omega) (by omega) (by omega) (by omega) (by omega) (by omega) (by omega) (by omega) (by omega)
   exact⟨_,u1,_,F9,hfin,rfl,hS9,fD11,hF9,C11,K11⟩
  ·have cP12_0:W11.cell? ⟨w.heap.size,0,none⟩=some (.pointer (some ⟨B,0,none⟩)):=(zG fP11 0).trans rfl
   have HH13:=Hi (an fP11 (an fD11 (an sD211 (an C11 (K11)))));clear fP11 fD11 sD211 C11 K11
   go_wp2_with fail
   obtain⟨fP11,fD11,sD211,C11,K11⟩:=uh HH13;clear HH13;refine (zhz ⟨#[123]⟩ ⟨#[125]⟩ C11).mono ?_
   rintro e W14 ⟨il,u3,a7,m7,c7,F7,qE3,rfl,sD714,C14,J14⟩;have E3:=Hi qE3;clear qE3;have sz14:=J14.size;have fP14:W14.heap[w.heap.size]? = some (.cells #[.pointer (some ⟨B,0,none⟩)] 74 (0,0)):=(J14.block _ (by omega) (by omega)).trans fP11
   have fD14:W14.heap[D]? = some (.cells #[.int .i64 k0,.bool true,.bool n1,.bool n2,.string n3,.string ⟨#[]⟩,.slice none 0 0,.slice a2 m2 c2,.slice none 0 0,.slice none 0 0,.slice none 0 0,.slice none 0 0,.slice none 0 0,.bool false,.slice none 0 0,.int .i64 l0,.int .i64 o0] 62 (0,0)):=(J14.block _ (by omega) (by omega)).trans fD11
   have sD214:=sD211.kp J14 (by omega)
   have K14:=K11.trans J14;clear fP11 fD11 sD211 K11 C11 J14 cP12_0;have cD16_12:W14.cell? ⟨D,12,none⟩=some (.slice none 0 0):=(zG fD14 12).trans rfl;have zD16_12:W14.frozen? ⟨D,12,none⟩=false:=dt.zag fD14 12;have fP15:(W14.setCell ⟨D,12,none⟩ (.slice a7 m7 c7)).heap[w.heap.size]? = some (.cells #[.pointer (some ⟨B,0,none⟩)] 74 (0,0)):=(Below.heap_setCell W14 _ _ _ (show w.heap.size ≠ D by omega)).trans fP14
   have fD15:(W14.setCell ⟨D,12,none⟩ (.slice a7 m7 c7)).heap[D]? = some (.cells #[.int .i64 k0,.bool true,.bool n1,.bool n2,.string n3,.string ⟨#[]⟩,.slice none 0 0,.slice a2 m2 c2,.slice none 0 0,.slice none 0 0,.slice none 0 0,.slice none 0 0,.slice a7 m7 c7,.bool false,.slice none 0 0,.int .i64 l0,.int .i64 o0] 62 (0,0)):=(dt.zac fD14 12 _).trans (by kernel_rfl)
   have C15:=C14.outC (b:=D) (by omega) (by omega) 12 (.slice a7 m7 c7)
   have K15:=K14.setB (b:=D) (by omega) 12 (.slice a7 m7 c7)
   have sD215:=sD214.outC (b:=D) (by omega) 12 (.slice a7 m7 c7)
   have sD715:=sD714.outC (b:=D) (by omega) 12 (.slice a7 m7 c7)
   have HH17:=Hi (an fP15 (an fD15 (an sD215 (an sD715 (an C15 (an K15 (an fP14 (an fD14 (an sD214 (an sD714 (an K14 (C14))))))))))));clear fP15 fD15 sD215 sD715 C15 K15 fP14 fD14 sD214 sD714 K14 C14
   go_wp2_with fail
   obtain⟨fP15,fD15,sD215,sD715,C15,K15,fP14,fD14,sD214,sD714,K14,C14⟩:=uh HH17;clear HH17;obtain⟨W18,hW18⟩:∃ W18,W18=(W14.setCell ⟨D,12,none⟩ (.slice a7 m7 c7)):=⟨_,rfl⟩;rw[← hW18] at fP15 fD15 sD215 sD715 C15 K15 ⊢;have sz18:W14.heap.size+0≤W18.heap.size:=by rw[hW18];simp only[zaf,dt.zaa,World.size_alloc];exact lr _
   clear hW18 cD16_12 zD16_12 fP14 fD14 sD214 sD714 K14 C14
   go_end0
   have hfin:schT (litF true N) ⟨k0,true,(n1,n2,n3),em,[],[],[],[],[],[],[],false,[],l0,o0⟩ c=(⟨k0,true,(n1,n2,n3),em,[],ds.getD [],[],[],[],[],il,false,[],l0,o0⟩,u3):=by
    unfold schT;exact (zah (uh E1)).trans ((zah (uh E2)).trans ((zah (show _=(il,u3) from (zcm (E:=brkT rooT bLc bRc) (F:=ret []) (uh E3):(cond true (brkT rooT bLc bRc) (ret [])) u1=(il,u3)))).trans rfl))
   obtain⟨hS9,F9,hF9⟩:=zbr (X:=W18) (s:=⟨k0,true,(n1,n2,n3),em,[],ds.getD [],[],[],[],[],il,false,[],l0,o0⟩) (lo:=w.heap.size) (Sh.nil (w:=W18) (k:=3) (lo:=w.heap.size) (hi:=w.heap.size) (by omega)) sD215 (Sh.nil (w:=W18) (k:=10) (lo:=W4.heap.size) (hi:=W4.heap.size) (by omega)) (Sh.nil (w:=W18) (k:=17) (lo:=W4.heap.size) (hi:=W4.heap.size) (by omega)) (Sh.nil (w:=W18) (k:=3) (lo:=W4.heap.size) (hi:=W4.heap.size) (by omega)) (Sh.nil (w:=W18) (k:=7) (lo:=W4.heap.size) (hi:=W4.heap.size) (by omega)) sD715 (Sh.nil (w:=W18) (k:=3) (lo:=W14.heap.size) (hi:=W14.heap.size) (by omega)) (by omega) (by omega) (by omega) (by omega) (by omega) (by omega) (by omega) (by omega) (by omega) (by omega) (by omega) (by omega) (by omega) (by omega) (by omega) (by omega)
   exact⟨_,u3,_,F9,hfin,rfl,hS9,fD15,hF9,C15,K15⟩
end
section
variable {N B p D:Nat} {c:Cu} {w:World}
set_option maxRecDepth 4000 in
set_option maxHeartbeats 4000000 in
theorem zqd {k0 l0 o0:Int} {ex n1 n2:Bool} {n3:ByteArray} (hD:w.heap[D]? = some (.cells #[.int .i64 k0,.bool ex,.bool n1,.bool n2,.string n3,.string ⟨#[]⟩,.slice none 0 0,.slice none 0 0,.slice none 0 0,.slice none 0 0,.slice none 0 0,.slice none 0 0,.slice none 0 0,.bool false,.slice none 0 0,.int .i64 l0,.int .i64 o0] 62 (0,0))) (hDB:D ≠ B) (hDp:D ≠ p) (h:CurN N w B p c):Calls Tryz.prog 86 #[.agg #[.pointer (some ⟨B,0,none⟩)],.pointer (some ⟨D,0,none⟩)] w fun e w'=>∃ (s:Sy) (c':Cu) (cs:List Value) (F:List Nat),scaT (litF true N) ⟨k0,ex,(n1,n2,n3),em,[],[],[],[],[],[],[],false,[],l0,o0⟩ c=(s,c')∧e = .returned (.tuple #[])∧SyC s cs∧w'.heap[D]? = some (.cells cs.toArray 62 (0,0))∧Ho w' s.d cs F w.heap.size w'.heap.size∧CurN N w' B p c'∧Kq B D w w':=by
 have hlt:=h.lt;have hplt:=h.plt;have hDlt:D<w.heap.size:=(Array.getElem?_eq_some_iff.1 hD).1
 go_enter Tryz.func86,Tryz.ntmps86
 go_wp2_with fail
 have hD0:=hD;obtain⟨W1,hW1⟩:∃ W1,W1=allocs w [(#[.pointer (some ⟨B,0,none⟩)],74)]:=⟨_,rfl⟩;have gW1:W1=(w.alloc (.cells #[.pointer (some ⟨B,0,none⟩)] 74)):=hW1;have aa:=zaq [(#[.pointer (some ⟨B,0,none⟩)],74)] w;have fP1:W1.heap[w.heap.size]? = some (.cells #[.pointer (some ⟨B,0,none⟩)] 74 (0,0)):=by rw[hW1];exact aa 0 _ rfl
 have bw:Below w.heap.size w W1:=by rw[hW1];exact zak _ _
 have sz1:w.heap.size+1≤W1.heap.size:=by rw[hW1,zal];exact lr _
 have K1:Kp B w W1:=Kp.of bw;have fD1:W1.heap[D]? = some (.cells #[.int .i64 k0,.bool ex,.bool n1,.bool n2,.string n3,.string ⟨#[]⟩,.slice none 0 0,.slice none 0 0,.slice none 0 0,.slice none 0 0,.slice none 0 0,.slice none 0 0,.slice none 0 0,.bool false,.slice none 0 0,.int .i64 l0,.int .i64 o0] 62 (0,0)):=(bw.block _ hDlt).trans hD0;have C1:=h.below bw;rw[← gW1];clear gW1 hW1 bw aa h
 have K1q:=Kq.of (D:=D) K1;clear hD0 hD K1;have cP2_0:W1.cell? ⟨w.heap.size,0,none⟩=some (.pointer (some ⟨B,0,none⟩)):=(zG fP1 0).trans rfl;have HH3:=Hi (an fP1 (an fD1 (an C1 (K1q))));clear fP1 fD1 C1 K1q
 go_wp2_with fail
 obtain⟨fP1,fD1,C1,K1q⟩:=uh HH3;clear HH3;refine (zcI fD1 hDB hDp C1).mono ?_
 rintro e W4 ⟨nm,ln,co,u1,qE1,rfl,fD4,C4,J4⟩;have E1:=Hi qE1;clear qE1;have sz4:=J4.size;have fP4:W4.heap[w.heap.size]? = some (.cells #[.pointer (some ⟨B,0,none⟩)] 74 (0,0)):=(J4.block _ (by omega) (by omega) (by omega)).trans fP1
 have K4:=K1q.transQ J4;clear fP1 fD1 K1q C1 J4 cP2_0;have cP5_0:W4.cell? ⟨w.heap.size,0,none⟩=some (.pointer (some ⟨B,0,none⟩)):=(zG fP4 0).trans rfl;have HH6:=Hi (an fP4 (an fD4 (an C4 (K4))));clear fP4 fD4 C4 K4
 go_wp2_with fail
 obtain⟨fP4,fD4,C4,K4⟩:=uh HH6;clear HH6;refine (zbn C4).mono ?_
 rintro e W7 ⟨ds,u2,a2,m2,c2,F2,kE2,qE2,rfl,sD27,C7,J7⟩;have E2:=Hi qE2;clear qE2;have sz7:=J7.size;have fP7:W7.heap[w.heap.size]? = some (.cells #[.pointer (some ⟨B,0,none⟩)] 74 (0,0)):=(J7.block _ (by omega) (by omega)).trans fP4
 have fD7:W7.heap[D]? = some (.cells #[.int .i64 k0,.bool ex,.bool n1,.bool n2,.string n3,.string nm,.slice none 0 0,.slice none 0 0,.slice none 0 0,.slice none 0 0,.slice none 0 0,.slice none 0 0,.slice none 0 0,.bool false,.slice none 0 0,.int .i64 ln,.int .i64 co] 62 (0,0)):=(J7.block _ (by omega) (by omega)).trans fD4
 have K7:=K4.trans J7;clear fP4 fD4 K4 C4 J7 cP5_0;have cD9_7:W7.cell? ⟨D,7,none⟩=some (.slice none 0 0):=(zG fD7 7).trans rfl;have zD9_7:W7.frozen? ⟨D,7,none⟩=false:=dt.zag fD7 7;have fP8:(W7.setCell ⟨D,7,none⟩ (.slice a2 m2 c2)).heap[w.heap.size]? = some (.cells #[.pointer (some ⟨B,0,none⟩)] 74 (0,0)):=(Below.heap_setCell W7 _ _ _ (show w.heap.size ≠ D by omega)).trans fP7
 have fD8:(W7.setCell ⟨D,7,none⟩ (.slice a2 m2 c2)).heap[D]? = some (.cells #[.int .i64 k0,.bool ex,.bool n1,.bool n2,.string n3,.string nm,.slice none 0 0,.slice a2 m2 c2,.slice none 0 0,.slice none 0 0,.slice none 0 0,.slice none 0 0,.slice none 0 0,.bool false,.slice none 0 0,.int .i64 ln,.int .i64 co] 62 (0,0)):=(dt.zac fD7 7 _).trans (by kernel_rfl)
 have C8:=C7.outC (b:=D) (by omega) (by omega) 7 (.slice a2 m2 c2)
 have K8:=K7.setB (b:=D) (by omega) 7 (.slice a2 m2 c2)
 have sD28:=sD27.outC (b:=D) (by omega) 7 (.slice a2 m2 c2)
 have HH10:=Hi (an fP8 (an fD8 (an sD28 (an C8 (an K8 (an fP7 (an fD7 (an sD27 (an K7 (C7))))))))));clear fP8 fD8 sD28 C8 K8 fP7 fD7 sD27 K7 C7
 go_wp2_with fail
 obtain⟨fP8,fD8,sD28,C8,K8,fP7,fD7,sD27,K7,C7⟩:=uh HH10;clear HH10;obtain⟨W11,hW11⟩:∃ W11,W11=(W7.setCell ⟨D,7,none⟩ (.slice a2 m2 c2)):=⟨_,rfl⟩;rw[← hW11] at fP8 fD8 sD28 C8 K8 ⊢;have sz11:W7.heap.size+0≤W11.heap.size:=by rw[hW11];simp only[zaf,dt.zaa,World.size_alloc];exact lr _
 clear hW11 cD9_7 zD9_7 fP7 fD7 sD27 K7 C7
 go_end0
 have hfin:scaT (litF true N) ⟨k0,ex,(n1,n2,n3),em,[],[],[],[],[],[],[],false,[],l0,o0⟩ c=(⟨k0,ex,(n1,n2,n3),nm,[],ds.getD [],[],[],[],[],[],false,[],ln,co⟩,u2):=by
  unfold scaT;exact (zah (zdM (uh E1))).trans ((zah (uh E2)).trans rfl)
 obtain⟨hS9,F9,hF9⟩:=zbr (X:=W11) (s:=⟨k0,ex,(n1,n2,n3),nm,[],ds.getD [],[],[],[],[],[],false,[],ln,co⟩) (lo:=w.heap.size) (Sh.nil (w:=W11) (k:=3) (lo:=w.heap.size) (hi:=w.heap.size) (by omega)) sD28 (Sh.nil (w:=W11) (k:=10) (lo:=W7.heap.size) (hi:=W7.heap.size) (by omega)) (Sh.nil (w:=W11) (k:=17) (lo:=W7.heap.size) (hi:=W7.heap.size) (by omega)) (Sh.nil (w:=W11) (k:=3) (lo:=W7.heap.size) (hi:=W7.heap.size) (by omega)) (Sh.nil (w:=W11) (k:=7) (lo:=W7.heap.size) (hi:=W7.heap.size) (by omega)) (Sh.nil (w:=W11) (k:=4) (lo:=W7.heap.size) (hi:=W7.heap.size) (by omega)) (Sh.nil (w:=W11) (k:=3) (lo:=W7.heap.size) (hi:=W7.heap.size) (by omega)) (by omega) (by omega) (by omega) (by omega) (by omega) (by omega) (by omega) (by omega) (by omega) (by omega) (by omega) (by omega) (by omega) (by omega) (by omega) (by omega)
 exact⟨_,u2,_,F9,hfin,rfl,hS9,fD8,hF9,C8,K8⟩
end
section
variable {N B p D:Nat} {c:Cu} {w:World}
set_option maxRecDepth 4000 in
set_option maxHeartbeats 4000000 in
theorem zmR {k0 l0 o0:Int} {ex n1 n2:Bool} {n3:ByteArray} (hD:w.heap[D]? = some (.cells #[.int .i64 k0,.bool ex,.bool n1,.bool n2,.string n3,.string ⟨#[]⟩,.slice none 0 0,.slice none 0 0,.slice none 0 0,.slice none 0 0,.slice none 0 0,.slice none 0 0,.slice none 0 0,.bool false,.slice none 0 0,.int .i64 l0,.int .i64 o0] 62 (0,0))) (hDB:D ≠ B) (hDp:D ≠ p) (h:CurN N w B p c):Calls Tryz.prog 87 #[.agg #[.pointer (some ⟨B,0,none⟩)],.pointer (some ⟨D,0,none⟩)] w fun e w'=>∃ (s:Sy) (c':Cu) (cs:List Value) (F:List Nat),objT (typF N) (litF true N) N ⟨k0,ex,(n1,n2,n3),em,[],[],[],[],[],[],[],false,[],l0,o0⟩ c=(s,c')∧e = .returned (.tuple #[])∧SyC s cs∧w'.heap[D]? = some (.cells cs.toArray 62 (0,0))∧Ho w' s.d cs F w.heap.size w'.heap.size∧CurN N w' B p c'∧Kq B D w w':=by
 have hlt:=h.lt;have hplt:=h.plt;have hDlt:D<w.heap.size:=(Array.getElem?_eq_some_iff.1 hD).1
 go_enter Tryz.func87,Tryz.ntmps87
 go_wp2_with fail
 have hD0:=hD;obtain⟨W1,hW1⟩:∃ W1,W1=allocs w [(#[.pointer (some ⟨B,0,none⟩)],74)]:=⟨_,rfl⟩;have gW1:W1=(w.alloc (.cells #[.pointer (some ⟨B,0,none⟩)] 74)):=hW1;have aa:=zaq [(#[.pointer (some ⟨B,0,none⟩)],74)] w;have fP1:W1.heap[w.heap.size]? = some (.cells #[.pointer (some ⟨B,0,none⟩)] 74 (0,0)):=by rw[hW1];exact aa 0 _ rfl
 have bw:Below w.heap.size w W1:=by rw[hW1];exact zak _ _
 have sz1:w.heap.size+1≤W1.heap.size:=by rw[hW1,zal];exact lr _
 have K1:Kp B w W1:=Kp.of bw;have fD1:W1.heap[D]? = some (.cells #[.int .i64 k0,.bool ex,.bool n1,.bool n2,.string n3,.string ⟨#[]⟩,.slice none 0 0,.slice none 0 0,.slice none 0 0,.slice none 0 0,.slice none 0 0,.slice none 0 0,.slice none 0 0,.bool false,.slice none 0 0,.int .i64 l0,.int .i64 o0] 62 (0,0)):=(bw.block _ hDlt).trans hD0;have C1:=h.below bw;rw[← gW1];clear gW1 hW1 bw aa h
 have K1q:=Kq.of (D:=D) K1;clear hD0 hD K1;have cP2_0:W1.cell? ⟨w.heap.size,0,none⟩=some (.pointer (some ⟨B,0,none⟩)):=(zG fP1 0).trans rfl;have HH3:=Hi (an fP1 (an fD1 (an C1 (K1q))));clear fP1 fD1 C1 K1q
 go_wp2_with fail
 obtain⟨fP1,fD1,C1,K1q⟩:=uh HH3;clear HH3;refine (zcI fD1 hDB hDp C1).mono ?_
 rintro e W4 ⟨nm,ln,co,u1,qE1,rfl,fD4,C4,J4⟩;have E1:=Hi qE1;clear qE1;have sz4:=J4.size;have fP4:W4.heap[w.heap.size]? = some (.cells #[.pointer (some ⟨B,0,none⟩)] 74 (0,0)):=(J4.block _ (by omega) (by omega) (by omega)).trans fP1
 have K4:=K1q.transQ J4;clear fP1 fD1 K1q C1 J4 cP2_0;have cP5_0:W4.cell? ⟨w.heap.size,0,none⟩=some (.pointer (some ⟨B,0,none⟩)):=(zG fP4 0).trans rfl;have HH6:=Hi (an fP4 (an fD4 (an C4 (K4))));clear fP4 fD4 C4 K4
 go_wp2_with fail
 obtain⟨fP4,fD4,C4,K4⟩:=uh HH6;clear HH6;refine (zeP bImpl C4).mono ?_
 rintro e W7 ⟨u2,q,qE2,rfl,C7,J7⟩;have E2:=Hi qE2;clear qE2;have sz7:=J7.size;have fP7:W7.heap[w.heap.size]? = some (.cells #[.pointer (some ⟨B,0,none⟩)] 74 (0,0)):=(J7.block _ (by omega) (by omega)).trans fP4
 have fD7:W7.heap[D]? = some (.cells #[.int .i64 k0,.bool ex,.bool n1,.bool n2,.string n3,.string nm,.slice none 0 0,.slice none 0 0,.slice none 0 0,.slice none 0 0,.slice none 0 0,.slice none 0 0,.slice none 0 0,.bool false,.slice none 0 0,.int .i64 ln,.int .i64 co] 62 (0,0)):=(J7.block _ (by omega) (by omega)).trans fD4
 have K7:=K4.trans J7;clear fP4 fD4 K4 C4 J7 cP5_0
 cases q
 ·have cP8_0:W7.cell? ⟨w.heap.size,0,none⟩=some (.pointer (some ⟨B,0,none⟩)):=(zG fP7 0).trans rfl
  have HH9:=Hi (an fP7 (an fD7 (an C7 (K7))));clear fP7 fD7 C7 K7
  go_wp2_with fail
  obtain⟨fP7,fD7,C7,K7⟩:=uh HH9;clear HH9;refine (zbn C7).mono ?_
  rintro e W10 ⟨ds,u4,a2,m2,c2,F2,kE4,qE4,rfl,sD210,C10,J10⟩;have E4:=Hi qE4;clear qE4;have sz10:=J10.size;have fP10:W10.heap[w.heap.size]? = some (.cells #[.pointer (some ⟨B,0,none⟩)] 74 (0,0)):=(J10.block _ (by omega) (by omega)).trans fP7
  have fD10:W10.heap[D]? = some (.cells #[.int .i64 k0,.bool ex,.bool n1,.bool n2,.string n3,.string nm,.slice none 0 0,.slice none 0 0,.slice none 0 0,.slice none 0 0,.slice none 0 0,.slice none 0 0,.slice none 0 0,.bool false,.slice none 0 0,.int .i64 ln,.int .i64 co] 62 (0,0)):=(J10.block _ (by omega) (by omega)).trans fD7
  have K10:=K7.trans J10;clear fP7 fD7 K7 C7 J10 cP8_0;have cD12_7:W10.cell? ⟨D,7,none⟩=some (.slice none 0 0):=(zG fD10 7).trans rfl;have zD12_7:W10.frozen? ⟨D,7,none⟩=false:=dt.zag fD10 7;have fP11:(W10.setCell ⟨D,7,none⟩ (.slice a2 m2 c2)).heap[w.heap.size]? = some (.cells #[.pointer (some ⟨B,0,none⟩)] 74 (0,0)):=(Below.heap_setCell W10 _ _ _ (show w.heap.size ≠ D by omega)).trans fP10
  have fD11:(W10.setCell ⟨D,7,none⟩ (.slice a2 m2 c2)).heap[D]? = some (.cells #[.int .i64 k0,.bool ex,.bool n1,.bool n2,.string n3,.string nm,.slice none 0 0,.slice a2 m2 c2,.slice none 0 0,.slice none 0 0,.slice none 0 0,.slice none 0 0,.slice none 0 0,.bool false,.slice none 0 0,.int .i64 ln,.int .i64 co] 62 (0,0)):=(dt.zac fD10 7 _).trans (by kernel_rfl)
  have C11:=C10.outC (b:=D) (by omega) (by omega) 7 (.slice a2 m2 c2)
  have K11:=K10.setB (b:=D) (by omega) 7 (.slice a2 m2 c2)
  have sD211:=sD210.outC (b:=D) (by omega) 7 (.slice a2 m2 c2)
  have cP13_0:(W10.setCell ⟨D,7,none⟩ (.slice a2 m2 c2)).cell? ⟨w.heap.size,0,none⟩=some (.pointer (some ⟨B,0,none⟩)):=(zG fP11 0).trans rfl;have HH14:=Hi (an fP11 (an fD11 (an sD211 (an C11 (an K11 (an fP10 (an fD10 (an sD210 (an K10 (C10))))))))));clear fP11 fD11 sD211 C11 K11 fP10 fD10 sD210 K10 C10
  go_wp2_with fail
  obtain⟨fP11,fD11,sD211,C11,K11,fP10,fD10,sD210,K10,C10⟩:=uh HH14;clear HH14;obtain⟨W15,hW15⟩:∃ W15,W15=(W10.setCell ⟨D,7,none⟩ (.slice a2 m2 c2)):=⟨_,rfl⟩;rw[← hW15] at fP11 fD11 sD211 C11 K11 ⊢;have sz15:W10.heap.size+0≤W15.heap.size:=by rw[hW15];simp only[zaf,dt.zaa,World.size_alloc];exact lr _
  clear hW15 cD12_7 zD12_7 cP13_0 fP10 fD10 sD210 K10 C10;refine (zh7 ⟨#[123]⟩ ⟨#[125]⟩ C11).mono ?_
  rintro e W16 ⟨fl,u5,a3,m3,c3,F3,qE5,rfl,sD316,C16,J16⟩;have E5:=Hi qE5;clear qE5;have sz16:=J16.size;have fP16:W16.heap[w.heap.size]? = some (.cells #[.pointer (some ⟨B,0,none⟩)] 74 (0,0)):=(J16.block _ (by omega) (by omega)).trans fP11
  have fD16:W16.heap[D]? = some (.cells #[.int .i64 k0,.bool ex,.bool n1,.bool n2,.string n3,.string nm,.slice none 0 0,.slice a2 m2 c2,.slice none 0 0,.slice none 0 0,.slice none 0 0,.slice none 0 0,.slice none 0 0,.bool false,.slice none 0 0,.int .i64 ln,.int .i64 co] 62 (0,0)):=(J16.block _ (by omega) (by omega)).trans fD11
  have sD216:=sD211.kp J16 (by omega)
  have K16:=K11.trans J16;clear fP11 fD11 sD211 K11 C11 J16;have cD18_8:W16.cell? ⟨D,8,none⟩=some (.slice none 0 0):=(zG fD16 8).trans rfl;have zD18_8:W16.frozen? ⟨D,8,none⟩=false:=dt.zag fD16 8;have fP17:(W16.setCell ⟨D,8,none⟩ (.slice a3 m3 c3)).heap[w.heap.size]? = some (.cells #[.pointer (some ⟨B,0,none⟩)] 74 (0,0)):=(Below.heap_setCell W16 _ _ _ (show w.heap.size ≠ D by omega)).trans fP16
  have fD17:(W16.setCell ⟨D,8,none⟩ (.slice a3 m3 c3)).heap[D]? = some (.cells #[.int .i64 k0,.bool ex,.bool n1,.bool n2,.string n3,.string nm,.slice none 0 0,.slice a2 m2 c2,.slice a3 m3 c3,.slice none 0 0,.slice none 0 0,.slice none 0 0,.slice none 0 0,.bool false,.slice none 0 0,.int .i64 ln,.int .i64 co] 62 (0,0)):=(dt.zac fD16 8 _).trans (by kernel_rfl)
  have C17:=C16.outC (b:=D) (by omega) (by omega) 8 (.slice a3 m3 c3)
  have K17:=K16.setB (b:=D) (by omega) 8 (.slice a3 m3 c3)
  have sD217:=sD216.outC (b:=D) (by omega) 8 (.slice a3 m3 c3)
  have sD317:=sD316.outC (b:=D) (by omega) 8 (.slice a3 m3 c3)
  have HH19:=Hi (an fP17 (an fD17 (an sD217 (an sD317 (an C17 (an K17 (an fP16 (an fD16 (an sD216 (an sD316 (an K16 (C16))))))))))));clear fP17 fD17 sD217 sD317 C17 K17 fP16 fD16 sD216 sD316 K16 C16
  go_wp2_with fail
  obtain⟨fP17,fD17,sD217,sD317,C17,K17,fP16,fD16,sD216,sD316,K16,C16⟩:=uh HH19;clear HH19;obtain⟨W20,hW20⟩:∃ W20,W20=(W16.setCell ⟨D,8,none⟩ (.slice a3 m3 c3)):=⟨_,rfl⟩;rw[← hW20] at fP17 fD17 sD217 sD317 C17 K17 ⊢;have sz20:W16.heap.size+0≤W20.heap.size:=by rw[hW20];simp only[zaf,dt.zaa,World.size_alloc];exact lr _
  clear hW20 cD18_8 zD18_8 fP16 fD16 sD216 sD316 K16 C16
  go_end0
  have hfin:objT (typF N) (litF true N) N ⟨k0,ex,(n1,n2,n3),em,[],[],[],[],[],[],[],false,[],l0,o0⟩ c=(⟨k0,ex,(n1,n2,n3),nm,[],ds.getD [],fl,[],[],[],[],false,[],ln,co⟩,u5):=by
   unfold objT;exact (zah (zdM (uh E1))).trans ((zah (uh E2)).trans ((zah (zcO (E:=parT N namR bAmp) (zeG [] u2))).trans ((zah (uh E4)).trans ((zah (show optT (fdT (typF N) (litF true N)) bLc bRc u4=(fl,u5) from uh E5)).trans rfl))))
  obtain⟨hS9,F9,hF9⟩:=zbr (X:=W20) (s:=⟨k0,ex,(n1,n2,n3),nm,[],ds.getD [],fl,[],[],[],[],false,[],ln,co⟩) (lo:=w.heap.size) (Sh.nil (w:=W20) (k:=3) (lo:=w.heap.size) (hi:=w.heap.size) (by omega)) sD217 sD317 (Sh.nil (w:=W20) (k:=17) (lo:=W16.heap.size) (hi:=W16.heap.size) (by omega)) (Sh.nil (w:=W20) (k:=3) (lo:=W16.heap.size) (hi:=W16.heap.size) (by omega)) (Sh.nil (w:=W20) (k:=7) (lo:=W16.heap.size) (hi:=W16.heap.size) (by omega)) (Sh.nil (w:=W20) (k:=4) (lo:=W16.heap.size) (hi:=W16.heap.size) (by omega)) (Sh.nil (w:=W20) (k:=3) (lo:=W16.heap.size) (hi:=W16.heap.size) (by omega)) (by omega) (by omega) (by omega) (by omega) (by omega) (by omega) (by omega) (by omega) (by omega) (by omega) (by omega) (by omega) (by omega) (by omega) (by omega) (by omega)
  exact⟨_,u5,_,F9,hfin,rfl,hS9,fD17,hF9,C17,K17⟩
 ·have cP8_0:W7.cell? ⟨w.heap.size,0,none⟩=some (.pointer (some ⟨B,0,none⟩)):=(zG fP7 0).trans rfl
  have HH9:=Hi (an fP7 (an fD7 (an C7 (K7))));clear fP7 fD7 C7 K7
  go_wp2_with fail
  obtain⟨fP7,fD7,C7,K7⟩:=uh HH9;clear HH9;refine (zkm bAmp C7).mono ?_
  rintro e W10 ⟨il,u3,a1,m1,c1,F1,qE3,rfl,sD110,C10,J10⟩;have E3:=Hi qE3;clear qE3;have sz10:=J10.size;have fP10:W10.heap[w.heap.size]? = some (.cells #[.pointer (some ⟨B,0,none⟩)] 74 (0,0)):=(J10.block _ (by omega) (by omega)).trans fP7
  have fD10:W10.heap[D]? = some (.cells #[.int .i64 k0,.bool ex,.bool n1,.bool n2,.string n3,.string nm,.slice none 0 0,.slice none 0 0,.slice none 0 0,.slice none 0 0,.slice none 0 0,.slice none 0 0,.slice none 0 0,.bool false,.slice none 0 0,.int .i64 ln,.int .i64 co] 62 (0,0)):=(J10.block _ (by omega) (by omega)).trans fD7
  have K10:=K7.trans J10;clear fP7 fD7 K7 C7 J10 cP8_0;have cD12_6:W10.cell? ⟨D,6,none⟩=some (.slice none 0 0):=(zG fD10 6).trans rfl;have zD12_6:W10.frozen? ⟨D,6,none⟩=false:=dt.zag fD10 6;have fP11:(W10.setCell ⟨D,6,none⟩ (.slice a1 m1 c1)).heap[w.heap.size]? = some (.cells #[.pointer (some ⟨B,0,none⟩)] 74 (0,0)):=(Below.heap_setCell W10 _ _ _ (show w.heap.size ≠ D by omega)).trans fP10
  have fD11:(W10.setCell ⟨D,6,none⟩ (.slice a1 m1 c1)).heap[D]? = some (.cells #[.int .i64 k0,.bool ex,.bool n1,.bool n2,.string n3,.string nm,.slice a1 m1 c1,.slice none 0 0,.slice none 0 0,.slice none 0 0,.slice none 0 0,.slice none 0 0,.slice none 0 0,.bool false,.slice none 0 0,.int .i64 ln,.int .i64 co] 62 (0,0)):=(dt.zac fD10 6 _).trans (by kernel_rfl)
  have C11:=C10.outC (b:=D) (by omega) (by omega) 6 (.slice a1 m1 c1)
  have K11:=K10.setB (b:=D) (by omega) 6 (.slice a1 m1 c1)
  have sD111:=sD110.outC (b:=D) (by omega) 6 (.slice a1 m1 c1)
  have cP13_0:(W10.setCell ⟨D,6,none⟩ (.slice a1 m1 c1)).cell? ⟨w.heap.size,0,none⟩=some (.pointer (some ⟨B,0,none⟩)):=(zG fP11 0).trans rfl;have HH14:=Hi (an fP11 (an fD11 (an sD111 (an C11 (an K11 (an fP10 (an fD10 (an sD110 (an K10 (C10))))))))));clear fP11 fD11 sD111 C11 K11 fP10 fD10 sD110 K10 C10
  go_wp2_with fail
  obtain⟨fP11,fD11,sD111,C11,K11,fP10,fD10,sD110,K10,C10⟩:=uh HH14;clear HH14;obtain⟨W15,hW15⟩:∃ W15,W15=(W10.setCell ⟨D,6,none⟩ (.slice a1 m1 c1)):=⟨_,rfl⟩;rw[← hW15] at fP11 fD11 sD111 C11 K11 ⊢;have sz15:W10.heap.size+0≤W15.heap.size:=by rw[hW15];simp only[zaf,dt.zaa,World.size_alloc];exact lr _
  clear hW15 cD12_6 zD12_6 cP13_0 fP10 fD10 sD110 K10 C10;refine (zbn C11).mono ?_
  rintro e W16 ⟨ds,u4,a2,m2,c2,F2,kE4,qE4,rfl,sD216,C16,J16⟩;have E4:=Hi qE4;clear qE4;have sz16:=J16.size;have fP16:W16.heap[w.heap.size]? = some (.cells #[.pointer (some ⟨B,0,none⟩)] 74 (0,0)):=(J16.block _ (by omega) (by omega)).trans fP11
  have fD16:W16.heap[D]? = some (.cells #[.int .i64 k0,.bool ex,.bool n1,.bool n2,.string n3,.string nm,.slice a1 m1 c1,.slice none 0 0,.slice none 0 0,.slice none 0 0,.slice none 0 0,.slice none 0 0,.slice none 0 0,.bool false,.slice none 0 0,.int .i64 ln,.int .i64 co] 62 (0,0)):=(J16.block _ (by omega) (by omega)).trans fD11
  have sD116:=sD111.kp J16 (by omega)
  have K16:=K11.trans J16;clear fP11 fD11 sD111 K11 C11 J16;have cD18_7:W16.cell? ⟨D,7,none⟩=some (.slice none 0 0):=(zG fD16 7).trans rfl;have zD18_7:W16.frozen? ⟨D,7,none⟩=false:=dt.zag fD16 7;have fP17:(W16.setCell ⟨D,7,none⟩ (.slice a2 m2 c2)).heap[w.heap.size]? = some (.cells #[.pointer (some ⟨B,0,none⟩)] 74 (0,0)):=(Below.heap_setCell W16 _ _ _ (show w.heap.size ≠ D by omega)).trans fP16
  have fD17:(W16.setCell ⟨D,7,none⟩ (.slice a2 m2 c2)).heap[D]? = some (.cells #[.int .i64 k0,.bool ex,.bool n1,.bool n2,.string n3,.string nm,.slice a1 m1 c1,.slice a2 m2 c2,.slice none 0 0,.slice none 0 0,.slice none 0 0,.slice none 0 0,.slice none 0 0,.bool false,.slice none 0 0,.int .i64 ln,.int .i64 co] 62 (0,0)):=(dt.zac fD16 7 _).trans (by kernel_rfl)
  have C17:=C16.outC (b:=D) (by omega) (by omega) 7 (.slice a2 m2 c2)
  have K17:=K16.setB (b:=D) (by omega) 7 (.slice a2 m2 c2)
  have sD117:=sD116.outC (b:=D) (by omega) 7 (.slice a2 m2 c2)
  have sD217:=sD216.outC (b:=D) (by omega) 7 (.slice a2 m2 c2)
  have cP19_0:(W16.setCell ⟨D,7,none⟩ (.slice a2 m2 c2)).cell? ⟨w.heap.size,0,none⟩=some (.pointer (some ⟨B,0,none⟩)):=(zG fP17 0).trans rfl;have HH20:=Hi (an fP17 (an fD17 (an sD117 (an sD217 (an C17 (an K17 (an fP16 (an fD16 (an sD116 (an sD216 (an K16 (C16))))))))))));clear fP17 fD17 sD117 sD217 C17 K17 fP16 fD16 sD116 sD216 K16 C16
  go_wp2_with fail
  obtain⟨fP17,fD17,sD117,sD217,C17,K17,fP16,fD16,sD116,sD216,K16,C16⟩:=uh HH20;clear HH20;obtain⟨W21,hW21⟩:∃ W21,W21=(W16.setCell ⟨D,7,none⟩ (.slice a2 m2 c2)):=⟨_,rfl⟩;rw[← hW21] at fP17 fD17 sD117 sD217 C17 K17 ⊢;have sz21:W16.heap.size+0≤W21.heap.size:=by rw[hW21];simp only[zaf,dt.zaa,World.size_alloc];exact lr _
  clear hW21 cD18_7 zD18_7 cP19_0 fP16 fD16 sD116 sD216 K16 C16;refine (zh7 ⟨#[123]⟩ ⟨#[125]⟩ C17).mono ?_
  rintro e W22 ⟨fl,u5,a3,m3,c3,F3,qE5,rfl,sD322,C22,J22⟩;have E5:=Hi qE5;clear qE5;have sz22:=J22.size;have fP22:W22.heap[w.heap.size]? = some (.cells #[.pointer (some ⟨B,0,none⟩)] 74 (0,0)):=(J22.block _ (by omega) (by omega)).trans fP17
  have fD22:W22.heap[D]? = some (.cells #[.int .i64 k0,.bool ex,.bool n1,.bool n2,.string n3,.string nm,.slice a1 m1 c1,.slice a2 m2 c2,.slice none 0 0,.slice none 0 0,.slice none 0 0,.slice none 0 0,.slice none 0 0,.bool false,.slice none 0 0,.int .i64 ln,.int .i64 co] 62 (0,0)):=(J22.block _ (by omega) (by omega)).trans fD17
  have sD122:=sD117.kp J22 (by omega)
  have sD222:=sD217.kp J22 (by omega)
  have K22:=K17.trans J22;clear fP17 fD17 sD117 sD217 K17 C17 J22;have cD24_8:W22.cell? ⟨D,8,none⟩=some (.slice none 0 0):=(zG fD22 8).trans rfl;have zD24_8:W22.frozen? ⟨D,8,none⟩=false:=dt.zag fD22 8;have fP23:(W22.setCell ⟨D,8,none⟩ (.slice a3 m3 c3)).heap[w.heap.size]? = some (.cells #[.pointer (some ⟨B,0,none⟩)] 74 (0,0)):=(Below.heap_setCell W22 _ _ _ (show w.heap.size ≠ D by omega)).trans fP22
  have fD23:(W22.setCell ⟨D,8,none⟩ (.slice a3 m3 c3)).heap[D]? = some (.cells #[.int .i64 k0,.bool ex,.bool n1,.bool n2,.string n3,.string nm,.slice a1 m1 c1,.slice a2 m2 c2,.slice a3 m3 c3,.slice none 0 0,.slice none 0 0,.slice none 0 0,.slice none 0 0,.bool false,.slice none 0 0,.int .i64 ln,.int .i64 co] 62 (0,0)):=(dt.zac fD22 8 _).trans (by kernel_rfl)
  have C23:=C22.outC (b:=D) (by omega) (by omega) 8 (.slice a3 m3 c3)
  have K23:=K22.setB (b:=D) (by omega) 8 (.slice a3 m3 c3)
  have sD123:=sD122.outC (b:=D) (by omega) 8 (.slice a3 m3 c3)
  have sD223:=sD222.outC (b:=D) (by omega) 8 (.slice a3 m3 c3)
  have sD323:=sD322.outC (b:=D) (by omega) 8 (.slice a3 m3 c3)
  have HH25:=Hi (an fP23 (an fD23 (an sD123 (an sD223 (an sD323 (an C23 (an K23 (an fP22 (an fD22 (an sD122 (an sD222 (an sD322 (an K22 (C22))))))))))))));clear fP23 fD23 sD123 sD223 sD323 C23 K23 fP22 fD22 sD122 sD222 sD322 K22 C22
  go_wp2_with fail
  obtain⟨fP23,fD23,sD123,sD223,sD323,C23,K23,fP22,fD22,sD122,sD222,sD322,K22,C22⟩:=uh HH25;clear HH25;obtain⟨W26,hW26⟩:∃ W26,W26=(W22.setCell ⟨D,8,none⟩ (.slice a3 m3 c3)):=⟨_,rfl⟩;rw[← hW26] at fP23 fD23 sD123 sD223 sD323 C23 K23 ⊢;have sz26:W22.heap.size+0≤W26.heap.size:=by rw[hW26];simp only[zaf,dt.zaa,World.size_alloc];exact lr _
  clear hW26 cD24_8 zD24_8 fP22 fD22 sD122 sD222 sD322 K22 C22
  go_end0
  have hfin:objT (typF N) (litF true N) N ⟨k0,ex,(n1,n2,n3),em,[],[],[],[],[],[],[],false,[],l0,o0⟩ c=(⟨k0,ex,(n1,n2,n3),nm,il,ds.getD [],fl,[],[],[],[],false,[],ln,co⟩,u5):=by
   unfold objT;exact (zah (zdM (uh E1))).trans ((zah (uh E2)).trans ((zah (zcm (uh E3))).trans ((zah (uh E4)).trans ((zah (show optT (fdT (typF N) (litF true N)) bLc bRc u4=(fl,u5) from uh E5)).trans rfl))))
  obtain⟨hS9,F9,hF9⟩:=zbr (X:=W26) (s:=⟨k0,ex,(n1,n2,n3),nm,il,ds.getD [],fl,[],[],[],[],false,[],ln,co⟩) (lo:=w.heap.size) sD123 sD223 sD323 (Sh.nil (w:=W26) (k:=17) (lo:=W22.heap.size) (hi:=W22.heap.size) (by omega)) (Sh.nil (w:=W26) (k:=3) (lo:=W22.heap.size) (hi:=W22.heap.size) (by omega)) (Sh.nil (w:=W26) (k:=7) (lo:=W22.heap.size) (hi:=W22.heap.size) (by omega)) (Sh.nil (w:=W26) (k:=4) (lo:=W22.heap.size) (hi:=W22.heap.size) (by omega)) (Sh.nil (w:=W26) (k:=3) (lo:=W22.heap.size) (hi:=W22.heap.size) (by omega)) (by omega) (by omega) (by omega) (by omega) (by omega) (by omega) (by omega) (by omega) (by omega) (by omega) (by omega) (by omega) (by omega) (by omega) (by omega) (by omega)
  exact⟨_,u5,_,F9,hfin,rfl,hS9,fD23,hF9,C23,K23⟩
end
section
variable {N B p D:Nat} {c:Cu} {w:World}
set_option maxRecDepth 4000 in
set_option maxHeartbeats 4000000 in
theorem zqo {k0 l0 o0:Int} {ex n1 n2:Bool} {n3:ByteArray} (hD:w.heap[D]? = some (.cells #[.int .i64 k0,.bool ex,.bool n1,.bool n2,.string n3,.string ⟨#[]⟩,.slice none 0 0,.slice none 0 0,.slice none 0 0,.slice none 0 0,.slice none 0 0,.slice none 0 0,.slice none 0 0,.bool false,.slice none 0 0,.int .i64 l0,.int .i64 o0] 62 (0,0))) (hDB:D ≠ B) (hDp:D ≠ p) (h:CurN N w B p c):Calls Tryz.prog 88 #[.agg #[.pointer (some ⟨B,0,none⟩)],.pointer (some ⟨D,0,none⟩)] w fun e w'=>∃ (s:Sy) (c':Cu) (cs:List Value) (F:List Nat),uniT (litF true N) N ⟨k0,ex,(n1,n2,n3),em,[],[],[],[],[],[],[],false,[],l0,o0⟩ c=(s,c')∧e = .returned (.tuple #[])∧SyC s cs∧w'.heap[D]? = some (.cells cs.toArray 62 (0,0))∧Ho w' s.d cs F w.heap.size w'.heap.size∧CurN N w' B p c'∧Kq B D w w':=by
 have hlt:=h.lt;have hplt:=h.plt;have hDlt:D<w.heap.size:=(Array.getElem?_eq_some_iff.1 hD).1
 go_enter Tryz.func88,Tryz.ntmps88
 go_wp2_with fail
 have hD0:=hD;obtain⟨W1,hW1⟩:∃ W1,W1=allocs w [(#[.pointer (some ⟨B,0,none⟩)],74)]:=⟨_,rfl⟩;have gW1:W1=(w.alloc (.cells #[.pointer (some ⟨B,0,none⟩)] 74)):=hW1;have aa:=zaq [(#[.pointer (some ⟨B,0,none⟩)],74)] w;have fP1:W1.heap[w.heap.size]? = some (.cells #[.pointer (some ⟨B,0,none⟩)] 74 (0,0)):=by rw[hW1];exact aa 0 _ rfl
 have bw:Below w.heap.size w W1:=by rw[hW1];exact zak _ _
 have sz1:w.heap.size+1≤W1.heap.size:=by rw[hW1,zal];exact lr _
 have K1:Kp B w W1:=Kp.of bw;have fD1:W1.heap[D]? = some (.cells #[.int .i64 k0,.bool ex,.bool n1,.bool n2,.string n3,.string ⟨#[]⟩,.slice none 0 0,.slice none 0 0,.slice none 0 0,.slice none 0 0,.slice none 0 0,.slice none 0 0,.slice none 0 0,.bool false,.slice none 0 0,.int .i64 l0,.int .i64 o0] 62 (0,0)):=(bw.block _ hDlt).trans hD0;have C1:=h.below bw;rw[← gW1];clear gW1 hW1 bw aa h
 have K1q:=Kq.of (D:=D) K1;clear hD0 hD K1;have cP2_0:W1.cell? ⟨w.heap.size,0,none⟩=some (.pointer (some ⟨B,0,none⟩)):=(zG fP1 0).trans rfl;have HH3:=Hi (an fP1 (an fD1 (an C1 (K1q))));clear fP1 fD1 C1 K1q
 go_wp2_with fail
 obtain⟨fP1,fD1,C1,K1q⟩:=uh HH3;clear HH3;refine (zcI fD1 hDB hDp C1).mono ?_
 rintro e W4 ⟨nm,ln,co,u1,qE1,rfl,fD4,C4,J4⟩;have E1:=Hi qE1;clear qE1;have sz4:=J4.size;have fP4:W4.heap[w.heap.size]? = some (.cells #[.pointer (some ⟨B,0,none⟩)] 74 (0,0)):=(J4.block _ (by omega) (by omega) (by omega)).trans fP1
 have K4:=K1q.transQ J4;clear fP1 fD1 K1q C1 J4 cP2_0;have cP5_0:W4.cell? ⟨w.heap.size,0,none⟩=some (.pointer (some ⟨B,0,none⟩)):=(zG fP4 0).trans rfl;have HH6:=Hi (an fP4 (an fD4 (an C4 (K4))));clear fP4 fD4 C4 K4
 go_wp2_with fail
 obtain⟨fP4,fD4,C4,K4⟩:=uh HH6;clear HH6;refine (zbn C4).mono ?_
 rintro e W7 ⟨ds,u2,a2,m2,c2,F2,kE2,qE2,rfl,sD27,C7,J7⟩;have E2:=Hi qE2;clear qE2;have sz7:=J7.size;have fP7:W7.heap[w.heap.size]? = some (.cells #[.pointer (some ⟨B,0,none⟩)] 74 (0,0)):=(J7.block _ (by omega) (by omega)).trans fP4
 have fD7:W7.heap[D]? = some (.cells #[.int .i64 k0,.bool ex,.bool n1,.bool n2,.string n3,.string nm,.slice none 0 0,.slice none 0 0,.slice none 0 0,.slice none 0 0,.slice none 0 0,.slice none 0 0,.slice none 0 0,.bool false,.slice none 0 0,.int .i64 ln,.int .i64 co] 62 (0,0)):=(J7.block _ (by omega) (by omega)).trans fD4
 have K7:=K4.trans J7;clear fP4 fD4 K4 C4 J7 cP5_0;have cD9_7:W7.cell? ⟨D,7,none⟩=some (.slice none 0 0):=(zG fD7 7).trans rfl;have zD9_7:W7.frozen? ⟨D,7,none⟩=false:=dt.zag fD7 7;have fP8:(W7.setCell ⟨D,7,none⟩ (.slice a2 m2 c2)).heap[w.heap.size]? = some (.cells #[.pointer (some ⟨B,0,none⟩)] 74 (0,0)):=(Below.heap_setCell W7 _ _ _ (show w.heap.size ≠ D by omega)).trans fP7
 have fD8:(W7.setCell ⟨D,7,none⟩ (.slice a2 m2 c2)).heap[D]? = some (.cells #[.int .i64 k0,.bool ex,.bool n1,.bool n2,.string n3,.string nm,.slice none 0 0,.slice a2 m2 c2,.slice none 0 0,.slice none 0 0,.slice none 0 0,.slice none 0 0,.slice none 0 0,.bool false,.slice none 0 0,.int .i64 ln,.int .i64 co] 62 (0,0)):=(dt.zac fD7 7 _).trans (by kernel_rfl)
 have C8:=C7.outC (b:=D) (by omega) (by omega) 7 (.slice a2 m2 c2)
 have K8:=K7.setB (b:=D) (by omega) 7 (.slice a2 m2 c2)
 have sD28:=sD27.outC (b:=D) (by omega) 7 (.slice a2 m2 c2)
 have cP10_0:(W7.setCell ⟨D,7,none⟩ (.slice a2 m2 c2)).cell? ⟨w.heap.size,0,none⟩=some (.pointer (some ⟨B,0,none⟩)):=(zG fP8 0).trans rfl;have HH11:=Hi (an fP8 (an fD8 (an sD28 (an C8 (an K8 (an fP7 (an fD7 (an sD27 (an K7 (C7))))))))));clear fP8 fD8 sD28 C8 K8 fP7 fD7 sD27 K7 C7
 go_wp2_with fail
 obtain⟨fP8,fD8,sD28,C8,K8,fP7,fD7,sD27,K7,C7⟩:=uh HH11;clear HH11;obtain⟨W12,hW12⟩:∃ W12,W12=(W7.setCell ⟨D,7,none⟩ (.slice a2 m2 c2)):=⟨_,rfl⟩;rw[← hW12] at fP8 fD8 sD28 C8 K8 ⊢;have sz12:W7.heap.size+0≤W12.heap.size:=by rw[hW12];simp only[zaf,dt.zaa,World.size_alloc];exact lr _
 clear hW12 cD9_7 zD9_7 cP10_0 fP7 fD7 sD27 K7 C7;refine (zcL bEq C8).mono ?_
 rintro e W13 ⟨u3,q,qE3,rfl,C13,J13⟩;have E3:=Hi qE3;clear qE3;have sz13:=J13.size;have fP13:W13.heap[w.heap.size]? = some (.cells #[.pointer (some ⟨B,0,none⟩)] 74 (0,0)):=(J13.block _ (by omega) (by omega)).trans fP8
 have fD13:W13.heap[D]? = some (.cells #[.int .i64 k0,.bool ex,.bool n1,.bool n2,.string n3,.string nm,.slice none 0 0,.slice a2 m2 c2,.slice none 0 0,.slice none 0 0,.slice none 0 0,.slice none 0 0,.slice none 0 0,.bool false,.slice none 0 0,.int .i64 ln,.int .i64 co] 62 (0,0)):=(J13.block _ (by omega) (by omega)).trans fD8
 have sD213:=sD28.kp J13 (by omega)
 have K13:=K8.trans J13;clear fP8 fD8 sD28 K8 C8 J13
 cases q
 ·have HH14:=Hi (an fP13 (an fD13 (an sD213 (an C13 (K13)))))
  clear fP13 fD13 sD213 C13 K13
  go_wp2_with fail
  obtain⟨fP13,fD13,sD213,C13,K13⟩:=uh HH14;clear HH14
  go_end0
  have hfin:uniT (litF true N) N ⟨k0,ex,(n1,n2,n3),em,[],[],[],[],[],[],[],false,[],l0,o0⟩ c=(⟨k0,ex,(n1,n2,n3),nm,[],ds.getD [],[],[],[],[],[],false,[],ln,co⟩,u3):=by
   unfold uniT;exact (zah (zdM (uh E1))).trans ((zah (uh E2)).trans ((zah (uh E3)).trans ((zah (zcO (E:=parT N namR bPipe) (zeG [] u3))).trans rfl)))
  obtain⟨hS9,F9,hF9⟩:=zbr (X:=W13) (s:=⟨k0,ex,(n1,n2,n3),nm,[],ds.getD [],[],[],[],[],[],false,[],ln,co⟩) (lo:=w.heap.size) (Sh.nil (w:=W13) (k:=3) (lo:=w.heap.size) (hi:=w.heap.size) (by omega)) sD213 (Sh.nil (w:=W13) (k:=10) (lo:=W7.heap.size) (hi:=W7.heap.size) (by omega)) (Sh.nil (w:=W13) (k:=17) (lo:=W7.heap.size) (hi:=W7.heap.size) (by omega)) (Sh.nil (w:=W13) (k:=3) (lo:=W7.heap.size) (hi:=W7.heap.size) (by omega)) (Sh.nil (w:=W13) (k:=7) (lo:=W7.heap.size) (hi:=W7.heap.size) (by omega)) (Sh.nil (w:=W13) (k:=4) (lo:=W7.heap.size) (hi:=W7.heap.size) (by omega)) (Sh.nil (w:=W13) (k:=3) (lo:=W7.heap.size) (hi:=W7.heap.size) (by omega)) (by omega) (by omega) (by omega) (by omega) (by omega) (by omega) (by omega) (by omega) (by omega) (by omega) (by omega) (by omega) (by omega) (by omega) (by omega) (by omega)
  exact⟨_,u3,_,F9,hfin,rfl,hS9,fD13,hF9,C13,K13⟩
 ·have cP14_0:W13.cell? ⟨w.heap.size,0,none⟩=some (.pointer (some ⟨B,0,none⟩)):=(zG fP13 0).trans rfl
  have HH15:=Hi (an fP13 (an fD13 (an sD213 (an C13 (K13)))));clear fP13 fD13 sD213 C13 K13
  go_wp2_with fail
  obtain⟨fP13,fD13,sD213,C13,K13⟩:=uh HH15;clear HH15;refine (zkm bPipe C13).mono ?_
  rintro e W16 ⟨il,u4,a5,m5,c5,F5,qE4,rfl,sD516,C16,J16⟩;have E4:=Hi qE4;clear qE4;have sz16:=J16.size;have fP16:W16.heap[w.heap.size]? = some (.cells #[.pointer (some ⟨B,0,none⟩)] 74 (0,0)):=(J16.block _ (by omega) (by omega)).trans fP13
  have fD16:W16.heap[D]? = some (.cells #[.int .i64 k0,.bool ex,.bool n1,.bool n2,.string n3,.string nm,.slice none 0 0,.slice a2 m2 c2,.slice none 0 0,.slice none 0 0,.slice none 0 0,.slice none 0 0,.slice none 0 0,.bool false,.slice none 0 0,.int .i64 ln,.int .i64 co] 62 (0,0)):=(J16.block _ (by omega) (by omega)).trans fD13
  have sD216:=sD213.kp J16 (by omega)
  have K16:=K13.trans J16;clear fP13 fD13 sD213 K13 C13 J16 cP14_0;have cD18_10:W16.cell? ⟨D,10,none⟩=some (.slice none 0 0):=(zG fD16 10).trans rfl;have zD18_10:W16.frozen? ⟨D,10,none⟩=false:=dt.zag fD16 10;have fP17:(W16.setCell ⟨D,10,none⟩ (.slice a5 m5 c5)).heap[w.heap.size]? = some (.cells #[.pointer (some ⟨B,0,none⟩)] 74 (0,0)):=(Below.heap_setCell W16 _ _ _ (show w.heap.size ≠ D by omega)).trans fP16
  have fD17:(W16.setCell ⟨D,10,none⟩ (.slice a5 m5 c5)).heap[D]? = some (.cells #[.int .i64 k0,.bool ex,.bool n1,.bool n2,.string n3,.string nm,.slice none 0 0,.slice a2 m2 c2,.slice none 0 0,.slice none 0 0,.slice a5 m5 c5,.slice none 0 0,.slice none 0 0,.bool false,.slice none 0 0,.int .i64 ln,.int .i64 co] 62 (0,0)):=(dt.zac fD16 10 _).trans (by kernel_rfl)
  have C17:=C16.outC (b:=D) (by omega) (by omega) 10 (.slice a5 m5 c5)
  have K17:=K16.setB (b:=D) (by omega) 10 (.slice a5 m5 c5)
  have sD217:=sD216.outC (b:=D) (by omega) 10 (.slice a5 m5 c5)
  have sD517:=sD516.outC (b:=D) (by omega) 10 (.slice a5 m5 c5)
  have HH19:=Hi (an fP17 (an fD17 (an sD217 (an sD517 (an C17 (an K17 (an fP16 (an fD16 (an sD216 (an sD516 (an K16 (C16))))))))))));clear fP17 fD17 sD217 sD517 C17 K17 fP16 fD16 sD216 sD516 K16 C16
  go_wp2_with fail
  obtain⟨fP17,fD17,sD217,sD517,C17,K17,fP16,fD16,sD216,sD516,K16,C16⟩:=uh HH19;clear HH19;obtain⟨W20,hW20⟩:∃ W20,W20=(W16.setCell ⟨D,10,none⟩ (.slice a5 m5 c5)):=⟨_,rfl⟩;rw[← hW20] at fP17 fD17 sD217 sD517 C17 K17 ⊢;have sz20:W16.heap.size+0≤W20.heap.size:=by rw[hW20];simp only[zaf,dt.zaa,World.size_alloc];exact lr _
  clear hW20 cD18_10 zD18_10 fP16 fD16 sD216 sD516 K16 C16
  go_end0
  have hfin:uniT (litF true N) N ⟨k0,ex,(n1,n2,n3),em,[],[],[],[],[],[],[],false,[],l0,o0⟩ c=(⟨k0,ex,(n1,n2,n3),nm,[],ds.getD [],[],[],il,[],[],false,[],ln,co⟩,u4):=by
   unfold uniT;exact (zah (zdM (uh E1))).trans ((zah (uh E2)).trans ((zah (uh E3)).trans ((zah (zcm (uh E4))).trans rfl)))
  obtain⟨hS9,F9,hF9⟩:=zbr (X:=W20) (s:=⟨k0,ex,(n1,n2,n3),nm,[],ds.getD [],[],[],il,[],[],false,[],ln,co⟩) (lo:=w.heap.size) (Sh.nil (w:=W20) (k:=3) (lo:=w.heap.size) (hi:=w.heap.size) (by omega)) sD217 (Sh.nil (w:=W20) (k:=10) (lo:=W7.heap.size) (hi:=W7.heap.size) (by omega)) (Sh.nil (w:=W20) (k:=17) (lo:=W7.heap.size) (hi:=W7.heap.size) (by omega)) sD517 (Sh.nil (w:=W20) (k:=7) (lo:=W16.heap.size) (hi:=W16.heap.size) (by omega)) (Sh.nil (w:=W20) (k:=4) (lo:=W16.heap.size) (hi:=W16.heap.size) (by omega)) (Sh.nil (w:=W20) (k:=3) (lo:=W16.heap.size) (hi:=W16.heap.size) (by omega)) (by omega) (by omega) (by omega) (by omega) (by omega) (by omega) (by omega) (by omega) (by omega) (by omega) (by omega) (by omega) (by omega) (by omega) (by omega) (by omega)
  exact⟨_,u4,_,F9,hfin,rfl,hS9,fD17,hF9,C17,K17⟩
end
section
variable {N B p D:Nat} {c:Cu} {w:World}
set_option maxRecDepth 4000 in
set_option maxHeartbeats 4000000 in
theorem zpx {k0 l0 o0:Int} {ex n1 n2:Bool} {n3:ByteArray} (hD:w.heap[D]? = some (.cells #[.int .i64 k0,.bool ex,.bool n1,.bool n2,.string n3,.string ⟨#[]⟩,.slice none 0 0,.slice none 0 0,.slice none 0 0,.slice none 0 0,.slice none 0 0,.slice none 0 0,.slice none 0 0,.bool false,.slice none 0 0,.int .i64 l0,.int .i64 o0] 62 (0,0))) (hDB:D ≠ B) (hDp:D ≠ p) (h:CurN N w B p c):Calls Tryz.prog 89 #[.agg #[.pointer (some ⟨B,0,none⟩)],.pointer (some ⟨D,0,none⟩)] w fun e w'=>∃ (s:Sy) (c':Cu) (cs:List Value) (F:List Nat),enuT (litF true N) ⟨k0,ex,(n1,n2,n3),em,[],[],[],[],[],[],[],false,[],l0,o0⟩ c=(s,c')∧e = .returned (.tuple #[])∧SyC s cs∧w'.heap[D]? = some (.cells cs.toArray 62 (0,0))∧Ho w' s.d cs F w.heap.size w'.heap.size∧CurN N w' B p c'∧Kq B D w w':=by
 have hlt:=h.lt;have hplt:=h.plt;have hDlt:D<w.heap.size:=(Array.getElem?_eq_some_iff.1 hD).1
 go_enter Tryz.func89,Tryz.ntmps89
 go_wp2_with fail
 have hD0:=hD;obtain⟨W1,hW1⟩:∃ W1,W1=allocs w [(#[.pointer (some ⟨B,0,none⟩)],74)]:=⟨_,rfl⟩;have gW1:W1=(w.alloc (.cells #[.pointer (some ⟨B,0,none⟩)] 74)):=hW1;have aa:=zaq [(#[.pointer (some ⟨B,0,none⟩)],74)] w;have fP1:W1.heap[w.heap.size]? = some (.cells #[.pointer (some ⟨B,0,none⟩)] 74 (0,0)):=by rw[hW1];exact aa 0 _ rfl
 have bw:Below w.heap.size w W1:=by rw[hW1];exact zak _ _
 have sz1:w.heap.size+1≤W1.heap.size:=by rw[hW1,zal];exact lr _
 have K1:Kp B w W1:=Kp.of bw;have fD1:W1.heap[D]? = some (.cells #[.int .i64 k0,.bool ex,.bool n1,.bool n2,.string n3,.string ⟨#[]⟩,.slice none 0 0,.slice none 0 0,.slice none 0 0,.slice none 0 0,.slice none 0 0,.slice none 0 0,.slice none 0 0,.bool false,.slice none 0 0,.int .i64 l0,.int .i64 o0] 62 (0,0)):=(bw.block _ hDlt).trans hD0;have C1:=h.below bw;rw[← gW1];clear gW1 hW1 bw aa h
 have K1q:=Kq.of (D:=D) K1;clear hD0 hD K1;have cP2_0:W1.cell? ⟨w.heap.size,0,none⟩=some (.pointer (some ⟨B,0,none⟩)):=(zG fP1 0).trans rfl;have HH3:=Hi (an fP1 (an fD1 (an C1 (K1q))));clear fP1 fD1 C1 K1q
 go_wp2_with fail
 obtain⟨fP1,fD1,C1,K1q⟩:=uh HH3;clear HH3;refine (zcI fD1 hDB hDp C1).mono ?_
 rintro e W4 ⟨nm,ln,co,u1,qE1,rfl,fD4,C4,J4⟩;have E1:=Hi qE1;clear qE1;have sz4:=J4.size;have fP4:W4.heap[w.heap.size]? = some (.cells #[.pointer (some ⟨B,0,none⟩)] 74 (0,0)):=(J4.block _ (by omega) (by omega) (by omega)).trans fP1
 have K4:=K1q.transQ J4;clear fP1 fD1 K1q C1 J4 cP2_0;have cP5_0:W4.cell? ⟨w.heap.size,0,none⟩=some (.pointer (some ⟨B,0,none⟩)):=(zG fP4 0).trans rfl;have HH6:=Hi (an fP4 (an fD4 (an C4 (K4))));clear fP4 fD4 C4 K4
 go_wp2_with fail
 obtain⟨fP4,fD4,C4,K4⟩:=uh HH6;clear HH6;refine (zbn C4).mono ?_
 rintro e W7 ⟨ds,u2,a2,m2,c2,F2,kE2,qE2,rfl,sD27,C7,J7⟩;have E2:=Hi qE2;clear qE2;have sz7:=J7.size;have fP7:W7.heap[w.heap.size]? = some (.cells #[.pointer (some ⟨B,0,none⟩)] 74 (0,0)):=(J7.block _ (by omega) (by omega)).trans fP4
 have fD7:W7.heap[D]? = some (.cells #[.int .i64 k0,.bool ex,.bool n1,.bool n2,.string n3,.string nm,.slice none 0 0,.slice none 0 0,.slice none 0 0,.slice none 0 0,.slice none 0 0,.slice none 0 0,.slice none 0 0,.bool false,.slice none 0 0,.int .i64 ln,.int .i64 co] 62 (0,0)):=(J7.block _ (by omega) (by omega)).trans fD4
 have K7:=K4.trans J7;clear fP4 fD4 K4 C4 J7 cP5_0;have cD9_7:W7.cell? ⟨D,7,none⟩=some (.slice none 0 0):=(zG fD7 7).trans rfl;have zD9_7:W7.frozen? ⟨D,7,none⟩=false:=dt.zag fD7 7;have fP8:(W7.setCell ⟨D,7,none⟩ (.slice a2 m2 c2)).heap[w.heap.size]? = some (.cells #[.pointer (some ⟨B,0,none⟩)] 74 (0,0)):=(Below.heap_setCell W7 _ _ _ (show w.heap.size ≠ D by omega)).trans fP7
 have fD8:(W7.setCell ⟨D,7,none⟩ (.slice a2 m2 c2)).heap[D]? = some (.cells #[.int .i64 k0,.bool ex,.bool n1,.bool n2,.string n3,.string nm,.slice none 0 0,.slice a2 m2 c2,.slice none 0 0,.slice none 0 0,.slice none 0 0,.slice none 0 0,.slice none 0 0,.bool false,.slice none 0 0,.int .i64 ln,.int .i64 co] 62 (0,0)):=(dt.zac fD7 7 _).trans (by kernel_rfl)
 have C8:=C7.outC (b:=D) (by omega) (by omega) 7 (.slice a2 m2 c2)
 have K8:=K7.setB (b:=D) (by omega) 7 (.slice a2 m2 c2)
 have sD28:=sD27.outC (b:=D) (by omega) 7 (.slice a2 m2 c2)
 have cP10_0:(W7.setCell ⟨D,7,none⟩ (.slice a2 m2 c2)).cell? ⟨w.heap.size,0,none⟩=some (.pointer (some ⟨B,0,none⟩)):=(zG fP8 0).trans rfl;have HH11:=Hi (an fP8 (an fD8 (an sD28 (an C8 (an K8 (an fP7 (an fD7 (an sD27 (an K7 (C7))))))))));clear fP8 fD8 sD28 C8 K8 fP7 fD7 sD27 K7 C7
 go_wp2_with fail
 obtain⟨fP8,fD8,sD28,C8,K8,fP7,fD7,sD27,K7,C7⟩:=uh HH11;clear HH11;obtain⟨W12,hW12⟩:∃ W12,W12=(W7.setCell ⟨D,7,none⟩ (.slice a2 m2 c2)):=⟨_,rfl⟩;rw[← hW12] at fP8 fD8 sD28 C8 K8 ⊢;have sz12:W7.heap.size+0≤W12.heap.size:=by rw[hW12];simp only[zaf,dt.zaa,World.size_alloc];exact lr _
 clear hW12 cD9_7 zD9_7 cP10_0 fP7 fD7 sD27 K7 C7;refine (zoh ⟨#[123]⟩ ⟨#[125]⟩ C8).mono ?_
 rintro e W13 ⟨il,u3,a6,m6,c6,F6,qE3,rfl,sD613,C13,J13⟩;have E3:=Hi qE3;clear qE3;have sz13:=J13.size;have fP13:W13.heap[w.heap.size]? = some (.cells #[.pointer (some ⟨B,0,none⟩)] 74 (0,0)):=(J13.block _ (by omega) (by omega)).trans fP8
 have fD13:W13.heap[D]? = some (.cells #[.int .i64 k0,.bool ex,.bool n1,.bool n2,.string n3,.string nm,.slice none 0 0,.slice a2 m2 c2,.slice none 0 0,.slice none 0 0,.slice none 0 0,.slice none 0 0,.slice none 0 0,.bool false,.slice none 0 0,.int .i64 ln,.int .i64 co] 62 (0,0)):=(J13.block _ (by omega) (by omega)).trans fD8
 have sD213:=sD28.kp J13 (by omega)
 have K13:=K8.trans J13;clear fP8 fD8 sD28 K8 C8 J13;have cD15_11:W13.cell? ⟨D,11,none⟩=some (.slice none 0 0):=(zG fD13 11).trans rfl;have zD15_11:W13.frozen? ⟨D,11,none⟩=false:=dt.zag fD13 11;have fP14:(W13.setCell ⟨D,11,none⟩ (.slice a6 m6 c6)).heap[w.heap.size]? = some (.cells #[.pointer (some ⟨B,0,none⟩)] 74 (0,0)):=(Below.heap_setCell W13 _ _ _ (show w.heap.size ≠ D by omega)).trans fP13
 have fD14:(W13.setCell ⟨D,11,none⟩ (.slice a6 m6 c6)).heap[D]? = some (.cells #[.int .i64 k0,.bool ex,.bool n1,.bool n2,.string n3,.string nm,.slice none 0 0,.slice a2 m2 c2,.slice none 0 0,.slice none 0 0,.slice none 0 0,.slice a6 m6 c6,.slice none 0 0,.bool false,.slice none 0 0,.int .i64 ln,.int .i64 co] 62 (0,0)):=(dt.zac fD13 11 _).trans (by kernel_rfl)
 have C14:=C13.outC (b:=D) (by omega) (by omega) 11 (.slice a6 m6 c6)
 have K14:=K13.setB (b:=D) (by omega) 11 (.slice a6 m6 c6)
 have sD214:=sD213.outC (b:=D) (by omega) 11 (.slice a6 m6 c6)
 have sD614:=sD613.outC (b:=D) (by omega) 11 (.slice a6 m6 c6)
 have HH16:=Hi (an fP14 (an fD14 (an sD214 (an sD614 (an C14 (an K14 (an fP13 (an fD13 (an sD213 (an sD613 (an K13 (C13))))))))))));clear fP14 fD14 sD214 sD614 C14 K14 fP13 fD13 sD213 sD613 K13 C13
 go_wp2_with fail
 obtain⟨fP14,fD14,sD214,sD614,C14,K14,fP13,fD13,sD213,sD613,K13,C13⟩:=uh HH16;clear HH16;obtain⟨W17,hW17⟩:∃ W17,W17=(W13.setCell ⟨D,11,none⟩ (.slice a6 m6 c6)):=⟨_,rfl⟩;rw[← hW17] at fP14 fD14 sD214 sD614 C14 K14 ⊢;have sz17:W13.heap.size+0≤W17.heap.size:=by rw[hW17];simp only[zaf,dt.zaa,World.size_alloc];exact lr _
 clear hW17 cD15_11 zD15_11 fP13 fD13 sD213 sD613 K13 C13
 go_end0
 have hfin:enuT (litF true N) ⟨k0,ex,(n1,n2,n3),em,[],[],[],[],[],[],[],false,[],l0,o0⟩ c=(⟨k0,ex,(n1,n2,n3),nm,[],ds.getD [],[],[],[],il,[],false,[],ln,co⟩,u3):=by
  unfold enuT;exact (zah (zdM (uh E1))).trans ((zah (uh E2)).trans ((zah (show optT (choT (litF true N)) bLc bRc u2=(il,u3) from uh E3)).trans rfl))
 obtain⟨hS9,F9,hF9⟩:=zbr (X:=W17) (s:=⟨k0,ex,(n1,n2,n3),nm,[],ds.getD [],[],[],[],il,[],false,[],ln,co⟩) (lo:=w.heap.size) (Sh.nil (w:=W17) (k:=3) (lo:=w.heap.size) (hi:=w.heap.size) (by omega)) sD214 (Sh.nil (w:=W17) (k:=10) (lo:=W7.heap.size) (hi:=W7.heap.size) (by omega)) (Sh.nil (w:=W17) (k:=17) (lo:=W7.heap.size) (hi:=W7.heap.size) (by omega)) (Sh.nil (w:=W17) (k:=3) (lo:=W7.heap.size) (hi:=W7.heap.size) (by omega)) sD614 (Sh.nil (w:=W17) (k:=4) (lo:=W13.heap.size) (hi:=W13.heap.size) (by omega)) (Sh.nil (w:=W17) (k:=3) (lo:=W13.heap.size) (hi:=W13.heap.size) (by omega)) (by omega) (by omega) (by omega) (by omega) (by omega) (by omega) (by omega) (by omega) (by omega) (by omega) (by omega) (by omega) (by omega) (by omega) (by omega) (by omega)
 exact⟨_,u3,_,F9,hfin,rfl,hS9,fD14,hF9,C14,K14⟩
end
section
variable {N B p D:Nat} {c:Cu} {w:World}
set_option maxRecDepth 4000 in
set_option maxHeartbeats 4000000 in
theorem zpF {k0 l0 o0:Int} {ex n1 n2:Bool} {n3:ByteArray} (hD:w.heap[D]? = some (.cells #[.int .i64 k0,.bool ex,.bool n1,.bool n2,.string n3,.string ⟨#[]⟩,.slice none 0 0,.slice none 0 0,.slice none 0 0,.slice none 0 0,.slice none 0 0,.slice none 0 0,.slice none 0 0,.bool false,.slice none 0 0,.int .i64 l0,.int .i64 o0] 62 (0,0))) (hDB:D ≠ B) (hDp:D ≠ p) (h:CurN N w B p c):Calls Tryz.prog 90 #[.agg #[.pointer (some ⟨B,0,none⟩)],.pointer (some ⟨D,0,none⟩)] w fun e w'=>∃ (s:Sy) (c':Cu) (cs:List Value) (F:List Nat),inuT (typF N) (litF true N) ⟨k0,ex,(n1,n2,n3),em,[],[],[],[],[],[],[],false,[],l0,o0⟩ c=(s,c')∧e = .returned (.tuple #[])∧SyC s cs∧w'.heap[D]? = some (.cells cs.toArray 62 (0,0))∧Ho w' s.d cs F w.heap.size w'.heap.size∧CurN N w' B p c'∧Kq B D w w':=by
 have hlt:=h.lt;have hplt:=h.plt;have hDlt:D<w.heap.size:=(Array.getElem?_eq_some_iff.1 hD).1
 go_enter Tryz.func90,Tryz.ntmps90
 go_wp2_with fail
 have hD0:=hD;obtain⟨W1,hW1⟩:∃ W1,W1=allocs w [(#[.pointer (some ⟨B,0,none⟩)],74)]:=⟨_,rfl⟩;have gW1:W1=(w.alloc (.cells #[.pointer (some ⟨B,0,none⟩)] 74)):=hW1;have aa:=zaq [(#[.pointer (some ⟨B,0,none⟩)],74)] w;have fP1:W1.heap[w.heap.size]? = some (.cells #[.pointer (some ⟨B,0,none⟩)] 74 (0,0)):=by rw[hW1];exact aa 0 _ rfl
 have bw:Below w.heap.size w W1:=by rw[hW1];exact zak _ _
 have sz1:w.heap.size+1≤W1.heap.size:=by rw[hW1,zal];exact lr _
 have K1:Kp B w W1:=Kp.of bw;have fD1:W1.heap[D]? = some (.cells #[.int .i64 k0,.bool ex,.bool n1,.bool n2,.string n3,.string ⟨#[]⟩,.slice none 0 0,.slice none 0 0,.slice none 0 0,.slice none 0 0,.slice none 0 0,.slice none 0 0,.slice none 0 0,.bool false,.slice none 0 0,.int .i64 l0,.int .i64 o0] 62 (0,0)):=(bw.block _ hDlt).trans hD0;have C1:=h.below bw;rw[← gW1];clear gW1 hW1 bw aa h
 have K1q:=Kq.of (D:=D) K1;clear hD0 hD K1;have cP2_0:W1.cell? ⟨w.heap.size,0,none⟩=some (.pointer (some ⟨B,0,none⟩)):=(zG fP1 0).trans rfl;have HH3:=Hi (an fP1 (an fD1 (an C1 (K1q))));clear fP1 fD1 C1 K1q
 go_wp2_with fail
 obtain⟨fP1,fD1,C1,K1q⟩:=uh HH3;clear HH3;refine (zcI fD1 hDB hDp C1).mono ?_
 rintro e W4 ⟨nm,ln,co,u1,qE1,rfl,fD4,C4,J4⟩;have E1:=Hi qE1;clear qE1;have sz4:=J4.size;have fP4:W4.heap[w.heap.size]? = some (.cells #[.pointer (some ⟨B,0,none⟩)] 74 (0,0)):=(J4.block _ (by omega) (by omega) (by omega)).trans fP1
 have K4:=K1q.transQ J4;clear fP1 fD1 K1q C1 J4 cP2_0;have cP5_0:W4.cell? ⟨w.heap.size,0,none⟩=some (.pointer (some ⟨B,0,none⟩)):=(zG fP4 0).trans rfl;have HH6:=Hi (an fP4 (an fD4 (an C4 (K4))));clear fP4 fD4 C4 K4
 go_wp2_with fail
 obtain⟨fP4,fD4,C4,K4⟩:=uh HH6;clear HH6;refine (zbn C4).mono ?_
 rintro e W7 ⟨ds,u2,a2,m2,c2,F2,kE2,qE2,rfl,sD27,C7,J7⟩;have E2:=Hi qE2;clear qE2;have sz7:=J7.size;have fP7:W7.heap[w.heap.size]? = some (.cells #[.pointer (some ⟨B,0,none⟩)] 74 (0,0)):=(J7.block _ (by omega) (by omega)).trans fP4
 have fD7:W7.heap[D]? = some (.cells #[.int .i64 k0,.bool ex,.bool n1,.bool n2,.string n3,.string nm,.slice none 0 0,.slice none 0 0,.slice none 0 0,.slice none 0 0,.slice none 0 0,.slice none 0 0,.slice none 0 0,.bool false,.slice none 0 0,.int .i64 ln,.int .i64 co] 62 (0,0)):=(J7.block _ (by omega) (by omega)).trans fD4
 have K7:=K4.trans J7;clear fP4 fD4 K4 C4 J7 cP5_0;have cD9_7:W7.cell? ⟨D,7,none⟩=some (.slice none 0 0):=(zG fD7 7).trans rfl;have zD9_7:W7.frozen? ⟨D,7,none⟩=false:=dt.zag fD7 7;have fP8:(W7.setCell ⟨D,7,none⟩ (.slice a2 m2 c2)).heap[w.heap.size]? = some (.cells #[.pointer (some ⟨B,0,none⟩)] 74 (0,0)):=(Below.heap_setCell W7 _ _ _ (show w.heap.size ≠ D by omega)).trans fP7
 have fD8:(W7.setCell ⟨D,7,none⟩ (.slice a2 m2 c2)).heap[D]? = some (.cells #[.int .i64 k0,.bool ex,.bool n1,.bool n2,.string n3,.string nm,.slice none 0 0,.slice a2 m2 c2,.slice none 0 0,.slice none 0 0,.slice none 0 0,.slice none 0 0,.slice none 0 0,.bool false,.slice none 0 0,.int .i64 ln,.int .i64 co] 62 (0,0)):=(dt.zac fD7 7 _).trans (by kernel_rfl)
 have C8:=C7.outC (b:=D) (by omega) (by omega) 7 (.slice a2 m2 c2)
 have K8:=K7.setB (b:=D) (by omega) 7 (.slice a2 m2 c2)
 have sD28:=sD27.outC (b:=D) (by omega) 7 (.slice a2 m2 c2)
 have cP10_0:(W7.setCell ⟨D,7,none⟩ (.slice a2 m2 c2)).cell? ⟨w.heap.size,0,none⟩=some (.pointer (some ⟨B,0,none⟩)):=(zG fP8 0).trans rfl;have HH11:=Hi (an fP8 (an fD8 (an sD28 (an C8 (an K8 (an fP7 (an fD7 (an sD27 (an K7 (C7))))))))));clear fP8 fD8 sD28 C8 K8 fP7 fD7 sD27 K7 C7
 go_wp2_with fail
 obtain⟨fP8,fD8,sD28,C8,K8,fP7,fD7,sD27,K7,C7⟩:=uh HH11;clear HH11;obtain⟨W12,hW12⟩:∃ W12,W12=(W7.setCell ⟨D,7,none⟩ (.slice a2 m2 c2)):=⟨_,rfl⟩;rw[← hW12] at fP8 fD8 sD28 C8 K8 ⊢;have sz12:W7.heap.size+0≤W12.heap.size:=by rw[hW12];simp only[zaf,dt.zaa,World.size_alloc];exact lr _
 clear hW12 cD9_7 zD9_7 cP10_0 fP7 fD7 sD27 K7 C7;refine (zhg ⟨#[123]⟩ ⟨#[125]⟩ C8).mono ?_
 rintro e W13 ⟨il,u3,a4,m4,c4,F4,qE3,rfl,sD413,C13,J13⟩;have E3:=Hi qE3;clear qE3;have sz13:=J13.size;have fP13:W13.heap[w.heap.size]? = some (.cells #[.pointer (some ⟨B,0,none⟩)] 74 (0,0)):=(J13.block _ (by omega) (by omega)).trans fP8
 have fD13:W13.heap[D]? = some (.cells #[.int .i64 k0,.bool ex,.bool n1,.bool n2,.string n3,.string nm,.slice none 0 0,.slice a2 m2 c2,.slice none 0 0,.slice none 0 0,.slice none 0 0,.slice none 0 0,.slice none 0 0,.bool false,.slice none 0 0,.int .i64 ln,.int .i64 co] 62 (0,0)):=(J13.block _ (by omega) (by omega)).trans fD8
 have sD213:=sD28.kp J13 (by omega)
 have K13:=K8.trans J13;clear fP8 fD8 sD28 K8 C8 J13;have cD15_9:W13.cell? ⟨D,9,none⟩=some (.slice none 0 0):=(zG fD13 9).trans rfl;have zD15_9:W13.frozen? ⟨D,9,none⟩=false:=dt.zag fD13 9;have fP14:(W13.setCell ⟨D,9,none⟩ (.slice a4 m4 c4)).heap[w.heap.size]? = some (.cells #[.pointer (some ⟨B,0,none⟩)] 74 (0,0)):=(Below.heap_setCell W13 _ _ _ (show w.heap.size ≠ D by omega)).trans fP13
 have fD14:(W13.setCell ⟨D,9,none⟩ (.slice a4 m4 c4)).heap[D]? = some (.cells #[.int .i64 k0,.bool ex,.bool n1,.bool n2,.string n3,.string nm,.slice none 0 0,.slice a2 m2 c2,.slice none 0 0,.slice a4 m4 c4,.slice none 0 0,.slice none 0 0,.slice none 0 0,.bool false,.slice none 0 0,.int .i64 ln,.int .i64 co] 62 (0,0)):=(dt.zac fD13 9 _).trans (by kernel_rfl)
 have C14:=C13.outC (b:=D) (by omega) (by omega) 9 (.slice a4 m4 c4)
 have K14:=K13.setB (b:=D) (by omega) 9 (.slice a4 m4 c4)
 have sD214:=sD213.outC (b:=D) (by omega) 9 (.slice a4 m4 c4)
 have sD414:=sD413.outC (b:=D) (by omega) 9 (.slice a4 m4 c4)
 have HH16:=Hi (an fP14 (an fD14 (an sD214 (an sD414 (an C14 (an K14 (an fP13 (an fD13 (an sD213 (an sD413 (an K13 (C13))))))))))));clear fP14 fD14 sD214 sD414 C14 K14 fP13 fD13 sD213 sD413 K13 C13
 go_wp2_with fail
 obtain⟨fP14,fD14,sD214,sD414,C14,K14,fP13,fD13,sD213,sD413,K13,C13⟩:=uh HH16;clear HH16;obtain⟨W17,hW17⟩:∃ W17,W17=(W13.setCell ⟨D,9,none⟩ (.slice a4 m4 c4)):=⟨_,rfl⟩;rw[← hW17] at fP14 fD14 sD214 sD414 C14 K14 ⊢;have sz17:W13.heap.size+0≤W17.heap.size:=by rw[hW17];simp only[zaf,dt.zaa,World.size_alloc];exact lr _
 clear hW17 cD15_9 zD15_9 fP13 fD13 sD213 sD413 K13 C13
 go_end0
 have hfin:inuT (typF N) (litF true N) ⟨k0,ex,(n1,n2,n3),em,[],[],[],[],[],[],[],false,[],l0,o0⟩ c=(⟨k0,ex,(n1,n2,n3),nm,[],ds.getD [],[],il,[],[],[],false,[],ln,co⟩,u3):=by
  unfold inuT;exact (zah (zdM (uh E1))).trans ((zah (uh E2)).trans ((zah (show optT (inpT (typF N) (litF true N)) bLc bRc u2=(il,u3) from uh E3)).trans rfl))
 obtain⟨hS9,F9,hF9⟩:=zbr (X:=W17) (s:=⟨k0,ex,(n1,n2,n3),nm,[],ds.getD [],[],il,[],[],[],false,[],ln,co⟩) (lo:=w.heap.size) (Sh.nil (w:=W17) (k:=3) (lo:=w.heap.size) (hi:=w.heap.size) (by omega)) sD214 (Sh.nil (w:=W17) (k:=10) (lo:=W7.heap.size) (hi:=W7.heap.size) (by omega)) sD414 (Sh.nil (w:=W17) (k:=3) (lo:=W13.heap.size) (hi:=W13.heap.size) (by omega)) (Sh.nil (w:=W17) (k:=7) (lo:=W13.heap.size) (hi:=W13.heap.size) (by omega)) (Sh.nil (w:=W17) (k:=4) (lo:=W13.heap.size) (hi:=W13.heap.size) (by omega)) (Sh.nil (w:=W17) (k:=3) (lo:=W13.heap.size) (hi:=W13.heap.size) (by omega)) (by omega) (by omega) (by omega) (by omega) (by omega) (by omega) (by omega) (by omega) (by omega) (by omega) (by omega) (by omega) (by omega) (by omega) (by omega) (by omega)
 exact⟨_,u3,_,F9,hfin,rfl,hS9,fD14,hF9,C14,K14⟩
end
theorem zqB {ws:List ByteArray} {c c':Cu} {x:Nm} (h:wwN ws c=(x,c')):wwR ws c=(c.isW ws,c'):=by
 have:c.nmC (c.isW ws)=c':=congrArg Prod.snd h;rw[← this];rfl
section
variable {N B p D:Nat} {c:Cu} {w:World}
set_option maxRecDepth 4000 in
set_option maxHeartbeats 4000000 in
theorem znE {k0 l0 o0:Int} {ex n1 n2:Bool} {n3:ByteArray} (hD:w.heap[D]? = some (.cells #[.int .i64 k0,.bool ex,.bool n1,.bool n2,.string n3,.string ⟨#[]⟩,.slice none 0 0,.slice none 0 0,.slice none 0 0,.slice none 0 0,.slice none 0 0,.slice none 0 0,.slice none 0 0,.bool false,.slice none 0 0,.int .i64 l0,.int .i64 o0] 62 (0,0))) (hDB:D ≠ B) (hDp:D ≠ p) (h:CurN N w B p c):Calls Tryz.prog 91 #[.agg #[.pointer (some ⟨B,0,none⟩)],.pointer (some ⟨D,0,none⟩)] w fun e w'=>∃ (s:Sy) (c':Cu) (cs:List Value) (F:List Nat),dirT (typF N) (litF true N) N ⟨k0,ex,(n1,n2,n3),em,[],[],[],[],[],[],[],false,[],l0,o0⟩ c=(s,c')∧e = .returned (.tuple #[])∧SyC s cs∧w'.heap[D]? = some (.cells cs.toArray 62 (0,0))∧Ho w' s.d cs F w.heap.size w'.heap.size∧CurN N w' B p c'∧Kq B D w w':=by
 have hlt:=h.lt;have hplt:=h.plt;have hDlt:D<w.heap.size:=(Array.getElem?_eq_some_iff.1 hD).1
 go_enter Tryz.func91,Tryz.ntmps91
 go_wp2_with fail
 have hD0:=hD;obtain⟨W1,hW1⟩:∃ W1,W1=allocs w [(#[.pointer (some ⟨B,0,none⟩)],74)]:=⟨_,rfl⟩;have gW1:W1=(w.alloc (.cells #[.pointer (some ⟨B,0,none⟩)] 74)):=hW1;have aa:=zaq [(#[.pointer (some ⟨B,0,none⟩)],74)] w;have fP1:W1.heap[w.heap.size]? = some (.cells #[.pointer (some ⟨B,0,none⟩)] 74 (0,0)):=by rw[hW1];exact aa 0 _ rfl
 have bw:Below w.heap.size w W1:=by rw[hW1];exact zak _ _
 have sz1:w.heap.size+1≤W1.heap.size:=by rw[hW1,zal];exact lr _
 have K1:Kp B w W1:=Kp.of bw;have fD1:W1.heap[D]? = some (.cells #[.int .i64 k0,.bool ex,.bool n1,.bool n2,.string n3,.string ⟨#[]⟩,.slice none 0 0,.slice none 0 0,.slice none 0 0,.slice none 0 0,.slice none 0 0,.slice none 0 0,.slice none 0 0,.bool false,.slice none 0 0,.int .i64 l0,.int .i64 o0] 62 (0,0)):=(bw.block _ hDlt).trans hD0;have C1:=h.below bw;rw[← gW1];clear gW1 hW1 bw aa h
 have K1q:=Kq.of (D:=D) K1;clear hD0 hD K1;have cP2_0:W1.cell? ⟨w.heap.size,0,none⟩=some (.pointer (some ⟨B,0,none⟩)):=(zG fP1 0).trans rfl;have HH3:=Hi (an fP1 (an fD1 (an C1 (K1q))));clear fP1 fD1 C1 K1q
 go_wp2_with fail
 obtain⟨fP1,fD1,C1,K1q⟩:=uh HH3;clear HH3;refine (zfZ bAt C1).mono ?_
 rintro e W4 ⟨u0,k0b,qE0,rfl,C4,J4⟩;have E0:=Hi qE0;clear qE0;have sz4:=J4.size;have fP4:W4.heap[w.heap.size]? = some (.cells #[.pointer (some ⟨B,0,none⟩)] 74 (0,0)):=(J4.block _ (by omega) (by omega)).trans fP1
 have fD4:W4.heap[D]? = some (.cells #[.int .i64 k0,.bool ex,.bool n1,.bool n2,.string n3,.string ⟨#[]⟩,.slice none 0 0,.slice none 0 0,.slice none 0 0,.slice none 0 0,.slice none 0 0,.slice none 0 0,.slice none 0 0,.bool false,.slice none 0 0,.int .i64 l0,.int .i64 o0] 62 (0,0)):=(J4.block _ (by omega) (by omega)).trans fD1
 have K4:=K1q.trans J4;clear fP1 fD1 K1q C1 J4 cP2_0;have cP5_0:W4.cell? ⟨w.heap.size,0,none⟩=some (.pointer (some ⟨B,0,none⟩)):=(zG fP4 0).trans rfl;have HH6:=Hi (an fP4 (an fD4 (an C4 (K4))));clear fP4 fD4 C4 K4
 go_wp2_with fail
 obtain⟨fP4,fD4,C4,K4⟩:=uh HH6;clear HH6;refine (zcI fD4 hDB hDp C4).mono ?_
 rintro e W7 ⟨nm,ln,co,u1,qE1,rfl,fD7,C7,J7⟩;have E1:=Hi qE1;clear qE1;have sz7:=J7.size;have fP7:W7.heap[w.heap.size]? = some (.cells #[.pointer (some ⟨B,0,none⟩)] 74 (0,0)):=(J7.block _ (by omega) (by omega) (by omega)).trans fP4
 have K7:=K4.transQ J7;clear fP4 fD4 K4 C4 J7 cP5_0;have cP8_0:W7.cell? ⟨w.heap.size,0,none⟩=some (.pointer (some ⟨B,0,none⟩)):=(zG fP7 0).trans rfl;have HH9:=Hi (an fP7 (an fD7 (an C7 (K7))));clear fP7 fD7 C7 K7
 go_wp2_with fail
 obtain⟨fP7,fD7,C7,K7⟩:=uh HH9;clear HH9;refine (zhg ⟨#[40]⟩ ⟨#[41]⟩ C7).mono ?_
 rintro e W10 ⟨il,u2,a4,m4,c4,F4,qE2,rfl,sD410,C10,J10⟩;have E2:=Hi qE2;clear qE2;have sz10:=J10.size;have fP10:W10.heap[w.heap.size]? = some (.cells #[.pointer (some ⟨B,0,none⟩)] 74 (0,0)):=(J10.block _ (by omega) (by omega)).trans fP7
 have fD10:W10.heap[D]? = some (.cells #[.int .i64 k0,.bool ex,.bool n1,.bool n2,.string n3,.string nm,.slice none 0 0,.slice none 0 0,.slice none 0 0,.slice none 0 0,.slice none 0 0,.slice none 0 0,.slice none 0 0,.bool false,.slice none 0 0,.int .i64 ln,.int .i64 co] 62 (0,0)):=(J10.block _ (by omega) (by omega)).trans fD7
 have K10:=K7.trans J10;clear fP7 fD7 K7 C7 J10 cP8_0;have cD12_9:W10.cell? ⟨D,9,none⟩=some (.slice none 0 0):=(zG fD10 9).trans rfl;have zD12_9:W10.frozen? ⟨D,9,none⟩=false:=dt.zag fD10 9;have fP11:(W10.setCell ⟨D,9,none⟩ (.slice a4 m4 c4)).heap[w.heap.size]? = some (.cells #[.pointer (some ⟨B,0,none⟩)] 74 (0,0)):=(Below.heap_setCell W10 _ _ _ (show w.heap.size ≠ D by omega)).trans fP10
 have fD11:(W10.setCell ⟨D,9,none⟩ (.slice a4 m4 c4)).heap[D]? = some (.cells #[.int .i64 k0,.bool ex,.bool n1,.bool n2,.string n3,.string nm,.slice none 0 0,.slice none 0 0,.slice none 0 0,.slice a4 m4 c4,.slice none 0 0,.slice none 0 0,.slice none 0 0,.bool false,.slice none 0 0,.int .i64 ln,.int .i64 co] 62 (0,0)):=(dt.zac fD10 9 _).trans (by kernel_rfl)
 have C11:=C10.outC (b:=D) (by omega) (by omega) 9 (.slice a4 m4 c4)
 have K11:=K10.setB (b:=D) (by omega) 9 (.slice a4 m4 c4)
 have sD411:=sD410.outC (b:=D) (by omega) 9 (.slice a4 m4 c4)
 have cP13_0:(W10.setCell ⟨D,9,none⟩ (.slice a4 m4 c4)).cell? ⟨w.heap.size,0,none⟩=some (.pointer (some ⟨B,0,none⟩)):=(zG fP11 0).trans rfl;have HH14:=Hi (an fP11 (an fD11 (an sD411 (an C11 (an K11 (an fP10 (an fD10 (an sD410 (an K10 (C10))))))))));clear fP11 fD11 sD411 C11 K11 fP10 fD10 sD410 K10 C10
 go_wp2_with fail
 obtain⟨fP11,fD11,sD411,C11,K11,fP10,fD10,sD410,K10,C10⟩:=uh HH14;clear HH14;obtain⟨W15,hW15⟩:∃ W15,W15=(W10.setCell ⟨D,9,none⟩ (.slice a4 m4 c4)):=⟨_,rfl⟩;rw[← hW15] at fP11 fD11 sD411 C11 K11 ⊢;have sz15:W10.heap.size+0≤W15.heap.size:=by rw[hW15];simp only[zaf,dt.zaa,World.size_alloc];exact lr _
 clear hW15 cD12_9 zD12_9 cP13_0 fP10 fD10 sD410 K10 C10;refine (zeP bRep C11).mono ?_
 rintro e W16 ⟨u3,rq,qE3,rfl,C16,J16⟩;have E3:=Hi qE3;clear qE3;have sz16:=J16.size;have fP16:W16.heap[w.heap.size]? = some (.cells #[.pointer (some ⟨B,0,none⟩)] 74 (0,0)):=(J16.block _ (by omega) (by omega)).trans fP11
 have fD16:W16.heap[D]? = some (.cells #[.int .i64 k0,.bool ex,.bool n1,.bool n2,.string n3,.string nm,.slice none 0 0,.slice none 0 0,.slice none 0 0,.slice a4 m4 c4,.slice none 0 0,.slice none 0 0,.slice none 0 0,.bool false,.slice none 0 0,.int .i64 ln,.int .i64 co] 62 (0,0)):=(J16.block _ (by omega) (by omega)).trans fD11
 have sD416:=sD411.kp J16 (by omega)
 have K16:=K11.trans J16;clear fP11 fD11 sD411 K11 C11 J16;have cD18_13:W16.cell? ⟨D,13,none⟩=some (.bool false):=(zG fD16 13).trans rfl;have zD18_13:W16.frozen? ⟨D,13,none⟩=false:=dt.zag fD16 13;have fP17:(W16.setCell ⟨D,13,none⟩ (.bool rq)).heap[w.heap.size]? = some (.cells #[.pointer (some ⟨B,0,none⟩)] 74 (0,0)):=(Below.heap_setCell W16 _ _ _ (show w.heap.size ≠ D by omega)).trans fP16
 have fD17:(W16.setCell ⟨D,13,none⟩ (.bool rq)).heap[D]? = some (.cells #[.int .i64 k0,.bool ex,.bool n1,.bool n2,.string n3,.string nm,.slice none 0 0,.slice none 0 0,.slice none 0 0,.slice a4 m4 c4,.slice none 0 0,.slice none 0 0,.slice none 0 0,.bool rq,.slice none 0 0,.int .i64 ln,.int .i64 co] 62 (0,0)):=(dt.zac fD16 13 _).trans (by kernel_rfl)
 have C17:=C16.outC (b:=D) (by omega) (by omega) 13 (.bool rq)
 have K17:=K16.setB (b:=D) (by omega) 13 (.bool rq)
 have sD417:=sD416.outC (b:=D) (by omega) 13 (.bool rq)
 have cP19_0:(W16.setCell ⟨D,13,none⟩ (.bool rq)).cell? ⟨w.heap.size,0,none⟩=some (.pointer (some ⟨B,0,none⟩)):=(zG fP17 0).trans rfl;have fP20:((W16.setCell ⟨D,13,none⟩ (.bool rq)).alloc (.cells #[.string ⟨#[111,110]⟩] 9)).heap[w.heap.size]? = some (.cells #[.pointer (some ⟨B,0,none⟩)] 74 (0,0)):=(Below.heap_alloc (W16.setCell ⟨D,13,none⟩ (.bool rq)) _ _ (by simp only[World.size_alloc,zaf,dt.zaa];omega)).trans fP17
 have fD20:((W16.setCell ⟨D,13,none⟩ (.bool rq)).alloc (.cells #[.string ⟨#[111,110]⟩] 9)).heap[D]? = some (.cells #[.int .i64 k0,.bool ex,.bool n1,.bool n2,.string n3,.string nm,.slice none 0 0,.slice none 0 0,.slice none 0 0,.slice a4 m4 c4,.slice none 0 0,.slice none 0 0,.slice none 0 0,.bool rq,.slice none 0 0,.int .i64 ln,.int .i64 co] 62 (0,0)):=(Below.heap_alloc (W16.setCell ⟨D,13,none⟩ (.bool rq)) _ _ (by simp only[World.size_alloc,zaf,dt.zaa];omega)).trans fD17
 have fX20:((W16.setCell ⟨D,13,none⟩ (.bool rq)).alloc (.cells #[.string ⟨#[111,110]⟩] 9)).heap[(W16.heap.size)]? = some (.cells #[.string ⟨#[111,110]⟩] 9 (0,0)):=by have hh:=heap_alloc_new (W16.setCell ⟨D,13,none⟩ (.bool rq)) (.cells #[.string ⟨#[111,110]⟩] 9);simp only[World.size_alloc,zaf,dt.zaa] at hh;exact hh
 have bb20:Below (W16.setCell ⟨D,13,none⟩ (.bool rq)).heap.size (W16.setCell ⟨D,13,none⟩ (.bool rq)) ((W16.setCell ⟨D,13,none⟩ (.bool rq)).alloc (.cells #[.string ⟨#[111,110]⟩] 9)):=ba;have C20:=C17.below bb20;have K20:=K17.trans (Kp.of bb20);have sD420:=sD417.below bb20;have HH21:=Hi (an fP20 (an fD20 (an fX20 (an sD420 (an C20 (an K20 (an fP16 (an fD16 (an sD416 (an K16 (an C16 (an fP17 (an fD17 (an sD417 (an K17 (C17))))))))))))))))
 clear fP20 fD20 fX20 sD420 C20 K20 fP16 fD16 sD416 K16 C16 fP17 fD17 sD417 K17 C17
 go_wp2_with fail
 obtain⟨fP20,fD20,fX20,sD420,C20,K20,fP16,fD16,sD416,K16,C16,fP17,fD17,sD417,K17,C17⟩:=uh HH21;clear HH21;obtain⟨W22,hW22⟩:∃ W22,W22=((W16.setCell ⟨D,13,none⟩ (.bool rq)).alloc (.cells #[.string ⟨#[111,110]⟩] 9)):=⟨_,rfl⟩;rw[← hW22] at fP20 fD20 fX20 sD420 C20 K20 ⊢;have sz22:W16.heap.size+1≤W22.heap.size:=by rw[hW22];simp only[zaf,dt.zaa,World.size_alloc];exact lr _
 clear hW22 cD18_13 zD18_13 cP19_0 fP16 fD16 sD416 K16 C16 fP17 fD17 sD417 K17 C17;refine (zoU (ws:=[bOn]) (n:=1) (cp:=1) (zis [bOn] _ fX20) (by decide) C20).mono ?_
 rintro e W23 ⟨wn,wl,wo,u4,k4b,qE4,rfl,C23,J23⟩;have E4:=Hi qE4;clear qE4;have sz23:=J23.size;have fP23:W23.heap[w.heap.size]? = some (.cells #[.pointer (some ⟨B,0,none⟩)] 74 (0,0)):=(J23.block _ (by omega) (by omega)).trans fP20
 have fD23:W23.heap[D]? = some (.cells #[.int .i64 k0,.bool ex,.bool n1,.bool n2,.string n3,.string nm,.slice none 0 0,.slice none 0 0,.slice none 0 0,.slice a4 m4 c4,.slice none 0 0,.slice none 0 0,.slice none 0 0,.bool rq,.slice none 0 0,.int .i64 ln,.int .i64 co] 62 (0,0)):=(J23.block _ (by omega) (by omega)).trans fD20
 have fX23:W23.heap[(W16.heap.size)]? = some (.cells #[.string ⟨#[111,110]⟩] 9 (0,0)):=(J23.block _ (by omega) (by omega)).trans fX20
 have sD423:=sD420.kp J23 (by omega)
 have K23:=K20.trans J23;clear fP20 fD20 fX20 sD420 K20 C20 J23;clear fX23;have cP24_0:W23.cell? ⟨w.heap.size,0,none⟩=some (.pointer (some ⟨B,0,none⟩)):=(zG fP23 0).trans rfl;have HH25:=Hi (an fP23 (an fD23 (an sD423 (an C23 (K23)))));clear fP23 fD23 sD423 C23 K23
 go_wp2_with fail
 obtain⟨fP23,fD23,sD423,C23,K23⟩:=uh HH25;clear HH25;refine (zoj bPipe C23).mono ?_
 rintro e W26 ⟨pl,u5,a8,m8,c8,F8,qE5,rfl,sD826,C26,J26⟩;have E5:=Hi qE5;clear qE5;have sz26:=J26.size;have fP26:W26.heap[w.heap.size]? = some (.cells #[.pointer (some ⟨B,0,none⟩)] 74 (0,0)):=(J26.block _ (by omega) (by omega)).trans fP23
 have fD26:W26.heap[D]? = some (.cells #[.int .i64 k0,.bool ex,.bool n1,.bool n2,.string n3,.string nm,.slice none 0 0,.slice none 0 0,.slice none 0 0,.slice a4 m4 c4,.slice none 0 0,.slice none 0 0,.slice none 0 0,.bool rq,.slice none 0 0,.int .i64 ln,.int .i64 co] 62 (0,0)):=(J26.block _ (by omega) (by omega)).trans fD23
 have sD426:=sD423.kp J26 (by omega)
 have K26:=K23.trans J26;clear fP23 fD23 sD423 K23 C23 J26 cP24_0;have cD28_14:W26.cell? ⟨D,14,none⟩=some (.slice none 0 0):=(zG fD26 14).trans rfl;have zD28_14:W26.frozen? ⟨D,14,none⟩=false:=dt.zag fD26 14;have fP27:(W26.setCell ⟨D,14,none⟩ (.slice a8 m8 c8)).heap[w.heap.size]? = some (.cells #[.pointer (some ⟨B,0,none⟩)] 74 (0,0)):=(Below.heap_setCell W26 _ _ _ (show w.heap.size ≠ D by omega)).trans fP26
 have fD27:(W26.setCell ⟨D,14,none⟩ (.slice a8 m8 c8)).heap[D]? = some (.cells #[.int .i64 k0,.bool ex,.bool n1,.bool n2,.string n3,.string nm,.slice none 0 0,.slice none 0 0,.slice none 0 0,.slice a4 m4 c4,.slice none 0 0,.slice none 0 0,.slice none 0 0,.bool rq,.slice a8 m8 c8,.int .i64 ln,.int .i64 co] 62 (0,0)):=(dt.zac fD26 14 _).trans (by kernel_rfl)
 have C27:=C26.outC (b:=D) (by omega) (by omega) 14 (.slice a8 m8 c8)
 have K27:=K26.setB (b:=D) (by omega) 14 (.slice a8 m8 c8)
 have sD427:=sD426.outC (b:=D) (by omega) 14 (.slice a8 m8 c8)
 have sD827:=sD826.outC (b:=D) (by omega) 14 (.slice a8 m8 c8)
 have HH29:=Hi (an fP27 (an fD27 (an sD427 (an sD827 (an C27 (an K27 (an fP26 (an fD26 (an sD426 (an sD826 (an K26 (C26))))))))))));clear fP27 fD27 sD427 sD827 C27 K27 fP26 fD26 sD426 sD826 K26 C26
 go_wp2_with fail
 obtain⟨fP27,fD27,sD427,sD827,C27,K27,fP26,fD26,sD426,sD826,K26,C26⟩:=uh HH29;clear HH29;obtain⟨W30,hW30⟩:∃ W30,W30=(W26.setCell ⟨D,14,none⟩ (.slice a8 m8 c8)):=⟨_,rfl⟩;rw[← hW30] at fP27 fD27 sD427 sD827 C27 K27 ⊢;have sz30:W26.heap.size+0≤W30.heap.size:=by rw[hW30];simp only[zaf,dt.zaa,World.size_alloc];exact lr _
 clear hW30 cD28_14 zD28_14 fP26 fD26 sD426 sD826 K26 C26
 go_end0
 have hfin:dirT (typF N) (litF true N) N ⟨k0,ex,(n1,n2,n3),em,[],[],[],[],[],[],[],false,[],l0,o0⟩ c=(⟨k0,ex,(n1,n2,n3),nm,[],[],[],il,[],[],[],rq,pl,ln,co⟩,u5):=by
  unfold dirT;exact (zah (uh E0)).trans ((zah (zdM (uh E1))).trans ((zah (show optT (inpT (typF N) (litF true N)) bLp bRp u1=(il,u2) from uh E2)).trans ((zah (uh E3)).trans ((zah (zqB (uh E4))).trans ((zah (uh E5)).trans rfl)))))
 obtain⟨hS9,F9,hF9⟩:=zbr (X:=W30) (s:=⟨k0,ex,(n1,n2,n3),nm,[],[],[],il,[],[],[],rq,pl,ln,co⟩) (lo:=w.heap.size) (Sh.nil (w:=W30) (k:=3) (lo:=w.heap.size) (hi:=w.heap.size) (by omega)) (Sh.nil (w:=W30) (k:=4) (lo:=w.heap.size) (hi:=w.heap.size) (by omega)) (Sh.nil (w:=W30) (k:=10) (lo:=w.heap.size) (hi:=w.heap.size) (by omega)) sD427 (Sh.nil (w:=W30) (k:=3) (lo:=W10.heap.size) (hi:=W10.heap.size) (by omega)) (Sh.nil (w:=W30) (k:=7) (lo:=W10.heap.size) (hi:=W10.heap.size) (by omega)) (Sh.nil (w:=W30) (k:=4) (lo:=W10.heap.size) (hi:=W10.heap.size) (by omega)) sD827 (by omega) (by omega) (by omega) (by omega) (by omega) (by omega) (by omega) (by omega) (by omega) (by omega) (by omega) (by omega) (by omega) (by omega) (by omega) (by omega)
 exact⟨_,u5,_,F9,hfin,rfl,hS9,fD27,hF9,C27,K27⟩
end
set_option maxHeartbeats 800000 in
set_option maxRecDepth 4000 in
theorem zpK (w:World):Calls Tryz.prog 73 #[] w fun e w'=>e = .returned (.slice (some ⟨w.heap.size,0,none⟩) 8 8)∧w'=w.alloc (.cells #[.string ⟨#[115,99,104,101,109,97]⟩,.int .i64 1,.func (.func 85) #[] #[],.string ⟨#[115,99,97,108,97,114]⟩,.int .i64 2,.func (.func 86) #[] #[],.string ⟨#[116,121,112,101]⟩,.int .i64 3,.func (.func 87) #[] #[],.string ⟨#[105,110,116,101,114,102,97,99,101]⟩,.int .i64 4,.func (.func 87) #[] #[],.string ⟨#[117,110,105,111,110]⟩,.int .i64 5,.func (.func 88) #[] #[],.string ⟨#[101,110,117,109]⟩,.int .i64 6,.func (.func 89) #[] #[],.string ⟨#[105,110,112,117,116]⟩,.int .i64 7,.func (.func 90) #[] #[],.string ⟨#[100,105,114,101,99,116,105,118,101]⟩,.int .i64 8,.func (.func 91) #[] #[]] 148):=by
 go_enter Tryz.func73,Tryz.ntmps73
 go_wp2_with fail
 go_ret
 exact⟨rfl,rfl⟩
set_option maxRecDepth 4000 in
set_option maxHeartbeats 2000000 in
theorem zjd (w:World) {k:Int} {ex n1 n2 rp:Bool} {n3 nm:ByteArray} {a1:Option Addr} {m1 c1:Nat} {a2:Option Addr} {m2 c2:Nat} {a3:Option Addr} {m3 c3:Nat} {a4:Option Addr} {m4 c4:Nat} {a5:Option Addr} {m5 c5:Nat} {a6:Option Addr} {m6 c6:Nat} {a7:Option Addr} {m7 c7:Nat} {a8:Option Addr} {m8 c8:Nat} {ln co:Int} (hm:m1≤8589934592∧m2≤8589934592∧m3≤8589934592∧m4≤8589934592∧m5≤8589934592∧m6≤8589934592∧m7≤8589934592):Calls Tryz.prog 50 #[.agg (sysC k ex n1 n2 n3 nm a1 m1 c1 a2 m2 c2 a3 m3 c3 a4 m4 c4 a5 m5 c5 a6 m6 c6 a7 m7 c7 rp a8 m8 c8 ln co).toArray] w fun e w'=>e = .returned (.bool (decide (m1+m2+m3+m4+m5+m6+m7=0)))∧Below w.heap.size w w':=by
 have bA:=Hi (fun o=>show Below w.heap.size w (w.alloc o) from ba)
 obtain⟨h1,h2,h3,h4,h5,h6,h7⟩:=hm;have HD:=Hi (show decide (m1+m2+m3+m4+m5+m6+m7=0)=(((((((((m1:Int)+m2)+m3)+m4)+m5)+m6)+m7):Int) == 0) from by rw[Bool.eq_iff_iff];simp;omega)
 unfold sysC
 go_enter Tryz.func50,Tryz.ntmps50
 go_wp2_with fail
 go_ret
 refine⟨?_,(uh bA) _⟩
 rw[uh HD];rfl
end Go.Proofs.YtifbkdicglcogaaGreat.cu
