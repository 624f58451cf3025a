import Derived.Test.YtifbkdicglcogaaGreatSjo4
import Derived.Deep.RegionHeld3
set_option linter.unusedVariables false
set_option linter.unusedSimpArgs false
namespace Go.Proofs.YtifbkdicglcogaaGreat.cu
open Go.ChangeShapes Go.WideShapes Go.ChangeAt Go.RowKit
open ints (Hi uh)
open dt (Dt Kp RowAt)
theorem CurAt.c2 {w:World} {B p:Nat} {c:Cu} (h:CurAt w B p c):w.cell? ⟨B,2,none⟩=some (.int .i64 c.op)∧w.cell? ⟨B,3,none⟩=some (.int .i64 c.mo)∧w.frozen? ⟨B,2,none⟩=false∧w.cell? ⟨B,4,none⟩=some (.int .i64 c.kd):=by
 obtain⟨cap,h1,h2,h3,h4⟩:=h.box;exact⟨(zG h1 2).trans rfl,(zG h1 3).trans rfl,dt.zag h1 2,(zG h1 4).trans rfl⟩
set_option maxHeartbeats 1000000 in
theorem zcv (B p:Nat) (c:Cu) (q:ByteArray) (w:World) (h:CurAt w B p c):Calls Tryz.prog 132 #[ptr B,.string q] w fun e w'=>e = .returned (.bool (c.opB q))∧CurAt w' B p (c.opn q)∧Kp B w w':=by
 have hi:=Hi (zax B p c q w h);have hh:=Hi (fun W (bb:Below w.heap.size w W)=>zfA B p c (c.isP q) W (h.below bb))
 have hok:=Hi h.ok;have hop:=h.ok.op;have hmo:=h.ok.mo
 cases hP:c.isP q
 ·have hs:=Hi (show c.opB q=false∧c.opn q=c.stop 70 from ⟨by simp[Cu.opB,hP],by simp[Cu.opn,hP]⟩)
  rw[hP] at hi hh;rw[(uh hs).1];clear h hP;unfold ptr at hi hh ⊢
  go_enter Tryz.func132,Tryz.ntmps132
  go_wp2_with fail
  refine (uh hi).mono ?_
  rintro e w1 ⟨rfl,b1⟩
  go_wp2_with fail
  refine ((uh hh) w1 b1).mono ?_
  rintro e w2 ⟨rfl,hc,hk⟩;clear hi hh
  go_wp2_with fail
  go_ret
  exact⟨rfl,by rw[(uh hs).2];exact hc,(Kp.of b1).trans hk⟩
 ·rw[hP] at hi hh
  by_cases hd:c.op<c.mo
  ·have hs:=Hi (show c.opB q=true∧c.opn q=⟨c.ts,c.ix+1,c.op+1,c.mo,c.kd⟩ from ⟨by simp[Cu.opB,hP,hd],by simp[Cu.opn,hP,hd]⟩)
   have hm:=zbu h.ok hP;have hO:=Hi (fun W (hc:CurAt W B p c)=>hc.opn (c.op+1) ⟨h.ok.lt,h.ok.more,by show c.op+1≤c.mo;omega,h.ok.mo⟩)
   have ht:=Hi (fun W (hc:CurAt W B p ⟨c.ts,c.ix,c.op+1,c.mo,c.kd⟩)=>zdk B p ⟨c.ts,c.ix,c.op+1,c.mo,c.kd⟩ true W hc (fun _=>hm))
   rw[(uh hs).1];have hge:¬ ((c.mo:Int)≤(c.op:Int)):=by omega
   clear h hP hm;unfold ptr at hi hh ht ⊢
   go_enter Tryz.func132,Tryz.ntmps132
   go_wp2_with fail
   refine (uh hi).mono ?_
   rintro e w1 ⟨rfl,b1⟩
   go_wp2_with fail
   refine ((uh hh) w1 b1).mono ?_
   rintro e w2 ⟨rfl,hc,hk⟩;have hc':CurAt w2 B p c:=hc;obtain⟨d2,d3,f2,-⟩:=hc'.c2;have HC:=Hi hc';have HK:=Hi ((Kp.of b1).trans hk);clear hi hh hc hc' hk b1
   go_wp2_with fail
   go_region
   go_wp2_with fail
   have HC2:=(uh hO) _ ((uh HC).below (Go.below_drewN (Below.refl _ _) 1));have hop1:(((c.op+1:Nat):Int))=(c.op:Int)+1:=by omega
   rw[hop1] at HC2;refine ((uh ht) _ HC2).mono ?_
   rintro e w3 ⟨rfl,hc3,hk3⟩;have HK3:=Hi (((uh HK).trans (Kp.of (Go.below_drewN (Below.refl _ _) 1))).trans (((Kp.refl B _).set 2 (.int .i64 ((c.op:Int)+1))).trans hk3));have HC3:=Hi hc3;clear ht HC2 hk3 hc3 HC HK d2 d3 f2 hop1
   go_wp2_with fail
   go_ret
   exact⟨rfl,by rw[(uh hs).2];exact uh HC3,uh HK3⟩
  ·have hs:=Hi (show c.opB q=false∧c.opn q=c.stop 71 from ⟨by simp[Cu.opB,hP,hd],by simp[Cu.opn,hP,hd]⟩)
   have ht:=Hi (fun W (hc:CurAt W B p c)=>zgF B p c 71 W hc)
   rw[(uh hs).1];have hge:((c.mo:Int)≤(c.op:Int)):=by omega
   clear h hP;unfold ptr at hi hh ht ⊢
   go_enter Tryz.func132,Tryz.ntmps132
   go_wp2_with fail
   refine (uh hi).mono ?_
   rintro e w1 ⟨rfl,b1⟩
   go_wp2_with fail
   refine ((uh hh) w1 b1).mono ?_
   rintro e w2 ⟨rfl,hc,hk⟩;have hc':CurAt w2 B p c:=hc;obtain⟨d2,d3,f2,-⟩:=hc'.c2;have HC:=Hi hc';have HK:=Hi ((Kp.of b1).trans hk);clear hi hh hc hc' hk b1
   go_wp2_with fail
   go_region
   go_wp2_with fail
   refine ((uh ht) _ ((uh HC).below (Go.below_drewN (Below.refl _ _) 1))).mono ?_
   rintro e w3 ⟨rfl,hc3,hk3⟩;have HK3:=Hi (((uh HK).trans (Kp.of (Go.below_drewN (Below.refl _ _) 1))).trans hk3);have HC3:=Hi hc3;clear ht hk3 hc3 HC HK d2 d3 f2
   go_wp2_with fail
   go_ret
   exact⟨rfl,by rw[(uh hs).2];exact uh HC3,uh HK3⟩
set_option maxHeartbeats 1000000 in
theorem zbF (B p:Nat) (c:Cu) (q:ByteArray) (w:World) (h:CurAt w B p c):Calls Tryz.prog 133 #[ptr B,.string q] w fun e w'=>e = .returned (.bool (c.isP q))∧CurAt w' B p (c.cls q)∧Kp B w w':=by
 have hi:=Hi (zhs B p c q w h);have hop:=h.ok.op;have hmo:=h.ok.mo
 cases hP:c.isP q
 ·have hs:=Hi (show c.cls q=c.want q from by simp[Cu.cls,Cu.want,hP])
  rw[hP] at hi;clear h hP;unfold ptr at hi ⊢
  go_enter Tryz.func133,Tryz.ntmps133
  go_wp2_with fail
  refine (uh hi).mono ?_
  rintro e w1 ⟨rfl,hc,hk⟩;clear hi
  go_wp2_with fail
  go_ret
  exact⟨rfl,by rw[uh hs];exact hc,hk⟩
 ·have hm:=zbu h.ok hP
  have hs:=Hi (show c.cls q=⟨c.ts,c.ix+1,c.op - 1,c.mo,c.kd⟩∧c.want q=⟨c.ts,c.ix+1,c.op,c.mo,c.kd⟩ from ⟨by simp[Cu.cls,hP],by simp[Cu.want,hP,Cu.take]⟩)
  have hO:=Hi (fun W (hc:CurAt W B p ⟨c.ts,c.ix+1,c.op,c.mo,c.kd⟩)=>hc.opn (c.op - 1) ⟨hm,h.ok.more,by show c.op - 1≤c.mo;omega,h.ok.mo⟩)
  rw[hP,(uh hs).2] at hi;rw[(uh hs).1];obtain⟨O,hO'⟩:∃ O,O=c.op:=⟨_,rfl⟩;rw[← hO'] at hi hO hop;clear h hP hm;unfold ptr at hi ⊢
  go_enter Tryz.func133,Tryz.ntmps133
  go_wp2_with fail
  refine (uh hi).mono ?_
  rintro e w1 ⟨rfl,hc,hk⟩;obtain⟨d2,-,f2,-⟩:=hc.c2;have d2':w1.cell? ⟨B,2,none⟩=some (.int .i64 (O:Int)):=d2;have HC:=Hi hc;have HK:=Hi hk;have HO:=Hi hO';clear hi hc hk d2 hO'
  go_wp2_with fail
  go_ret
  have e:max 0 ((O:Int) - 1)=((O - 1:Nat):Int):=by omega
  rw[e,← uh HO];exact⟨rfl,(uh hO) _ (uh HC),(uh HK).set 2 _⟩
theorem mixed:Tryz.prog.follows .mixedOrders=true:=by kernel_rfl
theorem buildP (x y:Int) (w:World):(Instr.buildSlice 26 1 #[(0,.agg #[.int .i64 x,.int .i64 y])]).run Tryz.prog w = .ok (.slice (some ⟨w.heap.size,0,none⟩) 1 1) (w.alloc (.cells #[.int .i64 x,.int .i64 y] 37)):=by go_simp
def FltAt (lo:Nat) (w:World) (c:Cu) (fs:List Value):Prop:=
 if c.kd=0 then fs=[.int .i64 0,.slice none 0 0,.slice none 0 0] else ∃ b,lo≤b∧b<w.heap.size∧fs=[.int .i64 c.kd,.slice (some ⟨b,0,none⟩) 1 1,.slice none 0 0]∧w.cell? ⟨b,0,none⟩=some (.int .i64 c.tok.ln)∧w.cell? ⟨b,1,none⟩=some (.int .i64 c.tok.co)
theorem infoFl:(Tryz.prog.info? 29).map (·.size)=some 3:=by kernel_rfl
set_option maxRecDepth 4000 in
set_option maxHeartbeats 1000000 in
theorem zoL (B p:Nat) (c:Cu) (w:World) (h:CurAt w B p c):Calls Tryz.prog 33 #[ptr B] w fun e w'=>∃ fs,e = .returned (.agg fs.toArray)∧FltAt w.heap.size w' c fs∧Below w.heap.size w w':=by
 have hb:=Hi (fun W (bb:Below w.heap.size w W)=>zb0 B p c W (h.below bb))
 have ht:=Hi (fun W (bb:Below w.heap.size w W)=>zaZ B p c W (h.below bb))
 have hlt:=h.lt;have h4:=h.c2.2.2.2;have bA:=Hi (fun o=>show Below w.heap.size w (w.alloc o) from ba)
 have D4:∀ o,(w.alloc o).cell? ⟨B,4,none⟩=some (.int .i64 c.kd):=fun o=>(((uh bA) o).cell (p:=⟨B,4,none⟩) hlt).trans h4
 have hf:=zdv c.tok;obtain⟨kd,hk⟩:∃ kd,kd=c.kd:=⟨_,rfl⟩;obtain⟨t,hk3⟩:∃ t,t=c.tok:=⟨_,rfl⟩;rw[← hk] at D4;rw[← hk3] at ht hf;have HK:=Hi hk.symm;have HT:=Hi hk3.symm;clear h hk hk3 h4;unfold ptr at hb ht ⊢;unfold Tk.cells at ht
 by_cases hz:kd=0
 ·subst hz
  go_enter Tryz.func33,Tryz.ntmps33
  go_wp2_with fail
  refine ((uh hb) _ ((uh bA) _)).mono ?_
  rintro e w1 ⟨rfl,rfl⟩;clear ht
  go_wp2_with fail
  refine bodyPost_ret (rgn.zao rfl _ _ w.heap.size 0 [.int .i64 0,.slice none 0 0,.slice none 0 0] _ rfl (dt.zav (heap_alloc_new w _) 0 _ (fun j u hu=>by rw[Nat.zero_add];simpa using hu)) Tryz.underlying29 rfl infoFl) rfl ?_
  exact⟨_,rfl,by unfold FltAt;rw[if_pos (uh HK)],(uh bA) _⟩
 ·have ez:(kd == 0)=false:=by simpa using hz
  have HZ:=Hi hz;clear hz
  go_enter Tryz.func33,Tryz.ntmps33
  go_wp2_with fail
  refine ((uh hb) _ ((uh bA) _)).mono ?_
  rintro e w1 ⟨rfl,rfl⟩
  go_wp2_with fail
  have hR0:=Hi (heap_alloc_new w (.cells #[Value.int .i64 0,.slice none 0 0,.slice none 0 0] 29));have bW0:=(uh bA) (.cells #[Value.int .i64 0,.slice none 0 0,.slice none 0 0] 29);have c4:=D4 (.cells #[Value.int .i64 0,.slice none 0 0,.slice none 0 0] 29);have hz0:w.heap.size<(w.alloc (.cells #[Value.int .i64 0,.slice none 0 0,.slice none 0 0] 29)).heap.size:=by simp
  obtain⟨W0,hW0⟩:∃ W0,W0=w.alloc (.cells #[Value.int .i64 0,.slice none 0 0,.slice none 0 0] 29):=⟨_,rfl⟩;rw[← hW0] at hR0 bW0 c4 hz0 ⊢;clear hW0 bA hb D4;have hS0:Below w.heap.size W0 { W0 with drawn:=W0.drawn+1 }:=(Below.refl _ _).drew
  have bD:=bW0.trans hS0;refine wp_region_noPanic ?_
  refine wp_region_held (S:=fun w'=>Below w.heap.size W0 w') mixed ?_
  refine rgn.u 0 (v:=?v0) ?h0 hS0 ?_
  case h0=>(intro w' hw';have c4':=(hw'.cell (p:=⟨B,4,none⟩) hlt).trans c4;go_simp;try with_reducible rfl)
  simp only[zz];refine rgn.u 1 (v:=?v1) ?h1 hS0 ?_
  case h1=>(intro w' hw';have c4':=(hw'.cell (p:=⟨B,4,none⟩) hlt).trans c4;go_simp;try with_reducible rfl)
  simp only[zz];refine rgn.u 2 (v:=?v2) ?h2 hS0 ?_
  case h2=>(intro w' hw';have c4':=(hw'.cell (p:=⟨B,4,none⟩) hlt).trans c4;go_simp;try with_reducible rfl)
  simp only[zz];refine rgn.u 3 (v:=?v3) ?h3 hS0 ?_
  case h3=>(intro w' hw';have c4':=(hw'.cell (p:=⟨B,4,none⟩) hlt).trans c4;go_simp;try with_reducible rfl)
  simp only[zz];refine rgn.u 4 (v:=?v4) ?h4 hS0 ?_
  case h4=>(intro w' hw';have c4':=(hw'.cell (p:=⟨B,4,none⟩) hlt).trans c4;go_simp;try with_reducible rfl)
  simp only[zz];refine rgn.one (i:=5) _ rfl (by kernel_rfl) (by rfl) ?_
  simp only[zz]
  go_wp2_with fail
  refine ((uh ht) _ bD).mono ?_
  rintro e w2 ⟨rfl,b2⟩;have b02:Below W0.heap.size W0 w2:=(Below.refl W0.heap.size W0).drew.trans b2;have hS2:Below w.heap.size W0 w2:=b02.mono (Nat.le_of_lt hz0);refine⟨hS2,?_⟩
  clear hS0 b2 bD;have hS0:=hS2
  try simp only[zz]
  refine rgn.take (i:=6) _ (.agg #[.int .i64 t.ln,.int .i64 t.co]) rfl (by kernel_rfl) (by kernel_rfl) (by kernel_rfl) (fun _ _ _ h=>h) (by rfl) hS0 (fun w' hw'=>by go_simp) ?_
  simp only[zz];refine rgn.one (i:=7) _ rfl (by kernel_rfl) (by rfl) ?_
  simp only[zz];refine dt.zgV 26 _ (by rfl) (.agg #[.int .i64 t.ln,.int .i64 t.co]) _ (by rfl) (buildP t.ln t.co w2) ?_
  have hS3:Below w.heap.size W0 (w2.alloc (.cells #[.int .i64 t.ln,.int .i64 t.co] 37)):=hS2.alloc (Nat.le_trans (Nat.le_of_lt hz0) b02.size) _;refine⟨hS3,?_⟩
  clear hS0;have hS0:=hS3
  try simp only[zz]
  refine rgn.take (i:=8) _ (.agg #[.int .i64 kd,.slice (some ⟨w2.heap.size,0,none⟩) 1 1,.slice none 0 0]) rfl (by kernel_rfl) (by kernel_rfl) (by kernel_rfl) (fun _ _ _ h=>h) (by rfl) hS0 (fun w' hw'=>by go_simp) ?_
  simp only[zz];have hR2:=(Below.heap_alloc w2 (.cells #[.int .i64 t.ln,.int .i64 t.co] 37) w.heap.size (Nat.lt_of_lt_of_le hz0 b02.size)).trans ((b02.block w.heap.size hz0).trans (uh hR0));have hth:=dt.zab hR2 (o:=0) (n:=3) (by decide)
  refine rgn.one (i:=9) _ rfl (by kernel_rfl) (by rfl) ?_
  simp only[zz];refine wp_store_mid 29 _ _ (by rfl) w.heap.size 0 #[.int .i64 kd,.slice (some ⟨w2.heap.size,0,none⟩) 1 1,.slice none 0 0] (by rfl) (by rfl) hth infoFl (dt.zae (cs:=[.int .i64 kd,.slice (some ⟨w2.heap.size,0,none⟩) 1 1,.slice none 0 0]) (by rfl)) ?_
  refine⟨dt.zan _ _ _ _ hS3 (lr _),?_⟩
  try simp only[zz]
  refine wpAnyH_done (by kernel_rfl) ?_ _;refine NoPanic.normal ?_
  have hb2:w2.heap.size ≠ w.heap.size:=by have:=b02.size;omega
  have hn:=heap_alloc_new w2 (.cells #[.int .i64 t.ln,.int .i64 t.co] 37);have hX:=(dt.zai w.heap.size w2.heap.size hb2 [.int .i64 kd,.slice (some ⟨w2.heap.size,0,none⟩) 1 1,.slice none 0 0] 0 _).trans hn;have hrg:=World.rangeAt_setCells_same (w2.alloc (.cells #[.int .i64 t.ln,.int .i64 t.co] 37)) w.heap.size 0 [.int .i64 kd,.slice (some ⟨w2.heap.size,0,none⟩) 1 1,.slice none 0 0] hth
  have hbX:Below w.heap.size W0 ((w2.alloc (.cells #[.int .i64 t.ln,.int .i64 t.co] 37)).setCells w.heap.size 0 [.int .i64 kd,.slice (some ⟨w2.heap.size,0,none⟩) 1 1,.slice none 0 0]):=dt.zan _ _ _ _ hS3 (lr _);have hXs:w2.heap.size<((w2.alloc (.cells #[.int .i64 t.ln,.int .i64 t.co] 37)).setCells w.heap.size 0 [.int .i64 kd,.slice (some ⟨w2.heap.size,0,none⟩) 1 1,.slice none 0 0]).heap.size:=by rw[dt.zaa];simp
  obtain⟨X,eX⟩:∃ X,X=(w2.alloc (.cells #[.int .i64 t.ln,.int .i64 t.co] 37)).setCells w.heap.size 0 [.int .i64 kd,.slice (some ⟨w2.heap.size,0,none⟩) 1 1,.slice none 0 0]:=⟨_,rfl⟩;rw[← eX] at hX hrg hbX hXs ⊢;clear eX hn hR2 hth hS3 hS2 hS0
  go_wp2
  refine bodyPost_ret (rgn.zao rfl _ _ w.heap.size 0 [.int .i64 kd,.slice (some ⟨w2.heap.size,0,none⟩) 1 1,.slice none 0 0] _ rfl hrg Tryz.underlying29 rfl infoFl) rfl ?_
  refine⟨_,rfl,?_,bW0.trans hbX⟩
  unfold FltAt;rw[uh HK,uh HT,if_neg (uh HZ)];exact⟨w2.heap.size,by have:=b02.size;omega,hXs,rfl,(zG hX 0).trans rfl,(zG hX 1).trans rfl⟩
theorem infoTr:(Tryz.prog.info? 68).map (·.size)=some 2:=by kernel_rfl
def trC (r:Option (ByteArray × ByteArray)):List Value:=[.string (r.map (·.1) |>.getD em),.string (r.map (·.2) |>.getD em)]
def TypAt (T:Cu→Option (ByteArray × ByteArray) × Cu) (f:Nat) (c:Cu):Prop:=∀ (B p:Nat) (w:World),CurAt w B p c→Calls Tryz.prog f #[ptr B] w fun e w'=>e = .returned (.tuple #[.agg (trC (T c).1).toArray,.bool (T c).1.isSome])∧CurAt w' B p (T c).2∧Kp B w w'
theorem zdY (c:Cu):c.nmT=[.string (if c.isN then c.tok.tx else em),.int .i64 (if c.isN then c.tok.ln else 0),.int .i64 (if c.isN then c.tok.co else 0)]:=by
 unfold Cu.nmT
 split <;> simp[*]
theorem zqr {f:Nat} {c:Cu} (hP:c.isP bLb=false):trC (unm (typF f) c).1=[.string (if c.isN then c.tok.tx else em),.string em]∧(unm (typF f) c).1.isSome=c.isN∧(unm (typF f) c).2=c.name:=by
 unfold unm;rw[if_neg (by rw[hP];simp)]
 cases h:c.isN <;> simp[trC]
set_option maxRecDepth 4000 in
set_option maxHeartbeats 1000000 in
theorem zqs (f:Nat) (c:Cu) (hc:c.Ok) (hlen:c.ts.length≤1099511627777) (ih:∀ c':Cu,c'.Ok→c'.ts=c.ts→c'.ix=c.ix+1→TypAt (typF f) 137 c'):TypAt (unm (typF f)) 148 c:=by
 intro B p w h;have hi:=Hi (fun W (bb:Below w.heap.size w W)=>zax B p c bLb W (h.below bb))
 have hlt:=h.lt;have hplt:=h.plt;have hne:B ≠ w.heap.size:=by omega
 have hnp:p ≠ w.heap.size:=by omega
 have bA:=Hi (fun o=>show Below w.heap.size w (w.alloc o) from ba)
 have hZ:=Hi (fun o W (hk:Kp B (w.alloc o) W)=>show W.heap[w.heap.size]? = some o from (hk.block w.heap.size (by simp) (by omega)).trans (heap_alloc_new w o))
 cases hP:c.isP bLb
 ·have hn:=Hi (fun W (bb:Below w.heap.size w W)=>zbW B p c W (h.below bb))
  clear h;unfold ptr at hi hn ⊢;rw[hP] at hi;obtain⟨s1,s2,s3⟩:=zqr (f:=f) hP;rw[zdY] at hn;rw[s1,s2,s3];clear s1 s2 s3 ih hP;obtain⟨A,hA⟩:∃ A,A=if c.isN then c.tok.tx else em:=⟨_,rfl⟩
  obtain⟨X,hX⟩:∃ X,X=if c.isN then c.tok.ln else 0:=⟨_,rfl⟩
  obtain⟨Y,hY⟩:∃ Y,Y=if c.isN then c.tok.co else 0:=⟨_,rfl⟩
  rw[← hA,← hX,← hY] at hn;rw[← hA];clear hA hX hY;obtain⟨R,hR⟩:∃ R,R=c.isN:=⟨_,rfl⟩;rw[← hR] at hn ⊢;clear hR
  go_enter Tryz.func148,Tryz.ntmps148
  go_wp2_with fail
  refine ((uh hi) _ ((uh bA) _)).mono ?_
  rintro e w1 ⟨rfl,b1⟩
  go_wp2_with fail
  refine ((uh hn) _ (((uh bA) _).trans (b1.mono ((uh bA) _).size))).mono ?_
  rintro e w2 ⟨rfl,hc2,hk2⟩;have hk3:=(Kp.of b1).trans hk2;have hR2:=(uh hZ) _ w2 hk3;have hz2:w.heap.size<w2.heap.size:=by have:=hk3.size;simp at this;omega
  have HK:=Hi ((Kp.of ((uh bA) _)).trans hk3);have HC:=Hi hc2;have HT:=Hi (fun o=>dt.zab ((Below.heap_alloc w2 o w.heap.size hz2).trans hR2) (o:=0) (n:=2) (by decide))
  clear hk3 hR2 hk2 hc2 hn hi hZ bA
  go_wp2_with (first
   | refine wpList_store_mid (by rfl) 68 _ _ (by rfl) w.heap.size 0 #[.string A,.string ⟨#[]⟩] (by rfl) (by rfl) ((uh HT) _) infoTr (dt.zae (cs:=[.string A,.string ⟨#[]⟩]) (by rfl)) ?_)
  refine bodyPost_ret (rgn.zad rfl _ _ w.heap.size 0 [.string A,.string ⟨#[]⟩] _ rfl (World.rangeAt_setCells_same _ _ _ _ ((uh HT) _)) Tryz.underlying68 rfl infoTr) rfl ?_
  exact⟨rfl,((uh HC).below (ba)).out hne hnp _ _,((uh HK).trans (Kp.of (ba))).out (lr _) _ _⟩
 ·have ho:=Hi (fun W (bb:Below w.heap.size w W)=>zcv B p c bLb W (h.below bb))
  rw[hP] at hi;have hok:=zau hc bLb
  cases hO:c.opB bLb
  ·rw[hO] at ho
   have hs:=Hi (show (unm (typF f) c)=(none,c.opn bLb) from by unfold unm;rw[if_pos hP,if_neg (by rw[hO];simp)])
   rw[uh hs];clear h hP hO ih hok;unfold ptr at hi ho ⊢
   go_enter Tryz.func148,Tryz.ntmps148
   go_wp2_with fail
   refine ((uh hi) _ ((uh bA) _)).mono ?_
   rintro e w1 ⟨rfl,b1⟩
   go_wp2_with fail
   refine ((uh ho) _ (((uh bA) _).trans (b1.mono ((uh bA) _).size))).mono ?_
   rintro e w2 ⟨rfl,hc2,hk2⟩;have hk3:=(Kp.of b1).trans hk2;have hR2:=(uh hZ) _ w2 hk3;have HK:=Hi ((Kp.of ((uh bA) _)).trans hk3);have HC:=Hi hc2;have HT:=Hi (dt.zab hR2 (o:=0) (n:=2) (by decide))
   clear hk3 hR2 hk2 hc2 ho hi hZ bA
   go_wp2_with (first
    | refine wpList_store_mid (by rfl) 68 _ _ (by rfl) w.heap.size 0 #[.string ⟨#[]⟩,.string ⟨#[]⟩] (by rfl) (by rfl) (uh HT) infoTr (dt.zae (cs:=[.string ⟨#[]⟩,.string ⟨#[]⟩]) (by rfl)) ?_)
   refine bodyPost_ret (rgn.zad rfl _ _ w.heap.size 0 [.string ⟨#[]⟩,.string ⟨#[]⟩] _ rfl (World.rangeAt_setCells_same _ _ _ _ (uh HT)) Tryz.underlying68 rfl infoTr) rfl ?_
   exact⟨rfl,(uh HC).out hne hnp _ _,(uh HK).out (lr _) _ _⟩
  ·rw[hO] at ho
   have hT:=Hi (ih (c.opn bLb) hok.ok hok.ts (zaL hO) B p);have htg:=zcz f (c.opn bLb) hok.ok;have hcl:=Hi (fun W (hc:CurAt W B p (typF f (c.opn bLb)).2)=>zbF B p (typF f (c.opn bLb)).2 bRb W hc)
   obtain⟨U,hU⟩:∃ U,U=typF f (c.opn bLb):=⟨_,rfl⟩;have hs0:=Hi (show U.1=none→unm (typF f) c=(none,U.2) from fun e=>by unfold unm;rw[if_pos hP,if_pos (by rw[hO]),← hU,e])
   have hs1:=Hi (show ∀ it,U.1=some it→unm (typF f) c=if U.2.isP bRb then (some (it.1,it.2 ++ bRb),U.2.cls bRb) else (none,U.2.cls bRb) from fun it e=>by unfold unm;rw[if_pos hP,if_pos (by rw[hO]),← hU,e])
   rw[← hU] at hT htg hcl;clear h hP hO ih hU;obtain⟨r,C⟩:=U;have hixC:=htg.1.ok.lt;rw[htg.1.ts,hok.ts] at hixC;unfold ptr at hi ho hT hcl ⊢
   go_enter Tryz.func148,Tryz.ntmps148
   go_wp2_with fail
   refine ((uh hi) _ ((uh bA) _)).mono ?_
   rintro e w1 ⟨rfl,b1⟩
   go_wp2_with fail
   refine ((uh ho) _ (((uh bA) _).trans (b1.mono ((uh bA) _).size))).mono ?_
   rintro e w2 ⟨rfl,hc2,hk2⟩;have hk3:=(Kp.of b1).trans hk2
   go_wp2_with fail
   refine ((uh hT) _ hc2).mono ?_
   rintro e w4 ⟨rfl,hc4,hk4⟩;have hk5:=hk3.trans hk4;have hR4:=(uh hZ) _ w4 hk5;have hz4:w.heap.size<w4.heap.size:=by have:=hk5.size;simp at this;omega
   have HK:=Hi ((Kp.of ((uh bA) _)).trans hk5);have HC:=Hi hc4;have HR:=Hi hR4;clear hk3 hk2 hc2 hk4 hk5 hc4 hR4 ho hi hT hZ bA b1;have HT:=Hi (fun o=>dt.zab ((Below.heap_alloc w4 o w.heap.size hz4).trans (uh HR)) (o:=0) (n:=2) (by decide))
   cases r with
   | none =>
    have hs2:=Hi ((uh hs0) rfl);unfold trC;clear hs0 hs1 hcl
    go_wp2_with (first
     | refine wpList_store_mid (by rfl) 68 _ _ (by rfl) w.heap.size 0 #[.string ⟨#[]⟩,.string ⟨#[]⟩] (by rfl) (by rfl) ((uh HT) _) infoTr (dt.zae (cs:=[.string ⟨#[]⟩,.string ⟨#[]⟩]) (by rfl)) ?_)
    refine bodyPost_ret (rgn.zad rfl _ _ w.heap.size 0 [.string ⟨#[]⟩,.string ⟨#[]⟩] _ rfl (World.rangeAt_setCells_same _ _ _ _ ((uh HT) _)) Tryz.underlying68 rfl infoTr) rfl ?_
    rw[uh hs2];exact⟨rfl,((uh HC).below (ba)).out hne hnp _ _,((uh HK).trans (Kp.of (ba))).out (lr _) _ _⟩
   | some it =>
    have hitz:it.2.size≤1099511627777:=by have:=htg.2 it rfl;omega
    have hs2:=Hi ((uh hs1) it rfl);clear hs0 hs1 htg;obtain⟨nm,wp⟩:=it
    cases hQ:C.isP bRb
    ·rw[hQ] at hcl hs2
     unfold trC
     go_wp2_with fail
     refine ((uh hcl) _ ((uh HC).below (ba))).mono ?_
     rintro e w5 ⟨rfl,hc5,hk5⟩;have hR5:=(hk5.block w.heap.size (by simp;omega) (by omega)).trans ((Below.heap_alloc w4 _ w.heap.size hz4).trans (uh HR))
     have HT5:=Hi (dt.zab hR5 (o:=0) (n:=2) (by decide))
     have HC5:=Hi hc5;have HK5:=Hi ((uh HK).trans ((Kp.of (ba)).trans hk5));clear hcl hk5 hc5 hR5 HC HK HT HR
     go_wp2_with (first
      | refine wpList_store_mid (by rfl) 68 _ _ (by rfl) w.heap.size 0 #[.string ⟨#[]⟩,.string ⟨#[]⟩] (by rfl) (by rfl) (uh HT5) infoTr (dt.zae (cs:=[.string ⟨#[]⟩,.string ⟨#[]⟩]) (by rfl)) ?_)
     refine bodyPost_ret (rgn.zad rfl _ _ w.heap.size 0 [.string ⟨#[]⟩,.string ⟨#[]⟩] _ rfl (World.rangeAt_setCells_same _ _ _ _ (uh HT5)) Tryz.underlying68 rfl infoTr) rfl ?_
     rw[uh hs2];exact⟨rfl,(uh HC5).out hne hnp _ _,(uh HK5).out (lr _) _ _⟩
    ·rw[hQ] at hcl hs2
     unfold trC
     go_wp2_with fail
     refine ((uh hcl) _ ((uh HC).below (ba))).mono ?_
     rintro e w5 ⟨rfl,hc5,hk5⟩;have hR5:=(hk5.block w.heap.size (by simp;omega) (by omega)).trans ((Below.heap_alloc w4 _ w.heap.size hz4).trans (uh HR))
     have hI5:=(hk5.block w4.heap.size (by simp) (by omega)).trans (heap_alloc_new w4 _)
     have i0:w5.cell? ⟨w4.heap.size,0,none⟩=some (.string nm):=(zG hI5 0).trans rfl;have i1:w5.cell? ⟨w4.heap.size,1,none⟩=some (.string wp):=(zG hI5 1).trans rfl;have HT5:=Hi (dt.zab hR5 (o:=0) (n:=2) (by decide))
     have HC5:=Hi hc5;have HK5:=Hi ((uh HK).trans ((Kp.of (ba)).trans hk5));clear hcl hk5 hc5 hR5 hI5 HC HK HT HR
     go_wp2_with (first
      | refine wpList_store_mid (by rfl) 68 _ _ (by rfl) w.heap.size 0 #[.string nm,.string (wp ++ bRb)] (by rfl) (by rfl) (uh HT5) infoTr (dt.zae (cs:=[.string nm,.string (wp ++ bRb)]) (by rfl)) ?_)
     refine bodyPost_ret (rgn.zad rfl _ _ w.heap.size 0 [.string nm,.string (wp ++ bRb)] _ rfl (World.rangeAt_setCells_same _ _ _ _ (uh HT5)) Tryz.underlying68 rfl infoTr) rfl ?_
     rw[uh hs2];exact⟨rfl,(uh HC5).out hne hnp _ _,(uh HK5).out (lr _) _ _⟩
theorem zl3 (f:Nat) (c:Cu) (h:c.Ok):Stp c (unm (typF f) c).2∧∀ r,(unm (typF f) c).1=some r→r.2.size<(unm (typF f) c).2.ix - c.ix+1:=by
 unfold unm
 split
 ·have ho:=zau h bLb
  split
  ·rename_i hb
   have hi:=zaL hb;have h2:=zcz f _ ho.ok
   cases hq:(typF f (c.opn bLb)).1 with
   | none=>exact⟨ho.trans h2.1,fun r hr=>by cases hr⟩
   | some it =>
    have h3:=zbv h2.1.ok bRb;have h4:=h2.2 it hq;have h5:=h2.1.ix;have h6:=h3.ix;dsimp only
    split
    ·refine⟨(ho.trans h2.1).trans h3,fun r hr=>?_⟩
     obtain rfl:=Option.some.inj hr
     show (it.2 ++ bRb).size<_
     rw[zfT]
     show it.2.size+1<((typF f (c.opn bLb)).2.cls bRb).ix - c.ix+1
     omega
    ·exact⟨(ho.trans h2.1).trans h3,fun r hr=>by cases hr⟩
  ·exact⟨ho,fun r hr=>by cases hr⟩
 ·have hn:=zar h
  split
  ·exact⟨hn,fun r hr=>by obtain rfl:=Option.some.inj hr;show (0:Nat)<_;omega⟩
  ·exact⟨hn,fun r hr=>by cases hr⟩
set_option maxRecDepth 4000 in
set_option maxHeartbeats 1000000 in
theorem zqn (f:Nat) (c:Cu) (hc:c.Ok) (hlen:c.ts.length≤1099511627777) (hu:TypAt (unm (typF f)) 148 c):TypAt (typ (unm (typF f))) 137 c:=by
 intro B p w h;have hlt:=h.lt;have hplt:=h.plt;have hne:B ≠ w.heap.size:=by omega
 have hnp:p ≠ w.heap.size:=by omega
 have bA:=Hi (fun o=>show Below w.heap.size w (w.alloc o) from ba)
 have hZ:=Hi (fun o W (hk:Kp B (w.alloc o) W)=>show W.heap[w.heap.size]? = some o from (hk.block w.heap.size (by simp) (by omega)).trans (heap_alloc_new w o))
 have hU:=Hi (fun W (bb:Below w.heap.size w W)=>hu B p W (h.below bb))
 have hug:=zl3 f c hc;have hpu:=Hi (fun W (hc:CurAt W B p (unm (typF f) c).2)=>zif B p (unm (typF f) c).2 bBang W hc)
 obtain⟨U,eU⟩:∃ U,U=unm (typF f) c:=⟨_,rfl⟩;have hs0:=Hi (show U.1=none→typ (unm (typF f)) c=(none,U.2) from fun e=>by unfold typ;rw[← eU,e])
 have hs1:=Hi (show ∀ r,U.1=some r→typ (unm (typF f)) c=if U.2.isP bBang then (some (r.1,r.2 ++ bBang),U.2.punct bBang) else (some r,U.2.punct bBang) from fun r e=>by unfold typ;rw[← eU,e])
 rw[← eU] at hU hpu hug;clear h eU hu;obtain⟨r,C⟩:=U;have hixC:=hug.1.ok.lt;rw[hug.1.ts] at hixC;unfold ptr at hU hpu ⊢
 go_enter Tryz.func137,Tryz.ntmps137
 go_wp2_with fail
 refine ((uh hU) _ ((uh bA) _)).mono ?_
 rintro e w4 ⟨rfl,hc4,hk4⟩;have hR4:=(uh hZ) _ w4 hk4;have hz4:w.heap.size<w4.heap.size:=by have:=hk4.size;simp at this;omega
 have HK:=Hi ((Kp.of ((uh bA) _)).trans hk4);have HC:=Hi hc4;have HR:=Hi hR4;clear hk4 hc4 hR4 hU hZ bA;have HT:=Hi (fun o=>dt.zab ((Below.heap_alloc w4 o w.heap.size hz4).trans (uh HR)) (o:=0) (n:=2) (by decide))
 cases r with
 | none =>
  have hs2:=Hi ((uh hs0) rfl);unfold trC;clear hs0 hs1 hpu
  go_wp2_with (first
   | refine wpList_store_mid (by rfl) 68 _ _ (by rfl) w.heap.size 0 #[.string em,.string em] (by rfl) (by rfl) ((uh HT) _) infoTr (dt.zae (cs:=[.string em,.string em]) (by rfl)) ?_)
  refine bodyPost_ret (rgn.zad rfl _ _ w.heap.size 0 [.string em,.string em] _ rfl (World.rangeAt_setCells_same _ _ _ _ ((uh HT) _)) Tryz.underlying68 rfl infoTr) rfl ?_
  rw[uh hs2];exact⟨rfl,((uh HC).below (ba)).out hne hnp _ _,((uh HK).trans (Kp.of (ba))).out (lr _) _ _⟩
 | some it =>
  have hitz:it.2.size≤1099511627777:=by have:=hug.2 it rfl;omega
  have hs2:=Hi ((uh hs1) it rfl);clear hs0 hs1 hug;obtain⟨nm,wp⟩:=it
  cases hQ:C.isP bBang
  ·rw[hQ] at hpu hs2
   unfold trC
   go_wp2_with fail
   refine ((uh hpu) _ ((uh HC).below (ba))).mono ?_
   rintro e w5 ⟨rfl,hc5,hk5⟩;have hR5:=(hk5.block w.heap.size (by simp;omega) (by omega)).trans ((Below.heap_alloc w4 _ w.heap.size hz4).trans (uh HR))
   have hI5:=(hk5.block w4.heap.size (by simp) (by omega)).trans (heap_alloc_new w4 _)
   have i0:w5.cell? ⟨w4.heap.size,0,none⟩=some (.string nm):=(zG hI5 0).trans rfl;have i1:w5.cell? ⟨w4.heap.size,1,none⟩=some (.string wp):=(zG hI5 1).trans rfl;have HT5:=Hi (dt.zab hR5 (o:=0) (n:=2) (by decide))
   have HC5:=Hi hc5;have HK5:=Hi ((uh HK).trans ((Kp.of (ba)).trans hk5));clear hpu hk5 hc5 hR5 hI5 HC HK HT HR
   go_wp2_with (first
    | refine wpList_store_mid (by rfl) 68 _ _ (by rfl) w.heap.size 0 #[.string nm,.string wp] (by rfl) (by rfl) (uh HT5) infoTr (dt.zae (cs:=[.string nm,.string wp]) (by rfl)) ?_)
   refine bodyPost_ret (rgn.zad rfl _ _ w.heap.size 0 [.string nm,.string wp] _ rfl (World.rangeAt_setCells_same _ _ _ _ (uh HT5)) Tryz.underlying68 rfl infoTr) rfl ?_
   rw[uh hs2];exact⟨rfl,(uh HC5).out hne hnp _ _,(uh HK5).out (lr _) _ _⟩
  ·rw[hQ] at hpu hs2
   unfold trC
   go_wp2_with fail
   refine ((uh hpu) _ ((uh HC).below (ba))).mono ?_
   rintro e w5 ⟨rfl,hc5,hk5⟩;have hR5:=(hk5.block w.heap.size (by simp;omega) (by omega)).trans ((Below.heap_alloc w4 _ w.heap.size hz4).trans (uh HR))
   have hI5:=(hk5.block w4.heap.size (by simp) (by omega)).trans (heap_alloc_new w4 _)
   have i0:w5.cell? ⟨w4.heap.size,0,none⟩=some (.string nm):=(zG hI5 0).trans rfl;have i1:w5.cell? ⟨w4.heap.size,1,none⟩=some (.string wp):=(zG hI5 1).trans rfl;have f1:w5.frozen? ⟨w4.heap.size,1,none⟩=false:=dt.zag hI5 1;have hnw:w.heap.size ≠ w4.heap.size:=by omega
   have hX:Hid (∀ v,(w5.setCell ⟨w4.heap.size,1,none⟩ v).there w.heap.size 0 2):=Hi (fun v=>dt.zab ((Below.heap_setCell w5 ⟨w4.heap.size,1,none⟩ v w.heap.size hnw).trans hR5) (o:=0) (n:=2) (by decide))
   have j0:∀ v,(w5.setCell ⟨w4.heap.size,1,none⟩ v).cell? ⟨w4.heap.size,0,none⟩=some (.string nm):=fun v=>(zG (dt.zac hI5 1 v) 0).trans rfl
   have HC5:=Hi hc5;have HK5:=Hi ((uh HK).trans ((Kp.of (ba)).trans hk5));clear hpu hk5 hc5 hR5 hI5 HC HK HT HR
   go_wp2_with (first
    | refine wpList_store_mid (by rfl) 68 _ _ (by rfl) w.heap.size 0 #[.string nm,.string (wp ++ bBang)] (by rfl) (by rfl) ((uh hX) _) infoTr (dt.zae (cs:=[.string nm,.string (wp ++ bBang)]) (by rfl)) ?_)
   refine bodyPost_ret (rgn.zad rfl _ _ w.heap.size 0 [.string nm,.string (wp ++ bBang)] _ rfl (World.rangeAt_setCells_same _ _ _ _ ((uh hX) _)) Tryz.underlying68 rfl infoTr) rfl ?_
   rw[uh hs2];exact⟨rfl,((uh HC5).out (b:=w4.heap.size) (by omega) (by omega) 1 [.string (wp ++ bBang)]).out hne hnp _ _,((uh HK5).out (b:=w4.heap.size) (by omega) 1 [.string (wp ++ bBang)]).out (lr _) _ _⟩
theorem zkO:∀ (f:Nat) (c:Cu),c.Ok→c.ts.length≤1099511627777→c.ts.length≤f+c.ix→TypAt (typF f) 137 c
 | 0,c,hc,hl,hf=>by have:=hc.lt;omega
 | f+1,c,hc,hl,hf=>zqn f c hc hl (zqs f c hc hl (fun c' h1 h2 h3=>zkO f c' h1 (by rw[h2];exact hl) (by rw[h2,h3];omega)))
open mem (Row)
def mostS (d:Int):Nat:=(max 0 (min d 200)).toNat
open dt (Dt Kp RowAt Ow)
theorem infoLt:(Tryz.prog.info? 99).map (·.size)=some 7:=by kernel_rfl
def leafC (k:Int) (tx:ByteArray) (bl:Bool) (ln co:Int):List Value:=[.int .i64 k,.string tx,.bool bl,.slice none 0 0,.slice none 0 0,.int .i64 ln,.int .i64 co]
theorem za8 (w:World) (k:Int) (tx:ByteArray) (bl:Bool) (ln co:Int):Ow w (litD k tx bl .nil .nil ln co) (leafC k tx bl ln co) []:=by
 unfold litD leafC;simp only[Ow];refine⟨_,rfl,rfl,_,rfl,rfl,_,rfl,rfl,none,0,0,_,[],[],rfl,lr _,Nat.zero_le _,fun _=>rfl,.inl ⟨rfl,by simp⟩,⟨none,0,0,_,[],[],rfl,lr _,Nat.zero_le _,fun _=>rfl,.inl ⟨rfl,by simp⟩,⟨_,rfl,rfl,_,rfl,rfl,rfl,rfl⟩,rfl⟩,rfl⟩
def zeroD:Dt:=litD 0 em false .nil .nil 0 0
set_option maxRecDepth 4000 in
theorem zjV (B p:Nat) (c:Cu) (k:Int) (tx:ByteArray) (w:World) (h:CurAt w B p c) (hm:c.ix+1<c.ts.length):Calls Tryz.prog 149 #[ptr B,.int .i64 k,.string tx] w fun e w' =>
  e = .returned (.agg (leafC k tx false c.tok.ln c.tok.co).toArray)∧CurAt w' B p c.take∧Kp B w w':=by
 have hr:=Hi (fun W (bb:Below w.heap.size w W)=>zdD B p c W (h.below bb) hm)
 have hlt:=h.lt;have hplt:=h.plt;have hne:B ≠ w.heap.size:=by omega
 have hnp:p ≠ w.heap.size:=by omega
 have bA:=Hi (fun o=>show Below w.heap.size w (w.alloc o) from ba)
 have hZ:=Hi (fun o W (hk:Kp B (w.alloc o) W)=>show W.heap[w.heap.size]? = some o from (hk.block w.heap.size (by simp) (by omega)).trans (heap_alloc_new w o))
 have hf2:=zdv c.tok;obtain⟨t,ht⟩:∃ t,t=c.tok:=⟨_,rfl⟩;rw[← ht] at hr hf2 ⊢;clear ht h;unfold Tk.cells at hr;unfold ptr at hr ⊢
 go_enter Tryz.func149,Tryz.ntmps149
 go_wp2_with fail
 refine ((uh hr) _ ((uh bA) _)).mono ?_
 rintro e w1 ⟨rfl,hc,hk⟩;have hth:w1.there w.heap.size 0 7:=dt.zab ((uh hZ) _ w1 hk) (by decide)
 have HK:=Hi ((Kp.of ((uh bA) _)).trans hk);have HC:=Hi hc;clear hr hk hc hZ bA
 go_wp2_with (first
  | refine wpList_store_mid (by rfl) 99 _ _ (by rfl) w.heap.size 0 #[.int .i64 k,.string tx,.bool false,.slice none 0 0,.slice none 0 0,.int .i64 t.ln,.int .i64 t.co] (by rfl) (by rfl) hth infoLt (dt.zae (cs:=[.int .i64 k,.string tx,.bool false,.slice none 0 0,.slice none 0 0,.int .i64 t.ln,.int .i64 t.co]) (by rfl)) ?_)
 refine bodyPost_ret (rgn.zao rfl _ _ w.heap.size 0 [.int .i64 k,.string tx,.bool false,.slice none 0 0,.slice none 0 0,.int .i64 t.ln,.int .i64 t.co] _ rfl (World.rangeAt_setCells_same _ _ _ _ hth) Tryz.underlying99 rfl infoLt) rfl ?_
 exact⟨rfl,(uh HC).out hne hnp _ _,(uh HK).out (lr _) _ _⟩
def wordC (t:Tk) (tx:ByteArray):List Value:=if tx=bTrue∨tx=bFalse then leafC 5 tx false t.ln t.co else if tx=bNull then leafC 6 em false t.ln t.co else leafC 7 tx false t.ln t.co
theorem zcW {a:ByteArray} {l:List UInt8} (h:(⟨l.toArray⟩:ByteArray).toList=l):(a.toList == l)=decide (a=⟨l.toArray⟩):=by
 rw[← zhp,h]
theorem zoE {a b:ByteArray} (h:¬ a=b):(a.toList == b.toList)=false:=by rw[zhp];exact decide_eq_false h
set_option maxRecDepth 4000 in
theorem zoR (B p:Nat) (c:Cu) (tx:ByteArray) (w:World) (h:CurAt w B p c) (hm:c.ix+1<c.ts.length):Calls Tryz.prog 150 #[ptr B,.string tx] w fun e w' =>
  e = .returned (.agg (wordC c.tok tx).toArray)∧CurAt w' B p c.take∧Kp B w w':=by
 have hr:=Hi (fun k s W (bb:Below w.heap.size w W)=>zjV B p c k s W (h.below bb) hm)
 have hlt:=h.lt;have hplt:=h.plt;have hne:B ≠ w.heap.size:=by omega
 have hnp:p ≠ w.heap.size:=by omega
 have bA:=Hi (fun o=>show Below w.heap.size w (w.alloc o) from ba)
 have hZ:=Hi (fun o W (hk:Kp B (w.alloc o) W)=>show W.heap[w.heap.size]? = some o from (hk.block w.heap.size (by simp) (by omega)).trans (heap_alloc_new w o))
 obtain⟨t,ht⟩:∃ t,t=c.tok:=⟨_,rfl⟩;rw[← ht] at hr ⊢;clear ht h;unfold leafC at hr;unfold ptr at hr ⊢
 by_cases h1:tx=bTrue
 ·have hW:=Hi (show wordC t tx=leafC 5 tx false t.ln t.co from by unfold wordC;rw[if_pos (.inl h1)])
  have e1:(tx.toList == [116,114,117,101])=true:=by rw[zcW (by rw[ByteArray.toList_eq])];exact decide_eq_true h1
  clear h1
  go_enter Tryz.func150,Tryz.ntmps150
  go_wp2_with fail
  refine ((uh hr) 5 tx _ ((uh bA) _)).mono ?_
  rintro e w1 ⟨rfl,hc,hk⟩;have hth:w1.there w.heap.size 0 7:=dt.zab ((uh hZ) _ w1 hk) (by decide)
  have HK:=Hi ((Kp.of ((uh bA) _)).trans hk);have HC:=Hi hc;clear hr hk hc hZ bA
  go_wp2_with (first
   | refine wpList_store_mid (by rfl) 99 _ _ (by rfl) w.heap.size 0 #[.int .i64 5,.string tx,.bool false,.slice none 0 0,.slice none 0 0,.int .i64 t.ln,.int .i64 t.co] (by rfl) (by rfl) hth infoLt (dt.zae (cs:=[.int .i64 5,.string tx,.bool false,.slice none 0 0,.slice none 0 0,.int .i64 t.ln,.int .i64 t.co]) (by rfl)) ?_)
  refine bodyPost_ret (rgn.zao rfl _ _ w.heap.size 0 [.int .i64 5,.string tx,.bool false,.slice none 0 0,.slice none 0 0,.int .i64 t.ln,.int .i64 t.co] _ rfl (World.rangeAt_setCells_same _ _ _ _ hth) Tryz.underlying99 rfl infoLt) rfl ?_
  exact⟨by rw[uh hW];rfl,(uh HC).out hne hnp _ _,(uh HK).out (lr _) _ _⟩
 by_cases h2:tx=bFalse
 ·have hW:=Hi (show wordC t tx=leafC 5 tx false t.ln t.co from by unfold wordC;rw[if_pos (.inr h2)])
  have e1:(tx.toList == [116,114,117,101])=false:=by rw[zcW (by rw[ByteArray.toList_eq])];exact decide_eq_false h1
  have e2:(tx.toList == [102,97,108,115,101])=true:=by rw[zcW (by rw[ByteArray.toList_eq])];exact decide_eq_true h2
  clear h1 h2
  go_enter Tryz.func150,Tryz.ntmps150
  go_wp2_with fail
  refine ((uh hr) 5 tx _ ((uh bA) _)).mono ?_
  rintro e w1 ⟨rfl,hc,hk⟩;have hth:w1.there w.heap.size 0 7:=dt.zab ((uh hZ) _ w1 hk) (by decide)
  have HK:=Hi ((Kp.of ((uh bA) _)).trans hk);have HC:=Hi hc;clear hr hk hc hZ bA
  go_wp2_with (first
   | refine wpList_store_mid (by rfl) 99 _ _ (by rfl) w.heap.size 0 #[.int .i64 5,.string tx,.bool false,.slice none 0 0,.slice none 0 0,.int .i64 t.ln,.int .i64 t.co] (by rfl) (by rfl) hth infoLt (dt.zae (cs:=[.int .i64 5,.string tx,.bool false,.slice none 0 0,.slice none 0 0,.int .i64 t.ln,.int .i64 t.co]) (by rfl)) ?_)
  refine bodyPost_ret (rgn.zao rfl _ _ w.heap.size 0 [.int .i64 5,.string tx,.bool false,.slice none 0 0,.slice none 0 0,.int .i64 t.ln,.int .i64 t.co] _ rfl (World.rangeAt_setCells_same _ _ _ _ hth) Tryz.underlying99 rfl infoLt) rfl ?_
  exact⟨by rw[uh hW];rfl,(uh HC).out hne hnp _ _,(uh HK).out (lr _) _ _⟩
 have e1:(tx.toList == [116,114,117,101])=false:=by rw[zcW (by rw[ByteArray.toList_eq])];exact decide_eq_false h1
 have e2:(tx.toList == [102,97,108,115,101])=false:=by rw[zcW (by rw[ByteArray.toList_eq])];exact decide_eq_false h2
 by_cases h3:tx=bNull
 ·have hW:=Hi (show wordC t tx=leafC 6 em false t.ln t.co from by unfold wordC;rw[if_neg (fun e=>e.elim h1 h2),if_pos h3])
  have e3:(tx.toList == [110,117,108,108])=true:=by rw[zcW (by rw[ByteArray.toList_eq])];exact decide_eq_true h3
  clear h1 h2 h3
  go_enter Tryz.func150,Tryz.ntmps150
  go_wp2_with fail
  refine ((uh hr) 6 ⟨#[]⟩ _ ((uh bA) _)).mono ?_
  rintro e w1 ⟨rfl,hc,hk⟩;have hth:w1.there w.heap.size 0 7:=dt.zab ((uh hZ) _ w1 hk) (by decide)
  have HK:=Hi ((Kp.of ((uh bA) _)).trans hk);have HC:=Hi hc;clear hr hk hc hZ bA
  go_wp2_with (first
   | refine wpList_store_mid (by rfl) 99 _ _ (by rfl) w.heap.size 0 #[.int .i64 6,.string ⟨#[]⟩,.bool false,.slice none 0 0,.slice none 0 0,.int .i64 t.ln,.int .i64 t.co] (by rfl) (by rfl) hth infoLt (dt.zae (cs:=[.int .i64 6,.string ⟨#[]⟩,.bool false,.slice none 0 0,.slice none 0 0,.int .i64 t.ln,.int .i64 t.co]) (by rfl)) ?_)
  refine bodyPost_ret (rgn.zao rfl _ _ w.heap.size 0 [.int .i64 6,.string ⟨#[]⟩,.bool false,.slice none 0 0,.slice none 0 0,.int .i64 t.ln,.int .i64 t.co] _ rfl (World.rangeAt_setCells_same _ _ _ _ hth) Tryz.underlying99 rfl infoLt) rfl ?_
  exact⟨by rw[uh hW];rfl,(uh HC).out hne hnp _ _,(uh HK).out (lr _) _ _⟩
 ·have hW:=Hi (show wordC t tx=leafC 7 tx false t.ln t.co from by unfold wordC;rw[if_neg (fun e=>e.elim h1 h2),if_neg h3])
  have e3:(tx.toList == [110,117,108,108])=false:=by rw[zcW (by rw[ByteArray.toList_eq])];exact decide_eq_false h3
  clear h1 h2 h3
  go_enter Tryz.func150,Tryz.ntmps150
  go_wp2_with fail
  refine ((uh hr) 7 tx _ ((uh bA) _)).mono ?_
  rintro e w1 ⟨rfl,hc,hk⟩;have hth:w1.there w.heap.size 0 7:=dt.zab ((uh hZ) _ w1 hk) (by decide)
  have HK:=Hi ((Kp.of ((uh bA) _)).trans hk);have HC:=Hi hc;clear hr hk hc hZ bA
  go_wp2_with (first
   | refine wpList_store_mid (by rfl) 99 _ _ (by rfl) w.heap.size 0 #[.int .i64 7,.string tx,.bool false,.slice none 0 0,.slice none 0 0,.int .i64 t.ln,.int .i64 t.co] (by rfl) (by rfl) hth infoLt (dt.zae (cs:=[.int .i64 7,.string tx,.bool false,.slice none 0 0,.slice none 0 0,.int .i64 t.ln,.int .i64 t.co]) (by rfl)) ?_)
  refine bodyPost_ret (rgn.zao rfl _ _ w.heap.size 0 [.int .i64 7,.string tx,.bool false,.slice none 0 0,.slice none 0 0,.int .i64 t.ln,.int .i64 t.co] _ rfl (World.rangeAt_setCells_same _ _ _ _ hth) Tryz.underlying99 rfl infoLt) rfl ?_
  exact⟨by rw[uh hW];rfl,(uh HC).out hne hnp _ _,(uh HK).out (lr _) _ _⟩
def varC (c:Cu):List Value:=if c.take.isN then leafC 1 c.take.tok.tx false c.tok.ln c.tok.co else leafC 0 em false 0 0
set_option maxRecDepth 4000 in
set_option maxHeartbeats 1000000 in
theorem zqt (B p:Nat) (c:Cu) (w:World) (h:CurAt w B p c) (hm:c.ix+1<c.ts.length):Calls Tryz.prog 151 #[ptr B] w fun e w' =>
  e = .returned (.tuple #[.agg (varC c).toArray,.bool c.take.isN])∧CurAt w' B p c.take.name∧Kp B w w':=by
 have hr:=Hi (fun W (bb:Below w.heap.size w W)=>zdD B p c W (h.below bb) hm)
 have hn:=Hi (fun W (hc:CurAt W B p c.take)=>zbW B p c.take W hc)
 have hlt:=h.lt;have hplt:=h.plt;have hne:B ≠ w.heap.size:=by omega
 have hnp:p ≠ w.heap.size:=by omega
 have bA:=Hi (fun o=>show Below w.heap.size w (w.alloc o) from ba)
 have hZ:=Hi (fun o W (hk:Kp B (w.alloc o) W)=>show W.heap[w.heap.size]? = some o from (hk.block w.heap.size (by simp) (by omega)).trans (heap_alloc_new w o))
 have hV:=Hi (show varC c=if c.take.isN then leafC 1 c.take.tok.tx false c.tok.ln c.tok.co else leafC 0 em false 0 0 from rfl)
 rw[zdY] at hn;obtain⟨t,ht⟩:∃ t,t=c.tok:=⟨_,rfl⟩;rw[← ht] at hr hV;obtain⟨V,hVe⟩:∃ V,V=varC c:=⟨_,rfl⟩;rw[← hVe] at hV ⊢;clear ht h hVe;unfold Tk.cells at hr;unfold ptr at hr hn ⊢;obtain⟨A,hA⟩:∃ A,A=if c.take.isN then c.take.tok.tx else em:=⟨_,rfl⟩
 obtain⟨X,hX⟩:∃ X,X=if c.take.isN then c.take.tok.ln else 0:=⟨_,rfl⟩
 obtain⟨Y,hY⟩:∃ Y,Y=if c.take.isN then c.take.tok.co else 0:=⟨_,rfl⟩
 rw[← hA,← hX,← hY] at hn;have HA:=Hi hA;clear hA hX hY;obtain⟨R,hR⟩:∃ R,R=c.take.isN:=⟨_,rfl⟩;rw[← hR] at hn hV HA ⊢;clear hR
 cases R
 ·have hV2:=Hi (show V=leafC 0 em false 0 0 from uh hV)
  go_enter Tryz.func151,Tryz.ntmps151
  go_wp2_with fail
  refine ((uh hr) _ ((uh bA) _)).mono ?_
  rintro e w1 ⟨rfl,hc1,hk1⟩;have hz1:w.heap.size<w1.heap.size:=by have:=hk1.size;simp at this;omega
  go_wp2_with fail
  refine ((uh hn) _ (hc1.below (ba))).mono ?_
  rintro e w2 ⟨rfl,hc2,hk2⟩;have hk12:=hk1.trans ((Kp.of (ba)).trans hk2);have hR2:=(uh hZ) _ w2 hk12;have hz2:w.heap.size<w2.heap.size:=by have:=hk2.size;simp at this;omega
  have HT:=Hi (fun o=>dt.zab ((Below.heap_alloc w2 o w.heap.size hz2).trans hR2) (o:=0) (n:=7) (by decide))
  have HK:=Hi ((Kp.of ((uh bA) _)).trans hk12);have HC:=Hi hc2;clear hr hn hk1 hk2 hk12 hc1 hc2 hZ bA hR2
  go_wp2_with (first
   | refine wpList_store_mid (by rfl) 99 _ _ (by rfl) w.heap.size 0 #[.int .i64 0,.string ⟨#[]⟩,.bool false,.slice none 0 0,.slice none 0 0,.int .i64 0,.int .i64 0] (by rfl) (by rfl) ((uh HT) _) infoLt (dt.zae (cs:=[.int .i64 0,.string ⟨#[]⟩,.bool false,.slice none 0 0,.slice none 0 0,.int .i64 0,.int .i64 0]) (by rfl)) ?_)
  refine bodyPost_ret (rgn.zad rfl _ _ w.heap.size 0 [.int .i64 0,.string ⟨#[]⟩,.bool false,.slice none 0 0,.slice none 0 0,.int .i64 0,.int .i64 0] _ rfl (World.rangeAt_setCells_same _ _ _ _ ((uh HT) _)) Tryz.underlying99 rfl infoLt) rfl ?_
  exact⟨by rw[uh hV2];rfl,((uh HC).below (ba)).out hne hnp _ _,((uh HK).trans (Kp.of (ba))).out (lr _) _ _⟩
 ·have hV2:=Hi (show V=leafC 1 A false t.ln t.co from by rw[uh hV,uh HA];rfl)
  go_enter Tryz.func151,Tryz.ntmps151
  go_wp2_with fail
  refine ((uh hr) _ ((uh bA) _)).mono ?_
  rintro e w1 ⟨rfl,hc1,hk1⟩;have hz1:w.heap.size<w1.heap.size:=by have:=hk1.size;simp at this;omega
  go_wp2_with fail
  refine ((uh hn) _ (hc1.below (ba))).mono ?_
  rintro e w2 ⟨rfl,hc2,hk2⟩;have hD2:=(hk2.block w1.heap.size (by simp) (by have:=hc1.lt;omega)).trans (heap_alloc_new w1 _)
  have hk12:=hk1.trans ((Kp.of (ba)).trans hk2);have hR2:=(uh hZ) _ w2 hk12;have hz2:w.heap.size<w2.heap.size:=by have:=hk2.size;simp at this;omega
  have hz3:w1.heap.size<w2.heap.size:=by have:=hk2.size;simp at this;omega
  have d1:∀ o,(w2.alloc o).cell? ⟨w1.heap.size,1,none⟩=some (.int .i64 t.ln):=fun o=>(zG ((Below.heap_alloc w2 o w1.heap.size hz3).trans hD2) 1).trans rfl
  have d2:∀ o,(w2.alloc o).cell? ⟨w1.heap.size,2,none⟩=some (.int .i64 t.co):=fun o=>(zG ((Below.heap_alloc w2 o w1.heap.size hz3).trans hD2) 2).trans rfl
  have HT:=Hi (fun o=>dt.zab ((Below.heap_alloc w2 o w.heap.size hz2).trans hR2) (o:=0) (n:=7) (by decide))
  have HK:=Hi ((Kp.of ((uh bA) _)).trans hk12);have HC:=Hi hc2;clear hr hn hk1 hk2 hk12 hc1 hc2 hZ bA hR2 hD2
  go_wp2_with (first
   | refine wpList_store_mid (by rfl) 99 _ _ (by rfl) w.heap.size 0 #[.int .i64 1,.string A,.bool false,.slice none 0 0,.slice none 0 0,.int .i64 t.ln,.int .i64 t.co] (by rfl) (by rfl) ((uh HT) _) infoLt (dt.zae (cs:=[.int .i64 1,.string A,.bool false,.slice none 0 0,.slice none 0 0,.int .i64 t.ln,.int .i64 t.co]) (by rfl)) ?_)
  refine bodyPost_ret (rgn.zad rfl _ _ w.heap.size 0 [.int .i64 1,.string A,.bool false,.slice none 0 0,.slice none 0 0,.int .i64 t.ln,.int .i64 t.co] _ rfl (World.rangeAt_setCells_same _ _ _ _ ((uh HT) _)) Tryz.underlying99 rfl infoLt) rfl ?_
  exact⟨by rw[uh hV2];rfl,((uh HC).below (ba)).out hne hnp _ _,((uh HK).trans (Kp.of (ba))).out (lr _) _ _⟩
theorem infoAr:(Tryz.prog.info? 160).map (·.size)=some 10:=by kernel_rfl
theorem infoLf:(Tryz.prog.info? 159).map (·.size)=some 10:=by kernel_rfl
def LShape (cs:List Value):Prop:=∃ (k:Int) (tx:ByteArray) (bl:Bool) (ai:Option Addr) (ni ci:Nat) (af:Option Addr) (nf cf:Nat) (ln co:Int),cs=[.int .i64 k,.string tx,.bool bl,.slice ai ni ci,.slice af nf cf,.int .i64 ln,.int .i64 co]
theorem zaz (k:Int) (tx:ByteArray) (bl:Bool) (ln co:Int):LShape (leafC k tx bl ln co):=⟨k,tx,bl,none,0,0,none,0,0,ln,co,rfl⟩
structure LitPost (d:Dt) (w w':World) (cs:List Value) (F:List Nat):Prop where
 shape:LShape cs
 own:Ow w' d cs F
 nodup:F.Nodup
 rng:∀ b ∈ F,w.heap.size≤b∧b<w'.heap.size
def LitAt (L:Cu→Option Dt × Cu) (ct:Bool) (c:Cu):Prop:=∀ (B p:Nat) (w:World),CurAt w B p c→Calls Tryz.prog 140 #[ptr B,.bool ct] w fun e w'=>∃ cs F,e = .returned (.tuple #[.agg cs.toArray,.bool (L c).1.isSome])∧LitPost ((L c).1.getD zeroD) w w' cs F∧CurAt w' B p (L c).2∧Kp B w w'
def fldZ:Dt:=fldD em zeroD 0 0
structure FldPost (d:Dt) (w w':World) (cs:List Value) (F:List Nat):Prop where
 shape:∃ nm ds ln co,LShape ds∧cs=Value.string nm :: (ds ++ [.int .i64 ln,.int .i64 co])
 own:Ow w' d cs F
 nodup:F.Nodup
 rng:∀ b ∈ F,w.heap.size≤b∧b<w'.heap.size
def FldAt (f:Nat) (E:Cu→Option Dt × Cu) (ct:Bool) (c:Cu):Prop:=∀ (B p:Nat) (w:World),CurAt w B p c→Calls Tryz.prog f #[ptr B,.bool ct] w fun e w'=>∃ cs F,e = .returned (.tuple #[.agg cs.toArray,.bool (E c).1.isSome])∧FldPost ((E c).1.getD fldZ) w w' cs F∧CurAt w' B p (E c).2∧Kp B w w'
theorem zh8 {w:World}:∀ (d e:Dt) (cs ds:List Value) (F G:List Nat),Ow w d cs F→Ow w e ds G→Ow w (app d e) (cs ++ ds) (F ++ G)
 | .nil,e,cs,ds,F,G,h,h'=>by
  unfold Ow at h;obtain⟨rfl,rfl⟩:=h;exact h'
 | .val v r,e,cs,ds,F,G,h,h'=>by
  unfold Ow at h;obtain⟨xs,rfl,h1,h2⟩:=h;unfold app Ow;exact⟨xs ++ ds,rfl,h1,zh8 r e xs ds F G h2 h'⟩
 | .lst k rs r,e,cs,ds,F,G,h,h'=>by
  unfold Ow at h;obtain⟨a,n,c,xs,F1,F2,rfl,h1,h2,h3,h4,h5,rfl⟩:=h;unfold app Ow;exact⟨a,n,c,xs ++ ds,F1,F2 ++ G,rfl,h1,h2,h3,h4,zh8 r e xs ds F2 G h5 h',by simp⟩
 | .row _ _,e,cs,ds,F,G,h,h'=>by unfold Ow at h;exact h.elim
theorem zie (w:World) (x y:Int):Ow w (.val (.int .i64 x) (.val (.int .i64 y) .nil)) [.int .i64 x,.int .i64 y] []:=by
 unfold Ow;refine⟨_,rfl,rfl,?_⟩
 unfold Ow;refine⟨_,rfl,rfl,?_⟩
 unfold Ow;exact⟨rfl,rfl⟩
theorem zmB {w:World} {nm:ByteArray} {v:Dt} {cs:List Value} {F:List Nat} (h:Ow w v cs F) (x y:Int):Ow w (fldD nm v x y) (.string nm :: (cs ++ [.int .i64 x,.int .i64 y])) F:=by
 unfold fldD Ow;refine⟨_,rfl,rfl,?_⟩
 have:=zh8 v _ cs _ F [] h (zie w x y)
 simpa using this
theorem zbK {w w':World} {d:Dt} {cs:List Value} {F:List Nat} (h:Ow w d cs F) (hk:Below w.heap.size w w') (hr:∀ b ∈ F,b<w.heap.size):Ow w' d cs F:=
 Ow.agree d cs F (fun b hb o=>hk.cell (p:=⟨b,o,none⟩) (hr b hb)) h
theorem zcw {w:World} {d:Dt} {cs:List Value} {F:List Nat} (h:Ow w d cs F) {b:Nat} (hb:b ∉ F) (o:Nat) (vs:List Value):Ow (w.setCells b o vs) d cs F:=
 Ow.agree d cs F (fun c hc j=>dt.zat (dt.zai b c (fun e=>hb (e ▸ hc)) vs o w) j) h
set_option maxRecDepth 4000 in
set_option maxHeartbeats 1000000 in
theorem zmf (L:Cu→Option Dt × Cu) (ct:Bool) (c:Cu) (hc0:c.Ok) (hL:LitAt L ct (c.name.want bCol)) (hdead:(L (c.name.want bCol)).1.isSome=true→c.isN=true):FldAt 157 (argS L) ct c:=by
 intro B p w h;have hn:=Hi (fun W (bb:Below w.heap.size w W)=>zbW B p c W (h.below bb))
 have hw:=Hi (fun W (hc:CurAt W B p c.name)=>zhs B p c.name bCol W hc)
 have hl:=Hi (fun W (hc:CurAt W B p (c.name.want bCol))=>hL B p W hc)
 have hlt:=h.lt;have hplt:=h.plt;have hne:B ≠ w.heap.size:=by omega
 have hnp:p ≠ w.heap.size:=by omega
 have bA:=Hi (fun o=>show Below w.heap.size w (w.alloc o) from ba)
 have hZ:=Hi (fun o W (hk:Kp B (w.alloc o) W)=>show W.heap[w.heap.size]? = some o from (hk.block w.heap.size (by simp) (by omega)).trans (heap_alloc_new w o))
 have hs0:=Hi (show (L (c.name.want bCol)).1=none→argS L c=(none,(L (c.name.want bCol)).2) from fun e=>by unfold argS;rw[e])
 have hs1:=Hi (show ∀ v,(L (c.name.want bCol)).1=some v→argS L c=(some (fldD c.tok.tx v c.tok.ln c.tok.co),(L (c.name.want bCol)).2) from fun v e=>by unfold argS;rw[e])
 rw[zdY] at hn;obtain⟨U,hU⟩:∃ U,U=L (c.name.want bCol):=⟨_,rfl⟩;rw[← hU] at hl hs0 hs1 hdead;clear h hL hU;obtain⟨r,C⟩:=U;obtain⟨A,hA⟩:∃ A,A=if c.isN then c.tok.tx else em:=⟨_,rfl⟩
 obtain⟨X,hX⟩:∃ X,X=if c.isN then c.tok.ln else 0:=⟨_,rfl⟩
 obtain⟨Y,hY⟩:∃ Y,Y=if c.isN then c.tok.co else 0:=⟨_,rfl⟩
 rw[← hA,← hX,← hY] at hn;have HA:=Hi (an hA (an hX hY));clear hA hX hY;unfold ptr at hn hw hl ⊢
 go_enter Tryz.func157,Tryz.ntmps157
 go_wp2_with fail
 refine ((uh hn) _ ((uh bA) _)).mono ?_
 rintro e w1 ⟨rfl,hc1,hk1⟩
 go_wp2_with fail
 refine ((uh hw) _ (hc1.below (ba))).mono ?_
 rintro e w2 ⟨rfl,hc2,hk2⟩
 go_wp2_with fail
 refine ((uh hl) _ hc2).mono ?_
 rintro e w3 ⟨cs,F,rfl,hpo,hc3,hk3⟩;have hB1:=hc1.lt;have hk23:=hk2.trans hk3;have hN3:=(hk23.block w1.heap.size (by simp) (by omega)).trans (heap_alloc_new w1 _)
 have hk13:=hk1.trans ((Kp.of (ba)).trans hk23);have hR3:=(uh hZ) _ w3 hk13;have hz1:w.heap.size<w1.heap.size:=by have:=hk1.size;simp at this;omega
 have hz3:w1.heap.size<w3.heap.size:=by have:=hk23.size;simp at this;omega
 have HK:=Hi ((Kp.of ((uh bA) _)).trans hk13);have HC:=Hi hc3;have hrF:∀ b ∈ F,w1.heap.size<b∧b<w3.heap.size:=fun b hb=>⟨by have:=(hpo.rng b hb).1;have:=hk2.size;simp at this;omega,(hpo.rng b hb).2⟩
 obtain⟨k,tx,bl,ai,ni,ci,af,nf,cf,ln,co,rfl⟩:=hpo.shape;have HP:=Hi hpo;have n0:∀ o,(w3.alloc o).cell? ⟨w1.heap.size,0,none⟩=some (.string A):=fun o=>(zG ((Below.heap_alloc w3 o w1.heap.size hz3).trans hN3) 0).trans rfl
 have n1:∀ o,(w3.alloc o).cell? ⟨w1.heap.size,1,none⟩=some (.int .i64 X):=fun o=>(zG ((Below.heap_alloc w3 o w1.heap.size hz3).trans hN3) 1).trans rfl
 have n2:∀ o,(w3.alloc o).cell? ⟨w1.heap.size,2,none⟩=some (.int .i64 Y):=fun o=>(zG ((Below.heap_alloc w3 o w1.heap.size hz3).trans hN3) 2).trans rfl
 have HT:=Hi (fun o=>dt.zab ((Below.heap_alloc w3 o w.heap.size (by omega)).trans hR3) (o:=0) (n:=10) (by decide))
 clear hn hw hl hk1 hk2 hk3 hk23 hk13 hc1 hc2 hc3 hZ bA hR3 hN3 hpo
 cases r with
 | none =>
  have hs2:=Hi ((uh hs0) rfl);clear hs0 hs1
  go_wp2_with (first
   | refine wpList_store_mid (by rfl) 160 _ _ (by rfl) w.heap.size 0 #[.string ⟨#[]⟩,.int .i64 0,.string ⟨#[]⟩,.bool false,.slice none 0 0,.slice none 0 0,.int .i64 0,.int .i64 0,.int .i64 0,.int .i64 0] (by rfl) (by rfl) ((uh HT) _) infoAr (dt.zae (cs:=[.string ⟨#[]⟩,.int .i64 0,.string ⟨#[]⟩,.bool false,.slice none 0 0,.slice none 0 0,.int .i64 0,.int .i64 0,.int .i64 0,.int .i64 0]) (by rfl)) ?_)
  refine bodyPost_ret (rgn.zad rfl _ _ w.heap.size 0 [.string ⟨#[]⟩,.int .i64 0,.string ⟨#[]⟩,.bool false,.slice none 0 0,.slice none 0 0,.int .i64 0,.int .i64 0,.int .i64 0,.int .i64 0] _ rfl (World.rangeAt_setCells_same _ _ _ _ ((uh HT) _)) Tryz.underlying160 rfl infoAr) rfl ?_
  rw[uh hs2];exact⟨_,[],rfl,⟨⟨em,leafC 0 em false 0 0,0,0,zaz ..,rfl⟩,zmB (za8 _ 0 em false 0 0) 0 0,List.nodup_nil,by simp⟩,((uh HC).below (ba)).out hne hnp _ _,((uh HK).trans (Kp.of (ba))).out (lr _) _ _⟩
 | some v =>
  have hs2:=Hi ((uh hs1) v rfl);clear hs0 hs1
  go_wp2_with (first
   | refine wpList_store_mid (by rfl) 160 _ _ (by rfl) w.heap.size 0 #[.string A,.int .i64 k,.string tx,.bool bl,.slice ai ni ci,.slice af nf cf,.int .i64 ln,.int .i64 co,.int .i64 X,.int .i64 Y] (by rfl) (by rfl) ((uh HT) _) infoAr (dt.zae (cs:=[.string A,.int .i64 k,.string tx,.bool bl,.slice ai ni ci,.slice af nf cf,.int .i64 ln,.int .i64 co,.int .i64 X,.int .i64 Y]) (by rfl)) ?_)
  refine bodyPost_ret (rgn.zad rfl _ _ w.heap.size 0 [.string A,.int .i64 k,.string tx,.bool bl,.slice ai ni ci,.slice af nf cf,.int .i64 ln,.int .i64 co,.int .i64 X,.int .i64 Y] _ rfl (World.rangeAt_setCells_same _ _ _ _ ((uh HT) _)) Tryz.underlying160 rfl infoAr) rfl ?_
  have hiN:=hdead rfl;have hA2:=uh HA;rw[hiN] at hA2;have hown:=zmB (nm:=A) (zcw (zbK (uh HP).own ((Below.refl _ _).alloc (lr _) (.cells #[.int .i64 k,.string tx,.bool bl,.slice ai ni ci,.slice af nf cf,.int .i64 ln,.int .i64 co] 99)) (fun b hb=>(hrF b hb).2)) (b:=w.heap.size) (fun hb=>by have:=(hrF _ hb).1;omega) 0 [.string A,.int .i64 k,.string tx,.bool bl,.slice ai ni ci,.slice af nf cf,.int .i64 ln,.int .i64 co,.int .i64 X,.int .i64 Y]) X Y
  rw[uh hs2];refine⟨_,F,rfl,⟨⟨A,[.int .i64 k,.string tx,.bool bl,.slice ai ni ci,.slice af nf cf,.int .i64 ln,.int .i64 co],X,Y,⟨k,tx,bl,ai,ni,ci,af,nf,cf,ln,co,rfl⟩,rfl⟩,?_,(uh HP).nodup,fun b hb=>⟨by have:=(hrF b hb).1;omega,by rw[dt.zaa];have:=(hrF b hb).2;simp;omega⟩⟩,((uh HC).below (ba)).out hne hnp _ _,((uh HK).trans (Kp.of (ba))).out (lr _) _ _⟩
  show Ow _ (fldD c.tok.tx v c.tok.ln c.tok.co) _ F
  rw[show c.tok.tx=A from hA2.1.symm,show c.tok.ln=X from hA2.2.1.symm,show c.tok.co=Y from hA2.2.2.symm]
  exact hown
end Go.Proofs.YtifbkdicglcogaaGreat.cu
namespace Go.Proofs.YtifbkdicglcogaaGreat.dt
open Go.ChangeShapes Go.WideShapes Go.ChangeAt Go.RowKit
theorem Grow.more {t:TypeId} {size:Nat} {w w':World} {B:Nat} {l:List Dt} {sl sl':Value} {G:List Nat} {d:Dt} {ds:List Value} {F:List Nat} (h:Grow t size w B l sl G) {xss:List (List Value)} (hol:OwL Ow w l xss G) (hx:∀ xs ∈ xss,xs.length=size) (hd:Ow w d ds F) (hn:F.Nodup) (hF:∀ b ∈ F,B≤b∧b<w.heap.size∧b ∉ G∧sl.ownBlock ≠ some b) (hl:ds.length=size)
  (hrow:w'.ownsRow B t size sl' (l.length+1) (xss.flatten ++ ds)) (hs:w.heap.size≤w'.heap.size) (hold:∀ b,b<w.heap.size→sl.ownBlock ≠ some b→w'.heap[b]? = w.heap[b]?) (hat:∀ b,sl'.ownBlock=some b→sl.ownBlock=some b∨w.heap.size≤b):Grow t size w' B (l ++ [d]) sl' (G ++ F):=by
 refine⟨?_,?_,?_,xss ++ [ds],?_,?_,?_⟩
 ·rw[List.nodup_append]
  exact⟨h.nodup,hn,fun x hx y hy e=>(hF y hy).2.2.1 (e ▸ hx)⟩
 ·intro b hb
  rcases List.mem_append.1 hb with hb | hb
  ·exact⟨(h.rng b hb).1,Nat.lt_of_lt_of_le (h.rng b hb).2 hs⟩
  ·exact⟨(hF b hb).1,Nat.lt_of_lt_of_le (hF b hb).2.1 hs⟩
 ·intro b hb e
  have hlt':b<w.heap.size:=by
   rcases List.mem_append.1 hb with hb | hb
   ·exact (h.rng b hb).2
   ·exact (hF b hb).2.1
  rcases hat b e with hat | hat
  ·rcases List.mem_append.1 hb with hb | hb
   ·exact h.own b hb hat
   ·exact (hF b hb).2.2.2 hat
  ·omega
 ·simpa using hrow
 ·refine OwL.agree (fun w w' e cs F=>Ow.agree e cs F) (fun b hb j=>?_) (OwL.snoc hd hol)
  rcases List.mem_append.1 hb with hb | hb
  ·exact zat (hold b (h.rng b hb).2 (h.own b hb)) j
  ·exact zat (hold b (hF b hb).2.1 (hF b hb).2.2.2) j
 ·intro xs hxs
  rcases List.mem_append.1 hxs with hxs | hxs
  ·exact hx xs hxs
  ·obtain rfl:xs=ds:=by simpa using hxs
   exact hl
end Go.Proofs.YtifbkdicglcogaaGreat.dt
namespace Go.Proofs.YtifbkdicglcogaaGreat.cu
open Go.ChangeShapes Go.WideShapes Go.ChangeAt Go.RowKit
open ints (Hi uh)
open dt (Dt Kp RowAt Ow Grow)
theorem CurAt.low {w w':World} {B p lo:Nat} {c:Cu} (h:CurAt w B p c) (hb:Below lo w w') (h1:B<lo) (h2:p<lo):CurAt w' B p c:=by
 obtain⟨cap,h3,h4,h5,h6⟩:=h.box;exact⟨h.ok,h.len,cap,(hb.block B h1).trans h3,h4,Nat.lt_of_lt_of_le h5 hb.size,fun i t ht j u hu=>(dt.zat (hb.block p h2) _).trans (h6 i t ht j u hu)⟩
theorem _root_.Go.Proofs.YtifbkdicglcogaaGreat.dt.Kp.low {B:Nat} {w w1 w2:World} (h:Kp B w w1) (hb:Below w.heap.size w1 w2):Kp B w w2:=
 ⟨hb.os.trans h.os,hb.tape.trans h.tape,hb.output.trans h.output,Nat.le_trans h.size hb.size,fun k hk hB=>(hb.block k hk).trans (h.block k hk hB)⟩
theorem infoLz:∃ i z,Tryz.prog.info? 99=some i∧i.zero=some z∧i.size=7∧i.bytes=96∧z.cells.size=7:=by
 have hin:(Tryz.prog.info? 99).map (fun i=>(i.bytes,i.size,i.zero.map (·.cells.size)))=some (96,7,some 7):=by kernel_rfl
 cases hq:Tryz.prog.info? 99 with
 | none=>simp[hq] at hin
 | some i =>
  simp[hq] at hin;obtain⟨h1,h2,z,hz,h3⟩:=hin;exact⟨i,z,rfl,hz,h2,h1,h3⟩
def BrkPL (r:Option (List Dt)) (lo:Nat) (w':World) (sl:Value):Prop:=match r with | none=>sl = .slice none 0 0 | some l=>∃ G,Grow 99 7 w' lo l sl G
set_option maxRecDepth 4000 in
set_option maxHeartbeats 4000000 in
theorem znt (E:Cu→Option Dt × Cu) (ct:Bool) (c:Cu) (left right:ByteArray) (hc0:c.Ok) (hlen:c.ts.length≤1099511627777) (hG:Goes E) (hE:∀ cc:Cu,cc.Ok→cc.ts=c.ts→c.ix<cc.ix→LitAt E ct cc) (B p:Nat) (w:World) (h:CurAt w B p c) :
  Calls Tryz.prog 158 #[ptr B,.string left,.string right,.int .i64 0,.bool ct,.func (.func 140) #[ptr B] #[]] w fun e w'=>∃ sl,e = .returned (.tuple #[sl,.bool (brk E left right 0 c).1.isSome])∧BrkPL (brk E left right 0 c).1 w.heap.size w' sl∧CurAt w' B p (brk E left right 0 c).2∧Kp B w w':=by
 have en:∀ args w,(callFunc 140 args).run Tryz.prog w = .ok (.enter 140 args) w:=fun _ _=>rfl
 have ho:=Hi (zcv B p c left w h);have hB:=h.lt;have hp:=h.plt
 cases hO:c.opB left
 ·have hs:=Hi (show brk E left right 0 c=(none,c.opn left) from by unfold brk;rw[hO];rfl)
  rw[hO] at ho;clear h hE;unfold ptr at ho ⊢
  go_enter Tryz.func158,Tryz.ntmps158
  go_wp2_with fail
  refine (uh ho).mono ?_
  rintro e w1 ⟨rfl,hc1,hk1⟩;clear ho
  go_wp2_with fail
  go_ret2
  rw[uh hs];exact⟨_,rfl,rfl,hc1,hk1⟩
 ·have hst:=zau hc0 left
  have hoi:=zaL hO;obtain⟨R,hR⟩:∃ R,R=brkF E right 0 c.ts.length [] (c.opn left):=⟨_,rfl⟩;have hs:=Hi (show brk E left right 0 c=R from by unfold brk;rw[hO,hR];rfl)
  rw[hO] at ho;have HR:=Hi hR.symm;clear h hR hO;have hcl:=Hi (fun W (cc:Cu) (hc:CurAt W B p cc)=>zbF B p cc right W hc)
  have hip:=Hi (fun W (cc:Cu) (hc:CurAt W B p cc)=>zax B p cc right W hc)
  have hEE:=Hi (fun (cc:Cu) (h1:cc.Ok) (h2:cc.ts=c.ts) (h3:c.ix<cc.ix)=>hE cc h1 h2 h3 B p)
  clear hE;unfold ptr at ho hcl hip hEE ⊢
  go_enter Tryz.func158,Tryz.ntmps158
  go_wp2_with fail
  refine (uh ho).mono ?_
  rintro e w1 ⟨rfl,hc1,hk1⟩;clear ho;have hz1:=hk1.size
  go_wp2_with fail
  go_loopg [14] c.ts.length (fun g sl wr=>∃ (l:List Dt) (cc:Cu) (Gs:List Nat),Hid (brkF E right 0 g l cc=R)∧CurAt wr B p cc∧Hid (Grow 99 7 wr w.heap.size l sl Gs)∧Kp B w wr∧Hid (cc.ts=c.ts)∧c.ts.length≤g+cc.ix∧l.length+1+c.ix≤cc.ix)
  case atStart=>exact⟨[],c.opn left,[],HR,hc1,Hi Grow.nil,hk1,Hi hst.ts,Nat.le_add_right _ _,by rw[hoi];simp;omega⟩
  case round =>
   obtain⟨l,cc,Gs,hrun,hcc,hgr,hkr,hts,hfu,hll⟩:=hrel;have hixl:=hcc.ok.lt;rw[uh hts] at hixl;obtain⟨al,cl,hsl⟩:=(uh hgr).form;subst hsl;have hlz:¬ ((l.length:Int)<0):=by omega
   obtain⟨g',rfl⟩:∃ g',gk=g'+1:=⟨gk - 1,by omega⟩
   have hip2:=Hi ((uh hip) wr cc hcc)
   go_wp2_with fail
   refine (uh hip2).mono ?_
   rintro e w2 ⟨rfl,b2⟩;have hc2:=hcc.below b2;have hgr2:=Hi ((uh hgr).keep b2.size (fun b hb _=>b2.block b hb))
   have hk2:=hkr.trans (Kp.of b2)
   cases hQ:cc.isP right
   ·have hrun2:=Hi (show (match (E cc).1 with | none=>(none,(E cc).2) | some d=>brkF E right 0 g' (l ++ [d]) (E cc).2)=R from by
     have e:=uh hrun;rw[brkF,if_pos (.inr hQ)] at e
     exact e)
    have hgo:=hG cc hcc.ok;have hcall:=Hi ((uh hEE) cc hcc.ok (uh hts) (by omega) w2 hc2)
    go_wp2_with fail
    refine (uh hcall).mono ?_
    rintro e w3 ⟨cs,F,rfl,hpo,hc3,hk3⟩;obtain⟨U,hU⟩:∃ U,U=E cc:=⟨_,rfl⟩;rw[← hU] at hrun2 hgo hpo hc3 ⊢;obtain⟨r,C⟩:=U;obtain⟨k,tx,bl,ai,ni,ci,af,nf,cf,ln,co,rfl⟩:=hpo.shape;clear hcall hU hip2 hrun;have HP:=Hi hpo;clear hpo;have HC3:=Hi hc3;have HK3:=Hi hk3;have hz3:=hk3.size
    cases r with
    | none =>
     have hrun3:=Hi (show (none,C)=R from uh hrun2)
     go_wp2_with fail
     go_ret2
     rw[uh hs,← uh hrun3];exact⟨_,rfl,rfl,(uh HC3).below (ba),(hk2.trans (uh HK3)).trans (Kp.of (ba))⟩
    | some d =>
     have hrun3:=Hi (show brkF E right 0 g' (l ++ [d]) C=R from uh hrun2)
     have hix3:cc.ix<C.ix:=hgo.2 rfl;have hts3:=hgo.1.ts;have hlt3:=hgo.1.ok.lt;rw[hts3,uh hts] at hlt3;have hgr3:=(uh hgr2).kp (uh HK3) hB;obtain⟨it,zt,q1,q2,q3,q4,q5⟩:=infoLz;have HQ:=Hi (an q1 (an q2 (an q3 (an q4 q5))));clear q1 q2 q3 q4 q5;obtain⟨xss,hr3,hol3,hx3⟩:=hgr3.row;have hr4:=Hi (fun o=>World.ownsRow.alloc hr3 o)
     have hbyt:=Hi (show (l.length+1) * 96≤140737488355328∧l.length+1≤maxLen from ⟨by omega,by unfold maxLen;omega⟩)
     have hsz4:=Hi (fun o=>show w.heap.size≤(w3.alloc o).heap.size from by have:=hz3;have:=b2.size;have:=hkr.size;simp;omega)
     have hone:=Hi ((uh HP).own.one);have HG:=Hi (an hgr3 (an hol3 hx3));have hTS:=Hi hts3;clear hrun2 hgo hts3 hgr3 hr3 hol3 hx3
     go_wp2_with (first
      | (at_builtin;refine dt.zaG (by rfl) _ _ (by rfl) Tryz.underlying96 (uh HQ).1 (uh HQ).2.1 (uh HQ).2.2.1 (uh HQ).2.2.2.1 (uh HQ).2.2.2.2 (by omega) w.heap.size l.length xss.flatten _ (by rfl) ((uh hr4) _) [.int .i64 k,.string tx,.bool bl,.slice ai ni ci,.slice af nf cf,.int .i64 ln,.int .i64 co] (by rfl) (uh hone) (w3.heap.size+1) (by simp) (by rfl) (uh hbyt).1 (uh hbyt).2 ((uh hsz4) _) ?_;intro sl' w7 hr7 b7 hold7 hat7;have H7:=Hi (an hr7 (an b7 (an hold7 hat7)));clear hr7 b7 hold7 hat7))
     go_roundg g'
     case rel =>
      obtain⟨hr7,b7,hold7,hat7⟩:=uh H7;obtain⟨hgr3,hol3,hx3⟩:=uh HG;have bA:Below w3.heap.size w3 (w3.alloc (.cells #[.int .i64 k,.string tx,.bool bl,.slice ai ni ci,.slice af nf cf,.int .i64 ln,.int .i64 co] 99)):=ba;have hgr4:=hgr3.keep bA.size (fun b hb _=>bA.block b hb)
      have hown:=fun b (hb:(Value.slice al l.length cl).ownBlock=some b)=>(let ⟨_,hr,_⟩:=(uh hgr2).row;(hr.lt b hb).2)
      have hF3:∀ b ∈ F,w2.heap.size≤b∧b<w3.heap.size:=(uh HP).rng;have hsz:w.heap.size≤w2.heap.size:=hk2.size;have hmore:=hgr4.more (dt.OwL.agree (fun w w' e cs F=>dt.Ow.agree e cs F) (fun b hb j=>dt.zat (bA.block b (hgr3.rng b hb).2) j) hol3) hx3 (zbK (uh HP).own bA (fun b hb=>(hF3 b hb).2)) (uh HP).nodup (fun b hb=>⟨by have:=(hF3 b hb).1;omega,by have:=(hF3 b hb).2;have:=bA.size;omega,fun hm=>by have:=((uh hgr2).rng b hm).2;have:=(hF3 b hb).1;omega,fun e=>by have:=hown b e;have:=(hF3 b hb).1;omega⟩) (by rfl) hr7 (by have:=(hr7.lt);have:=b7.size;exact this) hold7 hat7
      have hBs:B<w3.heap.size:=by omega
      have hCA:=(uh HC3).below bA;refine⟨l ++ [d],C,Gs ++ F,hrun3,?_,Hi hmore,?_,Hi ((uh hTS).trans (uh hts)),by omega,by rw[List.length_append];simp;omega⟩
      ·exact hCA.low b7 hB hp
      ·exact ((hk2.trans (uh HK3)).trans (Kp.of bA)).low b7
     case measure=>exact Nat.lt_succ_self _
   ·have hrun2:=Hi (show (some l,cc.cls right)=R from by
     have e:=uh hrun;rw[brkF,if_neg (fun e=>by rcases e with e | e;omega;rw[hQ] at e;cases e)] at e
     exact e)
    have hcl2:=Hi ((uh hcl) w2 cc hc2);rw[hQ] at hcl2;clear hrun hip2
    go_wp2_with fail
    refine (uh hcl2).mono ?_
    rintro e w3 ⟨rfl,hc3,hk3⟩;clear hcl2
    go_wp2_with fail
    go_ret2
    rw[uh hs,← uh hrun2];exact⟨_,rfl,⟨Gs,(uh hgr2).kp hk3 hB⟩,hc3,hk2.trans hk3⟩
end Go.Proofs.YtifbkdicglcogaaGreat.cu
