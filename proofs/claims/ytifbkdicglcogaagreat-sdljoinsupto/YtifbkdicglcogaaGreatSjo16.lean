import Derived.Test.YtifbkdicglcogaaGreatSjo15
set_option linter.unusedVariables false
set_option linter.unusedSimpArgs false
namespace Go.Proofs.YtifbkdicglcogaaGreat.cu
open Go.ChangeShapes Go.WideShapes Go.ChangeAt Go.RowKit
open ints (Hi uh)
open dt (Dt Kp RowAt Ow Grow OwIn)
def kwd:Nat→ByteArray
 | 0=>bSchema
 | 1=>bScalar
 | 2=>bType
 | 3=>bIface
 | 4=>bUnion
 | 5=>bEnum
 | 6=>bInput
 | _=>bDirec
def kfn:Nat→Nat
 | 0=>85
 | 1=>86
 | 2=>87
 | 3=>87
 | 4=>88
 | 5=>89
 | 6=>90
 | _=>91
def krd (N:Nat):Nat→Sy→Cu→Sy × Cu
 | 0=>schT (litF true N)
 | 1=>scaT (litF true N)
 | 2=>objT (typF N) (litF true N) N
 | 3=>objT (typF N) (litF true N) N
 | 4=>uniT (litF true N) N
 | 5=>enuT (litF true N)
 | 6=>inuT (typF N) (litF true N)
 | _=>dirT (typF N) (litF true N) N
def ksF (N:Nat) (s:Sy) (t:Tk):Nat→Nat→Cu→Sy × Cu
 | 0,i=>stopR s
 | g+1,i=>cond (s.ex && i == 7) (ksF N s t g (i+1)) (kwT (kwd i) (krd N i (s.at (i+1) t)) (ksF N s t g (i+1)))
theorem infoKw:(Tryz.prog.info? 148).map (·.size)=some 3:=by kernel_rfl
theorem zpH (N:Nat) (n:Nt) (x:Bool) (c:Cu):keyT (typF N) (litF true N) N (Sy.of n x) c=ksF N (Sy.of n x) c.tok 8 0 c:=by cases x <;> rfl
theorem zlE {w:World} {b:Nat} (h:w.heap[b]? = some (.cells #[.string ⟨#[115,99,104,101,109,97]⟩,.int .i64 1,.func (.func 85) #[] #[],.string ⟨#[115,99,97,108,97,114]⟩,.int .i64 2,.func (.func 86) #[] #[],.string ⟨#[116,121,112,101]⟩,.int .i64 3,.func (.func 87) #[] #[],.string ⟨#[105,110,116,101,114,102,97,99,101]⟩,.int .i64 4,.func (.func 87) #[] #[],.string ⟨#[117,110,105,111,110]⟩,.int .i64 5,.func (.func 88) #[] #[],.string ⟨#[101,110,117,109]⟩,.int .i64 6,.func (.func 89) #[] #[],.string ⟨#[105,110,112,117,116]⟩,.int .i64 7,.func (.func 90) #[] #[],.string ⟨#[100,105,114,101,99,116,105,118,101]⟩,.int .i64 8,.func (.func 91) #[] #[]] 148 (0,0))) (i:Nat) (hi:i<8):w.cell? ⟨b,i * 3,none⟩=some (.string (kwd i))∧w.cell? ⟨b,i * 3+1,none⟩=some (.int .i64 ((i:Int)+1))∧w.cell? ⟨b,i * 3+2,none⟩=some (.func (.func (kfn i)) #[] #[]):=by
 match i,hi with
 | 0,_=>exact⟨(zG h 0).trans rfl,(zG h 1).trans rfl,(zG h 2).trans rfl⟩
 | 1,_=>exact⟨(zG h 3).trans rfl,(zG h 4).trans rfl,(zG h 5).trans rfl⟩
 | 2,_=>exact⟨(zG h 6).trans rfl,(zG h 7).trans rfl,(zG h 8).trans rfl⟩
 | 3,_=>exact⟨(zG h 9).trans rfl,(zG h 10).trans rfl,(zG h 11).trans rfl⟩
 | 4,_=>exact⟨(zG h 12).trans rfl,(zG h 13).trans rfl,(zG h 14).trans rfl⟩
 | 5,_=>exact⟨(zG h 15).trans rfl,(zG h 16).trans rfl,(zG h 17).trans rfl⟩
 | 6,_=>exact⟨(zG h 18).trans rfl,(zG h 19).trans rfl,(zG h 20).trans rfl⟩
 | 7,_=>exact⟨(zG h 21).trans rfl,(zG h 22).trans rfl,(zG h 23).trans rfl⟩
section
variable {N B p D:Nat} {c:Cu} {w:World}
theorem zrg (i:Nat) (hi:i<8) {k0 l0 o0:Int} {ex n1 n2:Bool} {n3:ByteArray} (hD:w.heap[D]? = some (.cells #[.int .i64 k0,.bool ex,.bool n1,.bool n2,.string n3,.string ⟨#[]⟩,.slice none 0 0,.slice none 0 0,.slice none 0 0,.slice none 0 0,.slice none 0 0,.slice none 0 0,.slice none 0 0,.bool false,.slice none 0 0,.int .i64 l0,.int .i64 o0] 62 (0,0))) (hDB:D ≠ B) (hDp:D ≠ p) (h:CurN N w B p c):Calls Tryz.prog (kfn i) #[.agg #[.pointer (some ⟨B,0,none⟩)],.pointer (some ⟨D,0,none⟩)] w fun e w'=>∃ (s:Sy) (c':Cu) (cs:List Value) (F:List Nat),krd N i ⟨k0,ex,(n1,n2,n3),em,[],[],[],[],[],[],[],false,[],l0,o0⟩ c=(s,c')∧e = .returned (.tuple #[])∧SyC s cs∧w'.heap[D]? = some (.cells cs.toArray 62 (0,0))∧Ho w' s.d cs F w.heap.size w'.heap.size∧CurN N w' B p c'∧Kq B D w w':=by
 match i,hi with
 | 0,_=>exact zqe hD hDB hDp h
 | 1,_=>exact zqd hD hDB hDp h
 | 2,_=>exact zmR hD hDB hDp h
 | 3,_=>exact zmR hD hDB hDp h
 | 4,_=>exact zqo hD hDB hDp h
 | 5,_=>exact zpx hD hDB hDp h
 | 6,_=>exact zpF hD hDB hDp h
 | 7,_=>exact znE hD hDB hDp h
set_option maxHeartbeats 800000 in
set_option maxRecDepth 4000 in
theorem zpI (i:Nat) (hi:i<8):∀ args w,(callFunc (kfn i) args).run Tryz.prog w = .ok (.enter (kfn i) args) w:=by
 match i,hi with
 | 0,_=>exact (fun _ _=>rfl:∀ args w,(callFunc 85 args).run Tryz.prog w = .ok (.enter 85 args) w)
 | 1,_=>exact (fun _ _=>rfl:∀ args w,(callFunc 86 args).run Tryz.prog w = .ok (.enter 86 args) w)
 | 2,_=>exact (fun _ _=>rfl:∀ args w,(callFunc 87 args).run Tryz.prog w = .ok (.enter 87 args) w)
 | 3,_=>exact (fun _ _=>rfl:∀ args w,(callFunc 87 args).run Tryz.prog w = .ok (.enter 87 args) w)
 | 4,_=>exact (fun _ _=>rfl:∀ args w,(callFunc 88 args).run Tryz.prog w = .ok (.enter 88 args) w)
 | 5,_=>exact (fun _ _=>rfl:∀ args w,(callFunc 89 args).run Tryz.prog w = .ok (.enter 89 args) w)
 | 6,_=>exact (fun _ _=>rfl:∀ args w,(callFunc 90 args).run Tryz.prog w = .ok (.enter 90 args) w)
 | 7,_=>exact (fun _ _=>rfl:∀ args w,(callFunc 91 args).run Tryz.prog w = .ok (.enter 91 args) w)
set_option maxRecDepth 4000 in
set_option maxHeartbeats 8000000 in
theorem zmH {ex n1 n2:Bool} {n3:ByteArray} (hD:w.heap[D]? = some (.cells #[.int .i64 0,.bool ex,.bool n1,.bool n2,.string n3,.string ⟨#[]⟩,.slice none 0 0,.slice none 0 0,.slice none 0 0,.slice none 0 0,.slice none 0 0,.slice none 0 0,.slice none 0 0,.bool false,.slice none 0 0,.int .i64 0,.int .i64 0] 62 (0,0))) (hDB:D ≠ B) (hDp:D ≠ p) (h:CurN N w B p c):Calls Tryz.prog 49 #[.agg #[.pointer (some ⟨B,0,none⟩)],.pointer (some ⟨D,0,none⟩)] w fun e w'=>∃ (s:Sy) (c':Cu) (cs:List Value) (F:List Nat),keyT (typF N) (litF true N) N (Sy.of (n1,n2,n3) ex) c=(s,c')∧e = .returned (.tuple #[])∧SyC s cs∧w'.heap[D]? = some (.cells cs.toArray 62 (0,0))∧Ho w' s.d cs F w.heap.size w'.heap.size∧CurN N w' B p c'∧Kq B D w w':=by
 have hlt:=h.lt;have hplt:=h.plt;have hDlt:D<w.heap.size:=(Array.getElem?_eq_some_iff.1 hD).1
 obtain⟨R,hR⟩:∃ R,R=ksF N (Sy.of (n1,n2,n3) ex) c.tok 8 0 c:=⟨_,rfl⟩;have hkey:=Hi ((zpH N (n1,n2,n3) ex c).trans hR.symm);have HR:=Hi hR.symm;clear hR;obtain⟨KB,hKB⟩:∃ KB:Array Value,KB = #[.string ⟨#[115,99,104,101,109,97]⟩,.int .i64 1,.func (.func 85) #[] #[],.string ⟨#[115,99,97,108,97,114]⟩,.int .i64 2,.func (.func 86) #[] #[],.string ⟨#[116,121,112,101]⟩,.int .i64 3,.func (.func 87) #[] #[],.string ⟨#[105,110,116,101,114,102,97,99,101]⟩,.int .i64 4,.func (.func 87) #[] #[],.string ⟨#[117,110,105,111,110]⟩,.int .i64 5,.func (.func 88) #[] #[],.string ⟨#[101,110,117,109]⟩,.int .i64 6,.func (.func 89) #[] #[],.string ⟨#[105,110,112,117,116]⟩,.int .i64 7,.func (.func 90) #[] #[],.string ⟨#[100,105,114,101,99,116,105,118,101]⟩,.int .i64 8,.func (.func 91) #[] #[]]:=⟨_,rfl⟩
 have hkb:=Hi (fun (W:World) (b:Nat) (hk:W.heap[b]? = some (.cells KB 148 (0,0))) (i:Nat) (hi:i<8)=>zlE (by rw[← hKB];exact hk) i hi)
 have hkw:=Hi (fun (W:World)=>show Calls Tryz.prog 73 #[] W fun e w'=>e = .returned (.slice (some ⟨W.heap.size,0,none⟩) 8 8)∧w'=W.alloc (.cells KB 148) from by rw[hKB];exact zpK W)
 have htk:=Hi (fun W (hc:CurN N W B p c)=>zaZ B p c W hc.at_)
 have hre:=Hi (fun W (hc:CurN N W B p c)=>zeF hc)
 have hf1:=zdv c.tok;unfold Tk.cells at htk;unfold ptr at htk;obtain⟨t,et⟩:∃ t,t=c.tok:=⟨_,rfl⟩;rw[← et] at htk hf1 HR;clear hKB et
 go_enter Tryz.func49,Tryz.ntmps49
 go_wp2_with fail
 have hD0:=hD;obtain⟨W1,hW1⟩:∃ W1,W1=allocs w [(#[.pointer (some ⟨B,0,none⟩)],74)]:=⟨_,rfl⟩;have gW1:W1=(w.alloc (.cells #[.pointer (some ⟨B,0,none⟩)] 74)):=hW1;have aa:=zaq [(#[.pointer (some ⟨B,0,none⟩)],74)] w;have fP1:W1.heap[w.heap.size]? = some (.cells #[.pointer (some ⟨B,0,none⟩)] 74 (0,0)):=by rw[hW1];exact aa 0 _ rfl
 have bw:Below w.heap.size w W1:=by rw[hW1];exact zak _ _
 have sz1:w.heap.size+1≤W1.heap.size:=by rw[hW1,zal];exact lr _
 have K1:Kp B w W1:=Kp.of bw;have fD1:W1.heap[D]? = some (.cells #[.int .i64 0,.bool ex,.bool n1,.bool n2,.string n3,.string ⟨#[]⟩,.slice none 0 0,.slice none 0 0,.slice none 0 0,.slice none 0 0,.slice none 0 0,.slice none 0 0,.slice none 0 0,.bool false,.slice none 0 0,.int .i64 0,.int .i64 0] 62 (0,0)):=(bw.block _ hDlt).trans hD0;have C1:=h.below bw;rw[← gW1];clear gW1 hW1 bw aa h
 clear hD0 hD;refine ((uh hkw) W1).mono ?_
 rintro e W2 ⟨rfl,hw2⟩;have bb2:Below W1.heap.size W1 W2:=by rw[hw2];exact ba
 have fK2:W2.heap[W1.heap.size]? = some (.cells KB 148 (0,0)):=by rw[hw2];exact heap_alloc_new _ _
 have lt2:W1.heap.size<W2.heap.size:=by rw[hw2];simp
 have J2:Kp B W1 W2:=Kp.of bb2;have C2:=C1.below bb2;clear hw2 bb2 hkw;have sz2:=J2.size;have fP2:W2.heap[w.heap.size]? = some (.cells #[.pointer (some ⟨B,0,none⟩)] 74 (0,0)):=(J2.block _ (by omega) (by omega)).trans fP1
 have fD2:W2.heap[D]? = some (.cells #[.int .i64 0,.bool ex,.bool n1,.bool n2,.string n3,.string ⟨#[]⟩,.slice none 0 0,.slice none 0 0,.slice none 0 0,.slice none 0 0,.slice none 0 0,.slice none 0 0,.slice none 0 0,.bool false,.slice none 0 0,.int .i64 0,.int .i64 0] 62 (0,0)):=(J2.block _ (by omega) (by omega)).trans fD1
 have K2:=K1.trans J2;clear fP1 fD1 K1 C1 J2
 go_wp2_with fail
 obtain⟨kb,hkbe⟩:∃ kb,kb=W1.heap.size:=⟨_,rfl⟩;rw[← hkbe] at fK2 lt2 ⊢;have hkl:w.heap.size<kb:=by omega
 clear hkbe
 go_loopg [9] 8 (fun g v wr=>∃ i:Nat,v = .int .i64 (i:Int)∧i+g=8∧Hid (ksF N (Sy.of (n1,n2,n3) ex) t g i c=R)∧CurN N wr B p c∧Hid (wr.heap[w.heap.size]? = some (.cells #[.pointer (some ⟨B,0,none⟩)] 74 (0,0)))∧Hid (wr.heap[D]? = some (.cells #[.int .i64 0,.bool ex,.bool n1,.bool n2,.string n3,.string ⟨#[]⟩,.slice none 0 0,.slice none 0 0,.slice none 0 0,.slice none 0 0,.slice none 0 0,.slice none 0 0,.slice none 0 0,.bool false,.slice none 0 0,.int .i64 0,.int .i64 0] 62 (0,0)))∧Hid (wr.heap[kb]? = some (.cells KB 148 (0,0)))∧Kp B w wr∧kb<wr.heap.size)
 case atStart=>exact⟨0,rfl,rfl,HR,C2,Hi fP2,Hi fD2,Hi fK2,K2,lt2⟩
 case round =>
  clear C2 fP2 fD2 fK2 K2 HR;obtain⟨i,hv,hig,hrun,hcc,hpr,hdr,hkr,hkp,hzr⟩:=hrel;subst hv;obtain rfl | ⟨g,rfl⟩:gk=0∨∃ g,gk=g+1:=by cases gk with | zero=>exact .inl rfl | succ g=>exact .inr ⟨g,rfl⟩
  ·obtain rfl:i=8:=by omega
   have cP:wr.cell? ⟨w.heap.size,0,none⟩=some (.pointer (some ⟨B,0,none⟩)):=(zG (uh hpr) 0).trans rfl;have hrun2:=Hi (show (Sy.of (n1,n2,n3) ex,c.stop 70)=R from uh hrun)
   have hre2:=Hi ((uh hre) wr hcc);clear hrun hre
   go_wp2_with fail
   refine (uh hre2).mono ?_
   rintro e w9 ⟨rfl,C9,J9⟩;have sz9:=J9.size;have hz:=hkp.size;have fD9:w9.heap[D]? = some (.cells #[.int .i64 0,.bool ex,.bool n1,.bool n2,.string n3,.string ⟨#[]⟩,.slice none 0 0,.slice none 0 0,.slice none 0 0,.slice none 0 0,.slice none 0 0,.slice none 0 0,.slice none 0 0,.bool false,.slice none 0 0,.int .i64 0,.int .i64 0] 62 (0,0)):=(J9.block D (by omega) hDB).trans (uh hdr)
   have K9:=Kq.of (D:=D) (hkp.trans J9)
   go_wp2_with fail
   go_end0
   obtain⟨hS9,F9,hF9⟩:=zbr (X:=w9) (s:=Sy.of (n1,n2,n3) ex) (lo:=w.heap.size) (Sh.nil (w:=w9) (k:=3) (lo:=w.heap.size) (hi:=w.heap.size) (by omega)) (Sh.nil (w:=w9) (k:=4) (lo:=w.heap.size) (hi:=w.heap.size) (by omega)) (Sh.nil (w:=w9) (k:=10) (lo:=w.heap.size) (hi:=w.heap.size) (by omega)) (Sh.nil (w:=w9) (k:=17) (lo:=w.heap.size) (hi:=w.heap.size) (by omega)) (Sh.nil (w:=w9) (k:=3) (lo:=w.heap.size) (hi:=w.heap.size) (by omega)) (Sh.nil (w:=w9) (k:=7) (lo:=w.heap.size) (hi:=w.heap.size) (by omega)) (Sh.nil (w:=w9) (k:=4) (lo:=w.heap.size) (hi:=w.heap.size) (by omega)) (Sh.nil (w:=w9) (k:=3) (lo:=w.heap.size) (hi:=w.heap.size) (by omega)) (by omega) (by omega) (by omega) (by omega) (by omega) (by omega) (by omega) (by omega) (by omega) (by omega) (by omega) (by omega) (by omega) (by omega) (by omega) (by omega)
   exact⟨_,c.stop 70,_,F9,(uh hkey).trans (uh hrun2).symm,rfl,hS9,fD9,hF9,C9,K9⟩
  ·obtain⟨W50,e50⟩:∃ W50,W50=wr:=⟨_,rfl⟩
   subst e50;have hi8:i<8:=by omega
   have hz:=hkp.size;have kcs:=(uh hkb) W50 kb (uh hkr) i hi8;have hcall:=Hi (fun (k0 l0 o0:Int) (W:World) (u:Cu) (hD:W.heap[D]? = some (.cells #[.int .i64 k0,.bool ex,.bool n1,.bool n2,.string n3,.string ⟨#[]⟩,.slice none 0 0,.slice none 0 0,.slice none 0 0,.slice none 0 0,.slice none 0 0,.slice none 0 0,.slice none 0 0,.bool false,.slice none 0 0,.int .i64 l0,.int .i64 o0] 62 (0,0))) (hc:CurN N W B p u)=>zrg (ex:=ex) (n1:=n1) (n2:=n2) (n3:=n3) (k0:=k0) (l0:=l0) (o0:=o0) i hi8 hD hDB hDp hc)
   have en:=zpI i hi8;have hrun2:=Hi (show cond (ex && i == 7) (ksF N (Sy.of (n1,n2,n3) ex) t g (i+1)) (kwT (kwd i) (krd N i ((Sy.of (n1,n2,n3) ex).at (i+1) t)) (ksF N (Sy.of (n1,n2,n3) ex) t g (i+1))) c=R from uh hrun)
   obtain⟨kw,hkw⟩:∃ kw,kw=kwd i:=⟨_,rfl⟩;obtain⟨f,hf⟩:∃ f,f=kfn i:=⟨_,rfl⟩;rw[← hkw] at kcs hrun2;rw[← hf] at kcs hcall en;clear hkw hf hrun;obtain⟨kc0,kc1,kc2⟩:=kcs;have ii:(i:Int)<8:=by omega
   have fP:=uh hpr;have fD:=uh hdr;have fK:=uh hkr;clear hpr hdr hkr
   cases ex
   ·have hrun3:=Hi (show kwT kw (krd N i ((Sy.of (n1,n2,n3) false).at (i+1) t)) (ksF N (Sy.of (n1,n2,n3) false) t g (i+1)) c=R from uh hrun2)
    clear hrun2;have fP51:(W50.alloc (.cells #[.string ⟨#[]⟩,.int .i64 0,.nilFunc] 148)).heap[w.heap.size]? = some (.cells #[.pointer (some ⟨B,0,none⟩)] 74 (0,0)):=(Below.heap_alloc W50 _ _ (by omega)).trans fP
    have fD51:(W50.alloc (.cells #[.string ⟨#[]⟩,.int .i64 0,.nilFunc] 148)).heap[D]? = some (.cells #[.int .i64 0,.bool false,.bool n1,.bool n2,.string n3,.string ⟨#[]⟩,.slice none 0 0,.slice none 0 0,.slice none 0 0,.slice none 0 0,.slice none 0 0,.slice none 0 0,.slice none 0 0,.bool false,.slice none 0 0,.int .i64 0,.int .i64 0] 62 (0,0)):=(Below.heap_alloc W50 _ _ (by omega)).trans fD
    have fK51:(W50.alloc (.cells #[.string ⟨#[]⟩,.int .i64 0,.nilFunc] 148)).heap[kb]? = some (.cells KB 148 (0,0)):=(Below.heap_alloc W50 _ _ (by omega)).trans fK
    have fQ51:(W50.alloc (.cells #[.string ⟨#[]⟩,.int .i64 0,.nilFunc] 148)).heap[W50.heap.size]? = some (.cells #[.string ⟨#[]⟩,.int .i64 0,.nilFunc] 148 (0,0)):=heap_alloc_new _ _;have bb51:Below W50.heap.size W50 (W50.alloc (.cells #[.string ⟨#[]⟩,.int .i64 0,.nilFunc] 148)):=ba;have C51:=hcc.below bb51;have K51:=hkp.trans (Kp.of bb51);have HT52:=Hi (dt.zab fQ51 (o:=0) (n:=3) (by first | decide | simp))
    have fP52:((W50.alloc (.cells #[.string ⟨#[]⟩,.int .i64 0,.nilFunc] 148)).setCells W50.heap.size 0 [.string kw,.int .i64 ((i:Int)+1),.func (.func f) #[] #[]]).heap[w.heap.size]? = some (.cells #[.pointer (some ⟨B,0,none⟩)] 74 (0,0)):=(dt.zai W50.heap.size _ (show w.heap.size ≠ W50.heap.size by omega) _ 0 (W50.alloc (.cells #[.string ⟨#[]⟩,.int .i64 0,.nilFunc] 148))).trans fP51
    have fD52:((W50.alloc (.cells #[.string ⟨#[]⟩,.int .i64 0,.nilFunc] 148)).setCells W50.heap.size 0 [.string kw,.int .i64 ((i:Int)+1),.func (.func f) #[] #[]]).heap[D]? = some (.cells #[.int .i64 0,.bool false,.bool n1,.bool n2,.string n3,.string ⟨#[]⟩,.slice none 0 0,.slice none 0 0,.slice none 0 0,.slice none 0 0,.slice none 0 0,.slice none 0 0,.slice none 0 0,.bool false,.slice none 0 0,.int .i64 0,.int .i64 0] 62 (0,0)):=(dt.zai W50.heap.size _ (show D ≠ W50.heap.size by omega) _ 0 (W50.alloc (.cells #[.string ⟨#[]⟩,.int .i64 0,.nilFunc] 148))).trans fD51
    have fK52:((W50.alloc (.cells #[.string ⟨#[]⟩,.int .i64 0,.nilFunc] 148)).setCells W50.heap.size 0 [.string kw,.int .i64 ((i:Int)+1),.func (.func f) #[] #[]]).heap[kb]? = some (.cells KB 148 (0,0)):=(dt.zai W50.heap.size _ (show kb ≠ W50.heap.size by omega) _ 0 (W50.alloc (.cells #[.string ⟨#[]⟩,.int .i64 0,.nilFunc] 148))).trans fK51
    have fQ52:((W50.alloc (.cells #[.string ⟨#[]⟩,.int .i64 0,.nilFunc] 148)).setCells W50.heap.size 0 [.string kw,.int .i64 ((i:Int)+1),.func (.func f) #[] #[]]).heap[W50.heap.size]? = some (.cells #[.string kw,.int .i64 ((i:Int)+1),.func (.func f) #[] #[]] 148 (0,0)):=(dt.zaD [.string kw,.int .i64 ((i:Int)+1),.func (.func f) #[] #[]] 0 (W50.alloc (.cells #[.string ⟨#[]⟩,.int .i64 0,.nilFunc] 148)) _ fQ51).trans (by kernel_rfl)
    have C52:=C51.out (b:=W50.heap.size) (by omega) (by omega) 0 [.string kw,.int .i64 ((i:Int)+1),.func (.func f) #[] #[]]
    have K52:=K51.out (b:=W50.heap.size) (by omega) 0 [.string kw,.int .i64 ((i:Int)+1),.func (.func f) #[] #[]]
    obtain⟨W53,hW53⟩:∃ W53,W53=((W50.alloc (.cells #[.string ⟨#[]⟩,.int .i64 0,.nilFunc] 148)).setCells W50.heap.size 0 [.string kw,.int .i64 ((i:Int)+1),.func (.func f) #[] #[]]):=⟨_,rfl⟩;rw[← hW53] at fP52 fD52 fK52 fQ52 C52 K52;have sz53:W50.heap.size+1≤W53.heap.size:=by rw[hW53];simp only[zaf,dt.zaa,World.size_alloc];exact lr _
    have GW53:=Hi hW53;clear hW53 fP fD fK hkp hcc fP51 fD51 fK51 fQ51 K51 C51;have cD54_1:W53.cell? ⟨D,1,none⟩=some (.bool false):=(zG fD52 1).trans rfl;have cQ55_0:W53.cell? ⟨W50.heap.size,0,none⟩=some (.string kw):=(zG fQ52 0).trans rfl;have cQ55_1:W53.cell? ⟨W50.heap.size,1,none⟩=some (.int .i64 ((i:Int)+1)):=(zG fQ52 1).trans rfl;have cQ55_2:W53.cell? ⟨W50.heap.size,2,none⟩=some (.func (.func f) #[] #[]):=(zG fQ52 2).trans rfl
    have cP56_0:W53.cell? ⟨w.heap.size,0,none⟩=some (.pointer (some ⟨B,0,none⟩)):=(zG fP52 0).trans rfl;have HH57:=Hi (an fP52 (an fD52 (an fK52 (an fQ52 (an C52 (K52))))));clear fP52 fD52 fK52 fQ52 C52 K52
    go_wp2_with (first
     | (refine wpList_store_mid (by rfl) 148 _ _ (by rfl) W50.heap.size 0 #[.string kw,.int .i64 ((i:Int)+1),.func (.func f) #[] #[]] (by rfl) (by rfl) (uh HT52) infoKw (dt.zae (cs:=[.string kw,.int .i64 ((i:Int)+1),.func (.func f) #[] #[]]) (by rfl)) ?_;rw[show (W50.alloc (.cells #[.string ⟨#[]⟩,.int .i64 0,.nilFunc] 148)).setCells W50.heap.size 0 (#[.string kw,.int .i64 ((i:Int)+1),.func (.func f) #[] #[]]:Array Value).toList=W53 from (uh GW53).symm]))
    obtain⟨fP52,fD52,fK52,fQ52,C52,K52⟩:=uh HH57;clear HH57;clear GW53;refine ((uh htk) _ C52).mono ?_
    rintro e W58 ⟨rfl,bb58⟩;have J58:Kp B W53 W58:=Kp.of bb58;have C58:=C52.below bb58;have sz58:=J58.size;have fP58:W58.heap[w.heap.size]? = some (.cells #[.pointer (some ⟨B,0,none⟩)] 74 (0,0)):=(J58.block _ (by omega) (by omega)).trans fP52
    have fD58:W58.heap[D]? = some (.cells #[.int .i64 0,.bool false,.bool n1,.bool n2,.string n3,.string ⟨#[]⟩,.slice none 0 0,.slice none 0 0,.slice none 0 0,.slice none 0 0,.slice none 0 0,.slice none 0 0,.slice none 0 0,.bool false,.slice none 0 0,.int .i64 0,.int .i64 0] 62 (0,0)):=(J58.block _ (by omega) (by omega)).trans fD52
    have fK58:W58.heap[kb]? = some (.cells KB 148 (0,0)):=(J58.block _ (by omega) (by omega)).trans fK52
    have fQ58:W58.heap[W50.heap.size]? = some (.cells #[.string kw,.int .i64 ((i:Int)+1),.func (.func f) #[] #[]] 148 (0,0)):=(J58.block _ (by omega) (by omega)).trans fQ52
    have K58:=K52.trans J58;clear fP52 fD52 fK52 fQ52 K52 C52 J58 cD54_1 cQ55_0 cQ55_1 cQ55_2 cP56_0;clear htk;have fP59:(W58.alloc (.cells #[.int .i64 t.ln,.int .i64 t.co] 37)).heap[w.heap.size]? = some (.cells #[.pointer (some ⟨B,0,none⟩)] 74 (0,0)):=(Below.heap_alloc W58 _ _ (by omega)).trans fP58
    have fD59:(W58.alloc (.cells #[.int .i64 t.ln,.int .i64 t.co] 37)).heap[D]? = some (.cells #[.int .i64 0,.bool false,.bool n1,.bool n2,.string n3,.string ⟨#[]⟩,.slice none 0 0,.slice none 0 0,.slice none 0 0,.slice none 0 0,.slice none 0 0,.slice none 0 0,.slice none 0 0,.bool false,.slice none 0 0,.int .i64 0,.int .i64 0] 62 (0,0)):=(Below.heap_alloc W58 _ _ (by omega)).trans fD58
    have fK59:(W58.alloc (.cells #[.int .i64 t.ln,.int .i64 t.co] 37)).heap[kb]? = some (.cells KB 148 (0,0)):=(Below.heap_alloc W58 _ _ (by omega)).trans fK58
    have fQ59:(W58.alloc (.cells #[.int .i64 t.ln,.int .i64 t.co] 37)).heap[W50.heap.size]? = some (.cells #[.string kw,.int .i64 ((i:Int)+1),.func (.func f) #[] #[]] 148 (0,0)):=(Below.heap_alloc W58 _ _ (by omega)).trans fQ58
    have fO59:(W58.alloc (.cells #[.int .i64 t.ln,.int .i64 t.co] 37)).heap[W58.heap.size]? = some (.cells #[.int .i64 t.ln,.int .i64 t.co] 37 (0,0)):=heap_alloc_new _ _;have bb59:Below W58.heap.size W58 (W58.alloc (.cells #[.int .i64 t.ln,.int .i64 t.co] 37)):=ba;have C59:=C58.below bb59;have K59:=K58.trans (Kp.of bb59);have cP60_0:(W58.alloc (.cells #[.int .i64 t.ln,.int .i64 t.co] 37)).cell? ⟨w.heap.size,0,none⟩=some (.pointer (some ⟨B,0,none⟩)):=(zG fP59 0).trans rfl
    have cQ61_0:(W58.alloc (.cells #[.int .i64 t.ln,.int .i64 t.co] 37)).cell? ⟨W50.heap.size,0,none⟩=some (.string kw):=(zG fQ59 0).trans rfl;have HH62:=Hi (an fP59 (an fD59 (an fK59 (an fQ59 (an fO59 (an C59 (an K59 (an fP58 (an fD58 (an fK58 (an fQ58 (an K58 (C58)))))))))))));clear fP59 fD59 fK59 fQ59 fO59 C59 K59 fP58 fD58 fK58 fQ58 K58 C58
    go_wp2_with fail
    obtain⟨fP59,fD59,fK59,fQ59,fO59,C59,K59,fP58,fD58,fK58,fQ58,K58,C58⟩:=uh HH62;clear HH62;obtain⟨W63,hW63⟩:∃ W63,W63=(W58.alloc (.cells #[.int .i64 t.ln,.int .i64 t.co] 37)):=⟨_,rfl⟩;rw[← hW63] at fP59 fD59 fK59 fQ59 fO59 C59 K59 ⊢;have sz63:W58.heap.size+1≤W63.heap.size:=by rw[hW63];simp only[zaf,dt.zaa,World.size_alloc];exact lr _
    clear hW63 cP60_0 cQ61_0 fP58 fD58 fK58 fQ58 K58 C58;refine (zeP kw C59).mono ?_
    rintro e W64 ⟨u,q,qEW,rfl,C64,J64⟩;have EW:=Hi qEW;clear qEW;have sz64:=J64.size;have fP64:W64.heap[w.heap.size]? = some (.cells #[.pointer (some ⟨B,0,none⟩)] 74 (0,0)):=(J64.block _ (by omega) (by omega)).trans fP59
    have fD64:W64.heap[D]? = some (.cells #[.int .i64 0,.bool false,.bool n1,.bool n2,.string n3,.string ⟨#[]⟩,.slice none 0 0,.slice none 0 0,.slice none 0 0,.slice none 0 0,.slice none 0 0,.slice none 0 0,.slice none 0 0,.bool false,.slice none 0 0,.int .i64 0,.int .i64 0] 62 (0,0)):=(J64.block _ (by omega) (by omega)).trans fD59
    have fK64:W64.heap[kb]? = some (.cells KB 148 (0,0)):=(J64.block _ (by omega) (by omega)).trans fK59
    have fQ64:W64.heap[W50.heap.size]? = some (.cells #[.string kw,.int .i64 ((i:Int)+1),.func (.func f) #[] #[]] 148 (0,0)):=(J64.block _ (by omega) (by omega)).trans fQ59
    have fO64:W64.heap[W58.heap.size]? = some (.cells #[.int .i64 t.ln,.int .i64 t.co] 37 (0,0)):=(J64.block _ (by omega) (by omega)).trans fO59
    have K64:=K59.trans J64;clear fP59 fD59 fK59 fQ59 fO59 K59 C59 J64
    cases q
    ·have hu:=zkV (uh EW)
     subst hu;have hrun4:=Hi ((zpJ (uh EW) rfl).symm.trans (uh hrun3));clear hcall hrun3 EW;have HH65:=Hi (an fP64 (an fD64 (an fK64 (an fQ64 (an fO64 (an C64 (K64)))))));clear fP64 fD64 fK64 fQ64 fO64 C64 K64
     go_wp2_with fail
     obtain⟨fP64,fD64,fK64,fQ64,fO64,C64,K64⟩:=uh HH65;clear HH65
     go_roundg g
     case rel=>exact⟨i+1,by simp,by omega,hrun4,C64,Hi fP64,Hi fD64,Hi fK64,K64,by omega⟩
     case measure=>exact Nat.lt_succ_self _
    ·have cQ65_0:W64.cell? ⟨W50.heap.size,0,none⟩=some (.string kw):=(zG fQ64 0).trans rfl
     have cQ65_1:W64.cell? ⟨W50.heap.size,1,none⟩=some (.int .i64 ((i:Int)+1)):=(zG fQ64 1).trans rfl;have cQ65_2:W64.cell? ⟨W50.heap.size,2,none⟩=some (.func (.func f) #[] #[]):=(zG fQ64 2).trans rfl;have cO66_0:W64.cell? ⟨W58.heap.size,0,none⟩=some (.int .i64 t.ln):=(zG fO64 0).trans rfl;have cO66_1:W64.cell? ⟨W58.heap.size,1,none⟩=some (.int .i64 t.co):=(zG fO64 1).trans rfl
     have cP67_0:W64.cell? ⟨w.heap.size,0,none⟩=some (.pointer (some ⟨B,0,none⟩)):=(zG fP64 0).trans rfl;have cD68_0:W64.cell? ⟨D,0,none⟩=some (.int .i64 0):=(zG fD64 0).trans rfl;have cD68_15:W64.cell? ⟨D,15,none⟩=some (.int .i64 0):=(zG fD64 15).trans rfl;have cD68_16:W64.cell? ⟨D,16,none⟩=some (.int .i64 0):=(zG fD64 16).trans rfl;have zD68_0:W64.frozen? ⟨D,0,none⟩=false:=dt.zag fD64 0
     have zD68_15:W64.frozen? ⟨D,15,none⟩=false:=dt.zag fD64 15;have zD68_16:W64.frozen? ⟨D,16,none⟩=false:=dt.zag fD64 16;have HH:=Hi (an fP64 (an fD64 (an fK64 (an fQ64 (an fO64 (an C64 (K64)))))));clear fP64 fD64 fK64 fQ64 fO64 C64 K64
     go_wp2_with fail
     go_region
     obtain⟨fP64,fD64,fK64,fQ64,fO64,C64,K64⟩:=uh HH;have g1:(W64.setCell ⟨D,0,none⟩ (.int .i64 ((i:Int)+1))).heap[D]? = some (.cells #[.int .i64 ((i:Int)+1),.bool false,.bool n1,.bool n2,.string n3,.string ⟨#[]⟩,.slice none 0 0,.slice none 0 0,.slice none 0 0,.slice none 0 0,.slice none 0 0,.slice none 0 0,.slice none 0 0,.bool false,.slice none 0 0,.int .i64 0,.int .i64 0] 62 (0,0)):=(dt.zac fD64 0 _).trans (by kernel_rfl)
     have g2:((W64.setCell ⟨D,0,none⟩ (.int .i64 ((i:Int)+1))).setCell ⟨D,15,none⟩ (.int .i64 t.ln)).heap[D]? = some (.cells #[.int .i64 ((i:Int)+1),.bool false,.bool n1,.bool n2,.string n3,.string ⟨#[]⟩,.slice none 0 0,.slice none 0 0,.slice none 0 0,.slice none 0 0,.slice none 0 0,.slice none 0 0,.slice none 0 0,.bool false,.slice none 0 0,.int .i64 t.ln,.int .i64 0] 62 (0,0)):=(dt.zac g1 15 _).trans (by kernel_rfl)
     have g3:(((W64.setCell ⟨D,0,none⟩ (.int .i64 ((i:Int)+1))).setCell ⟨D,15,none⟩ (.int .i64 t.ln)).setCell ⟨D,16,none⟩ (.int .i64 t.co)).heap[D]? = some (.cells #[.int .i64 ((i:Int)+1),.bool false,.bool n1,.bool n2,.string n3,.string ⟨#[]⟩,.slice none 0 0,.slice none 0 0,.slice none 0 0,.slice none 0 0,.slice none 0 0,.slice none 0 0,.slice none 0 0,.bool false,.slice none 0 0,.int .i64 t.ln,.int .i64 t.co] 62 (0,0)):=(dt.zac g2 16 _).trans (by kernel_rfl)
     have hC:=((C64.outC (b:=D) (by omega) (by omega) 0 (.int .i64 ((i:Int)+1))).outC (b:=D) (by omega) (by omega) 15 (.int .i64 t.ln)).outC (b:=D) (by omega) (by omega) 16 (.int .i64 t.co)
     have hK:=(((Kq.of (D:=D) K64).setB (.inl rfl) 0 (.int .i64 ((i:Int)+1))).setB (.inl rfl) 15 (.int .i64 t.ln)).setB (.inl rfl) 16 (.int .i64 t.co);have gP:(((W64.setCell ⟨D,0,none⟩ (.int .i64 ((i:Int)+1))).setCell ⟨D,15,none⟩ (.int .i64 t.ln)).setCell ⟨D,16,none⟩ (.int .i64 t.co)).heap[w.heap.size]? = some (.cells #[.pointer (some ⟨B,0,none⟩)] 74 (0,0)):=(Below.heap_setCell _ _ _ _ (show w.heap.size ≠ D by omega)).trans ((Below.heap_setCell _ _ _ _ (show w.heap.size ≠ D by omega)).trans ((Below.heap_setCell _ _ _ _ (show w.heap.size ≠ D by omega)).trans fP64))
     have gQ:(((W64.setCell ⟨D,0,none⟩ (.int .i64 ((i:Int)+1))).setCell ⟨D,15,none⟩ (.int .i64 t.ln)).setCell ⟨D,16,none⟩ (.int .i64 t.co)).heap[W50.heap.size]? = some (.cells #[.string kw,.int .i64 ((i:Int)+1),.func (.func f) #[] #[]] 148 (0,0)):=(Below.heap_setCell _ _ _ _ (show W50.heap.size ≠ D by omega)).trans ((Below.heap_setCell _ _ _ _ (show W50.heap.size ≠ D by omega)).trans ((Below.heap_setCell _ _ _ _ (show W50.heap.size ≠ D by omega)).trans fQ64))
     have bD:Below (((W64.setCell ⟨D,0,none⟩ (.int .i64 ((i:Int)+1))).setCell ⟨D,15,none⟩ (.int .i64 t.ln)).setCell ⟨D,16,none⟩ (.int .i64 t.co)).heap.size (((W64.setCell ⟨D,0,none⟩ (.int .i64 ((i:Int)+1))).setCell ⟨D,15,none⟩ (.int .i64 t.ln)).setCell ⟨D,16,none⟩ (.int .i64 t.co)) (((W64.setCell ⟨D,0,none⟩ (.int .i64 ((i:Int)+1))).setCell ⟨D,15,none⟩ (.int .i64 t.ln)).setCell ⟨D,16,none⟩ (.int .i64 t.co)).drew:=(Below.refl _ _).drew
     have szz:(((W64.setCell ⟨D,0,none⟩ (.int .i64 ((i:Int)+1))).setCell ⟨D,15,none⟩ (.int .i64 t.ln)).setCell ⟨D,16,none⟩ (.int .i64 t.co)).heap.size=W64.heap.size:=by simp only[zaf]
     obtain⟨Z,hZ⟩:∃ Z,Z=(((W64.setCell ⟨D,0,none⟩ (.int .i64 ((i:Int)+1))).setCell ⟨D,15,none⟩ (.int .i64 t.ln)).setCell ⟨D,16,none⟩ (.int .i64 t.co)).drew:=⟨_,rfl⟩;have C9:=hC.below bD;have K9:=hK.trans (Kp.of bD);have fD9:=(bD.block D (by omega)).trans g3
     have fP9:=(bD.block w.heap.size (by omega)).trans gP
     have fQ9:=(bD.block W50.heap.size (by omega)).trans gQ
     have sz9:=bD.size;rw[szz] at sz9;rw[← hZ] at C9 K9 fD9 fP9 fQ9 sz9 ⊢;clear fP64 fD64 fK64 fQ64 fO64 C64 K64 g1 g2 g3 hC hK gP gQ bD szz hZ cQ65_0 cQ65_1 cQ65_2 cO66_0 cO66_1 cP67_0 cD68_0 cD68_15 cD68_16 zD68_0 zD68_15 zD68_16;have cP9:Z.cell? ⟨w.heap.size,0,none⟩=some (.pointer (some ⟨B,0,none⟩)):=(zG fP9 0).trans rfl;have cQ9:Z.cell? ⟨W50.heap.size,2,none⟩=some (.func (.func f) #[] #[]):=(zG fQ9 2).trans rfl
     have hcl:=Hi ((uh hcall) _ _ _ _ _ fD9 C9);have HKQ:=Hi K9;clear hcall fP9 fQ9 fD9 C9 K9
     go_wp2_with fail
     refine (uh hcl).mono ?_
     rintro e Wf ⟨s,c9,cs,F9,qE9,rfl,hS9,fDf,hF9,Cf,Jf⟩;have hfin:=(uh hkey).trans ((uh hrun3).symm.trans (zmI (uh EW) (show krd N i ((Sy.of (n1,n2,n3) false).at (i+1) t) u=(s,c9) from qE9)))
     have HF:=Hi (an hfin (an hS9 (an fDf (an (hF9.mono (lo':=w.heap.size) (by omega) (lr _) (lr _)) (an Cf ((uh HKQ).transQ Jf))))))
     clear hfin hS9 fDf hF9 Cf Jf qE9 hcl
     go_wp2_with fail
     try simp only[Exit.inBlock,Exit.then]
     refine bodyPost_ret (results_none rfl _ _ _) rfl ?_
     obtain⟨hfin,hS9,fDf,hF9,Cf,Kf⟩:=uh HF;exact⟨s,c9,cs,F9,hfin,rfl,hS9,fDf,hF9,Cf,Kf⟩
   ·by_cases h7:i=7
    ·have i7:((i:Int)+1 == 8)=true:=by rw[beq_iff_eq];omega
     have hrun3:=Hi (show ksF N (Sy.of (n1,n2,n3) true) t g (i+1) c=R from by have e:=uh hrun2;rw[show (i == 7)=true from by rw[beq_iff_eq];exact h7] at e;exact e)
     clear h7;clear hrun2;have fP51:(W50.alloc (.cells #[.string ⟨#[]⟩,.int .i64 0,.nilFunc] 148)).heap[w.heap.size]? = some (.cells #[.pointer (some ⟨B,0,none⟩)] 74 (0,0)):=(Below.heap_alloc W50 _ _ (by omega)).trans fP
     have fD51:(W50.alloc (.cells #[.string ⟨#[]⟩,.int .i64 0,.nilFunc] 148)).heap[D]? = some (.cells #[.int .i64 0,.bool true,.bool n1,.bool n2,.string n3,.string ⟨#[]⟩,.slice none 0 0,.slice none 0 0,.slice none 0 0,.slice none 0 0,.slice none 0 0,.slice none 0 0,.slice none 0 0,.bool false,.slice none 0 0,.int .i64 0,.int .i64 0] 62 (0,0)):=(Below.heap_alloc W50 _ _ (by omega)).trans fD
     have fK51:(W50.alloc (.cells #[.string ⟨#[]⟩,.int .i64 0,.nilFunc] 148)).heap[kb]? = some (.cells KB 148 (0,0)):=(Below.heap_alloc W50 _ _ (by omega)).trans fK
     have fQ51:(W50.alloc (.cells #[.string ⟨#[]⟩,.int .i64 0,.nilFunc] 148)).heap[W50.heap.size]? = some (.cells #[.string ⟨#[]⟩,.int .i64 0,.nilFunc] 148 (0,0)):=heap_alloc_new _ _;have bb51:Below W50.heap.size W50 (W50.alloc (.cells #[.string ⟨#[]⟩,.int .i64 0,.nilFunc] 148)):=ba;have C51:=hcc.below bb51;have K51:=hkp.trans (Kp.of bb51);have HT52:=Hi (dt.zab fQ51 (o:=0) (n:=3) (by first | decide | simp))
     have fP52:((W50.alloc (.cells #[.string ⟨#[]⟩,.int .i64 0,.nilFunc] 148)).setCells W50.heap.size 0 [.string kw,.int .i64 ((i:Int)+1),.func (.func f) #[] #[]]).heap[w.heap.size]? = some (.cells #[.pointer (some ⟨B,0,none⟩)] 74 (0,0)):=(dt.zai W50.heap.size _ (show w.heap.size ≠ W50.heap.size by omega) _ 0 (W50.alloc (.cells #[.string ⟨#[]⟩,.int .i64 0,.nilFunc] 148))).trans fP51
     have fD52:((W50.alloc (.cells #[.string ⟨#[]⟩,.int .i64 0,.nilFunc] 148)).setCells W50.heap.size 0 [.string kw,.int .i64 ((i:Int)+1),.func (.func f) #[] #[]]).heap[D]? = some (.cells #[.int .i64 0,.bool true,.bool n1,.bool n2,.string n3,.string ⟨#[]⟩,.slice none 0 0,.slice none 0 0,.slice none 0 0,.slice none 0 0,.slice none 0 0,.slice none 0 0,.slice none 0 0,.bool false,.slice none 0 0,.int .i64 0,.int .i64 0] 62 (0,0)):=(dt.zai W50.heap.size _ (show D ≠ W50.heap.size by omega) _ 0 (W50.alloc (.cells #[.string ⟨#[]⟩,.int .i64 0,.nilFunc] 148))).trans fD51
     have fK52:((W50.alloc (.cells #[.string ⟨#[]⟩,.int .i64 0,.nilFunc] 148)).setCells W50.heap.size 0 [.string kw,.int .i64 ((i:Int)+1),.func (.func f) #[] #[]]).heap[kb]? = some (.cells KB 148 (0,0)):=(dt.zai W50.heap.size _ (show kb ≠ W50.heap.size by omega) _ 0 (W50.alloc (.cells #[.string ⟨#[]⟩,.int .i64 0,.nilFunc] 148))).trans fK51
     have fQ52:((W50.alloc (.cells #[.string ⟨#[]⟩,.int .i64 0,.nilFunc] 148)).setCells W50.heap.size 0 [.string kw,.int .i64 ((i:Int)+1),.func (.func f) #[] #[]]).heap[W50.heap.size]? = some (.cells #[.string kw,.int .i64 ((i:Int)+1),.func (.func f) #[] #[]] 148 (0,0)):=(dt.zaD [.string kw,.int .i64 ((i:Int)+1),.func (.func f) #[] #[]] 0 (W50.alloc (.cells #[.string ⟨#[]⟩,.int .i64 0,.nilFunc] 148)) _ fQ51).trans (by kernel_rfl)
     have C52:=C51.out (b:=W50.heap.size) (by omega) (by omega) 0 [.string kw,.int .i64 ((i:Int)+1),.func (.func f) #[] #[]]
     have K52:=K51.out (b:=W50.heap.size) (by omega) 0 [.string kw,.int .i64 ((i:Int)+1),.func (.func f) #[] #[]]
     obtain⟨W53,hW53⟩:∃ W53,W53=((W50.alloc (.cells #[.string ⟨#[]⟩,.int .i64 0,.nilFunc] 148)).setCells W50.heap.size 0 [.string kw,.int .i64 ((i:Int)+1),.func (.func f) #[] #[]]):=⟨_,rfl⟩;rw[← hW53] at fP52 fD52 fK52 fQ52 C52 K52;have sz53:W50.heap.size+1≤W53.heap.size:=by rw[hW53];simp only[zaf,dt.zaa,World.size_alloc];exact lr _
     have GW53:=Hi hW53;clear hW53 fP fD fK hkp hcc fP51 fD51 fK51 fQ51 K51 C51;have cD54_1:W53.cell? ⟨D,1,none⟩=some (.bool true):=(zG fD52 1).trans rfl;have cQ55_0:W53.cell? ⟨W50.heap.size,0,none⟩=some (.string kw):=(zG fQ52 0).trans rfl;have cQ55_1:W53.cell? ⟨W50.heap.size,1,none⟩=some (.int .i64 ((i:Int)+1)):=(zG fQ52 1).trans rfl;have cQ55_2:W53.cell? ⟨W50.heap.size,2,none⟩=some (.func (.func f) #[] #[]):=(zG fQ52 2).trans rfl
     have cP56_0:W53.cell? ⟨w.heap.size,0,none⟩=some (.pointer (some ⟨B,0,none⟩)):=(zG fP52 0).trans rfl;have HH57:=Hi (an fP52 (an fD52 (an fK52 (an fQ52 (an C52 (K52))))));clear fP52 fD52 fK52 fQ52 C52 K52
     go_wp2_with (first
      | (refine wpList_store_mid (by rfl) 148 _ _ (by rfl) W50.heap.size 0 #[.string kw,.int .i64 ((i:Int)+1),.func (.func f) #[] #[]] (by rfl) (by rfl) (uh HT52) infoKw (dt.zae (cs:=[.string kw,.int .i64 ((i:Int)+1),.func (.func f) #[] #[]]) (by rfl)) ?_;rw[show (W50.alloc (.cells #[.string ⟨#[]⟩,.int .i64 0,.nilFunc] 148)).setCells W50.heap.size 0 (#[.string kw,.int .i64 ((i:Int)+1),.func (.func f) #[] #[]]:Array Value).toList=W53 from (uh GW53).symm]))
     obtain⟨fP52,fD52,fK52,fQ52,C52,K52⟩:=uh HH57;clear HH57;clear GW53
     go_roundg g
     case rel=>exact⟨i+1,by simp,by omega,hrun3,C52,Hi fP52,Hi fD52,Hi fK52,K52,by omega⟩
     case measure=>exact Nat.lt_succ_self _
    ·have i7:((i:Int)+1 == 8)=false:=by rw[beq_eq_false_iff_ne];omega
     have hrun3:=Hi (show kwT kw (krd N i ((Sy.of (n1,n2,n3) true).at (i+1) t)) (ksF N (Sy.of (n1,n2,n3) true) t g (i+1)) c=R from by have e:=uh hrun2;rw[show (i == 7)=false from by rw[beq_eq_false_iff_ne];exact h7] at e;exact e)
     clear h7;clear hrun2;have fP51:(W50.alloc (.cells #[.string ⟨#[]⟩,.int .i64 0,.nilFunc] 148)).heap[w.heap.size]? = some (.cells #[.pointer (some ⟨B,0,none⟩)] 74 (0,0)):=(Below.heap_alloc W50 _ _ (by omega)).trans fP
     have fD51:(W50.alloc (.cells #[.string ⟨#[]⟩,.int .i64 0,.nilFunc] 148)).heap[D]? = some (.cells #[.int .i64 0,.bool true,.bool n1,.bool n2,.string n3,.string ⟨#[]⟩,.slice none 0 0,.slice none 0 0,.slice none 0 0,.slice none 0 0,.slice none 0 0,.slice none 0 0,.slice none 0 0,.bool false,.slice none 0 0,.int .i64 0,.int .i64 0] 62 (0,0)):=(Below.heap_alloc W50 _ _ (by omega)).trans fD
     have fK51:(W50.alloc (.cells #[.string ⟨#[]⟩,.int .i64 0,.nilFunc] 148)).heap[kb]? = some (.cells KB 148 (0,0)):=(Below.heap_alloc W50 _ _ (by omega)).trans fK
     have fQ51:(W50.alloc (.cells #[.string ⟨#[]⟩,.int .i64 0,.nilFunc] 148)).heap[W50.heap.size]? = some (.cells #[.string ⟨#[]⟩,.int .i64 0,.nilFunc] 148 (0,0)):=heap_alloc_new _ _;have bb51:Below W50.heap.size W50 (W50.alloc (.cells #[.string ⟨#[]⟩,.int .i64 0,.nilFunc] 148)):=ba;have C51:=hcc.below bb51;have K51:=hkp.trans (Kp.of bb51);have HT52:=Hi (dt.zab fQ51 (o:=0) (n:=3) (by first | decide | simp))
     have fP52:((W50.alloc (.cells #[.string ⟨#[]⟩,.int .i64 0,.nilFunc] 148)).setCells W50.heap.size 0 [.string kw,.int .i64 ((i:Int)+1),.func (.func f) #[] #[]]).heap[w.heap.size]? = some (.cells #[.pointer (some ⟨B,0,none⟩)] 74 (0,0)):=(dt.zai W50.heap.size _ (show w.heap.size ≠ W50.heap.size by omega) _ 0 (W50.alloc (.cells #[.string ⟨#[]⟩,.int .i64 0,.nilFunc] 148))).trans fP51
     have fD52:((W50.alloc (.cells #[.string ⟨#[]⟩,.int .i64 0,.nilFunc] 148)).setCells W50.heap.size 0 [.string kw,.int .i64 ((i:Int)+1),.func (.func f) #[] #[]]).heap[D]? = some (.cells #[.int .i64 0,.bool true,.bool n1,.bool n2,.string n3,.string ⟨#[]⟩,.slice none 0 0,.slice none 0 0,.slice none 0 0,.slice none 0 0,.slice none 0 0,.slice none 0 0,.slice none 0 0,.bool false,.slice none 0 0,.int .i64 0,.int .i64 0] 62 (0,0)):=(dt.zai W50.heap.size _ (show D ≠ W50.heap.size by omega) _ 0 (W50.alloc (.cells #[.string ⟨#[]⟩,.int .i64 0,.nilFunc] 148))).trans fD51
     have fK52:((W50.alloc (.cells #[.string ⟨#[]⟩,.int .i64 0,.nilFunc] 148)).setCells W50.heap.size 0 [.string kw,.int .i64 ((i:Int)+1),.func (.func f) #[] #[]]).heap[kb]? = some (.cells KB 148 (0,0)):=(dt.zai W50.heap.size _ (show kb ≠ W50.heap.size by omega) _ 0 (W50.alloc (.cells #[.string ⟨#[]⟩,.int .i64 0,.nilFunc] 148))).trans fK51
     have fQ52:((W50.alloc (.cells #[.string ⟨#[]⟩,.int .i64 0,.nilFunc] 148)).setCells W50.heap.size 0 [.string kw,.int .i64 ((i:Int)+1),.func (.func f) #[] #[]]).heap[W50.heap.size]? = some (.cells #[.string kw,.int .i64 ((i:Int)+1),.func (.func f) #[] #[]] 148 (0,0)):=(dt.zaD [.string kw,.int .i64 ((i:Int)+1),.func (.func f) #[] #[]] 0 (W50.alloc (.cells #[.string ⟨#[]⟩,.int .i64 0,.nilFunc] 148)) _ fQ51).trans (by kernel_rfl)
     have C52:=C51.out (b:=W50.heap.size) (by omega) (by omega) 0 [.string kw,.int .i64 ((i:Int)+1),.func (.func f) #[] #[]]
     have K52:=K51.out (b:=W50.heap.size) (by omega) 0 [.string kw,.int .i64 ((i:Int)+1),.func (.func f) #[] #[]]
     obtain⟨W53,hW53⟩:∃ W53,W53=((W50.alloc (.cells #[.string ⟨#[]⟩,.int .i64 0,.nilFunc] 148)).setCells W50.heap.size 0 [.string kw,.int .i64 ((i:Int)+1),.func (.func f) #[] #[]]):=⟨_,rfl⟩;rw[← hW53] at fP52 fD52 fK52 fQ52 C52 K52;have sz53:W50.heap.size+1≤W53.heap.size:=by rw[hW53];simp only[zaf,dt.zaa,World.size_alloc];exact lr _
     have GW53:=Hi hW53;clear hW53 fP fD fK hkp hcc fP51 fD51 fK51 fQ51 K51 C51;have cD54_1:W53.cell? ⟨D,1,none⟩=some (.bool true):=(zG fD52 1).trans rfl;have cQ55_0:W53.cell? ⟨W50.heap.size,0,none⟩=some (.string kw):=(zG fQ52 0).trans rfl;have cQ55_1:W53.cell? ⟨W50.heap.size,1,none⟩=some (.int .i64 ((i:Int)+1)):=(zG fQ52 1).trans rfl;have cQ55_2:W53.cell? ⟨W50.heap.size,2,none⟩=some (.func (.func f) #[] #[]):=(zG fQ52 2).trans rfl
     have cP56_0:W53.cell? ⟨w.heap.size,0,none⟩=some (.pointer (some ⟨B,0,none⟩)):=(zG fP52 0).trans rfl;have HH57:=Hi (an fP52 (an fD52 (an fK52 (an fQ52 (an C52 (K52))))));clear fP52 fD52 fK52 fQ52 C52 K52
     go_wp2_with (first
      | (refine wpList_store_mid (by rfl) 148 _ _ (by rfl) W50.heap.size 0 #[.string kw,.int .i64 ((i:Int)+1),.func (.func f) #[] #[]] (by rfl) (by rfl) (uh HT52) infoKw (dt.zae (cs:=[.string kw,.int .i64 ((i:Int)+1),.func (.func f) #[] #[]]) (by rfl)) ?_;rw[show (W50.alloc (.cells #[.string ⟨#[]⟩,.int .i64 0,.nilFunc] 148)).setCells W50.heap.size 0 (#[.string kw,.int .i64 ((i:Int)+1),.func (.func f) #[] #[]]:Array Value).toList=W53 from (uh GW53).symm]))
     obtain⟨fP52,fD52,fK52,fQ52,C52,K52⟩:=uh HH57;clear HH57;clear GW53;refine ((uh htk) _ C52).mono ?_
     rintro e W58 ⟨rfl,bb58⟩;have J58:Kp B W53 W58:=Kp.of bb58;have C58:=C52.below bb58;have sz58:=J58.size;have fP58:W58.heap[w.heap.size]? = some (.cells #[.pointer (some ⟨B,0,none⟩)] 74 (0,0)):=(J58.block _ (by omega) (by omega)).trans fP52
     have fD58:W58.heap[D]? = some (.cells #[.int .i64 0,.bool true,.bool n1,.bool n2,.string n3,.string ⟨#[]⟩,.slice none 0 0,.slice none 0 0,.slice none 0 0,.slice none 0 0,.slice none 0 0,.slice none 0 0,.slice none 0 0,.bool false,.slice none 0 0,.int .i64 0,.int .i64 0] 62 (0,0)):=(J58.block _ (by omega) (by omega)).trans fD52
     have fK58:W58.heap[kb]? = some (.cells KB 148 (0,0)):=(J58.block _ (by omega) (by omega)).trans fK52
     have fQ58:W58.heap[W50.heap.size]? = some (.cells #[.string kw,.int .i64 ((i:Int)+1),.func (.func f) #[] #[]] 148 (0,0)):=(J58.block _ (by omega) (by omega)).trans fQ52
     have K58:=K52.trans J58;clear fP52 fD52 fK52 fQ52 K52 C52 J58 cD54_1 cQ55_0 cQ55_1 cQ55_2 cP56_0;clear htk;have fP59:(W58.alloc (.cells #[.int .i64 t.ln,.int .i64 t.co] 37)).heap[w.heap.size]? = some (.cells #[.pointer (some ⟨B,0,none⟩)] 74 (0,0)):=(Below.heap_alloc W58 _ _ (by omega)).trans fP58
     have fD59:(W58.alloc (.cells #[.int .i64 t.ln,.int .i64 t.co] 37)).heap[D]? = some (.cells #[.int .i64 0,.bool true,.bool n1,.bool n2,.string n3,.string ⟨#[]⟩,.slice none 0 0,.slice none 0 0,.slice none 0 0,.slice none 0 0,.slice none 0 0,.slice none 0 0,.slice none 0 0,.bool false,.slice none 0 0,.int .i64 0,.int .i64 0] 62 (0,0)):=(Below.heap_alloc W58 _ _ (by omega)).trans fD58
     have fK59:(W58.alloc (.cells #[.int .i64 t.ln,.int .i64 t.co] 37)).heap[kb]? = some (.cells KB 148 (0,0)):=(Below.heap_alloc W58 _ _ (by omega)).trans fK58
     have fQ59:(W58.alloc (.cells #[.int .i64 t.ln,.int .i64 t.co] 37)).heap[W50.heap.size]? = some (.cells #[.string kw,.int .i64 ((i:Int)+1),.func (.func f) #[] #[]] 148 (0,0)):=(Below.heap_alloc W58 _ _ (by omega)).trans fQ58
     have fO59:(W58.alloc (.cells #[.int .i64 t.ln,.int .i64 t.co] 37)).heap[W58.heap.size]? = some (.cells #[.int .i64 t.ln,.int .i64 t.co] 37 (0,0)):=heap_alloc_new _ _;have bb59:Below W58.heap.size W58 (W58.alloc (.cells #[.int .i64 t.ln,.int .i64 t.co] 37)):=ba;have C59:=C58.below bb59;have K59:=K58.trans (Kp.of bb59);have cP60_0:(W58.alloc (.cells #[.int .i64 t.ln,.int .i64 t.co] 37)).cell? ⟨w.heap.size,0,none⟩=some (.pointer (some ⟨B,0,none⟩)):=(zG fP59 0).trans rfl
     have cQ61_0:(W58.alloc (.cells #[.int .i64 t.ln,.int .i64 t.co] 37)).cell? ⟨W50.heap.size,0,none⟩=some (.string kw):=(zG fQ59 0).trans rfl;have HH62:=Hi (an fP59 (an fD59 (an fK59 (an fQ59 (an fO59 (an C59 (an K59 (an fP58 (an fD58 (an fK58 (an fQ58 (an K58 (C58)))))))))))));clear fP59 fD59 fK59 fQ59 fO59 C59 K59 fP58 fD58 fK58 fQ58 K58 C58
     go_wp2_with fail
     obtain⟨fP59,fD59,fK59,fQ59,fO59,C59,K59,fP58,fD58,fK58,fQ58,K58,C58⟩:=uh HH62;clear HH62;obtain⟨W63,hW63⟩:∃ W63,W63=(W58.alloc (.cells #[.int .i64 t.ln,.int .i64 t.co] 37)):=⟨_,rfl⟩;rw[← hW63] at fP59 fD59 fK59 fQ59 fO59 C59 K59 ⊢;have sz63:W58.heap.size+1≤W63.heap.size:=by rw[hW63];simp only[zaf,dt.zaa,World.size_alloc];exact lr _
     clear hW63 cP60_0 cQ61_0 fP58 fD58 fK58 fQ58 K58 C58;refine (zeP kw C59).mono ?_
     rintro e W64 ⟨u,q,qEW,rfl,C64,J64⟩;have EW:=Hi qEW;clear qEW;have sz64:=J64.size;have fP64:W64.heap[w.heap.size]? = some (.cells #[.pointer (some ⟨B,0,none⟩)] 74 (0,0)):=(J64.block _ (by omega) (by omega)).trans fP59
     have fD64:W64.heap[D]? = some (.cells #[.int .i64 0,.bool true,.bool n1,.bool n2,.string n3,.string ⟨#[]⟩,.slice none 0 0,.slice none 0 0,.slice none 0 0,.slice none 0 0,.slice none 0 0,.slice none 0 0,.slice none 0 0,.bool false,.slice none 0 0,.int .i64 0,.int .i64 0] 62 (0,0)):=(J64.block _ (by omega) (by omega)).trans fD59
     have fK64:W64.heap[kb]? = some (.cells KB 148 (0,0)):=(J64.block _ (by omega) (by omega)).trans fK59
     have fQ64:W64.heap[W50.heap.size]? = some (.cells #[.string kw,.int .i64 ((i:Int)+1),.func (.func f) #[] #[]] 148 (0,0)):=(J64.block _ (by omega) (by omega)).trans fQ59
     have fO64:W64.heap[W58.heap.size]? = some (.cells #[.int .i64 t.ln,.int .i64 t.co] 37 (0,0)):=(J64.block _ (by omega) (by omega)).trans fO59
     have K64:=K59.trans J64;clear fP59 fD59 fK59 fQ59 fO59 K59 C59 J64
     cases q
     ·have hu:=zkV (uh EW)
      subst hu;have hrun4:=Hi ((zpJ (uh EW) rfl).symm.trans (uh hrun3));clear hcall hrun3 EW;have HH65:=Hi (an fP64 (an fD64 (an fK64 (an fQ64 (an fO64 (an C64 (K64)))))));clear fP64 fD64 fK64 fQ64 fO64 C64 K64
      go_wp2_with fail
      obtain⟨fP64,fD64,fK64,fQ64,fO64,C64,K64⟩:=uh HH65;clear HH65
      go_roundg g
      case rel=>exact⟨i+1,by simp,by omega,hrun4,C64,Hi fP64,Hi fD64,Hi fK64,K64,by omega⟩
      case measure=>exact Nat.lt_succ_self _
     ·have cQ65_0:W64.cell? ⟨W50.heap.size,0,none⟩=some (.string kw):=(zG fQ64 0).trans rfl
      have cQ65_1:W64.cell? ⟨W50.heap.size,1,none⟩=some (.int .i64 ((i:Int)+1)):=(zG fQ64 1).trans rfl;have cQ65_2:W64.cell? ⟨W50.heap.size,2,none⟩=some (.func (.func f) #[] #[]):=(zG fQ64 2).trans rfl;have cO66_0:W64.cell? ⟨W58.heap.size,0,none⟩=some (.int .i64 t.ln):=(zG fO64 0).trans rfl;have cO66_1:W64.cell? ⟨W58.heap.size,1,none⟩=some (.int .i64 t.co):=(zG fO64 1).trans rfl
      have cP67_0:W64.cell? ⟨w.heap.size,0,none⟩=some (.pointer (some ⟨B,0,none⟩)):=(zG fP64 0).trans rfl;have cD68_0:W64.cell? ⟨D,0,none⟩=some (.int .i64 0):=(zG fD64 0).trans rfl;have cD68_15:W64.cell? ⟨D,15,none⟩=some (.int .i64 0):=(zG fD64 15).trans rfl;have cD68_16:W64.cell? ⟨D,16,none⟩=some (.int .i64 0):=(zG fD64 16).trans rfl;have zD68_0:W64.frozen? ⟨D,0,none⟩=false:=dt.zag fD64 0
      have zD68_15:W64.frozen? ⟨D,15,none⟩=false:=dt.zag fD64 15;have zD68_16:W64.frozen? ⟨D,16,none⟩=false:=dt.zag fD64 16;have HH:=Hi (an fP64 (an fD64 (an fK64 (an fQ64 (an fO64 (an C64 (K64)))))));clear fP64 fD64 fK64 fQ64 fO64 C64 K64
      go_wp2_with fail
      go_region
      obtain⟨fP64,fD64,fK64,fQ64,fO64,C64,K64⟩:=uh HH;have g1:(W64.setCell ⟨D,0,none⟩ (.int .i64 ((i:Int)+1))).heap[D]? = some (.cells #[.int .i64 ((i:Int)+1),.bool true,.bool n1,.bool n2,.string n3,.string ⟨#[]⟩,.slice none 0 0,.slice none 0 0,.slice none 0 0,.slice none 0 0,.slice none 0 0,.slice none 0 0,.slice none 0 0,.bool false,.slice none 0 0,.int .i64 0,.int .i64 0] 62 (0,0)):=(dt.zac fD64 0 _).trans (by kernel_rfl)
      have g2:((W64.setCell ⟨D,0,none⟩ (.int .i64 ((i:Int)+1))).setCell ⟨D,15,none⟩ (.int .i64 t.ln)).heap[D]? = some (.cells #[.int .i64 ((i:Int)+1),.bool true,.bool n1,.bool n2,.string n3,.string ⟨#[]⟩,.slice none 0 0,.slice none 0 0,.slice none 0 0,.slice none 0 0,.slice none 0 0,.slice none 0 0,.slice none 0 0,.bool false,.slice none 0 0,.int .i64 t.ln,.int .i64 0] 62 (0,0)):=(dt.zac g1 15 _).trans (by kernel_rfl)
      have g3:(((W64.setCell ⟨D,0,none⟩ (.int .i64 ((i:Int)+1))).setCell ⟨D,15,none⟩ (.int .i64 t.ln)).setCell ⟨D,16,none⟩ (.int .i64 t.co)).heap[D]? = some (.cells #[.int .i64 ((i:Int)+1),.bool true,.bool n1,.bool n2,.string n3,.string ⟨#[]⟩,.slice none 0 0,.slice none 0 0,.slice none 0 0,.slice none 0 0,.slice none 0 0,.slice none 0 0,.slice none 0 0,.bool false,.slice none 0 0,.int .i64 t.ln,.int .i64 t.co] 62 (0,0)):=(dt.zac g2 16 _).trans (by kernel_rfl)
      have hC:=((C64.outC (b:=D) (by omega) (by omega) 0 (.int .i64 ((i:Int)+1))).outC (b:=D) (by omega) (by omega) 15 (.int .i64 t.ln)).outC (b:=D) (by omega) (by omega) 16 (.int .i64 t.co)
      have hK:=(((Kq.of (D:=D) K64).setB (.inl rfl) 0 (.int .i64 ((i:Int)+1))).setB (.inl rfl) 15 (.int .i64 t.ln)).setB (.inl rfl) 16 (.int .i64 t.co);have gP:(((W64.setCell ⟨D,0,none⟩ (.int .i64 ((i:Int)+1))).setCell ⟨D,15,none⟩ (.int .i64 t.ln)).setCell ⟨D,16,none⟩ (.int .i64 t.co)).heap[w.heap.size]? = some (.cells #[.pointer (some ⟨B,0,none⟩)] 74 (0,0)):=(Below.heap_setCell _ _ _ _ (show w.heap.size ≠ D by omega)).trans ((Below.heap_setCell _ _ _ _ (show w.heap.size ≠ D by omega)).trans ((Below.heap_setCell _ _ _ _ (show w.heap.size ≠ D by omega)).trans fP64))
      have gQ:(((W64.setCell ⟨D,0,none⟩ (.int .i64 ((i:Int)+1))).setCell ⟨D,15,none⟩ (.int .i64 t.ln)).setCell ⟨D,16,none⟩ (.int .i64 t.co)).heap[W50.heap.size]? = some (.cells #[.string kw,.int .i64 ((i:Int)+1),.func (.func f) #[] #[]] 148 (0,0)):=(Below.heap_setCell _ _ _ _ (show W50.heap.size ≠ D by omega)).trans ((Below.heap_setCell _ _ _ _ (show W50.heap.size ≠ D by omega)).trans ((Below.heap_setCell _ _ _ _ (show W50.heap.size ≠ D by omega)).trans fQ64))
      have bD:Below (((W64.setCell ⟨D,0,none⟩ (.int .i64 ((i:Int)+1))).setCell ⟨D,15,none⟩ (.int .i64 t.ln)).setCell ⟨D,16,none⟩ (.int .i64 t.co)).heap.size (((W64.setCell ⟨D,0,none⟩ (.int .i64 ((i:Int)+1))).setCell ⟨D,15,none⟩ (.int .i64 t.ln)).setCell ⟨D,16,none⟩ (.int .i64 t.co)) (((W64.setCell ⟨D,0,none⟩ (.int .i64 ((i:Int)+1))).setCell ⟨D,15,none⟩ (.int .i64 t.ln)).setCell ⟨D,16,none⟩ (.int .i64 t.co)).drew:=(Below.refl _ _).drew
      have szz:(((W64.setCell ⟨D,0,none⟩ (.int .i64 ((i:Int)+1))).setCell ⟨D,15,none⟩ (.int .i64 t.ln)).setCell ⟨D,16,none⟩ (.int .i64 t.co)).heap.size=W64.heap.size:=by simp only[zaf]
      obtain⟨Z,hZ⟩:∃ Z,Z=(((W64.setCell ⟨D,0,none⟩ (.int .i64 ((i:Int)+1))).setCell ⟨D,15,none⟩ (.int .i64 t.ln)).setCell ⟨D,16,none⟩ (.int .i64 t.co)).drew:=⟨_,rfl⟩;have C9:=hC.below bD;have K9:=hK.trans (Kp.of bD);have fD9:=(bD.block D (by omega)).trans g3
      have fP9:=(bD.block w.heap.size (by omega)).trans gP
      have fQ9:=(bD.block W50.heap.size (by omega)).trans gQ
      have sz9:=bD.size;rw[szz] at sz9;rw[← hZ] at C9 K9 fD9 fP9 fQ9 sz9 ⊢;clear fP64 fD64 fK64 fQ64 fO64 C64 K64 g1 g2 g3 hC hK gP gQ bD szz hZ cQ65_0 cQ65_1 cQ65_2 cO66_0 cO66_1 cP67_0 cD68_0 cD68_15 cD68_16 zD68_0 zD68_15 zD68_16;have cP9:Z.cell? ⟨w.heap.size,0,none⟩=some (.pointer (some ⟨B,0,none⟩)):=(zG fP9 0).trans rfl;have cQ9:Z.cell? ⟨W50.heap.size,2,none⟩=some (.func (.func f) #[] #[]):=(zG fQ9 2).trans rfl
      have hcl:=Hi ((uh hcall) _ _ _ _ _ fD9 C9);have HKQ:=Hi K9;clear hcall fP9 fQ9 fD9 C9 K9
      go_wp2_with fail
      refine (uh hcl).mono ?_
      rintro e Wf ⟨s,c9,cs,F9,qE9,rfl,hS9,fDf,hF9,Cf,Jf⟩;have hfin:=(uh hkey).trans ((uh hrun3).symm.trans (zmI (uh EW) (show krd N i ((Sy.of (n1,n2,n3) true).at (i+1) t) u=(s,c9) from qE9)))
      have HF:=Hi (an hfin (an hS9 (an fDf (an (hF9.mono (lo':=w.heap.size) (by omega) (lr _) (lr _)) (an Cf ((uh HKQ).transQ Jf))))))
      clear hfin hS9 fDf hF9 Cf Jf qE9 hcl
      go_wp2_with fail
      try simp only[Exit.inBlock,Exit.then]
      refine bodyPost_ret (results_none rfl _ _ _) rfl ?_
      obtain⟨hfin,hS9,fDf,hF9,Cf,Kf⟩:=uh HF;exact⟨s,c9,cs,F9,hfin,rfl,hS9,fDf,hF9,Cf,Kf⟩
end
end Go.Proofs.YtifbkdicglcogaaGreat.cu
