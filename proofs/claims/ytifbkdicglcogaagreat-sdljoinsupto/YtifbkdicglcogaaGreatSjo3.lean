import Derived.Test.YtifbkdicglcogaaGreatSjo2
import Derived.Deep.LoopGhost
import Derived.WalkMore
import Derived.Shelf.Strings.Runes
import Derived.Test.YtifbkdicglcogaaGreatProg
import Derived.Deep.Strs
import Derived.Deep.AppendLies
import Derived.OrdersHeld
import Derived.Deep.MidRow
import Derived.Laws.Rows
import Derived.Laws.ResultCell
set_option linter.unusedVariables false
set_option linter.unusedSimpArgs false
namespace Go.Proofs.YtifbkdicglcogaaGreat.lx
open Go.ChangeShapes Go.WideShapes Go.ChangeAt Go.RowKit
open ints (Hi uh)
open mem (Row)
def src (a:Option Addr) (n c:Nat) (cl:Bool):Value:=.agg #[.slice a n c,.bool cl]
theorem zd3 (a:Option Addr) (n c:Nat) (cl:Bool) (l:List Int) (i:Nat) (w:World) (h:Row .i32 w a n c l) (hn:n≤4611686018427387904) :
  Calls Tryz.prog 54 #[src a n c cl,.int .i64 (i:Int)] w fun e w'=>e = .returned (.int .i32 (cAt l i))∧Below w.heap.size w w':=by
 unfold src
 by_cases hi:i<n
 ·have hc:=Hi (zf9 (l:=l) (i:=i) (by rw[h.len];exact hi))
  rcases h.at_ with h0 | ⟨b,off,rfl,hb,hcell⟩
  ·omega
  have c1:=hcell i hi;obtain⟨x,hx⟩:∃ x,x=l.getD i 0:=⟨_,rfl⟩;rw[← hx] at c1 hc;have ii:(i:Int)<(n:Int):=by omega
  clear hx hcell
  go_enter Tryz.func54,Tryz.ntmps54
  go_wp2
  go_ret
  rw[uh hc];exact⟨rfl,(Below.refl _ _).alloc (lr _) _⟩
 ·have hc:=Hi (zaW (l:=l) (i:=i) (by rw[h.len];omega))
  have ii:¬ (i:Int)<(n:Int):=by omega
  go_enter Tryz.func54,Tryz.ntmps54
  go_wp2
  go_ret
  rw[uh hc];exact⟨rfl,(Below.refl _ _).alloc (lr _) _⟩
theorem zb0 (c:Int) (w:World):Calls Tryz.prog 55 #[.int .i32 c] w fun e w'=>e = .returned (.bool (blB c))∧w'=w:=by
 by_cases h:ints.blP c
 ·have:blB c=true:=decide_eq_true h
  rw[this];exact ints.zo3 c w h
 ·have:blB c=false:=decide_eq_false h
  rw[this];exact ints.zqD c w h
theorem zbj (c:Int) (w:World):Calls Tryz.prog 56 #[.int .i32 c] w fun e w'=>e = .returned (.bool (soB c))∧w'=w:=by
 by_cases h:ints.soP c
 ·have:soB c=true:=decide_eq_true h
  rw[this];exact ints.zqf c w h
 ·have:soB c=false:=decide_eq_false h
  rw[this];exact ints.zrw c w h
theorem zpY (c:Int) (w:World):Calls Tryz.prog 58 #[.int .i32 c] w fun e w'=>e = .returned (.bool (nsB c))∧w'=w:=by
 by_cases h:ints.nsP c
 ·have:nsB c=true:=decide_eq_true h
  rw[this];exact ints.zmP c w h
 ·have:nsB c=false:=decide_eq_false h
  rw[this];exact ints.zob c w h
theorem zpW (c:Int) (w:World):Calls Tryz.prog 79 #[.int .i32 c] w fun e w'=>e = .returned (.bool (nrB c))∧w'=w:=by
 by_cases h:ints.nrP c
 ·have:nrB c=true:=decide_eq_true h
  rw[this];exact ints.zpX c w h
 ·have:nrB c=false:=decide_eq_false h
  rw[this];exact ints.zrb c w h
theorem zhI (c:Int) (w:World):Calls Tryz.prog 60 #[.int .i32 c] w fun e w'=>e = .returned (.bool (mem.digB c))∧w'=w:=by
 by_cases h:48≤c∧c≤57
 ·have:mem.digB c=true:=by unfold mem.digB;simpa using h
  rw[this];exact ints.zed c w h.1 h.2
 ·have:mem.digB c=false:=by unfold mem.digB;rw[← Bool.not_eq_true];simpa using h
  rw[this];exact ints.zc6 c w h
structure Sb (w0 w:World) (a:Option Addr) (n c:Nat) (cl:Bool):Prop where
 lt:w0.heap.size<w.heap.size
 c0:w.cell? ⟨w0.heap.size,0,none⟩=some (.slice a n c)
 c1:w.cell? ⟨w0.heap.size,1,none⟩=some (.bool cl)
 bel:Below w0.heap.size w0 w
theorem Sb.new (w:World) (a:Option Addr) (n c:Nat) (cl:Bool):Sb w (w.alloc (.cells #[.slice a n c,.bool cl] 82)) a n c cl:=
 ⟨by simp,by simp,by simp,(Below.refl _ _).alloc (lr _) _⟩
theorem Sb.below {w0 w w':World} {a:Option Addr} {n c:Nat} {cl:Bool} (h:Sb w0 w a n c cl) (hb:Below w.heap.size w w'):Sb w0 w' a n c cl:=
 ⟨Nat.lt_of_lt_of_le h.lt hb.size,(hb.cell (p:=⟨w0.heap.size,0,none⟩) h.lt).trans h.c0,(hb.cell (p:=⟨w0.heap.size,1,none⟩) h.lt).trans h.c1,h.bel.trans (hb.mono (Nat.le_of_lt h.lt))⟩
set_option maxHeartbeats 2000000 in
theorem zpD (a:Option Addr) (n c:Nat) (cl:Bool) (l:List Int) (i:Nat) (w:World) (h:Row .i32 w a n c l) (hn:n≤1099511627776) (hi:i≤n) :
  Calls Tryz.prog 36 #[src a n c cl,.int .i64 (i:Int)] w fun e w'=>e = .returned (.int .i64 (ign l false i:Nat))∧Below w.heap.size w w':=by
 have hl:=Hi h.len;obtain⟨R,hR⟩:∃ R,R=ign l false i:=⟨_,rfl⟩;rw[← hR];have HR:=Hi hR.symm;clear hR;unfold src;have hsb:=Hi (Sb.new w a n c cl)
 go_enter Tryz.func36,Tryz.ntmps36
 go_wp2_with fail
 go_step3
 go_wp2_with fail
 go_step3
 go_wp2_with fail
 obtain⟨w1,hw1⟩:∃ w1,w1=w.alloc (.cells #[.slice a n c,.bool cl] 82):=⟨_,rfl⟩;rw[← hw1] at hsb ⊢;clear hw1
 go_loopg [1] (n+1) (fun g vi wr=>∃ k:Nat,k≤n∧n+1≤g+k∧vi = .int .i64 k∧Hid (ign l false k=R)∧Sb w wr a n c cl)
 case atStart=>exact⟨i,hi,by omega,rfl,HR,uh hsb⟩
 case round =>
  obtain⟨k,hk,hg,rfl,hik,hs⟩:=hrel;have d0:=hs.c0;have d1:=hs.c1
  go_wp2_with fail
  refine (zd3 a n c cl l k wr (h.below hs.bel) (by omega)).mono ?_
  rintro e w2 ⟨rfl,b2⟩;have hs2:=hs.below b2;obtain⟨x,hx⟩:∃ x,x=cAt l k:=⟨_,rfl⟩;rw[← hx];have Hx:=Hi hx.symm;clear hx hs d0 d1
  go_wp2_with fail
  refine (zb0 x w2).mono ?_
  rintro e w3 ⟨rfl,rfl⟩;have hL:=uh hl
  cases hb:blB x
  ·have n35:∀ y:Int,y=35→(y != 35)=false:=fun y e=>by subst e;rfl
   by_cases h35:x=35
   ·subst h35
    have hlt:k<n:=by rw[← hL];exact zc2 (uh Hx) (by decide)
    have hik2:=Hi (show ign l true (k+1)=R from by
     have e:=uh hik;rw[zgk,uh Hx] at e
     exact e)
    clear n35 hL
    go_wp2_with fail
    go_loopg [1] (n+1) (fun g vi wq=>∃ j:Nat,j<n∧k≤j∧n+1≤g+j∧vi = .int .i64 j∧Hid (ign l true (j+1)=R)∧Sb w wq a n c cl)
    case atStart=>exact⟨k,hlt,lr _,by omega,rfl,hik2,hs2⟩
    case round =>
     obtain⟨j,hj,hkj,hg2,rfl,hij,hs3⟩:=hrel;have d0:=hs3.c0;have d1:=hs3.c1
     go_wp2_with fail
     rw[show ((j:Int)+1)=((j+1:Nat):Int) by omega]
     refine (zd3 a n c cl l (j+1) _ (h.below hs3.bel) (by omega)).mono ?_
     rintro e w4 ⟨rfl,b4⟩;have hs4:=hs3.below b4;obtain⟨y,hy⟩:∃ y,y=cAt l (j+1):=⟨_,rfl⟩;rw[← hy];have Hy:=Hi hy.symm;clear hy hs3 d0 d1;have hL:=uh hl
     by_cases hnl:y=10∨y=13
     ·have hlt2:j+1<n:=by rw[← hL];exact zc2 (uh Hy) (by omega)
      have hij2:=Hi (show ign l false (j+2)=R from by
       have e:=uh hij;rw[zgl,uh Hy,if_pos hnl] at e
       exact e)
      clear hL
      rcases hnl with rfl | rfl
      ·go_wp2_with fail
       go_roundg (n - 1 - j)
       case rel=>exact⟨j+2,by omega,by omega,by go_num,hij2,hs4⟩
       case measure=>omega
      ·go_wp2_with fail
       go_roundg (n - 1 - j)
       case rel=>exact⟨j+2,by omega,by omega,by go_num,hij2,hs4⟩
       case measure=>omega
     ·have e10:(y == 10)=false:=by simp;omega
      have e13:(y == 13)=false:=by simp;omega
      have Hnl:=Hi hnl;clear hnl
      go_wp2_with fail
      refine (zbj y _).mono ?_
      rintro e w5 ⟨rfl,rfl⟩
      cases hso:soB y
      ·have hij2:=Hi (show j+1=R from by
        have e:=uh hij;rw[zgl,uh Hy,if_neg (uh Hnl),hso] at e
        exact e)
       clear hL
       go_wp2_with fail
       try rw[Exit.noGoto_ret]
       go_ret
       exact⟨by rw[← uh hij2];rfl,hs4.bel⟩
      ·have hlt2:j+1<n:=by
        rw[← hL];exact zc2 (uh Hy) (fun e=>by rw[e] at hso;revert hso;decide)
       have hij2:=Hi (show ign l true (j+1+1)=R from by
        have e:=uh hij;rw[zgl,uh Hy,if_neg (uh Hnl),hso] at e
        exact e)
       clear hL
       go_wp2_with fail
       go_roundg (gk - 1)
       case rel=>exact⟨j+1,by omega,by omega,by omega,by go_num,hij2,hs4⟩
       case measure=>omega
   ·have hb35:(x != 35)=true:=by simpa using h35
    have hik2:=Hi (show k=R from by
     have e:=uh hik;rw[zgk,uh Hx,hb,if_neg (by decide),if_neg h35] at e
     exact e)
    clear h35 n35
    go_wp2_with fail
    try rw[Exit.noGoto_ret]
    go_ret
    exact⟨by rw[← uh hik2];rfl,hs2.bel⟩
  ·have hlt:k<n:=by
    rw[← hL];exact zc2 (uh Hx) (fun e=>by rw[e] at hb;revert hb;decide)
   have hik2:=Hi (show ign l false (k+1)=R from by
    have e:=uh hik;rw[zgk,uh Hx,hb] at e
    exact e)
   clear hL
   go_wp2_with fail
   go_roundg (gk - 1)
   case rel=>exact⟨k+1,by omega,by omega,by go_num,hik2,hs2⟩
   case measure=>omega
set_option maxHeartbeats 2000000 in
theorem zpT (a:Option Addr) (n c:Nat) (cl:Bool) (l:List Int) (i:Nat) (w:World) (h:Row .i32 w a n c l) (hn:n≤1099511627776) (hi:i≤n) :
  Calls Tryz.prog 59 #[src a n c cl,.int .i64 (i:Int)] w fun e w'=>e = .returned (.int .i64 (nam l i:Nat))∧Below w.heap.size w w':=by
 have hl:=Hi h.len;obtain⟨R,hR⟩:∃ R,R=nam l i:=⟨_,rfl⟩;rw[← hR];have HR:=Hi hR.symm;clear hR;unfold src;have hsb:=Hi (Sb.new w a n c cl)
 go_enter Tryz.func59,Tryz.ntmps59
 go_wp2_with fail
 obtain⟨w1,hw1⟩:∃ w1,w1=w.alloc (.cells #[.slice a n c,.bool cl] 82):=⟨_,rfl⟩;rw[← hw1] at hsb ⊢;clear hw1
 go_loopg [1] (n+1) (fun g vi wr=>∃ k:Nat,k≤n∧n+1≤g+k∧vi = .int .i64 k∧Hid (nam l k=R)∧Sb w wr a n c cl)
 case atStart=>exact⟨i,hi,by omega,rfl,HR,uh hsb⟩
 case round =>
  obtain⟨k,hk,hg,rfl,hik,hs⟩:=hrel;have d0:=hs.c0;have d1:=hs.c1
  go_wp2_with fail
  refine (zd3 a n c cl l k wr (h.below hs.bel) (by omega)).mono ?_
  rintro e w2 ⟨rfl,b2⟩;have hs2:=hs.below b2;obtain⟨x,hx⟩:∃ x,x=cAt l k:=⟨_,rfl⟩;rw[← hx];have Hx:=Hi hx.symm;clear hx hs d0 d1
  go_wp2_with fail
  refine (zpW x w2).mono ?_
  rintro e w3 ⟨rfl,rfl⟩;have hL:=uh hl
  cases hb:nrB x
  ·have hik2:=Hi (show k=R from by
    have e:=uh hik;rw[zgs,uh Hx,hb] at e
    exact e)
   clear hL
   go_wp2_with fail
   go_ret
   exact⟨by rw[← uh hik2];rfl,hs2.bel⟩
  ·have hlt:k<n:=by
    rw[← hL];exact zc2 (uh Hx) (fun e=>by rw[e] at hb;revert hb;decide)
   have hik2:=Hi (show nam l (k+1)=R from by
    have e:=uh hik;rw[zgs,uh Hx,hb] at e
    exact e)
   clear hL
   go_wp2_with fail
   go_roundg (gk - 1)
   case rel=>exact⟨k+1,by omega,by omega,by go_num,hik2,hs2⟩
   case measure=>omega
theorem zbS (i:Nat) (w:World):Calls Tryz.prog 65 #[.int .i64 (i:Int)] w fun e w'=>e = .returned (.tuple #[.int .i64 1,.int .i64 (i:Int),.string ⟨#[]⟩])∧w'=w:=by
 go_enter Tryz.func65,Tryz.ntmps65
 go_wp2
 go_ret3
 exact⟨rfl,rfl⟩
set_option maxHeartbeats 2000000 in
theorem zpZ (a:Option Addr) (n c:Nat) (cl:Bool) (l:List Int) (i:Nat) (w:World) (h:Row .i32 w a n c l) (hn:n≤1099511627776) (hi:i≤n) :
  Calls Tryz.prog 61 #[src a n c cl,.int .i64 (i:Int)] w fun e w'=>e = .returned (.tuple #[.int .i64 (num l i).1,.int .i64 ((num l i).2:Nat),.string ⟨#[]⟩])∧Below w.heap.size w w':=by
 have hl:=Hi h.len;have hsb:=Hi (Sb.new w a n c cl);have hpl:=mem.zku l i (by rw[h.len];exact hi)
 have hP:=Hi (fun W (hb:Below w.heap.size w W)=>mem.zhk a n c l i W (h.below hb) (by omega) hi)
 have hN:=Hi (show num l i=(if cAt l (mem.pfx l i).1=46∨nrB (cAt l (mem.pfx l i).1) then (1,i) else if (mem.pfx l i).2.2=1 then (4,(mem.pfx l i).1) else if (mem.pfx l i).2.2=2 then (5,(mem.pfx l i).1) else (1,i)) from rfl)
 have hpl1:=hpl.1;obtain⟨N,hNe⟩:∃ N,N=num l i:=⟨_,rfl⟩;rw[← hNe] at hN ⊢;clear hpl hNe;obtain⟨u,hu⟩:∃ u,u=(mem.pfx l i).2.1:=⟨_,rfl⟩;rw[← hu] at hP;clear hu;obtain⟨t,ht⟩:∃ t,t=(mem.pfx l i).1:=⟨_,rfl⟩;obtain⟨f,hf⟩:∃ f,f=(mem.pfx l i).2.2:=⟨_,rfl⟩;rw[← ht,← hf] at hP hN;rw[← ht] at hpl1;clear ht hf;have hL:=uh hl;have htn:t≤n:=by omega
 clear hpl1 hL;unfold src
 go_enter Tryz.func61,Tryz.ntmps61
 go_wp2_with fail
 obtain⟨w1,hw1⟩:∃ w1,w1=w.alloc (.cells #[.slice a n c,.bool cl] 82):=⟨_,rfl⟩;rw[← hw1] at hsb ⊢;clear hw1;refine ((uh hP) w1 (uh hsb).bel).mono ?_
 rintro e w2 ⟨rfl,b2⟩;have hs2:=(uh hsb).below b2;have d0:=hs2.c0;have d1:=hs2.c1;clear hP
 go_wp2_with fail
 refine (zd3 a n c cl l t w2 (h.below hs2.bel) (by omega)).mono ?_
 rintro e w3 ⟨rfl,b3⟩;have hs3:=hs2.below b3;obtain⟨x,hx⟩:∃ x,x=cAt l t:=⟨_,rfl⟩;rw[← hx] at hN ⊢;clear hx d0 d1
 by_cases h46:x=46
 ·subst h46
  have hN2:=Hi (show N=(1,i) from by rw[uh hN];simp)
  go_wp2_with fail
  refine (zbS i _).mono ?_
  rintro e w4 ⟨rfl,rfl⟩
  go_wp2_with fail
  go_ret3
  exact⟨by rw[uh hN2];rfl,hs3.bel⟩
 ·have e46:(x == 46)=false:=by simpa using h46
  have H46:=Hi h46;clear h46
  go_wp2_with fail
  refine (zpW x _).mono ?_
  rintro e w4 ⟨rfl,rfl⟩
  cases hnr:nrB x
  ·have hN1:=Hi (show N=(if f=1 then (4,t) else if f=2 then (5,t) else (1,i)) from by
    rw[uh hN,if_neg (fun e=>by rcases e with e | e;exact uh H46 e;rw[hnr] at e;cases e)])
   clear hN
   by_cases f1:f=1
   ·subst f1
    go_wp2_with fail
    go_ret3
    exact⟨by rw[uh hN1];rfl,hs3.bel⟩
   ·by_cases f2:f=2
    ·subst f2
     go_wp2_with fail
     go_ret3
     exact⟨by rw[uh hN1];rfl,hs3.bel⟩
    ·have hN2:=Hi (show N=(1,i) from by rw[uh hN1,if_neg f1,if_neg f2])
     have e1:(f == 1)=false:=by simpa using f1
     have e2:(f == 2)=false:=by simpa using f2
     clear f1 f2
     go_wp2_with fail
     refine (zbS i _).mono ?_
     rintro e w4 ⟨rfl,rfl⟩
     go_wp2_with fail
     go_ret3
     exact⟨by rw[uh hN2];rfl,hs3.bel⟩
  ·have hN2:=Hi (show N=(1,i) from by rw[uh hN];simp[hnr])
   go_wp2_with fail
   refine (zbS i _).mono ?_
   rintro e w4 ⟨rfl,rfl⟩
   go_wp2_with fail
   go_ret3
   exact⟨by rw[uh hN2];rfl,hs3.bel⟩
end Go.Proofs.YtifbkdicglcogaaGreat.lx
namespace Go.Proofs
open Go.Shelf
def Tryz.lays151_ren:Go.Shelf.Ren:=⟨fun | 151=>57 | 152=>78 | 137=>92 | 119=>38 | 224=>93 | 225=>94 | 217=>123 | 266=>143 | n=>n,fun | 9=>9 | 21=>21 | 4=>4 | 3=>3 | 5=>5 | 0=>0 | 46=>157 | n=>n,fun | n=>n⟩
theorem Tryz.lays151:Go.Proofs.Lays.n151 Tryz.prog Tryz.lays151_ren:={
 mixed:=by kernel_rfl
 f119:=Tryz.func38.trans (congrArg some (by kernel_rfl))
 f137:=Tryz.func92.trans (congrArg some (by kernel_rfl))
 f151:=Tryz.func57.trans (congrArg some (by kernel_rfl))
 f152:=Tryz.func78.trans (congrArg some (by kernel_rfl))
 f217:=Tryz.func123.trans (congrArg some (by kernel_rfl))
 f224:=Tryz.func93.trans (congrArg some (by kernel_rfl))
 f225:=Tryz.func94.trans (congrArg some (by kernel_rfl))
 f266:=Tryz.func143.trans (congrArg some (by kernel_rfl))
 t0:=Tryz.underlying0
 a0:=Tryz.isAgg0
 z0:=Tryz.sizeOf0
 v0:=Tryz.zeroValue0
 t3:=Tryz.underlying3
 a3:=Tryz.isAgg3
 z3:=Tryz.sizeOf3
 v3:=Tryz.zeroValue3
 t4:=Tryz.underlying4
 a4:=Tryz.isAgg4
 z4:=Tryz.sizeOf4
 v4:=Tryz.zeroValue4
 t5:=Tryz.underlying5
 a5:=Tryz.isAgg5
 z5:=Tryz.sizeOf5
 v5:=Tryz.zeroValue5
 t9:=Tryz.underlying9
 a9:=Tryz.isAgg9
 z9:=Tryz.sizeOf9
 v9:=Tryz.zeroValue9
 t21:=Tryz.underlying21
 a21:=Tryz.isAgg21
 z21:=Tryz.sizeOf21
 v21:=Tryz.zeroValue21
 t46:=Tryz.underlying157
 a46:=Tryz.isAgg157
 z46:=Tryz.sizeOf157
 v46:=Tryz.zeroValue157 }
open Go.RowKit Go.Lib in
theorem Tryz.strings_ContainsRune_ascii (s:ByteArray) (r:Int) (w:World) (h0:0≤r) (h1:r<128) :
  Calls Tryz.prog 57 #[.string s,.int .i32 r] w fun e w'=>e = .returned (.bool (decide (0≤Lib.indexByte s.data.toList r.toNat.toUInt8)))∧w'=w:=Any.strings_ContainsRune_ascii Tryz.lays151 s r w h0 h1
end Go.Proofs
namespace Go.Proofs.YtifbkdicglcogaaGreat.lx
open Go.ChangeShapes Go.WideShapes Go.ChangeAt Go.RowKit
open ints (Hi uh)
open mem (Row)
theorem zp9:∀ k:Nat,k<128→decide (0≤Lib.indexByte [33,36,38,40,41,58,61,64,91,93,123,124,125] ((k:Int).toNat.toUInt8))=puB (k:Int):=by decide +kernel
theorem zb1 (c:Int) (w:World) (h0:0≤c) (h1:c≤127) :
  Calls Tryz.prog 57 #[.string ⟨#[33,36,38,40,41,58,61,64,91,93,123,124,125]⟩,.int .i32 c] w fun e w'=>e = .returned (.bool (puB c))∧w'=w:=by
 have h:=Tryz.strings_ContainsRune_ascii ⟨#[33,36,38,40,41,58,61,64,91,93,123,124,125]⟩ c w h0 (by omega)
 have e:=zp9 c.toNat (by omega)
 rw[Int.toNat_of_nonneg h0] at e;rw[show decide (0≤Lib.indexByte (⟨#[33,36,38,40,41,58,61,64,91,93,123,124,125]⟩:ByteArray).data.toList c.toNat.toUInt8)=puB c from e] at h
 exact h
end Go.Proofs.YtifbkdicglcogaaGreat.lx
namespace Go.Proofs.YtifbkdicglcogaaGreat.dt
open Go.ChangeShapes Go.WideShapes Go.ChangeAt Go.RowKit
inductive Dt where
 | nil
 | val (v:Value) (r:Dt)
 | lst (k:Nat) (rs:Dt) (r:Dt)
 | row (e:Dt) (r:Dt)
def RowAt (w:World) (b off:Nat) (cs:List Value):Prop:=∀ i u,cs[i]? = some u→w.cell? ⟨b,off+i,none⟩=some u
def Agree (F:List Nat) (w w':World):Prop:=∀ b ∈ F,∀ o,w'.cell? ⟨b,o,none⟩=w.cell? ⟨b,o,none⟩
theorem Agree.left {F G:List Nat} {w w':World} (h:Agree (F ++ G) w w'):Agree F w w':=fun b hb=>h b (List.mem_append_left _ hb)
theorem Agree.right {F G:List Nat} {w w':World} (h:Agree (F ++ G) w w'):Agree G w w':=fun b hb=>h b (List.mem_append_right _ hb)
theorem Agree.tail {p:Nat} {G:List Nat} {w w':World} (h:Agree (p :: G) w w'):Agree G w w':=fun b hb=>h b (List.mem_cons_of_mem _ hb)
theorem RowAt.agree {w w':World} {F:List Nat} {b off:Nat} {cs:List Value} (h:RowAt w b off cs) (hb:b ∈ F) (ha:Agree F w w'):RowAt w' b off cs:=fun i u hu=>(ha b hb _).trans (h i u hu)
theorem RowAt.below {w w':World} {b off:Nat} {cs:List Value} (h:RowAt w b off cs) (hb:Below w.heap.size w w'):RowAt w' b off cs:=by
 intro i u hu;have h1:=h i u hu;exact (hb.cell (World.block_lt_of_cell? w _ h1)).trans h1
mutual
def Ow (w:World):Dt→List Value→List Nat→Prop
 | .nil,cs,F=>cs=[]∧F=[]
 | .val v r,cs,F=>∃ ds,cs=v :: ds∧v.oneCell'=true∧Ow w r ds F
 | .lst k rs r,cs,F=>∃ (a:Option Addr) (n c:Nat) (ds:List Value) (F1 F2:List Nat),cs = .slice a n c :: ds∧n≤c∧c≤maxLen∧(a=none→c=0) ∧
   ((a=none∧rs = .nil∧n=0∧F1=[])∨∃ p G,a=some ⟨p,0,none⟩∧F1=p :: G∧OwIn w rs k p 0 n G)∧Ow w r ds F2∧F=F1 ++ F2
 | .row _ _,_,_=>False
def OwIn (w:World):Dt→Nat→Nat→Nat→Nat→List Nat→Prop
 | .nil,k,p,off,n,G=>n=0∧G=[]
 | .row e r,k,p,off,n,G=>∃ (m:Nat) (cs:List Value) (G1 G2:List Nat),n=m+1∧RowAt w p off cs∧cs.length=k∧Ow w e cs G1∧OwIn w r k p (off+k) m G2∧G=G1 ++ G2
 | .val _ _,_,_,_,_,_=>False
 | .lst _ _ _,_,_,_,_,_=>False
end
mutual
theorem Ow.agree {w w':World}:∀ (d:Dt) (cs:List Value) (F:List Nat),Agree F w w'→Ow w d cs F→Ow w' d cs F
 | .nil,cs,F,ha,h=>by unfold Ow at h ⊢;exact h
 | .val v r,cs,F,ha,h=>by
  unfold Ow at h ⊢;obtain⟨ds,rfl,h1,h2⟩:=h;exact⟨ds,rfl,h1,Ow.agree r ds F ha h2⟩
 | .lst k rs r,cs,F,ha,h=>by
  unfold Ow at h ⊢;obtain⟨a,n,c,ds,F1,F2,rfl,h1,h2,h3,h4,h5,rfl⟩:=h;refine⟨a,n,c,ds,F1,F2,rfl,h1,h2,h3,?_,Ow.agree r ds F2 ha.right h5,rfl⟩
  rcases h4 with h4 | ⟨p,G,e1,rfl,h4⟩
  ·exact .inl h4
  ·exact .inr ⟨p,G,e1,rfl,OwIn.agree rs k p 0 n G ha.left h4⟩
 | .row _ _,cs,F,ha,h=>by unfold Ow at h;exact h.elim
theorem OwIn.agree {w w':World}:∀ (d:Dt) (k p off n:Nat) (G:List Nat),Agree (p :: G) w w'→OwIn w d k p off n G→OwIn w' d k p off n G
 | .nil,k,p,off,n,G,ha,h=>by unfold OwIn at h ⊢;exact h
 | .row e r,k,p,off,n,G,ha,h=>by
  unfold OwIn at h ⊢;obtain⟨m,cs,G1,G2,rfl,h1,h2,h3,h4,rfl⟩:=h;exact⟨m,cs,G1,G2,rfl,h1.agree (List.mem_cons_self ..) ha,h2,Ow.agree e cs G1 ha.tail.left h3,OwIn.agree r k p _ m G2 (fun b hb=>ha b (by simp at hb ⊢;rcases hb with hb | hb <;> simp[hb])) h4,rfl⟩
 | .val _ _,k,p,off,n,G,ha,h=>by unfold OwIn at h;exact h.elim
 | .lst _ _ _,k,p,off,n,G,ha,h=>by unfold OwIn at h;exact h.elim
end
theorem Ow.one {w:World}:∀ (d:Dt) (cs:List Value) (F:List Nat),Ow w d cs F→∀ u ∈ cs,u.oneCell'=true
 | .nil,cs,F,h=>by unfold Ow at h;rw[h.1];simp
 | .val v r,cs,F,h=>by
  unfold Ow at h;obtain⟨ds,rfl,h1,h2⟩:=h;intro u hu
  rcases List.mem_cons.1 hu with rfl | hu
  ·exact h1
  ·exact Ow.one r ds F h2 u hu
 | .lst k rs r,cs,F,h=>by
  unfold Ow at h;obtain⟨a,n,c,ds,F1,F2,rfl,h1,h2,h3,h4,h5,rfl⟩:=h;intro u hu
  rcases List.mem_cons.1 hu with rfl | hu
  ·rfl
  ·exact Ow.one r ds F2 h5 u hu
 | .row _ _,cs,F,h=>by unfold Ow at h;exact h.elim
def Dt.of:List Dt→Dt
 | []=>.nil
 | e :: r=>.row e (Dt.of r)
theorem OwIn.get {w:World}:∀ (l:List Dt) (k p off n:Nat) (G:List Nat),OwIn w (Dt.of l) k p off n G→l.length=n∧∀ (i:Nat) (e:Dt),l[i]? = some e→∃ cs Gi,RowAt w p (off+i * k) cs∧cs.length=k∧Ow w e cs Gi∧∀ b ∈ Gi,b ∈ G
 | [],k,p,off,n,G,h=>by
  unfold Dt.of OwIn at h;exact⟨h.1.symm,fun i e he=>by simp at he⟩
 | d :: l,k,p,off,n,G,h=>by
  unfold Dt.of OwIn at h;obtain⟨m,cs,G1,G2,rfl,h1,h2,h3,h4,rfl⟩:=h;obtain⟨h5,h6⟩:=OwIn.get l k p _ m G2 h4;refine⟨by simp[h5],fun i e he=>?_⟩
  cases i with
  | zero=>simp at he;subst he;exact⟨cs,G1,by simpa using h1,h2,h3,fun b hb=>List.mem_append_left _ hb⟩
  | succ i =>
   obtain⟨cs',Gi,h7,h8,h9,h10⟩:=h6 i e (by simpa using he)
   exact⟨cs',Gi,by rw[show off+(i+1) * k=off+k+i * k by rw[Nat.add_mul];omega];exact h7,h8,h9,fun b hb=>List.mem_append_right _ (h10 b hb)⟩
def OwL {E:Type} (O:World→E→List Value→List Nat→Prop) (w:World):List E→List (List Value)→List Nat→Prop
 | [],xss,G=>xss=[]∧G=[]
 | v :: r,xss,G=>∃ cs l G1 G2,xss=cs :: l∧O w v cs G1∧OwL O w r l G2∧G=G1 ++ G2
theorem OwL.snoc {E:Type} {O:World→E→List Value→List Nat→Prop} {w:World} {v:E} {cs:List Value} {G':List Nat} (hv:O w v cs G'):∀ {l:List E} {xss:List (List Value)} {G:List Nat},OwL O w l xss G→OwL O w (l ++ [v]) (xss ++ [cs]) (G ++ G')
 | [],xss,G,h=>by
  obtain⟨rfl,rfl⟩:=h;exact⟨cs,[],G',[],rfl,hv,⟨rfl,rfl⟩,by simp⟩
 | u :: r,xss,G,h=>by
  obtain⟨ds,l,G1,G2,rfl,h1,h2,rfl⟩:=h;exact⟨ds,l ++ [cs],G1,G2 ++ G',rfl,h1,OwL.snoc hv h2,by simp⟩
theorem OwL.agree {E:Type} {O:World→E→List Value→List Nat→Prop} (ha:∀ w w' e cs F,Agree F w w'→O w e cs F→O w' e cs F) {w w':World}:∀ {l:List E} {xss:List (List Value)} {G:List Nat},Agree G w w'→OwL O w l xss G→OwL O w' l xss G
 | [],xss,G,hg,h=>h
 | u :: r,xss,G,hg,h=>by
  obtain⟨ds,l,G1,G2,rfl,h1,h2,rfl⟩:=h;exact⟨ds,l,G1,G2,rfl,ha w w' u ds G1 hg.left h1,OwL.agree ha hg.right h2,rfl⟩
theorem OwL.shut {w:World} {k p:Nat}:∀ (l:List Dt) (xss:List (List Value)) (G:List Nat) (off:Nat),OwL Ow w l xss G→(∀ xs ∈ xss,xs.length=k)→RowAt w p off xss.flatten→OwIn w (Dt.of l) k p off l.length G
 | [],xss,G,off,h,hk,hr=>by
  obtain⟨rfl,rfl⟩:=h;unfold Dt.of OwIn;exact⟨rfl,rfl⟩
 | e :: l,xss,G,off,h,hk,hr=>by
  obtain⟨cs,r,G1,G2,rfl,h1,h2,rfl⟩:=h;have hc:=hk cs (List.mem_cons_self ..);unfold Dt.of OwIn;refine⟨l.length,cs,G1,G2,by simp,fun i u hu=>hr i u ?_,hc,h1,OwL.shut l r G2 (off+k) h2 (fun xs hx=>hk xs (List.mem_cons_of_mem _ hx)) (fun i u hu=>?_),rfl⟩
  ·have:i<cs.length:=(List.getElem?_eq_some_iff.1 hu).1
   rw[List.flatten_cons,List.getElem?_append_left this];exact hu
  ·have:=hr (k+i) u (by rw[List.flatten_cons,List.getElem?_append_right (by omega),hc];rw[show k+i - k=i by omega];exact hu)
   rw[← Nat.add_assoc] at this;exact this
end Go.Proofs.YtifbkdicglcogaaGreat.dt
namespace Go.Proofs.YtifbkdicglcogaaGreat.cu
open dt (Dt)
structure Tk where
 k:Int
 ln:Int
 co:Int
 fr:Nat
 to:Nat
 tx:ByteArray
 va:ByteArray
def em:ByteArray:=⟨#[]⟩
def Tk.zero:Tk:=⟨0,0,0,0,0,em,em⟩
def Tk.cells (t:Tk):List Value:=[.int .i64 t.k,.int .i64 t.ln,.int .i64 t.co,.int .i64 t.fr,.int .i64 t.to,.string t.tx,.string t.va]
structure Cu where
 ts:List Tk
 ix:Nat
 op:Nat
 mo:Nat
 kd:Int
def Cu.tok (c:Cu):Tk:=c.ts.getD c.ix Tk.zero
structure Cu.Ok (c:Cu):Prop where
 lt:c.ix<c.ts.length
 more:∀ i t,c.ts[i]? = some t→t.k=0∨t.k=1∨i+1<c.ts.length
 op:c.op≤c.mo
 mo:c.mo≤200
theorem Cu.get (c:Cu) (h:c.ix<c.ts.length):c.ts[c.ix]? = some c.tok:=by
 unfold Cu.tok;rw[List.getElem?_eq_getElem h,List.getD_eq_getElem?_getD,List.getElem?_eq_getElem h]
 rfl
def Cu.isP (c:Cu) (p:ByteArray):Bool:=decide (c.kd=0∧c.tok.k=2∧c.tok.tx=p)
def Cu.isN (c:Cu):Bool:=decide (c.kd=0∧c.tok.k=3)
def Cu.take (c:Cu):Cu:=⟨c.ts,c.ix+1,c.op,c.mo,c.kd⟩
def Cu.stop (c:Cu) (k:Int):Cu:=if c.kd=0 then ⟨c.ts,c.ix,c.op,c.mo,k⟩ else c
def Cu.punct (c:Cu) (p:ByteArray):Cu:=if c.isP p then c.take else c
def Cu.want (c:Cu) (p:ByteArray):Cu:=if c.isP p then c.take else c.stop 70
def Cu.name (c:Cu):Cu:=if c.isN then c.take else c.stop 70
def Cu.nmT (c:Cu):List Value:=if c.isN then [.string c.tok.tx,.int .i64 c.tok.ln,.int .i64 c.tok.co] else [.string em,.int .i64 0,.int .i64 0]
def Cu.opB (c:Cu) (p:ByteArray):Bool:=c.isP p && decide (c.op<c.mo)
def Cu.opn (c:Cu) (p:ByteArray):Cu:=if c.isP p then (if c.op<c.mo then ⟨c.ts,c.ix+1,c.op+1,c.mo,c.kd⟩ else c.stop 71) else c.stop 70
def Cu.cls (c:Cu) (p:ByteArray):Cu:=if c.isP p then ⟨c.ts,c.ix+1,c.op - 1,c.mo,c.kd⟩ else c.stop 70
def Cu.finB (c:Cu):Bool:=decide (c.kd=0∧c.tok.k=0)
def Cu.fin (c:Cu):Cu:=if c.finB then c else c.stop 70
structure Stp (c c':Cu):Prop where
 ok:c'.Ok
 ts:c'.ts=c.ts
 mo:c'.mo=c.mo
 ix:c.ix≤c'.ix
theorem Stp.refl {c:Cu} (h:c.Ok):Stp c c:=⟨h,rfl,rfl,Nat.le_refl _⟩
theorem Stp.trans {a b c:Cu} (h:Stp a b) (k:Stp b c):Stp a c:=⟨k.ok,k.ts.trans h.ts,k.mo.trans h.mo,Nat.le_trans h.ix k.ix⟩
theorem zbf {c:Cu} (h:c.Ok) (k:Int):Stp c (c.stop k):=by
 unfold Cu.stop
 split
 ·exact⟨⟨h.lt,h.more,h.op,h.mo⟩,rfl,rfl,Nat.le_refl _⟩
 ·exact Stp.refl h
theorem zev {c:Cu} (h:c.Ok) (h0:c.tok.k ≠ 0) (h1:c.tok.k ≠ 1):c.ix+1<c.ts.length:=by
 rcases h.more c.ix c.tok (c.get h.lt) with e | e | e
 ·exact absurd e h0
 ·exact absurd e h1
 ·exact e
theorem zep {c:Cu} {p:ByteArray} (h:c.isP p=true):c.kd=0∧c.tok.k=2∧c.tok.tx=p:=of_decide_eq_true h
theorem zg5 {c:Cu} (h:c.isN=true):c.kd=0∧c.tok.k=3:=of_decide_eq_true h
theorem zd1 {c:Cu} (h:c.Ok) (h0:c.tok.k ≠ 0) (h1:c.tok.k ≠ 1):Stp c c.take:=⟨⟨zev h h0 h1,h.more,h.op,h.mo⟩,rfl,rfl,Nat.le_succ _⟩
theorem zbu {c:Cu} {p:ByteArray} (h:c.Ok) (hp:c.isP p=true):c.ix+1<c.ts.length:=by
 have:=(zep hp).2.1;exact zev h (by rw[this];decide) (by rw[this];decide)
theorem zdd {c:Cu} (h:c.Ok) (hp:c.isN=true):c.ix+1<c.ts.length:=by
 have:=(zg5 hp).2;exact zev h (by rw[this];decide) (by rw[this];decide)
theorem takeP {c:Cu} {p:ByteArray} (h:c.Ok) (hp:c.isP p=true):Stp c c.take:=⟨⟨zbu h hp,h.more,h.op,h.mo⟩,rfl,rfl,Nat.le_succ _⟩
theorem takeN {c:Cu} (h:c.Ok) (hp:c.isN=true):Stp c c.take:=⟨⟨zdd h hp,h.more,h.op,h.mo⟩,rfl,rfl,Nat.le_succ _⟩
theorem zaT {c:Cu} (h:c.Ok) (p:ByteArray):Stp c (c.punct p):=by
 unfold Cu.punct
 split
 ·exact takeP h ‹_›
 ·exact Stp.refl h
theorem za0 {c:Cu} (h:c.Ok) (p:ByteArray):Stp c (c.want p):=by
 unfold Cu.want
 split
 ·exact takeP h ‹_›
 ·exact zbf h _
theorem zar {c:Cu} (h:c.Ok):Stp c c.name:=by
 unfold Cu.name
 split
 ·exact takeN h ‹_›
 ·exact zbf h _
theorem zau {c:Cu} (h:c.Ok) (p:ByteArray):Stp c (c.opn p):=by
 unfold Cu.opn
 split
 ·split
  ·exact⟨⟨zbu h ‹_›,h.more,by show c.op+1≤c.mo;omega,h.mo⟩,rfl,rfl,Nat.le_succ _⟩
  ·exact zbf h _
 ·exact zbf h _
theorem zaL {c:Cu} {p:ByteArray} (h:c.opB p=true):(c.opn p).ix=c.ix+1:=by
 unfold Cu.opB at h;simp only[Bool.and_eq_true,decide_eq_true_eq] at h;unfold Cu.opn;rw[if_pos h.1,if_pos h.2]
theorem zbv {c:Cu} (h:c.Ok) (p:ByteArray):Stp c (c.cls p):=by
 unfold Cu.cls
 split
 ·exact⟨⟨zbu h ‹_›,h.more,by have:=h.op;show c.op - 1≤c.mo;omega,h.mo⟩,rfl,rfl,Nat.le_succ _⟩
 ·exact zbf h _
theorem znQ {c:Cu} (h:c.Ok):Stp c c.fin:=by
 unfold Cu.fin
 split
 ·exact Stp.refl h
 ·exact zbf h _
def bLb:ByteArray:=⟨#[91]⟩
def bRb:ByteArray:=⟨#[93]⟩
def bLc:ByteArray:=⟨#[123]⟩
def bRc:ByteArray:=⟨#[125]⟩
def bBang:ByteArray:=⟨#[33]⟩
def bDol:ByteArray:=⟨#[36]⟩
def bCol:ByteArray:=⟨#[58]⟩
def bTrue:ByteArray:=⟨#[116,114,117,101]⟩
def bFalse:ByteArray:=⟨#[102,97,108,115,101]⟩
def bNull:ByteArray:=⟨#[110,117,108,108]⟩
def unm (T:Cu→Option (ByteArray × ByteArray) × Cu) (c:Cu):Option (ByteArray × ByteArray) × Cu:=
 if c.isP bLb then
  (if c.opB bLb then
   (match (T (c.opn bLb)).1 with
   | none=>(none,(T (c.opn bLb)).2)
   | some it=>if (T (c.opn bLb)).2.isP bRb then (some (it.1,it.2 ++ bRb),(T (c.opn bLb)).2.cls bRb) else (none,(T (c.opn bLb)).2.cls bRb))
  else (none,c.opn bLb))
 else if c.isN then (some (c.tok.tx,em),c.name) else (none,c.name)
def typ (U:Cu→Option (ByteArray × ByteArray) × Cu) (c:Cu):Option (ByteArray × ByteArray) × Cu:=
 match (U c).1 with
 | none=>(none,(U c).2)
 | some r=>if (U c).2.isP bBang then (some (r.1,r.2 ++ bBang),(U c).2.punct bBang) else (some r,(U c).2.punct bBang)
def typF:Nat→Cu→Option (ByteArray × ByteArray) × Cu
 | 0,c=>(none,c)
 | f+1,c=>typ (unm (typF f)) c
def litD (k:Int) (tx:ByteArray) (bl:Bool) (its fls:Dt) (ln co:Int):Dt:=.val (.int .i64 k) (.val (.string tx) (.val (.bool bl) (.lst 7 its (.lst 10 fls (.val (.int .i64 ln) (.val (.int .i64 co) .nil))))))
def app:Dt→Dt→Dt
 | .nil,e=>e
 | .val v r,e=>.val v (app r e)
 | .lst k rs r,e=>.lst k rs (app r e)
 | .row a b,e=>.row a b
def fldD (nm:ByteArray) (v:Dt) (ln co:Int):Dt:=.val (.string nm) (app v (.val (.int .i64 ln) (.val (.int .i64 co) .nil)))
def brkF (E:Cu→Option Dt × Cu) (right:ByteArray) (least:Nat):Nat→List Dt→Cu→Option (List Dt) × Cu
 | 0,l,c=>(none,c)
 | g+1,l,c=>if l.length<least∨c.isP right=false then (match (E c).1 with | none=>(none,(E c).2) | some d=>brkF E right least g (l ++ [d]) (E c).2) else (some l,c.cls right)
def brk (E:Cu→Option Dt × Cu) (left right:ByteArray) (least:Nat) (c:Cu):Option (List Dt) × Cu:=
 if c.opB left then brkF E right least c.ts.length [] (c.opn left) else (none,c.opn left)
def argS (L:Cu→Option Dt × Cu) (c:Cu):Option Dt × Cu:=
 match (L (c.name.want bCol)).1 with
 | none=>(none,(L (c.name.want bCol)).2)
 | some v=>(some (fldD c.tok.tx v c.tok.ln c.tok.co),(L (c.name.want bCol)).2)
def wordD (t:Tk):Dt:=if t.tx=bTrue∨t.tx=bFalse then litD 5 t.tx false .nil .nil t.ln t.co else if t.tx=bNull then litD 6 em false .nil .nil t.ln t.co else litD 7 t.tx false .nil .nil t.ln t.co
def varS (c:Cu):Option Dt × Cu:=if c.take.isN then (some (litD 1 c.take.tok.tx false .nil .nil c.tok.ln c.tok.co),c.take.name) else (none,c.take.name)
def listS (L:Cu→Option Dt × Cu) (c:Cu):Option Dt × Cu:=
 match (brk L bLb bRb 0 c).1 with
 | none=>(none,(brk L bLb bRb 0 c).2)
 | some l=>(some (litD 8 em false (Dt.of l) .nil c.tok.ln c.tok.co),(brk L bLb bRb 0 c).2)
def objS (L:Cu→Option Dt × Cu) (c:Cu):Option Dt × Cu:=
 match (brk (argS L) bLc bRc 0 c).1 with
 | none=>(none,(brk (argS L) bLc bRc 0 c).2)
 | some l=>(some (litD 9 em false .nil (Dt.of l) c.tok.ln c.tok.co),(brk (argS L) bLc bRc 0 c).2)
def litS (L:Cu→Option Dt × Cu) (ct:Bool) (c:Cu):Option Dt × Cu:=
 if c.kd ≠ 0 then (none,c)
 else if c.tok.k=4 then (some (litD 2 c.tok.tx false .nil .nil c.tok.ln c.tok.co),c.take)
 else if c.tok.k=5 then (some (litD 3 c.tok.tx false .nil .nil c.tok.ln c.tok.co),c.take)
 else if c.tok.k=6∨c.tok.k=7 then (some (litD 4 c.tok.va (decide (c.tok.k=7)) .nil .nil c.tok.ln c.tok.co),c.take)
 else if c.tok.k=3 then (some (wordD c.tok),c.take)
 else if c.isP bDol∧ct=false then varS c
 else if c.isP bLb then listS L c
 else if c.isP bLc then objS L c
 else (none,c.stop 70)
def litF (ct:Bool):Nat→Cu→Option Dt × Cu
 | 0,c=>(none,c)
 | f+1,c=>litS (litF ct f) ct c
def Goes {A:Type} (E:Cu→Option A × Cu):Prop:=∀ c,c.Ok→Stp c (E c).2∧((E c).1.isSome=true→c.ix<(E c).2.ix)
theorem zbE {E:Cu→Option Dt × Cu} (hE:Goes E) (right:ByteArray) (least:Nat):∀ (g:Nat) (l:List Dt) (c:Cu),c.Ok→Stp c (brkF E right least g l c).2
 | 0,l,c,h=>Stp.refl h
 | g+1,l,c,h=>by
  simp only[brkF]
  split
  ·cases hq:(E c).1 with
   | none=>exact (hE c h).1
   | some d=>exact (hE c h).1.trans (zbE hE right least g _ _ (hE c h).1.ok)
  ·exact zbv h _
theorem zaH {E:Cu→Option Dt × Cu} (hE:Goes E) (left right:ByteArray) (least:Nat):Goes (brk E left right least):=by
 intro c h;unfold brk;have ho:=zau h left
 split
 ·rename_i hb
  have h2:=zbE hE right least c.ts.length [] _ ho.ok;exact⟨ho.trans h2,fun _=>by have:=h2.ix;rw[zaL hb] at this;omega⟩
 ·exact⟨ho,fun h=>by cases h⟩
theorem zas {L:Cu→Option Dt × Cu} (hL:Goes L):Goes (argS L):=by
 intro c h;have h1:=zar h;have h2:=za0 h1.ok bCol;have h3:=hL _ h2.ok;have hs:Stp c (L (c.name.want bCol)).2:=(h1.trans h2).trans h3.1;unfold argS
 cases hq:(L (c.name.want bCol)).1 with
 | none=>exact⟨hs,fun h=>by cases h⟩
 | some d=>exact⟨hs,fun _=>Nat.lt_of_le_of_lt (h1.trans h2).ix (h3.2 (by rw[hq];rfl))⟩
theorem zj2 {L:Cu→Option Dt × Cu} (hL:Goes L) (ct:Bool):Goes (litS L ct):=by
 intro c h;have htk:∀ k:Int,c.tok.k=k→k ≠ 0→k ≠ 1→Stp c c.take∧c.ix<c.take.ix:=fun k e h0 h1=>⟨zd1 h (e ▸ h0) (e ▸ h1),Nat.lt_succ_self _⟩
 unfold litS
 split
 ·exact⟨Stp.refl h,fun h=>by cases h⟩
 split
 ·have:=htk _ ‹_› (by decide) (by decide);exact⟨this.1,fun _=>this.2⟩
 split
 ·have:=htk _ ‹_› (by decide) (by decide);exact⟨this.1,fun _=>this.2⟩
 split
 ·rename_i h6
  rcases h6 with h6 | h6
  ·have:=htk _ h6 (by decide) (by decide);exact⟨this.1,fun _=>this.2⟩
  ·have:=htk _ h6 (by decide) (by decide);exact⟨this.1,fun _=>this.2⟩
 split
 ·have:=htk _ ‹_› (by decide) (by decide);exact⟨this.1,fun _=>this.2⟩
 split
 ·rename_i hd
  have h1:=takeP h hd.1;have h2:=zar h1.ok;unfold varS
  split
  ·exact⟨h1.trans h2,fun _=>by have:=h2.ix;exact Nat.lt_of_lt_of_le (Nat.lt_succ_self _) this⟩
  ·exact⟨h1.trans h2,fun h=>by cases h⟩
 split
 ·have hb:=zaH hL bLb bRb 0 c h
  unfold listS
  cases hq:(brk L bLb bRb 0 c).1 with
  | none=>exact⟨hb.1,fun h=>by cases h⟩
  | some l=>exact⟨hb.1,fun _=>hb.2 (by rw[hq];rfl)⟩
 split
 ·have hb:=zaH (zas hL) bLc bRc 0 c h
  unfold objS
  cases hq:(brk (argS L) bLc bRc 0 c).1 with
  | none=>exact⟨hb.1,fun h=>by cases h⟩
  | some l=>exact⟨hb.1,fun _=>hb.2 (by rw[hq];rfl)⟩
 ·exact⟨zbf h _,fun h=>by cases h⟩
theorem zaj (ct:Bool):∀ f,Goes (litF ct f)
 | 0=>fun c h=>⟨Stp.refl h,fun h=>by cases h⟩
 | f+1=>zj2 (zaj ct f) ct
theorem zfT (a b:ByteArray):(a ++ b).size=a.size+b.size:=ByteArray.size_append
theorem zcz:∀ (f:Nat) (c:Cu),c.Ok→Stp c (typF f c).2∧∀ r,(typF f c).1=some r→r.2.size<(typF f c).2.ix - c.ix+1
 | 0,c,h=>⟨Stp.refl h,fun r hr=>by cases hr⟩
 | f+1,c,h=>by
  have hu:Stp c (unm (typF f) c).2∧∀ r,(unm (typF f) c).1=some r→r.2.size<(unm (typF f) c).2.ix - c.ix+1:=by
   unfold unm
   split
   ·have ho:=zau h bLb
    split
    ·rename_i hb
     have hi:=zaL hb;have h2:=zcz f _ ho.ok
     cases hq:(typF f (c.opn bLb)).1 with
     | none=>exact⟨ho.trans h2.1,fun r hr=>by cases hr⟩
     | some it =>
      have h3:=zbv h2.1.ok bRb;have h4:=h2.2 it hq;have h5:=h2.1.ix;have h6:=h3.ix;dsimp only
      split
      ·refine⟨(ho.trans h2.1).trans h3,fun r hr=>?_⟩
       obtain rfl:=Option.some.inj hr
       show (it.2 ++ bRb).size<_
       rw[zfT]
       show it.2.size+1<((typF f (c.opn bLb)).2.cls bRb).ix - c.ix+1
       omega
      ·exact⟨(ho.trans h2.1).trans h3,fun r hr=>by cases hr⟩
    ·exact⟨ho,fun r hr=>by cases hr⟩
   ·have hn:=zar h
    split
    ·exact⟨hn,fun r hr=>by obtain rfl:=Option.some.inj hr;show (0:Nat)<_;omega⟩
    ·exact⟨hn,fun r hr=>by cases hr⟩
  show Stp c (typ (unm (typF f)) c).2∧∀ r,(typ (unm (typF f)) c).1=some r→r.2.size<(typ (unm (typF f)) c).2.ix - c.ix+1
  unfold typ
  cases hq:(unm (typF f) c).1 with
  | none=>exact⟨hu.1,fun r hr=>by cases hr⟩
  | some it =>
   have hp:=zaT hu.1.ok bBang;have h4:=hu.2 it hq;have h5:=hu.1.ix;dsimp only
   split
   ·rename_i hb
    refine⟨hu.1.trans hp,fun r hr=>?_⟩
    obtain rfl:=Option.some.inj hr
    show (it.2 ++ bBang).size<_
    rw[zfT];have:((unm (typF f) c).2.punct bBang).ix=(unm (typF f) c).2.ix+1:=by unfold Cu.punct;rw[if_pos hb];rfl
    rw[this]
    show it.2.size+1<_
    omega
   ·refine⟨hu.1.trans hp,fun r hr=>?_⟩
    obtain rfl:=Option.some.inj hr;have:=hp.ix
    show it.2.size<((unm (typF f) c).2.punct bBang).ix - c.ix+1
    omega
end Go.Proofs.YtifbkdicglcogaaGreat.cu
namespace Go.Proofs.YtifbkdicglcogaaGreat.rgn
variable {P:Program} {md:Region.Mode} {ops:Array Oper} {Q:Exit→Act→World→Prop} {S:World→Prop}
universe u
theorem _root_.Go.Proofs.YtifbkdicglcogaaGreat.zA {A:Type u} {xs:List A} {i:Nat} (h:i<xs.toArray.size):xs.toArray[i]=xs[i]'(by simpa using h):=List.getElem_toArray h
theorem _root_.Go.Proofs.YtifbkdicglcogaaGreat.zB {A:Type u} (a:A) (r:List A) (h:0<(a :: r).length):(a :: r)[0]=a:=List.getElem_cons_zero a r h
theorem _root_.Go.Proofs.YtifbkdicglcogaaGreat.zC {A:Type u} (a:A) (r:List A) (i:Nat) (h:i+1<(a :: r).length):(a :: r)[i+1]=r[i]'(by simpa using h):=List.getElem_cons_succ a r i h
theorem _root_.Go.Proofs.YtifbkdicglcogaaGreat.zD {A:Type u} (l:List A) (i:Nat) (a:A):l.toArray.setIfInBounds i a=(l.set i a).toArray:=List.setIfInBounds_toArray l i a
theorem _root_.Go.Proofs.YtifbkdicglcogaaGreat.zE {A:Type u} {x:A} {xs:List A} {a:A}:(x :: xs).set 0 a=a :: xs:=List.set_cons_zero
theorem _root_.Go.Proofs.YtifbkdicglcogaaGreat.zF {A:Type u} {x:A} {xs:List A} {i:Nat} {a:A}:(x :: xs).set (i+1) a=x :: xs.set i a:=List.set_cons_succ
theorem _root_.Go.Proofs.YtifbkdicglcogaaGreat.zz:((∀ {A:Type u} {xs:List A} {i:Nat} (h:i<xs.toArray.size),xs.toArray[i]=xs[i]'(by simpa using h))∧(∀ {A:Type u} (a:A) (r:List A) (h:0<(a :: r).length),(a :: r)[0]=a)∧(∀ {A:Type u} (a:A) (r:List A) (i:Nat) (h:i+1<(a :: r).length),(a :: r)[i+1]=r[i]'(by simpa using h))∧(∀ {A:Type u} (l:List A) (i:Nat) (a:A),l.toArray.setIfInBounds i a=(l.set i a).toArray)∧(∀ {A:Type u} {x:A} {xs:List A} {a:A},(x :: xs).set 0 a=a :: xs)∧(∀ {A:Type u} {x:A} {xs:List A} {i:Nat} {a:A},(x :: xs).set (i+1) a=x :: xs.set i a))∧(∀ (a:Act) (v:Value),a.put none v=a)∧(∀ (a:Act) (i:Nat) (v:Value),a.put (some i) v = { a with tmps:=a.tmps.setIfInBounds i v }):=
 ⟨⟨fun h=>zA h,fun a r h=>zB a r h,fun a r i h=>zC a r i h,fun l i a=>zD l i a,zE,zF⟩,fun _ _=>rfl,fun _ _ _=>rfl⟩
theorem tk {i fuel:Nat} {listed:Array Bool} {a:Act} {w:World} {o:Oper} {v:Value} (ho:ops[i]? = some o) (hk:(Region.noSelect ops && Region.free md ops listed i && (Region.ready md ops listed).contains i)=true)
  (hQ:∀ c a w,Q (.panic c) (a.put o.dst v) w→Q (.panic c) a w) (hy:YieldsIf P ops S o v a) (hS:S w)
  (h:wpAnyH P md ops Q S fuel (listed.setIfInBounds i true) (a.put o.dst v) w):wpAnyH P md ops Q S (fuel+1) listed a w:=by
 simp only[Bool.and_eq_true] at hk;exact wpAnyH_take ho hk.1.1 hk.1.2 hk.2 hQ hy hS h
theorem tl {i fuel:Nat} {listed:Array Bool} {a:Act} {w:World} {o:Oper} {v:Value} (ho:ops[i]? = some o) (hk:(Region.noSelect ops && Region.free md ops listed i && (Region.ready md ops listed).contains i)=true)
  (hQ:∀ c a w,Q (.panic c) (a.put o.dst v) w→Q (.panic c) a w) (hw:Region.wanted o (yielded ops a.tmps)=true) (hy:∀ w,S w→(execOp a.eval o).run P w = .ok (.value v) w) (hS:S w)
  (h:wpAnyH P md ops Q S fuel (listed.setIfInBounds i true) (a.put o.dst v) w):wpAnyH P md ops Q S (fuel+1) listed a w:=tk ho hk hQ (.inl ⟨hw,hy⟩) hS h
theorem u (i:Nat) {fuel:Nat} {listed:Array Bool} {a:Act} {w:World} {o:Oper} {v:Value} (hy:∀ w,S w→(execOp a.eval o).run P w = .ok (.value v) w) (hS:S w)
  (h:wpAnyH P md ops Q S fuel (listed.setIfInBounds i true) (a.put o.dst v) w) (ho:ops[i]? = some o:=by rfl) (hk:(Region.noSelect ops && Region.free md ops listed i && (Region.ready md ops listed).contains i)=true:=by kernel_rfl)
  (hQ:∀ c a w,Q (.panic c) (a.put o.dst v) w→Q (.panic c) a w:=by exact fun _ _ _ h=>h) (hw:Region.wanted o (yielded ops a.tmps)=true:=by rfl):wpAnyH P md ops Q S (fuel+1) listed a w:=tl ho hk hQ hw hy hS h
theorem take {i fuel:Nat} {listed:Array Bool} {a:Act} {w:World} (o:Oper) (v:Value) (ho:ops[i]? = some o) (hs:Region.noSelect ops=true) (hf:Region.free md ops listed i=true) (hr:(Region.ready md ops listed).contains i=true)
  (hQ:∀ c a w,Q (.panic c) (a.put o.dst v) w→Q (.panic c) a w) (hw:Region.wanted o (yielded ops a.tmps)=true) (hS:S w) (hy:∀ w,S w→(execOp a.eval o).run P w = .ok (.value v) w)
  (h:wpAnyH P md ops Q S fuel (listed.setIfInBounds i true) (a.put o.dst v) w):wpAnyH P md ops Q S (fuel+1) listed a w:=
 wpAnyH_take ho hs hf hr hQ (.inl ⟨hw,hy⟩) hS h
theorem one {i fuel:Nat} {listed:Array Bool} {a:Act} {w:World} (o:Oper) (ho:ops[i]? = some o) (hr:Region.ready md ops listed=[i]) (hw:Region.wanted o (yielded ops a.tmps)=true)
  (h:o.wp P a w (fun a' w'=>S w'∧wpAnyH P md ops Q S fuel (listed.setIfInBounds i true) a' w') Q):wpAnyH P md ops Q S (fuel+1) listed a w:=by
 refine wpAnyH_all hr (by simp) ?_
 intro j hj;obtain rfl:j=i:=by simpa using hj
 unfold wpOp;simp only[ho,hw,if_true];exact .inl h
theorem two {i j fuel:Nat} {listed:Array Bool} {a:Act} {w:World} (oi oj:Oper) (hi:ops[i]? = some oi) (hj:ops[j]? = some oj) (hr:Region.ready md ops listed=[i,j]) (wi:Region.wanted oi (yielded ops a.tmps)=true) (wj:Region.wanted oj (yielded ops a.tmps)=true)
  (h1:oi.wp P a w (fun a' w'=>S w'∧wpAnyH P md ops Q S fuel (listed.setIfInBounds i true) a' w') Q)
  (h2:oj.wp P a w (fun a' w'=>S w'∧wpAnyH P md ops Q S fuel (listed.setIfInBounds j true) a' w') Q):wpAnyH P md ops Q S (fuel+1) listed a w:=by
 refine wpAnyH_all hr (by simp) ?_
 intro k hk
 rcases (by simpa using hk:k=i∨k=j) with rfl | rfl
 ·unfold wpOp
  simp only[hi,wi,if_true];exact .inl h1
 ·unfold wpOp
  simp only[hj,wj,if_true];exact .inl h2
theorem zao {fn:Func} {p:Tmp} {ty:TypeId} (h:fn.results = #[.cell p ty]) (tmps:Array Value) (w:World) (b o:Nat) (cs:List Value) (d:TypeDesc) (hp:tmps.getD p undef = .pointer (some ⟨b,o,none⟩)) (hc:w.rangeAt b o cs)
  (hu:P.underlying ty=some d) (hd:d.isRow=true) (hi:(P.info? ty).map (·.size)=some cs.length):(results fn tmps).run P w = .ok (.agg cs.toArray) w:=by
 have:=run_loadVar_mid (P:=P) w b o ty cs d hc hu hd hi;have hp':tmps[p]?.getD undef = .pointer (some ⟨b,o,none⟩):=by simpa using hp
 simp[results,h,hp',asAddr,this]
theorem zad {fn:Func} {p u:Tmp} {ty:TypeId} (h:fn.results = #[.cell p ty,.tmp u]) (tmps:Array Value) (w:World) (b o:Nat) (cs:List Value) (d:TypeDesc) (hp:tmps.getD p undef = .pointer (some ⟨b,o,none⟩)) (hc:w.rangeAt b o cs)
  (hu:P.underlying ty=some d) (hd:d.isRow=true) (hi:(P.info? ty).map (·.size)=some cs.length):(results fn tmps).run P w = .ok (.tuple #[.agg cs.toArray,tmps.getD u undef]) w:=by
 have:=run_loadVar_mid (P:=P) w b o ty cs d hc hu hd hi;have hp':tmps[p]?.getD undef = .pointer (some ⟨b,o,none⟩):=by simpa using hp
 simp[results,h,hp',asAddr,this]
end Go.Proofs.YtifbkdicglcogaaGreat.rgn
