import Derived.Test.YtepmbmbnlmbhhaaGreatLit3
import Derived.Deep.LoopGhost
import Derived.WalkMore
import Derived.Shelf.Strings.Runes
import Derived.Test.YtepmbmbnlmbhhaaGreatProg
import Derived.Shelf.Small.Strs
import Derived.Laws.Runes
set_option linter.unusedVariables false
set_option linter.unusedSimpArgs false
namespace Go.Proofs.YtepmbmbnlmbhhaaGreat.lx
open Go.ChangeShapes Go.WideShapes Go.ChangeAt Go.RowKit
open ints (Hi uh)
open mem (Row)
def src (a:Option Addr) (n c:Nat) (cl:Bool):Value:=.agg #[.slice a n c,.bool cl]
theorem at_ok (a:Option Addr) (n c:Nat) (cl:Bool) (l:List Int) (i:Nat) (w:World) (h:Row .i32 w a n c l) (hn:n ≤ 4611686018427387904) :
  Calls Tryz.prog 108 #[src a n c cl,.int .i64 (i:Int)] w fun e w' => e = .returned (.int .i32 (cAt l i)) ∧ Below w.heap.size w w':=by
 unfold src
 by_cases hi:i < n
 ·have hc:=Hi (cAt_in (l:=l) (i:=i) (by rw [h.len];exact hi))
  rcases h.at_ with h0 | ⟨b,off,rfl,hb,hcell⟩
  ·omega
  have c1:=hcell i hi
  obtain ⟨x,hx⟩:∃ x,x = l.getD i 0:=⟨_,rfl⟩
  rw [← hx] at c1 hc
  have ii:(i:Int) < (n:Int):=by omega
  clear hx hcell
  go_enter Tryz.func108,Tryz.ntmps108
  go_wp2
  go_ret
  rw [uh hc]
  exact ⟨rfl,(Below.refl _ _).alloc (Nat.le_refl _) _⟩
 ·have hc:=Hi (cAt_end (l:=l) (i:=i) (by rw [h.len];omega))
  have ii:¬ (i:Int) < (n:Int):=by omega
  go_enter Tryz.func108,Tryz.ntmps108
  go_wp2
  go_ret
  rw [uh hc]
  exact ⟨rfl,(Below.refl _ _).alloc (Nat.le_refl _) _⟩
theorem blank_ok (c:Int) (w:World):Calls Tryz.prog 109 #[.int .i32 c] w fun e w' => e = .returned (.bool (blB c)) ∧ w' = w:=by
 by_cases h:ints.blP c
 ·have:blB c = true:=decide_eq_true h
  rw [this];exact ints.bl_yes c w h
 ·have:blB c = false:=decide_eq_false h
  rw [this];exact ints.bl_no c w h
theorem source_ok (c:Int) (w:World):Calls Tryz.prog 110 #[.int .i32 c] w fun e w' => e = .returned (.bool (soB c)) ∧ w' = w:=by
 by_cases h:ints.soP c
 ·have:soB c = true:=decide_eq_true h
  rw [this];exact ints.so_yes c w h
 ·have:soB c = false:=decide_eq_false h
  rw [this];exact ints.so_no c w h
theorem ns_ok (c:Int) (w:World):Calls Tryz.prog 112 #[.int .i32 c] w fun e w' => e = .returned (.bool (nsB c)) ∧ w' = w:=by
 by_cases h:ints.nsP c
 ·have:nsB c = true:=decide_eq_true h
  rw [this];exact ints.ns_yes c w h
 ·have:nsB c = false:=decide_eq_false h
  rw [this];exact ints.ns_no c w h
theorem nr_ok (c:Int) (w:World):Calls Tryz.prog 138 #[.int .i32 c] w fun e w' => e = .returned (.bool (nrB c)) ∧ w' = w:=by
 by_cases h:ints.nrP c
 ·have:nrB c = true:=decide_eq_true h
  rw [this];exact ints.nr_yes c w h
 ·have:nrB c = false:=decide_eq_false h
  rw [this];exact ints.nr_no c w h
theorem digit_ok (c:Int) (w:World):Calls Tryz.prog 114 #[.int .i32 c] w fun e w' => e = .returned (.bool (mem.digB c)) ∧ w' = w:=by
 by_cases h:48 ≤ c ∧ c ≤ 57
 ·have:mem.digB c = true:=by unfold mem.digB;simpa using h
  rw [this];exact ints.digit_yes c w h.1 h.2
 ·have:mem.digB c = false:=by unfold mem.digB;rw [← Bool.not_eq_true];simpa using h
  rw [this];exact ints.digit_no c w h
structure Sb (w0 w:World) (a:Option Addr) (n c:Nat) (cl:Bool):Prop where
 lt:w0.heap.size < w.heap.size
 c0:w.cell? ⟨w0.heap.size,0,none⟩ = some (.slice a n c)
 c1:w.cell? ⟨w0.heap.size,1,none⟩ = some (.bool cl)
 bel:Below w0.heap.size w0 w
theorem Sb.new (w:World) (a:Option Addr) (n c:Nat) (cl:Bool):Sb w (w.alloc (.cells #[.slice a n c,.bool cl] 113)) a n c cl:=
 ⟨by simp,by simp,by simp,(Below.refl _ _).alloc (Nat.le_refl _) _⟩
theorem Sb.below {w0 w w':World} {a:Option Addr} {n c:Nat} {cl:Bool} (h:Sb w0 w a n c cl) (hb:Below w.heap.size w w'):Sb w0 w' a n c cl:=
 ⟨Nat.lt_of_lt_of_le h.lt hb.size,(hb.cell (p:=⟨w0.heap.size,0,none⟩) h.lt).trans h.c0,(hb.cell (p:=⟨w0.heap.size,1,none⟩) h.lt).trans h.c1,h.bel.trans (hb.mono (Nat.le_of_lt h.lt))⟩
set_option maxHeartbeats 2000000 in
theorem ign_ok (a:Option Addr) (n c:Nat) (cl:Bool) (l:List Int) (i:Nat) (w:World) (h:Row .i32 w a n c l) (hn:n ≤ 1099511627776) (hi:i ≤ n) :
  Calls Tryz.prog 96 #[src a n c cl,.int .i64 (i:Int)] w fun e w' => e = .returned (.int .i64 (ign l false i:Nat)) ∧ Below w.heap.size w w':=by
 have hl:=Hi h.len
 obtain ⟨R,hR⟩:∃ R,R = ign l false i:=⟨_,rfl⟩
 rw [← hR]
 have HR:=Hi hR.symm
 clear hR
 unfold src
 have hsb:=Hi (Sb.new w a n c cl)
 go_enter Tryz.func96,Tryz.ntmps96
 go_wp2_with fail
 go_step3
 go_wp2_with fail
 go_step3
 go_wp2_with fail
 obtain ⟨w1,hw1⟩:∃ w1,w1 = w.alloc (.cells #[.slice a n c,.bool cl] 113):=⟨_,rfl⟩
 rw [← hw1] at hsb ⊢
 clear hw1
 go_loopg [1] (n + 1) (fun g vi wr => ∃ k:Nat,k ≤ n ∧ n + 1 ≤ g + k ∧ vi = .int .i64 k ∧ Hid (ign l false k = R) ∧ Sb w wr a n c cl)
 case atStart => exact ⟨i,hi,by omega,rfl,HR,uh hsb⟩
 case round =>
  obtain ⟨k,hk,hg,rfl,hik,hs⟩:=hrel
  have d0:=hs.c0
  have d1:=hs.c1
  go_wp2_with fail
  refine (at_ok a n c cl l k wr (h.below hs.bel) (by omega)).mono ?_
  rintro e w2 ⟨rfl,b2⟩
  have hs2:=hs.below b2
  obtain ⟨x,hx⟩:∃ x,x = cAt l k:=⟨_,rfl⟩
  rw [← hx]
  have Hx:=Hi hx.symm
  clear hx hs d0 d1
  go_wp2_with fail
  refine (blank_ok x w2).mono ?_
  rintro e w3 ⟨rfl,rfl⟩
  have hL:=uh hl
  cases hb:blB x
  ·have n35:∀ y:Int,y = 35 → (y != 35) = false:=fun y e => by subst e;rfl
   by_cases h35:x = 35
   ·subst h35
    have hlt:k < n:=by rw [← hL];exact cAt_lt (uh Hx) (by decide)
    have hik2:=Hi (show ign l true (k + 1) = R from by
     have e:=uh hik
     rw [ign_f,uh Hx] at e
     exact e)
    clear n35 hL
    go_wp2_with fail
    go_loopg [1] (n + 1) (fun g vi wq => ∃ j:Nat,j < n ∧ k ≤ j ∧ n + 1 ≤ g + j ∧ vi = .int .i64 j ∧ Hid (ign l true (j + 1) = R) ∧ Sb w wq a n c cl)
    case atStart => exact ⟨k,hlt,Nat.le_refl _,by omega,rfl,hik2,hs2⟩
    case round =>
     obtain ⟨j,hj,hkj,hg2,rfl,hij,hs3⟩:=hrel
     have d0:=hs3.c0
     have d1:=hs3.c1
     go_wp2_with fail
     rw [show ((j:Int) + 1) = ((j + 1:Nat):Int) by omega]
     refine (at_ok a n c cl l (j + 1) _ (h.below hs3.bel) (by omega)).mono ?_
     rintro e w4 ⟨rfl,b4⟩
     have hs4:=hs3.below b4
     obtain ⟨y,hy⟩:∃ y,y = cAt l (j + 1):=⟨_,rfl⟩
     rw [← hy]
     have Hy:=Hi hy.symm
     clear hy hs3 d0 d1
     have hL:=uh hl
     by_cases hnl:y = 10 ∨ y = 13
     ·have hlt2:j + 1 < n:=by rw [← hL];exact cAt_lt (uh Hy) (by omega)
      have hij2:=Hi (show ign l false (j + 2) = R from by
       have e:=uh hij
       rw [ign_t,uh Hy,if_pos hnl] at e
       exact e)
      clear hL
      rcases hnl with rfl | rfl
      ·go_wp2_with fail
       go_roundg (n - 1 - j)
       case rel => exact ⟨j + 2,by omega,by omega,by go_num,hij2,hs4⟩
       case measure => omega
      ·go_wp2_with fail
       go_roundg (n - 1 - j)
       case rel => exact ⟨j + 2,by omega,by omega,by go_num,hij2,hs4⟩
       case measure => omega
     ·have e10:(y == 10) = false:=by simp;omega
      have e13:(y == 13) = false:=by simp;omega
      have Hnl:=Hi hnl
      clear hnl
      go_wp2_with fail
      refine (source_ok y _).mono ?_
      rintro e w5 ⟨rfl,rfl⟩
      cases hso:soB y
      ·have hij2:=Hi (show j + 1 = R from by
        have e:=uh hij
        rw [ign_t,uh Hy,if_neg (uh Hnl),hso] at e
        exact e)
       clear hL
       go_wp2_with fail
       try rw [Exit.noGoto_ret]
       go_ret
       exact ⟨by rw [← uh hij2];rfl,hs4.bel⟩
      ·have hlt2:j + 1 < n:=by
        rw [← hL];exact cAt_lt (uh Hy) (fun e => by rw [e] at hso;revert hso;decide)
       have hij2:=Hi (show ign l true (j + 1 + 1) = R from by
        have e:=uh hij
        rw [ign_t,uh Hy,if_neg (uh Hnl),hso] at e
        exact e)
       clear hL
       go_wp2_with fail
       go_roundg (gk - 1)
       case rel => exact ⟨j + 1,by omega,by omega,by omega,by go_num,hij2,hs4⟩
       case measure => omega
   ·have hb35:(x != 35) = true:=by simpa using h35
    have hik2:=Hi (show k = R from by
     have e:=uh hik
     rw [ign_f,uh Hx,hb,if_neg (by decide),if_neg h35] at e
     exact e)
    clear h35 n35
    go_wp2_with fail
    try rw [Exit.noGoto_ret]
    go_ret
    exact ⟨by rw [← uh hik2];rfl,hs2.bel⟩
  ·have hlt:k < n:=by
    rw [← hL];exact cAt_lt (uh Hx) (fun e => by rw [e] at hb;revert hb;decide)
   have hik2:=Hi (show ign l false (k + 1) = R from by
    have e:=uh hik
    rw [ign_f,uh Hx,hb] at e
    exact e)
   clear hL
   go_wp2_with fail
   go_roundg (gk - 1)
   case rel => exact ⟨k + 1,by omega,by omega,by go_num,hik2,hs2⟩
   case measure => omega
set_option maxHeartbeats 2000000 in
theorem nam_ok (a:Option Addr) (n c:Nat) (cl:Bool) (l:List Int) (i:Nat) (w:World) (h:Row .i32 w a n c l) (hn:n ≤ 1099511627776) (hi:i ≤ n) :
  Calls Tryz.prog 113 #[src a n c cl,.int .i64 (i:Int)] w fun e w' => e = .returned (.int .i64 (nam l i:Nat)) ∧ Below w.heap.size w w':=by
 have hl:=Hi h.len
 obtain ⟨R,hR⟩:∃ R,R = nam l i:=⟨_,rfl⟩
 rw [← hR]
 have HR:=Hi hR.symm
 clear hR
 unfold src
 have hsb:=Hi (Sb.new w a n c cl)
 go_enter Tryz.func113,Tryz.ntmps113
 go_wp2_with fail
 obtain ⟨w1,hw1⟩:∃ w1,w1 = w.alloc (.cells #[.slice a n c,.bool cl] 113):=⟨_,rfl⟩
 rw [← hw1] at hsb ⊢
 clear hw1
 go_loopg [1] (n + 1) (fun g vi wr => ∃ k:Nat,k ≤ n ∧ n + 1 ≤ g + k ∧ vi = .int .i64 k ∧ Hid (nam l k = R) ∧ Sb w wr a n c cl)
 case atStart => exact ⟨i,hi,by omega,rfl,HR,uh hsb⟩
 case round =>
  obtain ⟨k,hk,hg,rfl,hik,hs⟩:=hrel
  have d0:=hs.c0
  have d1:=hs.c1
  go_wp2_with fail
  refine (at_ok a n c cl l k wr (h.below hs.bel) (by omega)).mono ?_
  rintro e w2 ⟨rfl,b2⟩
  have hs2:=hs.below b2
  obtain ⟨x,hx⟩:∃ x,x = cAt l k:=⟨_,rfl⟩
  rw [← hx]
  have Hx:=Hi hx.symm
  clear hx hs d0 d1
  go_wp2_with fail
  refine (nr_ok x w2).mono ?_
  rintro e w3 ⟨rfl,rfl⟩
  have hL:=uh hl
  cases hb:nrB x
  ·have hik2:=Hi (show k = R from by
    have e:=uh hik
    rw [nam_eq,uh Hx,hb] at e
    exact e)
   clear hL
   go_wp2_with fail
   go_ret
   exact ⟨by rw [← uh hik2];rfl,hs2.bel⟩
  ·have hlt:k < n:=by
    rw [← hL];exact cAt_lt (uh Hx) (fun e => by rw [e] at hb;revert hb;decide)
   have hik2:=Hi (show nam l (k + 1) = R from by
    have e:=uh hik
    rw [nam_eq,uh Hx,hb] at e
    exact e)
   clear hL
   go_wp2_with fail
   go_roundg (gk - 1)
   case rel => exact ⟨k + 1,by omega,by omega,by go_num,hik2,hs2⟩
   case measure => omega
theorem bad_ok (i:Nat) (w:World):Calls Tryz.prog 119 #[.int .i64 (i:Int)] w fun e w' => e = .returned (.tuple #[.int .i64 1,.int .i64 (i:Int),.string ⟨#[]⟩]) ∧ w' = w:=by
 go_enter Tryz.func119,Tryz.ntmps119
 go_wp2
 go_ret3
 exact ⟨rfl,rfl⟩
set_option maxHeartbeats 2000000 in
theorem num_ok (a:Option Addr) (n c:Nat) (cl:Bool) (l:List Int) (i:Nat) (w:World) (h:Row .i32 w a n c l) (hn:n ≤ 1099511627776) (hi:i ≤ n) :
  Calls Tryz.prog 115 #[src a n c cl,.int .i64 (i:Int)] w fun e w' => e = .returned (.tuple #[.int .i64 (num l i).1,.int .i64 ((num l i).2:Nat),.string ⟨#[]⟩]) ∧ Below w.heap.size w w':=by
 have hl:=Hi h.len
 have hsb:=Hi (Sb.new w a n c cl)
 have hpl:=mem.pfx_le l i (by rw [h.len];exact hi)
 have hP:=Hi (fun W (hb:Below w.heap.size w W) => mem.prefix_in_i a n c l i W (h.below hb) (by omega) hi)
 have hN:=Hi (show num l i = (if cAt l (mem.pfx l i).1 = 46 ∨ nrB (cAt l (mem.pfx l i).1) then (1,i) else if (mem.pfx l i).2.2 = 1 then (4,(mem.pfx l i).1) else if (mem.pfx l i).2.2 = 2 then (5,(mem.pfx l i).1) else (1,i)) from rfl)
 have hpl1:=hpl.1
 obtain ⟨N,hNe⟩:∃ N,N = num l i:=⟨_,rfl⟩
 rw [← hNe] at hN ⊢
 clear hpl hNe
 obtain ⟨u,hu⟩:∃ u,u = (mem.pfx l i).2.1:=⟨_,rfl⟩
 rw [← hu] at hP
 clear hu
 obtain ⟨t,ht⟩:∃ t,t = (mem.pfx l i).1:=⟨_,rfl⟩
 obtain ⟨f,hf⟩:∃ f,f = (mem.pfx l i).2.2:=⟨_,rfl⟩
 rw [← ht,← hf] at hP hN
 rw [← ht] at hpl1
 clear ht hf
 have hL:=uh hl
 have htn:t ≤ n:=by omega
 clear hpl1 hL
 unfold src
 go_enter Tryz.func115,Tryz.ntmps115
 go_wp2_with fail
 obtain ⟨w1,hw1⟩:∃ w1,w1 = w.alloc (.cells #[.slice a n c,.bool cl] 113):=⟨_,rfl⟩
 rw [← hw1] at hsb ⊢
 clear hw1
 refine ((uh hP) w1 (uh hsb).bel).mono ?_
 rintro e w2 ⟨rfl,b2⟩
 have hs2:=(uh hsb).below b2
 have d0:=hs2.c0
 have d1:=hs2.c1
 clear hP
 go_wp2_with fail
 refine (at_ok a n c cl l t w2 (h.below hs2.bel) (by omega)).mono ?_
 rintro e w3 ⟨rfl,b3⟩
 have hs3:=hs2.below b3
 obtain ⟨x,hx⟩:∃ x,x = cAt l t:=⟨_,rfl⟩
 rw [← hx] at hN ⊢
 clear hx d0 d1
 by_cases h46:x = 46
 ·subst h46
  have hN2:=Hi (show N = (1,i) from by rw [uh hN];simp)
  go_wp2_with fail
  refine (bad_ok i _).mono ?_
  rintro e w4 ⟨rfl,rfl⟩
  go_wp2_with fail
  go_ret3
  exact ⟨by rw [uh hN2];rfl,hs3.bel⟩
 ·have e46:(x == 46) = false:=by simpa using h46
  have H46:=Hi h46
  clear h46
  go_wp2_with fail
  refine (nr_ok x _).mono ?_
  rintro e w4 ⟨rfl,rfl⟩
  cases hnr:nrB x
  ·have hN1:=Hi (show N = (if f = 1 then (4,t) else if f = 2 then (5,t) else (1,i)) from by
    rw [uh hN,if_neg (fun e => by rcases e with e | e;exact uh H46 e;rw [hnr] at e;cases e)])
   clear hN
   by_cases f1:f = 1
   ·subst f1
    go_wp2_with fail
    go_ret3
    exact ⟨by rw [uh hN1];rfl,hs3.bel⟩
   ·by_cases f2:f = 2
    ·subst f2
     go_wp2_with fail
     go_ret3
     exact ⟨by rw [uh hN1];rfl,hs3.bel⟩
    ·have hN2:=Hi (show N = (1,i) from by rw [uh hN1,if_neg f1,if_neg f2])
     have e1:(f == 1) = false:=by simpa using f1
     have e2:(f == 2) = false:=by simpa using f2
     clear f1 f2
     go_wp2_with fail
     refine (bad_ok i _).mono ?_
     rintro e w4 ⟨rfl,rfl⟩
     go_wp2_with fail
     go_ret3
     exact ⟨by rw [uh hN2];rfl,hs3.bel⟩
  ·have hN2:=Hi (show N = (1,i) from by rw [uh hN];simp [hnr])
   go_wp2_with fail
   refine (bad_ok i _).mono ?_
   rintro e w4 ⟨rfl,rfl⟩
   go_wp2_with fail
   go_ret3
   exact ⟨by rw [uh hN2];rfl,hs3.bel⟩
end Go.Proofs.YtepmbmbnlmbhhaaGreat.lx
namespace Go.Proofs
open Go.Shelf
def Tryz.lays151_ren:Go.Shelf.Ren:=⟨fun | 151 => 111 | 152 => 137 | 137 => 150 | 119 => 120 | 224 => 151 | 225 => 152 | 217 => 170 | 266 => 185 | n => n,fun | 9 => 9 | 21 => 21 | 4 => 4 | 3 => 3 | 5 => 5 | 0 => 0 | 46 => 176 | n => n,fun | n => n⟩
theorem Tryz.lays151:Go.Proofs.Lays.n151 Tryz.prog Tryz.lays151_ren:={
 mixed:=by kernel_rfl
 f119:=Tryz.func120.trans (congrArg some (by kernel_rfl))
 f137:=Tryz.func150.trans (congrArg some (by kernel_rfl))
 f151:=Tryz.func111.trans (congrArg some (by kernel_rfl))
 f152:=Tryz.func137.trans (congrArg some (by kernel_rfl))
 f217:=Tryz.func170.trans (congrArg some (by kernel_rfl))
 f224:=Tryz.func151.trans (congrArg some (by kernel_rfl))
 f225:=Tryz.func152.trans (congrArg some (by kernel_rfl))
 f266:=Tryz.func185.trans (congrArg some (by kernel_rfl))
 t0:=Tryz.underlying0
 a0:=Tryz.isAgg0
 z0:=Tryz.sizeOf0
 v0:=Tryz.zeroValue0
 t3:=Tryz.underlying3
 a3:=Tryz.isAgg3
 z3:=Tryz.sizeOf3
 v3:=Tryz.zeroValue3
 t4:=Tryz.underlying4
 a4:=Tryz.isAgg4
 z4:=Tryz.sizeOf4
 v4:=Tryz.zeroValue4
 t5:=Tryz.underlying5
 a5:=Tryz.isAgg5
 z5:=Tryz.sizeOf5
 v5:=Tryz.zeroValue5
 t9:=Tryz.underlying9
 a9:=Tryz.isAgg9
 z9:=Tryz.sizeOf9
 v9:=Tryz.zeroValue9
 t21:=Tryz.underlying21
 a21:=Tryz.isAgg21
 z21:=Tryz.sizeOf21
 v21:=Tryz.zeroValue21
 t46:=Tryz.underlying176
 a46:=Tryz.isAgg176
 z46:=Tryz.sizeOf176
 v46:=Tryz.zeroValue176 }
open Go.RowKit Go.Lib in
theorem Tryz.strings_ContainsRune_ascii (s:ByteArray) (r:Int) (w:World) (h0:0 ≤ r) (h1:r < 128) :
  Calls Tryz.prog 111 #[.string s,.int .i32 r] w fun e w' => e = .returned (.bool (decide (0 ≤ Lib.indexByte s.data.toList r.toNat.toUInt8))) ∧ w' = w:=Any.strings_ContainsRune_ascii Tryz.lays151 s r w h0 h1
end Go.Proofs
namespace Go.Proofs.YtepmbmbnlmbhhaaGreat.lx
open Go.ChangeShapes Go.WideShapes Go.ChangeAt Go.RowKit
open ints (Hi uh)
open mem (Row)
def Plain (l:List Int):Prop:=∀ c ∈ l,0 ≤ c ∧ c ≤ 127 ∧ c ≠ 34
theorem Plain.at_ {l:List Int} (h:Plain l) {i:Nat} (hi:i < l.length):0 ≤ cAt l i ∧ cAt l i ≤ 127 ∧ cAt l i ≠ 34:=by
 rw [cAt_in hi]
 exact h _ (by rw [List.getD_eq_getElem?_getD,List.getElem?_eq_getElem hi];exact List.getElem_mem hi)
theorem pu_dec:∀ k:Nat,k < 128 → decide (0 ≤ Lib.indexByte [33,36,38,40,41,58,61,64,91,93,123,124,125] ((k:Int).toNat.toUInt8)) = puB (k:Int):=by decide +kernel
theorem contains_ok (c:Int) (w:World) (h0:0 ≤ c) (h1:c ≤ 127) :
  Calls Tryz.prog 111 #[.string ⟨#[33,36,38,40,41,58,61,64,91,93,123,124,125]⟩,.int .i32 c] w fun e w' => e = .returned (.bool (puB c)) ∧ w' = w:=by
 have h:=Tryz.strings_ContainsRune_ascii ⟨#[33,36,38,40,41,58,61,64,91,93,123,124,125]⟩ c w h0 (by omega)
 have e:=pu_dec c.toNat (by omega)
 rw [Int.toNat_of_nonneg h0] at e
 rw [show decide (0 ≤ Lib.indexByte (⟨#[33,36,38,40,41,58,61,64,91,93,123,124,125]⟩:ByteArray).data.toList c.toNat.toUInt8) = puB c from e] at h
 exact h
set_option maxHeartbeats 2000000 in
theorem tq_no (a:Option Addr) (n c:Nat) (cl:Bool) (l:List Int) (i:Nat) (w:World) (h:Row .i32 w a n c l) (hn:n ≤ 1099511627776) (hi:i ≤ n) (h34:cAt l i ≠ 34) :
  Calls Tryz.prog 116 #[src a n c cl,.int .i64 (i:Int)] w fun e w' => e = .returned (.bool false) ∧ Below w.heap.size w w':=by
 have hsb:=Hi (Sb.new w a n c cl)
 unfold src
 go_enter Tryz.func116,Tryz.ntmps116
 go_wp2_with fail
 obtain ⟨w1,hw1⟩:∃ w1,w1 = w.alloc (.cells #[.slice a n c,.bool cl] 113):=⟨_,rfl⟩
 rw [← hw1] at hsb ⊢
 clear hw1
 have d0:=(uh hsb).c0
 have d1:=(uh hsb).c1
 refine wp_loop_rounds 1 ?_
 rw [rounds_succ]
 go_wp2_with fail
 refine (at_ok a n c cl l i w1 (h.below (uh hsb).bel) (by omega)).mono ?_
 rintro e w2 ⟨rfl,b2⟩
 have hs2:=(uh hsb).below b2
 have e34:(cAt l i != 34) = true:=by simpa using h34
 go_wp2_with fail
 go_ret
 exact ⟨rfl,hs2.bel⟩
end Go.Proofs.YtepmbmbnlmbhhaaGreat.lx
namespace Go.Proofs
open Go.Shelf
def Tryz.lays137_ren:Go.Shelf.Ren:=⟨fun | 137 => 150 | 217 => 170 | 266 => 185 | n => n,fun | 9 => 9 | 5 => 5 | 3 => 3 | n => n,fun | n => n⟩
theorem Tryz.lays137:Go.Proofs.Lays.n137 Tryz.prog Tryz.lays137_ren:={
 mixed:=by kernel_rfl
 f137:=Tryz.func150.trans (congrArg some (by kernel_rfl))
 f217:=Tryz.func170.trans (congrArg some (by kernel_rfl))
 f266:=Tryz.func185.trans (congrArg some (by kernel_rfl))
 t3:=Tryz.underlying3
 a3:=Tryz.isAgg3
 z3:=Tryz.sizeOf3
 v3:=Tryz.zeroValue3
 t5:=Tryz.underlying5
 a5:=Tryz.isAgg5
 z5:=Tryz.sizeOf5
 v5:=Tryz.zeroValue5
 t9:=Tryz.underlying9
 a9:=Tryz.isAgg9
 z9:=Tryz.sizeOf9
 v9:=Tryz.zeroValue9 }
open Go.RowKit in
theorem Tryz.strings_IndexByte (s:ByteArray) (c:Int) (w:World) :
  Calls Tryz.prog 150 #[.string s,.int .u8 c] w fun e w' => e = .returned (.int .i64 (Lib.indexByte s.data.toList c.toNat.toUInt8)) ∧ w' = w:=Any.strings_IndexByte Tryz.lays137 s c w
end Go.Proofs
namespace Go.Proofs.YtepmbmbnlmbhhaaGreat.lx
open Go.ChangeShapes Go.WideShapes Go.ChangeAt Go.RowKit
open mem
open ints (Hi uh)
theorem inB_ret {id:Nat} {Q:Exit → Act → World → Prop} {a:Act} {w:World}:Exit.inBlock id Q .ret a w = Q .ret a w:=rfl
theorem th_ret {n:Act → World → Prop} {Q:Exit → Act → World → Prop} {a:Act} {w:World}:Exit.then n Q .ret a w = Q .ret a w:=rfl
theorem idx_none (l:List UInt8) (c:UInt8) (h:∀ b ∈ l,b ≠ c):Lib.indexByte l c = -1:=by
 induction l with
 | nil => rfl
 | cons b l ih =>
  have h1:=h b (by simp)
  have h2:=ih (fun x hx => h x (by simp [hx]))
  unfold Lib.indexByte
  rw [h2]
  simp [h1]
theorem idx_tail (l:List UInt8) (k:Nat) (hk:128 ≤ k) (hk2:k < 256) (hl:l.all (fun b => decide (b.toNat < 128)) = true):Lib.indexByte l ((k:Int).toNat.toUInt8) = -1:=by
 apply idx_none
 intro b hb e
 rw [List.all_eq_true] at hl
 have h1:=hl b hb
 simp only [decide_eq_true_eq] at h1
 rw [e] at h1
 simp at h1
 omega
theorem idx_call (k m:Nat) (W:World) (hk:k = 2 ∨ k = 3 ∨ k = 4) (h1:128 ≤ m) (h2:m < 256) :
  Calls Tryz.prog 150 #[.string ((⟨#[33,36,38,40,41,58,61,64,91,93,123,124,125]⟩:ByteArray).extract k 13),.int .u8 (m:Int)] W fun e w' => e = .returned (.int .i64 (-1)) ∧ w' = W:=by
 have h:=Tryz.strings_IndexByte ((⟨#[33,36,38,40,41,58,61,64,91,93,123,124,125]⟩:ByteArray).extract k 13) (m:Int) W
 rw [idx_tail _ _ h1 h2 (by rcases hk with rfl | rfl | rfl <;> decide +kernel)] at h
 exact h
set_option maxHeartbeats 16000000 in
set_option maxRecDepth 100000 in
theorem idx_hi (c:Int) (w:World) (hs:scP c) (h0:128 ≤ c) (hf:¬ c = 65533) :
  Calls Tryz.prog 137 #[.string ⟨#[33,36,38,40,41,58,61,64,91,93,123,124,125]⟩,.int .i32 c] w fun e w' => e = .returned (.int .i64 (-1)) ∧ Below w.heap.size w w':=by
 have V:=Hi (fun W => valid_yes c W hs)
 have h1:c ≤ 1114111:=by unfold scP at hs;omega
 obtain ⟨z1,z2,z3⟩:=encode_facts c ((by obtain ⟨n,rfl⟩:∃ n:Nat,c = n:=⟨c.toNat,by omega⟩;exact (valid_iff n).2 (by unfold scP at hs;omega))) h0
 have hcv:=fun W => run_convert_int_string (P:=Tryz.prog) W 21 9 .i32 c (by rw [Tryz.underlying21];rfl) Tryz.underlying9
 obtain ⟨R,hR⟩:∃ R,R = Utf8.encode c:=⟨_,rfl⟩
 rw [← hR] at z1 z2 z3 hcv
 clear hs hR
 have hlt:R.size - 1 < R.size:=by omega
 have z4:=z3 hlt
 clear z3
 have wr2:IntKind.i64.wrap 2 = 2:=by decide
 have wr3:IntKind.i64.wrap 3 = 3:=by decide
 have wr4:IntKind.i64.wrap 4 = 4:=by decide
 rcases (show R.size = 2 ∨ R.size = 3 ∨ R.size = 4 by omega) with hz | hz | hz
 ·have hl1:1 < R.size:=by omega
  have z5:128 ≤ (R[1]'hl1).toNat:=by
   have e:∀ (j:Nat) (hj:j < R.size),j = 1 → (R[j]'hj).toNat = (R[1]'hl1).toNat:=by intro j hj e;subst e;rfl
   rw [← e _ hlt (by omega)];exact z4
  have hk2:=UInt8.toNat_lt (R[1]'hl1)
  have n1:(((⟨#[33,36,38,40,41,58,61,64,91,93,123,124,125]⟩:ByteArray)[1]'(by decide)).toNat:Int) = 36:=rfl
  have IB:=fun (W:World) => idx_call 2 _ W (by decide) z5 hk2
  obtain ⟨x,hx⟩:∃ x,x = (R[1]'hl1).toNat:=⟨_,rfl⟩
  rw [← hx] at z5 IB
  have hx2:(R[1]'hl1).toNat = x:=hx.symm
  have hne:¬ (36:Int) = (x:Int):=by omega
  clear hx z4 hlt hk2
  go_enter Tryz.func137,Tryz.ntmps137
  go_wp2_with fail
  refine (uh V _).mono ?_
  rintro e w1 ⟨rfl,rfl⟩
  go_wp2_with fail
  go_step3
  go_wp2_with fail
  refine wp_loop_rounds 1 ?_
  rw [rounds_succ]
  go_wp2_with fail
  go_step3
  go_wp2_with fail
  go_region
  go_wp2_with fail
  go_quiet ((refine Calls.mono (IB _) ?_;rintro e w' ⟨rfl,rfl⟩;exact ⟨rfl,_,rfl⟩))
  go_wp2
  rw [Exit.noGoto_ret,inB_ret,th_ret,inB_ret,th_ret,Exit.noGoto_ret]
  go_ret
  exact ⟨rfl,Go.below_drewN (Below.refl _ _) _⟩
 ·have hl2:2 < R.size:=by omega
  have z5:128 ≤ (R[2]'hl2).toNat:=by
   have e:∀ (j:Nat) (hj:j < R.size),j = 2 → (R[j]'hj).toNat = (R[2]'hl2).toNat:=by intro j hj e;subst e;rfl
   rw [← e _ hlt (by omega)];exact z4
  have hk2:=UInt8.toNat_lt (R[2]'hl2)
  have n1:(((⟨#[33,36,38,40,41,58,61,64,91,93,123,124,125]⟩:ByteArray)[2]'(by decide)).toNat:Int) = 38:=rfl
  have IB:=fun (W:World) => idx_call 3 _ W (by decide) z5 hk2
  obtain ⟨x,hx⟩:∃ x,x = (R[2]'hl2).toNat:=⟨_,rfl⟩
  rw [← hx] at z5 IB
  have hx2:(R[2]'hl2).toNat = x:=hx.symm
  have hne:¬ (38:Int) = (x:Int):=by omega
  clear hx z4 hlt hk2
  go_enter Tryz.func137,Tryz.ntmps137
  go_wp2_with fail
  refine (uh V _).mono ?_
  rintro e w1 ⟨rfl,rfl⟩
  go_wp2_with fail
  go_step3
  go_wp2_with fail
  refine wp_loop_rounds 1 ?_
  rw [rounds_succ]
  go_wp2_with fail
  go_step3
  go_wp2_with fail
  go_region
  go_wp2_with fail
  go_quiet ((refine Calls.mono (IB _) ?_;rintro e w' ⟨rfl,rfl⟩;exact ⟨rfl,_,rfl⟩))
  go_wp2
  rw [Exit.noGoto_ret,inB_ret,th_ret,inB_ret,th_ret,Exit.noGoto_ret]
  go_ret
  exact ⟨rfl,Go.below_drewN (Below.refl _ _) _⟩
 ·have hl3:3 < R.size:=by omega
  have z5:128 ≤ (R[3]'hl3).toNat:=by
   have e:∀ (j:Nat) (hj:j < R.size),j = 3 → (R[j]'hj).toNat = (R[3]'hl3).toNat:=by intro j hj e;subst e;rfl
   rw [← e _ hlt (by omega)];exact z4
  have hk2:=UInt8.toNat_lt (R[3]'hl3)
  have n1:(((⟨#[33,36,38,40,41,58,61,64,91,93,123,124,125]⟩:ByteArray)[3]'(by decide)).toNat:Int) = 40:=rfl
  have IB:=fun (W:World) => idx_call 4 _ W (by decide) z5 hk2
  obtain ⟨x,hx⟩:∃ x,x = (R[3]'hl3).toNat:=⟨_,rfl⟩
  rw [← hx] at z5 IB
  have hx2:(R[3]'hl3).toNat = x:=hx.symm
  have hne:¬ (40:Int) = (x:Int):=by omega
  clear hx z4 hlt hk2
  go_enter Tryz.func137,Tryz.ntmps137
  go_wp2_with fail
  refine (uh V _).mono ?_
  rintro e w1 ⟨rfl,rfl⟩
  go_wp2_with fail
  go_step3
  go_wp2_with fail
  refine wp_loop_rounds 1 ?_
  rw [rounds_succ]
  go_wp2_with fail
  go_step3
  go_wp2_with fail
  go_region
  go_wp2_with fail
  go_quiet ((refine Calls.mono (IB _) ?_;rintro e w' ⟨rfl,rfl⟩;exact ⟨rfl,_,rfl⟩))
  go_wp2
  rw [Exit.noGoto_ret,inB_ret,th_ret,inB_ret,th_ret,Exit.noGoto_ret]
  go_ret
  exact ⟨rfl,Go.below_drewN (Below.refl _ _) _⟩
theorem escM_dec (p:Nat) (h:p < 13):∃ z:Nat,Utf8.decode ⟨#[33,36,38,40,41,58,61,64,91,93,123,124,125]⟩ p = (z,1) ∧ z < 128:=by
 have e:∀ j:Fin 13,(Utf8.decode ⟨#[33,36,38,40,41,58,61,64,91,93,123,124,125]⟩ j.val).2 = 1 ∧ (Utf8.decode ⟨#[33,36,38,40,41,58,61,64,91,93,123,124,125]⟩ j.val).1 < 128:=by decide +kernel
 have:=e ⟨p,h⟩
 exact ⟨_,Prod.ext rfl this.1,this.2⟩
set_option maxHeartbeats 4000000 in
set_option maxRecDepth 100000 in
theorem idx_err (w:World) :
  Calls Tryz.prog 137 #[.string ⟨#[33,36,38,40,41,58,61,64,91,93,123,124,125]⟩,.int .i32 65533] w fun e w' => e = .returned (.int .i64 (-1)) ∧ Below w.heap.size w w':=by
 have hsz:(⟨#[33,36,38,40,41,58,61,64,91,93,123,124,125]⟩:ByteArray).size = 13:=rfl
 have hde:=escM_dec
 obtain ⟨s,hS⟩:∃ s,s = (⟨#[33,36,38,40,41,58,61,64,91,93,123,124,125]⟩:ByteArray):=⟨_,rfl⟩
 rw [← hS] at hsz hde ⊢
 have HD:=Hi hde
 clear hS hde
 go_enter Tryz.func137,Tryz.ntmps137
 go_wp2
 go_loopw [5] (fun _ wr => ∃ pos:Nat,wr = w.iter s pos ∧ pos ≤ 13) (fun _ wr => 13 - wr.iterPos w.heap.size)
 case atStart => exact ⟨0,rfl,by omega⟩
 case round =>
  obtain ⟨pos,rfl,hpl⟩:=hrel
  by_cases hp:pos < 13
  ·obtain ⟨ch,hdec,hch⟩:=uh HD pos hp
   have hnx:∀ ty,(Instr.next (.pointer (some ⟨w.heap.size,0,none⟩)) true ty).run Tryz.prog (w.iter s pos) = .ok (.tuple #[.bool true,.int .i64 pos,.int .i32 (ch:Int)]) (w.iter s (pos + 1)):=fun ty => by
    have:=run_next_any (P:=Tryz.prog) w s pos ty (by omega)
    rw [hdec] at this
    exact this
   have hne:¬ (ch:Int) = 65533:=by omega
   have hb:((ch:Int) == 65533) = false:=by simp [hne]
   clear hdec
   go_wp2
   refine ⟨⟨pos + 1,rfl,by omega⟩,?_⟩
   simp
   omega
  ·have hnx:∀ ty,(Instr.next (.pointer (some ⟨w.heap.size,0,none⟩)) true ty).run Tryz.prog (w.iter s pos) = .ok (.tuple #[.bool false]) (w.iter s pos):=fun ty => run_next_end (P:=Tryz.prog) w s pos ty (by omega)
   go_wp2
   go_ret
   exact ⟨rfl,(Below.refl _ _).alloc (Nat.le_refl _) _⟩
set_option maxHeartbeats 4000000 in
set_option maxRecDepth 100000 in
theorem idx_bad (w:World):Calls Tryz.prog 137 #[.string ⟨#[33,36,38,40,41,58,61,64,91,93,123,124,125]⟩,.int .i32 (-1)] w fun e w' => e = .returned (.int .i64 (-1)) ∧ Below w.heap.size w w':=by
 have V:=Hi (fun W => valid_no (-1) W (by unfold scP;omega))
 go_enter Tryz.func137,Tryz.ntmps137
 go_wp2_with fail
 refine (uh V _).mono ?_
 rintro e w1 ⟨rfl,rfl⟩
 clear V
 go_wp2
 go_ret
 exact ⟨rfl,Below.refl _ _⟩
theorem contains_not (c:Int) (w:World) (hI:∀ W,Calls Tryz.prog 137 #[.string ⟨#[33,36,38,40,41,58,61,64,91,93,123,124,125]⟩,.int .i32 c] W fun e w' => e = .returned (.int .i64 (-1)) ∧ Below W.heap.size W w'):Calls Tryz.prog 111 #[.string ⟨#[33,36,38,40,41,58,61,64,91,93,123,124,125]⟩,.int .i32 c] w fun e w' => e = .returned (.bool false) ∧ Below w.heap.size w w':=by
 have HI:=Hi hI
 clear hI
 go_enter Tryz.func111,Tryz.ntmps111
 go_wp2_with fail
 refine ((uh HI) _).mono ?_
 rintro e w1 ⟨rfl,b1⟩
 clear HI
 go_wp2
 go_ret
 exact ⟨rfl,b1⟩
theorem puB_hi {c:Int} (h:128 ≤ c ∨ c = -1):puB c = false:=by
 rw [← Bool.not_eq_true]
 intro e
 have hm:c ∈ puL:=by
  unfold puB at e
  exact List.elem_iff.1 e
 simp only [puL,List.mem_cons,List.mem_nil_iff,or_false] at hm
 omega
theorem contains_any (c:Int) (w:World) (h:scP c ∨ c = -1):Calls Tryz.prog 111 #[.string ⟨#[33,36,38,40,41,58,61,64,91,93,123,124,125]⟩,.int .i32 c] w fun e w' => e = .returned (.bool (puB c)) ∧ Below w.heap.size w w':=by
 by_cases h1:c = -1
 ·subst h1
  rw [puB_hi (.inr rfl)]
  exact contains_not _ w idx_bad
 ·have hs:scP c:=by rcases h with h | h;exact h;exact absurd h h1
  by_cases h2:c ≤ 127
  ·refine (contains_ok c w (by unfold scP at hs;omega) h2).mono ?_
   rintro e w1 ⟨rfl,rfl⟩
   exact ⟨rfl,Below.refl _ _⟩
  ·rw [puB_hi (.inl (by omega))]
   by_cases hf:c = 65533
   ·subst hf
    exact contains_not _ w idx_err
   ·exact contains_not _ w (fun W => idx_hi c W hs (by omega) hf)
open ints (Hi uh hexV)
open mem (Row scP)
def codeZ (l:List Int):Int:=
 if l.length < 6 ∨ l.getD 0 0 ≠ 92 ∨ l.getD 1 0 ≠ 117 then -1
 else if hexV (l.getD 2 0) < 0 ∨ hexV (l.getD 3 0) < 0 ∨ hexV (l.getD 4 0) < 0 ∨ hexV (l.getD 5 0) < 0 then -1
 else ((hexV (l.getD 2 0) * 16 + hexV (l.getD 3 0)) * 16 + hexV (l.getD 4 0)) * 16 + hexV (l.getD 5 0)
theorem hexV_le (c:Int):hexV c ≤ 15:=by unfold hexV;split;omega;split;omega;split <;> omega
set_option maxHeartbeats 2000000 in
set_option maxRecDepth 4000 in
theorem code_ok (a:Option Addr) (n c:Nat) (l:List Int) (w:World) (h:Row .i32 w a n c l) (hn:n ≤ 1099511627776) :
  Calls Tryz.prog 191 #[.slice a n c] w fun e w' => e = .returned (.int .i32 (codeZ l)) ∧ Below w.heap.size w w':=by
 have hl:=Hi h.len
 by_cases h6:n < 6
 ·have hz:=Hi (show codeZ l = -1 from by unfold codeZ;rw [if_pos (.inl (by rw [h.len];exact h6))])
  have i6:(n:Int) < 6:=by omega
  go_enter Tryz.func191,Tryz.ntmps191
  go_wp2_with fail
  go_ret
  exact ⟨by rw [uh hz];rfl,Below.refl _ _⟩
 have i6:¬ (n:Int) < 6:=by omega
 have i0:(0:Int) < (n:Int):=by omega
 have i1:(1:Int) < (n:Int):=by omega
 have hle:=h.le
 rcases h.at_ with h0 | ⟨b,off,rfl,hb,hc⟩
 ·omega
 have c0:=hc 0 (by omega)
 have c1:=hc 1 (by omega)
 have c2:=hc 2 (by omega)
 have c3:=hc 3 (by omega)
 have c4:=hc 4 (by omega)
 have c5:=hc 5 (by omega)
 have HZ0:=Hi (show codeZ l = (if l.length < 6 ∨ l.getD 0 0 ≠ 92 ∨ l.getD 1 0 ≠ 117 then -1
  else if hexV (l.getD 2 0) < 0 ∨ hexV (l.getD 3 0) < 0 ∨ hexV (l.getD 4 0) < 0 ∨ hexV (l.getD 5 0) < 0 then -1
  else ((hexV (l.getD 2 0) * 16 + hexV (l.getD 3 0)) * 16 + hexV (l.getD 4 0)) * 16 + hexV (l.getD 5 0)) from rfl)
 obtain ⟨x0,e0⟩:∃ x,x = l.getD 0 0:=⟨_,rfl⟩
 obtain ⟨x1,e1⟩:∃ x,x = l.getD 1 0:=⟨_,rfl⟩
 obtain ⟨x2,e2⟩:∃ x,x = l.getD 2 0:=⟨_,rfl⟩
 obtain ⟨x3,e3⟩:∃ x,x = l.getD 3 0:=⟨_,rfl⟩
 obtain ⟨x4,e4⟩:∃ x,x = l.getD 4 0:=⟨_,rfl⟩
 obtain ⟨x5,e5⟩:∃ x,x = l.getD 5 0:=⟨_,rfl⟩
 rw [← e0] at c0
 rw [← e1] at c1
 rw [← e2] at c2
 rw [← e3] at c3
 rw [← e4] at c4
 rw [← e5] at c5
 rw [← e0,← e1,← e2,← e3,← e4,← e5] at HZ0
 have c0':w.cell? ⟨b,off,none⟩ = some (.int .i32 x0):=c0
 clear e0 e1 e2 e3 e4 e5 hc c0
 by_cases hx0:x0 = 92
 ·by_cases hx1:x1 = 117
  ·subst hx0 hx1
   have HZ:=Hi (show codeZ l = (if hexV x2 < 0 ∨ hexV x3 < 0 ∨ hexV x4 < 0 ∨ hexV x5 < 0 then -1 else ((hexV x2 * 16 + hexV x3) * 16 + hexV x4) * 16 + hexV x5) from by
    rw [uh HZ0,if_neg (fun e => by rcases e with e | e | e;rw [uh hl] at e;omega;exact e rfl;exact e rfl)])
   obtain ⟨h0,q0⟩:∃ h,h = hexV x2:=⟨_,rfl⟩
   obtain ⟨h1,q1⟩:∃ h,h = hexV x3:=⟨_,rfl⟩
   obtain ⟨h2,q2⟩:∃ h,h = hexV x4:=⟨_,rfl⟩
   obtain ⟨h3,q3⟩:∃ h,h = hexV x5:=⟨_,rfl⟩
   rw [← q0,← q1,← q2,← q3] at HZ
   have E0:=Hi q0
   have E1:=Hi q1
   have E2:=Hi q2
   have E3:=Hi q3
   clear q0 q1 q2 q3 HZ0
   have k2:(2:Int) ≤ (c:Int):=by omega
   have k6:(6:Int) ≤ (c:Int):=by omega
   go_enter Tryz.func191,Tryz.ntmps191
   go_wp2_with fail
   refine wp_loop_rounds 5 ?_
   rw [rounds_succ]
   go_wp2_with fail
   refine (ints.hex_any x2 _).mono ?_
   rintro e w2 ⟨rfl,rfl⟩
   rw [← uh E0]
   by_cases g0:h0 < 0
   ·have hz:=Hi (show codeZ l = -1 from by rw [uh HZ,if_pos (by first | exact .inl g0 | exact .inr (.inl g0) | exact .inr (.inr (.inl g0)) | exact .inr (.inr (.inr g0)))])
    go_wp2_with fail
    go_ret
    exact ⟨by rw [uh hz];rfl,Below.refl _ _⟩
   have b0:h0 ≤ 15:=by rw [uh E0];exact hexV_le _
   go_wp2_with fail
   rw [rounds_succ]
   go_wp2_with fail
   refine (ints.hex_any x3 _).mono ?_
   rintro e w2 ⟨rfl,rfl⟩
   rw [← uh E1]
   by_cases g1:h1 < 0
   ·have hz:=Hi (show codeZ l = -1 from by rw [uh HZ,if_pos (by first | exact .inl g1 | exact .inr (.inl g1) | exact .inr (.inr (.inl g1)) | exact .inr (.inr (.inr g1)))])
    go_wp2_with fail
    go_ret
    exact ⟨by rw [uh hz];rfl,Below.refl _ _⟩
   have b1:h1 ≤ 15:=by rw [uh E1];exact hexV_le _
   go_wp2_with fail
   rw [rounds_succ]
   go_wp2_with fail
   refine (ints.hex_any x4 _).mono ?_
   rintro e w2 ⟨rfl,rfl⟩
   rw [← uh E2]
   by_cases g2:h2 < 0
   ·have hz:=Hi (show codeZ l = -1 from by rw [uh HZ,if_pos (by first | exact .inl g2 | exact .inr (.inl g2) | exact .inr (.inr (.inl g2)) | exact .inr (.inr (.inr g2)))])
    go_wp2_with fail
    go_ret
    exact ⟨by rw [uh hz];rfl,Below.refl _ _⟩
   have b2:h2 ≤ 15:=by rw [uh E2];exact hexV_le _
   go_wp2_with fail
   rw [rounds_succ]
   go_wp2_with fail
   refine (ints.hex_any x5 _).mono ?_
   rintro e w2 ⟨rfl,rfl⟩
   rw [← uh E3]
   by_cases g3:h3 < 0
   ·have hz:=Hi (show codeZ l = -1 from by rw [uh HZ,if_pos (by first | exact .inl g3 | exact .inr (.inl g3) | exact .inr (.inr (.inl g3)) | exact .inr (.inr (.inr g3)))])
    go_wp2_with fail
    go_ret
    exact ⟨by rw [uh hz];rfl,Below.refl _ _⟩
   have b3:h3 ≤ 15:=by rw [uh E3];exact hexV_le _
   go_wp2_with fail
   rw [rounds_succ]
   go_wp2_with fail
   have hz:=Hi (show codeZ l = (((h0 * 16 + h1) * 16 + h2) * 16 + h3) from by rw [uh HZ,if_neg (by omega)])
   go_ret
   exact ⟨by rw [uh hz];rfl,Below.refl _ _⟩
  ·have ne1:(x1 != 117) = true:=by simpa using hx1
   have hz:=Hi (show codeZ l = -1 from by rw [uh HZ0,if_pos (.inr (.inr hx1))])
   subst hx0
   clear hx1
   go_enter Tryz.func191,Tryz.ntmps191
   go_wp2_with fail
   go_ret
   exact ⟨by rw [uh hz];rfl,Below.refl _ _⟩
 ·have ne0:(x0 != 92) = true:=by simpa using hx0
  have hz:=Hi (show codeZ l = -1 from by rw [uh HZ0,if_pos (.inr (.inl hx0))])
  clear hx0
  go_enter Tryz.func191,Tryz.ntmps191
  go_wp2_with fail
  go_ret
  exact ⟨by rw [uh hz];rfl,Below.refl _ _⟩
end Go.Proofs.YtepmbmbnlmbhhaaGreat.lx
namespace Go.Proofs
open Go.Shelf
def Tryz.lays152_ren:Go.Shelf.Ren:=⟨fun | 152 => 137 | 137 => 150 | 119 => 120 | 224 => 151 | 225 => 152 | 217 => 170 | 266 => 185 | n => n,fun | 9 => 9 | 21 => 21 | 3 => 3 | 4 => 4 | 5 => 5 | 0 => 0 | 46 => 176 | n => n,fun | n => n⟩
theorem Tryz.lays152:Go.Proofs.Lays.n152 Tryz.prog Tryz.lays152_ren:={
 mixed:=by kernel_rfl
 f119:=Tryz.func120.trans (congrArg some (by kernel_rfl))
 f137:=Tryz.func150.trans (congrArg some (by kernel_rfl))
 f152:=Tryz.func137.trans (congrArg some (by kernel_rfl))
 f217:=Tryz.func170.trans (congrArg some (by kernel_rfl))
 f224:=Tryz.func151.trans (congrArg some (by kernel_rfl))
 f225:=Tryz.func152.trans (congrArg some (by kernel_rfl))
 f266:=Tryz.func185.trans (congrArg some (by kernel_rfl))
 t0:=Tryz.underlying0
 a0:=Tryz.isAgg0
 z0:=Tryz.sizeOf0
 v0:=Tryz.zeroValue0
 t3:=Tryz.underlying3
 a3:=Tryz.isAgg3
 z3:=Tryz.sizeOf3
 v3:=Tryz.zeroValue3
 t4:=Tryz.underlying4
 a4:=Tryz.isAgg4
 z4:=Tryz.sizeOf4
 v4:=Tryz.zeroValue4
 t5:=Tryz.underlying5
 a5:=Tryz.isAgg5
 z5:=Tryz.sizeOf5
 v5:=Tryz.zeroValue5
 t9:=Tryz.underlying9
 a9:=Tryz.isAgg9
 z9:=Tryz.sizeOf9
 v9:=Tryz.zeroValue9
 t21:=Tryz.underlying21
 a21:=Tryz.isAgg21
 z21:=Tryz.sizeOf21
 v21:=Tryz.zeroValue21
 t46:=Tryz.underlying176
 a46:=Tryz.isAgg176
 z46:=Tryz.sizeOf176
 v46:=Tryz.zeroValue176 }
open Go.RowKit Go.Lib in
theorem Tryz.strings_IndexRune_ascii (s:ByteArray) (r:Int) (w:World) (h0:0 ≤ r) (h1:r < 128) :
  Calls Tryz.prog 137 #[.string s,.int .i32 r] w fun e w' => e = .returned (.int .i64 (Lib.indexByte s.data.toList r.toNat.toUInt8)) ∧ w' = w:=Any.strings_IndexRune_ascii Tryz.lays152 s r w h0 h1
end Go.Proofs
