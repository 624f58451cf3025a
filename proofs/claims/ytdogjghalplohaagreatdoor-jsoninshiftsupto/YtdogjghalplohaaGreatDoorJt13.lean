import Derived.Test.YtdogjghalplohaaGreatDoorJt1
import Derived.Test.YtdogjghalplohaaGreatDoorJt12
import Derived.Test.YtdogjghalplohaaGreatDoorJt10
import Derived.Test.YtdogjghalplohaaGreatDoorJt9
import Derived.Test.YtdogjghalplohaaGreatDoorJt4
import Derived.Test.YtdogjghalplohaaGreatDoorJt5
set_option linter.unusedVariables false
set_option linter.unusedSimpArgs false
namespace Go.Proofs.YtdogjghalplohaaGreatDoor.mem
open Go.ChangeShapes Go.WideShapes Go.ChangeAt Go.RowKit
open ints (Hi uh)
theorem is_b(a:Option Addr)(n c:Nat)(l:List Int)(p:Nat)(x:Int)(w:World)(h:Row .u8 w a n c l)(hn:n≤4611686018427387904)(hp:p≤4611686018427387904) :
  Calls Tryz.prog 64 #[.slice a n c,.int .i64 (p:Int),.int .u8 x] w fun e w'=>e = .returned (.bool (isAt l p x))∧Below w.heap.size w w':=by
 by_cases hlt:p<n
 ·rcases h.at_ with h0 | ⟨b,off,rfl,hbw,hcell⟩
  ·omega
  have c1:=hcell p hlt
  have HI:=Hi (show isAt l p x=(l.getD p 0==x) from isAt_of (by rw[h.len];exact hlt) x)
  have pi:(p:Int)<(n:Int):=by omega
  rw[uh HI]
  generalize l.getD p 0=y at *
  clear hcell
  go_enter Tryz.func64,Tryz.ntmps64
  cases e1:(y==x)
  all_goals
   go_wp2
   go_ret
   exact⟨rfl,Below.refl _ _⟩
 ·have HI:=Hi (show isAt l p x=false from isAt_not (by rw[h.len];exact hlt) x)
  have pi:¬(p:Int)<(n:Int):=by omega
  rw[uh HI]
  go_enter Tryz.func64,Tryz.ntmps64
  go_wp2
  go_ret
  exact⟨rfl,Below.refl _ _⟩
theorem digs_b(a:Option Addr)(n c:Nat)(l:List Int)(p:Nat)(w:World)(h:Row .u8 w a n c l)(hn:n≤4611686018427387904)(hp:p≤4611686018427387904) :
  Calls Tryz.prog 93 #[.slice a n c,.int .i64 (p:Int)] w fun e w'=>e = .returned (.int .i64 (digs l p:Nat))∧Below w.heap.size w w':=by
 go_enter Tryz.func93,Tryz.ntmps93
 go_wp2
 go_loopw [1] (fun v wr=>∃ k:Nat,k≤4611686018427387904∧v = .int .i64 k∧digs l p=digs l k∧Below w.heap.size w wr) (fun v _=>n-(intOf v).toNat)
 case atStart=>exact⟨p,hp,rfl,rfl,Below.refl _ _⟩
 case round =>
  obtain⟨k,hk,rfl,heq,hbel⟩:=hrel
  have HE:=Hi heq
  clear heq
  by_cases hlt:k<n
  ·rcases h.at_ with h0 | ⟨b,off,rfl,hbw,hcell⟩
   ·omega
   have c1:=(hbel.cell (p:=⟨b,off+k,none⟩) hbw).trans (hcell k hlt)
   have HD:=Hi (show digAt l k=digB (l.getD k 0) from digAt_of (by rw[h.len];exact hlt))
   have ki:(k:Int)<(n:Int):=by omega
   generalize l.getD k 0=y at *
   clear hcell
   by_cases h1:48≤y
   ·by_cases h2:y≤57
    ·have hd:=Hi (show digAt l k=true from by rw[uh HD];simp[digB,h1,h2])
     go_wp2
     go_roundw
     case rel=>exact⟨k+1,by omega,by go_num,by rw[uh HE,digs_yes (uh hd)],hbel⟩
     case measure=>simp[intOf];omega
    ·have hd:=Hi (show digAt l k=false from by rw[uh HD];simp[digB,h1,h2])
     go_wp2
     go_ret
     rw[uh HE,digs_no (uh hd)]
     exact⟨rfl,hbel⟩
   ·have hd:=Hi (show digAt l k=false from by rw[uh HD];simp[digB,h1])
    go_wp2
    go_ret
    rw[uh HE,digs_no (uh hd)]
    exact⟨rfl,hbel⟩
  ·have ki:¬(k:Int)<(n:Int):=by omega
   have hd:=Hi (show digAt l k=false from digAt_not (by rw[h.len];exact hlt))
   go_wp2
   go_ret
   rw[uh HE,digs_no (uh hd)]
   exact⟨rfl,hbel⟩
theorem isq_b(a:Option Addr)(n c:Nat)(l:List Int)(p:Nat)(q:Int)(hq:q=(p:Int))(x:Int)(w:World)(h:Row .u8 w a n c l)(hn:n≤4611686018427387904)(hp:p≤4611686018427387904) :
  Calls Tryz.prog 64 #[.slice a n c,.int .i64 q,.int .u8 x] w fun e w'=>e = .returned (.bool (isAt l p x))∧Below w.heap.size w w':=by
 subst hq;exact is_b a n c l p x w h hn hp
theorem point_b(a:Option Addr)(n c:Nat)(l:List Int)(p:Nat)(w:World)(h:Row .u8 w a n c l)(hn:n≤4611686018427387904)(hp:p≤4611686018427387904) :
  Calls Tryz.prog 67 #[.slice a n c,.int .i64 (p:Int)] w fun e w'=>e = .returned (.int .i64 (bPoint l p:Nat))∧Below w.heap.size w w':=by
 go_enter Tryz.func67,Tryz.ntmps67
 go_wp2_with fail
 refine (is_b a n c l p 46 w h hn hp).mono ?_
 rintro e w1 ⟨rfl,b1⟩
 cases e1:isAt l p 46
 all_goals
  go_wp2
  go_ret
  exact⟨by unfold bPoint;rw[e1];go_num,b1⟩
theorem mark_b(a:Option Addr)(n c:Nat)(l:List Int)(p:Nat)(w:World)(h:Row .u8 w a n c l)(hn:n≤4611686018427387904)(hp:p≤4611686018427387903) :
  Calls Tryz.prog 68 #[.slice a n c,.int .i64 (p:Int)] w fun e w'=>e = .returned (.int .i64 (bMark l p:Nat))∧Below w.heap.size w w':=by
 go_enter Tryz.func68,Tryz.ntmps68
 go_wp2_with fail
 refine (is_b a n c l p 101 w h hn (by omega)).mono ?_
 rintro e w1 ⟨rfl,b1⟩
 cases e1:isAt l p 101
 ·go_wp2_with fail
  refine (is_b a n c l p 69 w1 (h.below b1) hn (by omega)).mono ?_
  rintro e w2 ⟨rfl,b2⟩
  have b2:=b1.trans (b2.mono b1.size)
  cases e2:isAt l p 69
  ·go_wp2
   go_ret
   exact⟨by unfold bMark;rw[if_pos ⟨e1,e2⟩];rfl,b2⟩
  ·go_wp2_with fail
   refine (isq_b a n c l (p+1) _ (by omega) 43 w2 (h.below b2) hn (by omega)).mono ?_
   rintro e w3 ⟨rfl,b3⟩
   have b3:=b2.trans (b3.mono b2.size)
   cases e3:isAt l (p+1) 43
   ·go_wp2_with fail
    refine (isq_b a n c l (p+1) _ (by omega) 45 w3 (h.below b3) hn (by omega)).mono ?_
    rintro e w4 ⟨rfl,b4⟩
    have b4:=b3.trans (b4.mono b3.size)
    cases e4:isAt l (p+1) 45
    ·go_wp2
     go_ret
     exact⟨by unfold bMark;rw[if_neg (by simp[e2]),if_neg (by simp[e3,e4])];go_num,b4⟩
    ·go_wp2
     go_ret
     exact⟨by unfold bMark;rw[if_neg (by simp[e2]),if_pos (.inr e4)];go_num,b4⟩
   ·go_wp2
    go_ret
    exact⟨by unfold bMark;rw[if_neg (by simp[e2]),if_pos (.inl e3)];go_num,b3⟩
 ·go_wp2_with fail
  refine (isq_b a n c l (p+1) _ (by omega) 43 w1 (h.below b1) hn (by omega)).mono ?_
  rintro e w3 ⟨rfl,b3⟩
  have b3:=b1.trans (b3.mono b1.size)
  cases e3:isAt l (p+1) 43
  ·go_wp2_with fail
   refine (isq_b a n c l (p+1) _ (by omega) 45 w3 (h.below b3) hn (by omega)).mono ?_
   rintro e w4 ⟨rfl,b4⟩
   have b4:=b3.trans (b4.mono b3.size)
   cases e4:isAt l (p+1) 45
   ·go_wp2
    go_ret
    exact⟨by unfold bMark;rw[if_neg (by simp[e1]),if_neg (by simp[e3,e4])];go_num,b4⟩
   ·go_wp2
    go_ret
    exact⟨by unfold bMark;rw[if_neg (by simp[e1]),if_pos (.inr e4)];go_num,b4⟩
  ·go_wp2
   go_ret
   exact⟨by unfold bMark;rw[if_neg (by simp[e1]),if_pos (.inl e3)];go_num,b3⟩
theorem whole_b(a:Option Addr)(n c:Nat)(l:List Int)(p:Nat)(w:World)(h:Row .u8 w a n c l)(hn:n≤4611686018427387904)(hp:p≤4611686018427387904) :
  Calls Tryz.prog 65 #[.slice a n c,.int .i64 (p:Int)] w fun e w'=>e = .returned (.int .i64 (bWhole l p:Nat))∧Below w.heap.size w w':=by
 go_enter Tryz.func65,Tryz.ntmps65
 go_wp2_with fail
 refine (is_b a n c l p 48 w h hn hp).mono ?_
 rintro e w1 ⟨rfl,b1⟩
 cases e1:isAt l p 48
 ·go_wp2_with fail
  refine (digs_b a n c l p w1 (h.below b1) hn hp).mono ?_
  rintro e w2 ⟨rfl,b2⟩
  have b2:=b1.trans (b2.mono b1.size)
  go_wp2
  go_ret
  exact⟨by unfold bWhole;rw[e1];rfl,b2⟩
 ·go_wp2
  go_ret
  exact⟨by unfold bWhole;rw[e1];go_num,b1⟩
theorem wholeq_b(a:Option Addr)(n c:Nat)(l:List Int)(p:Nat)(q:Int)(hq:q=(p:Int))(w:World)(h:Row .u8 w a n c l)(hn:n≤4611686018427387904)(hp:p≤4611686018427387904) :
  Calls Tryz.prog 65 #[.slice a n c,.int .i64 q] w fun e w'=>e = .returned (.int .i64 (bWhole l p:Nat))∧Below w.heap.size w w':=by
 subst hq;exact whole_b a n c l p w h hn hp
theorem part_b(a:Option Addr)(n c:Nat)(l:List Int)(p first:Nat)(w:World)(h:Row .u8 w a n c l)(hn:n≤4611686018427387904)(hp:p≤4611686018427387904)(hf:first≤4611686018427387904) :
  Calls Tryz.prog 66 #[.slice a n c,.int .i64 (p:Int),.int .i64 (first:Int)] w fun e w'=>e = .returned (.tuple #[.int .i64 ((bPart l p first).1:Nat),.int .i64 ((bPart l p first).2:Nat)])∧Below w.heap.size w w':=by
 go_enter Tryz.func66,Tryz.ntmps66
 by_cases e1:first=p
 ·have e1i:((first:Int)==(p:Int))=true:=by simp[e1]
  go_wp2
  go_ret2
  exact⟨by unfold bPart;rw[if_pos e1];rfl,Below.refl _ _⟩
 ·have e1i:((first:Int)==(p:Int))=false:=by simp;omega
  go_wp2_with fail
  refine (digs_b a n c l first w h hn hf).mono ?_
  rintro e w1 ⟨rfl,b1⟩
  by_cases e2:digs l first=first
  ·have e2i:((digs l first:Int)==(first:Int))=true:=by simp[e2]
   go_wp2
   go_ret2
   exact⟨by unfold bPart;rw[if_neg e1,if_pos e2,e2];rfl,b1⟩
  ·have e2i:((digs l first:Int)==(first:Int))=false:=by simp;omega
   go_wp2
   go_ret2
   exact⟨by unfold bPart;rw[if_neg e1,if_neg e2];rfl,b1⟩
set_option maxHeartbeats 1000000 in
theorem prefix_in_b(a:Option Addr)(n c:Nat)(l:List Int)(p:Nat)(w:World)(h:Row .u8 w a n c l)(hn:n≤4611686018427387900)(hp:p≤n) :
  Calls Tryz.prog 32 #[.slice a n c,.int .i64 (p:Int)] w fun e w'=>e = .returned (.tuple #[.int .i64 ((pfx l p).1:Nat),.int .i64 ((pfx l p).2.1:Nat),.int .i64 (pfx l p).2.2])∧Below w.heap.size w w':=by
 go_enter Tryz.func32,Tryz.ntmps32
 have h0:¬(p:Int)<0:=by omega
 have h1:¬(n:Int)<(p:Int):=by omega
 go_wp2_with fail
 refine (is_b a n c l p 45 w h (by omega) (by omega)).mono ?_
 rintro e w1 ⟨rfl,b1⟩
 cases e1:isAt l p 45
 ·have hF:=Hi (show pfxFirst l p=p from by unfold pfxFirst;rw[e1];rfl)
  clear e1
  have HL:=Hi h.len
  have hF1:=whole_le (l:=l) (p:=p) (by rw[h.len];omega)
  rw[h.len] at hF1
  go_wp2_with fail
  refine (wholeq_b a n c l (p) _ (by omega) w1 (h.below b1) (by omega) (by omega)).mono ?_
  rintro e w2 ⟨rfl,b2⟩
  have b2:=b1.trans (b2.mono b1.size)
  by_cases e2:bWhole l (p)=p
  ·have e2i:((bWhole l (p):Int)==(p:Int))=true:=by simp;omega
   have HE2:=Hi e2
   clear e2
   go_wp2
   go_ret3
   exact⟨by unfold pfx;rw[uh hF,if_pos (uh HE2)];rfl,b2⟩
  ·have e2i:((bWhole l (p):Int)==(p:Int))=false:=by simp;omega
   have HP:=Hi (show pfx l p=((pfxR l (bWhole l (p))).1,(pfxR l (bWhole l (p))).2,if (pfxR l (bWhole l (p))).1 > bWhole l (p) then 2 else 1) from by unfold pfx;rw[uh hF,if_neg e2])
   clear e2
   generalize bWhole l (p)=E at *
   have hq1:=point_le (l:=l) (p:=E) (by rw[uh HL];exact hF1)
   have hq2:=part_le (l:=l) (p:=E) (f:=bPoint l E) (by rw[uh HL];exact hF1) hq1
   rw[uh HL] at hq1 hq2
   go_wp2_with fail
   refine (point_b a n c l E w2 (h.below b2) (by omega) (by omega)).mono ?_
   rintro e w3 ⟨rfl,b3⟩
   have b3:=b2.trans (b3.mono b2.size)
   go_wp2_with fail
   refine (part_b a n c l E (bPoint l E) w3 (h.below b3) (by omega) (by omega) (by omega)).mono ?_
   rintro e w4 ⟨rfl,b4⟩
   have b4:=b3.trans (b4.mono b3.size)
   have HR:=Hi (show pfxR l E=if (bPart l E (bPoint l E)).1=(bPart l E (bPoint l E)).2 then bPart l (bPart l E (bPoint l E)).1 (bMark l (bPart l E (bPoint l E)).1) else bPart l E (bPoint l E) from rfl)
   clear hq1
   generalize bPart l E (bPoint l E)=R at *
   obtain⟨R1,R2⟩:=R
   simp only at hq2
   by_cases e3:R1=R2
   ·have e3i:((R1:Int)==(R2:Int))=true:=by simp;omega
    have HR2:=Hi (show pfxR l E=bPart l R1 (bMark l R1) from by rw[uh HR];exact if_pos e3)
    clear HR
    clear e3i
    subst e3
    have e3i:((R1:Int)==(R1:Int))=true:=by simp
    have hm1:=mark_le (l:=l) (p:=R1) (by rw[uh HL];exact hq2.1)
    rw[uh HL] at hm1
    go_wp2_with fail
    refine (mark_b a n c l R1 w4 (h.below b4) (by omega) (by omega)).mono ?_
    rintro e w5 ⟨rfl,b5⟩
    have b5:=b4.trans (b5.mono b4.size)
    go_wp2_with fail
    refine (part_b a n c l R1 (bMark l R1) w5 (h.below b5) (by omega) (by omega) (by omega)).mono ?_
    rintro e w6 ⟨rfl,b6⟩
    have b6:=b5.trans (b6.mono b5.size)
    clear hm1 e3i
    rw[uh HR2] at HP
    generalize bPart l R1 (bMark l R1)=S at *
    obtain⟨S1,S2⟩:=S
    by_cases e4:E<S1
    ·have HQ:=Hi (show pfx l p=(S1,S2,2) from by rw[uh HP];simp[e4])
     have e4i:(E:Int)<(S1:Int):=by omega
     clear HP HR2
     go_wp2
     go_ret3
     exact⟨by rw[uh HQ];rfl,b6⟩
    ·have HQ:=Hi (show pfx l p=(S1,S2,1) from by rw[uh HP];simp[e4])
     have e4i:¬(E:Int)<(S1:Int):=by omega
     clear HP HR2
     go_wp2
     go_ret3
     exact⟨by rw[uh HQ];rfl,b6⟩
   ·have e3i:((R1:Int)==(R2:Int))=false:=by simp;omega
    have HR2:=Hi (show pfxR l E=(R1,R2) from by rw[uh HR];exact if_neg e3)
    clear HR e3
    rw[uh HR2] at HP
    by_cases e4:E<R1
    ·have HQ:=Hi (show pfx l p=(R1,R2,2) from by rw[uh HP];simp[e4])
     have e4i:(E:Int)<(R1:Int):=by omega
     clear HP HR2
     go_wp2
     go_ret3
     exact⟨by rw[uh HQ];rfl,b4⟩
    ·have HQ:=Hi (show pfx l p=(R1,R2,1) from by rw[uh HP];simp[e4])
     have e4i:¬(E:Int)<(R1:Int):=by omega
     clear HP HR2
     go_wp2
     go_ret3
     exact⟨by rw[uh HQ];rfl,b4⟩
 ·have hF:=Hi (show pfxFirst l p=p+1 from by unfold pfxFirst;rw[e1];rfl)
  have hpl:=isAt_lt e1
  rw[h.len] at hpl
  clear e1
  have HL:=Hi h.len
  have hF1:=whole_le (l:=l) (p:=p+1) (by rw[h.len];omega)
  rw[h.len] at hF1
  go_wp2_with fail
  refine (wholeq_b a n c l (p+1) _ (by omega) w1 (h.below b1) (by omega) (by omega)).mono ?_
  rintro e w2 ⟨rfl,b2⟩
  have b2:=b1.trans (b2.mono b1.size)
  by_cases e2:bWhole l (p+1)=p+1
  ·have e2i:((bWhole l (p+1):Int)==((p:Int)+1))=true:=by simp;omega
   have HE2:=Hi e2
   clear e2
   go_wp2
   go_ret3
   exact⟨by unfold pfx;rw[uh hF,if_pos (uh HE2)];rfl,b2⟩
  ·have e2i:((bWhole l (p+1):Int)==((p:Int)+1))=false:=by simp;omega
   have HP:=Hi (show pfx l p=((pfxR l (bWhole l (p+1))).1,(pfxR l (bWhole l (p+1))).2,if (pfxR l (bWhole l (p+1))).1 > bWhole l (p+1) then 2 else 1) from by unfold pfx;rw[uh hF,if_neg e2])
   clear e2
   generalize bWhole l (p+1)=E at *
   have hq1:=point_le (l:=l) (p:=E) (by rw[uh HL];exact hF1)
   have hq2:=part_le (l:=l) (p:=E) (f:=bPoint l E) (by rw[uh HL];exact hF1) hq1
   rw[uh HL] at hq1 hq2
   go_wp2_with fail
   refine (point_b a n c l E w2 (h.below b2) (by omega) (by omega)).mono ?_
   rintro e w3 ⟨rfl,b3⟩
   have b3:=b2.trans (b3.mono b2.size)
   go_wp2_with fail
   refine (part_b a n c l E (bPoint l E) w3 (h.below b3) (by omega) (by omega) (by omega)).mono ?_
   rintro e w4 ⟨rfl,b4⟩
   have b4:=b3.trans (b4.mono b3.size)
   have HR:=Hi (show pfxR l E=if (bPart l E (bPoint l E)).1=(bPart l E (bPoint l E)).2 then bPart l (bPart l E (bPoint l E)).1 (bMark l (bPart l E (bPoint l E)).1) else bPart l E (bPoint l E) from rfl)
   clear hq1
   generalize bPart l E (bPoint l E)=R at *
   obtain⟨R1,R2⟩:=R
   simp only at hq2
   by_cases e3:R1=R2
   ·have e3i:((R1:Int)==(R2:Int))=true:=by simp;omega
    have HR2:=Hi (show pfxR l E=bPart l R1 (bMark l R1) from by rw[uh HR];exact if_pos e3)
    clear HR
    clear e3i
    subst e3
    have e3i:((R1:Int)==(R1:Int))=true:=by simp
    have hm1:=mark_le (l:=l) (p:=R1) (by rw[uh HL];exact hq2.1)
    rw[uh HL] at hm1
    go_wp2_with fail
    refine (mark_b a n c l R1 w4 (h.below b4) (by omega) (by omega)).mono ?_
    rintro e w5 ⟨rfl,b5⟩
    have b5:=b4.trans (b5.mono b4.size)
    go_wp2_with fail
    refine (part_b a n c l R1 (bMark l R1) w5 (h.below b5) (by omega) (by omega) (by omega)).mono ?_
    rintro e w6 ⟨rfl,b6⟩
    have b6:=b5.trans (b6.mono b5.size)
    clear hm1 e3i
    rw[uh HR2] at HP
    generalize bPart l R1 (bMark l R1)=S at *
    obtain⟨S1,S2⟩:=S
    by_cases e4:E<S1
    ·have HQ:=Hi (show pfx l p=(S1,S2,2) from by rw[uh HP];simp[e4])
     have e4i:(E:Int)<(S1:Int):=by omega
     clear HP HR2
     go_wp2
     go_ret3
     exact⟨by rw[uh HQ];rfl,b6⟩
    ·have HQ:=Hi (show pfx l p=(S1,S2,1) from by rw[uh HP];simp[e4])
     have e4i:¬(E:Int)<(S1:Int):=by omega
     clear HP HR2
     go_wp2
     go_ret3
     exact⟨by rw[uh HQ];rfl,b6⟩
   ·have e3i:((R1:Int)==(R2:Int))=false:=by simp;omega
    have HR2:=Hi (show pfxR l E=(R1,R2) from by rw[uh HR];exact if_neg e3)
    clear HR e3
    rw[uh HR2] at HP
    by_cases e4:E<R1
    ·have HQ:=Hi (show pfx l p=(R1,R2,2) from by rw[uh HP];simp[e4])
     have e4i:(E:Int)<(R1:Int):=by omega
     clear HP HR2
     go_wp2
     go_ret3
     exact⟨by rw[uh HQ];rfl,b4⟩
    ·have HQ:=Hi (show pfx l p=(R1,R2,1) from by rw[uh HP];simp[e4])
     have e4i:¬(E:Int)<(R1:Int):=by omega
     clear HP HR2
     go_wp2
     go_ret3
     exact⟨by rw[uh HQ];rfl,b4⟩
end Go.Proofs.YtdogjghalplohaaGreatDoor.mem
namespace Go.Proofs.YtdogjghalplohaaGreatDoor.jin
open Go.ChangeShapes Go.WideShapes Go.ChangeAt Go.RowKit
open mem Go.Maps
open vl (Vl Vls Fls VlC VlsAt FlsAt Row8)
open ints (Hi uh hexV)
def aut(l:List Int):Int:=l.foldl stepZ 0
theorem aut_snoc(l:List Int)(c:Int):aut (l++[c])=stepZ (aut l) c:=by simp[aut]
structure PxI (l:List Int) (p:Nat) (e s:Nat) (f:Int):Prop where
 pe:p≤e
 es:e≤s
 sl:s≤l.length
 no:∀ k,e<k→k≤s→formZ (aut ((l.drop p).take (k-p)))=0
 fm:formZ (aut ((l.drop p).take (e-p)))=f
 lv:0≤aut ((l.drop p).take (s-p))
 st:s<l.length→aut ((l.drop p).take (s+1-p))<0
 nz:p<e→f≠0
theorem take_one(l:List Int)(p k:Nat)(hp:p≤k)(hk:k<l.length):(l.drop p).take (k+1-p)=(l.drop p).take (k-p)++[l.getD k 0]:=by
 rw[show k+1-p=(k-p)+1 by omega,List.take_add_one,List.getElem?_drop,show p+(k-p)=k by omega,List.getElem?_eq_getElem hk,List.getD_eq_getElem?_getD,List.getElem?_eq_getElem hk]
 rfl
theorem runF_ok(l:List Int)(p:Nat):∀ (m k e:Nat) (st f:Int),m=l.length-k→p≤e→e≤k→k≤l.length→aut ((l.drop p).take (k-p))=st→0≤st →
  (∀ j,e<j→j≤k→formZ (aut ((l.drop p).take (j-p)))=0)→formZ (aut ((l.drop p).take (e-p)))=f→(p<e→f≠0)→PxI l p (runF l m st e f k).1 (runF l m st e f k).2.1 (runF l m st e f k).2.2:=by
 intro m
 induction m with
 | zero =>
  intro k e st f hm h1 h2 h3 h4 h5 h6 h7 h8
  have hk:k=l.length:=by omega
  subst hk
  exact⟨h1,h2,Nat.le_refl _,h6,h7,by show 0≤aut ((l.drop p).take (l.length-p));rw[h4];exact h5,fun h=>absurd h (Nat.lt_irrefl _),h8⟩
 | succ m ih =>
  intro k e st f hm h1 h2 h3 h4 h5 h6 h7 h8
  have hk:k<l.length:=by omega
  have hst:aut ((l.drop p).take (k+1-p))=stepZ st (l.getD k 0):=by rw[take_one l p k (by omega) hk,aut_snoc,h4]
  simp only[runF]
  by_cases c1:stepZ st (l.getD k 0)<0
  ·rw[if_pos c1]
   exact⟨h1,h2,h3,h6,h7,by show 0≤aut ((l.drop p).take (k-p));rw[h4];exact h5,fun _=>by show aut ((l.drop p).take (k+1-p))<0;rw[hst];exact c1,h8⟩
  ·rw[if_neg c1]
   by_cases c2:formZ (stepZ st (l.getD k 0))=0
   ·rw[if_neg (by rw[c2];simp)]
    refine ih (k+1) e _ f (by omega) h1 (by omega) (by omega) hst (by omega) ?_ h7 h8
    intro j j1 j2
    by_cases hj:j=k+1
    ·subst hj;rw[hst];exact c2
    ·exact h6 j j1 (by omega)
   ·rw[if_pos c2]
    refine ih (k+1) (k+1) _ _ (by omega) (by omega) (Nat.le_refl _) (by omega) hst (by omega) ?_ (by rw[hst]) (fun _=>c2)
    intro j j1 j2;omega
theorem pfx_ok(l:List Int)(p:Nat)(hp:p≤l.length):PxI l p (pfx l p).1 (pfx l p).2.1 (pfx l p).2.2:=by
 rw[←pfx_run l p hp]
 unfold run
 exact runF_ok l p _ p p 0 0 rfl (Nat.le_refl _) (Nat.le_refl _) hp (by rw[Nat.sub_self,List.take_zero];rfl) (by omega) (fun j h1 h2=>by omega) (by rw[Nat.sub_self,List.take_zero];rfl) (fun h=>absurd h (Nat.lt_irrefl _))
def numR(Z:List Int)(nr:ByteArray→Int × Int × Nat × Int)(q:Nat):Except (Nat × Int) (Vl × Nat):=
 numF q (pfx Z q).1 (pfx Z q).2.1 (pfx Z q).2.2 (nr (strOfNums (pcZ Z q (pfx Z q).1))).1 (nr (strOfNums (pcZ Z q (pfx Z q).1))).2.1 (nr (strOfNums (pcZ Z q (pfx Z q).1))).2.2.1 (nr (strOfNums (pcZ Z q (pfx Z q).1))).2.2.2
theorem numR_pos{Z:List Int}{nr:ByteArray→Int × Int × Nat × Int}{p:Nat}{v:Vl}{p':Nat}(hp:p≤Z.length)(h:numR Z nr p = .ok (v,p')):p<p'∧p'≤Z.length:=by
 obtain⟨h1,h2,h3,-,h5,-,-,-⟩:=pfx_ok Z p hp
 unfold numR numF at h
 split at h
 ·cases h
 rename_i g
 have hf:(pfx Z p).2.2≠0:=fun e=>g (.inl e)
 split at h
 ·injection h with h
  injection h with e1 e2
  have hne:(pfx Z p).1≠p:=fun e=>hf (by rw[←h5,e,Nat.sub_self,List.take_zero];rfl)
  omega
 ·cases h
section
variable {a:Option Addr} {n c:Nat} {Z:List Int} {w:World}
theorem read_num(hZ:∀ z∈Z,0≤z∧z≤255)(hn:n≤1099511627776)(nr:ByteArray→Int × Int × Nat × Int)(hwf:∀ s,(Lit.int .i64 (nr s).1).wf=true∧(Lit.int .i64 (nr s).2.1).wf=true)
  (hD:∀ p u,p<n→(pfx Z p).2.2≠0→Below w.heap.size w u→Calls Tryz.prog 16 #[.string (strOfNums (pcZ Z p (pfx Z p).1))] u fun x u'=>x = .returned (.tuple #[.agg #[.int .i64 (nr (strOfNums (pcZ Z p (pfx Z p).1))).1,.int .i64 (nr (strOfNums (pcZ Z p (pfx Z p).1))).2.1,.float .f64 (nr (strOfNums (pcZ Z p (pfx Z p).1))).2.2.1],.int .i64 (nr (strOfNums (pcZ Z p (pfx Z p).1))).2.2.2])∧Below u.heap.size u u')
  (depth:Int) (room:Nat) (hd:(depth<0∧room=0)∨(depth=room∧room≤200)∨(200<depth∧room=200)) (hrow:Row .u8 w a n c Z) :
  Calls Tryz.prog 10 #[.slice a n c,.int .i64 depth] w fun e w'=>(∃ cs,e = .returned (.tuple #[.agg cs.toArray,.int .i64 (rdA (rdF Z (fun p=>if p≤Z.length then numR Z nr p else .error (p,50)) room)),.int .i64 (rdE (rdF Z (fun p=>if p≤Z.length then numR Z nr p else .error (p,50)) room))])∧FvC w.heap.size none w' (rdV (rdF Z (fun p=>if p≤Z.length then numR Z nr p else .error (p,50)) room)) cs)∧Below w.heap.size w w':=by
 have hzl:=hrow.len
 refine read_ok hZ hn _ ?_ ?_ depth room hd hrow
 ·intro p v p' h
  by_cases hp:p≤Z.length
  ·simp only[if_pos hp] at h
   exact numR_pos hp h
  ·simp only[if_neg hp] at h
   cases h
 ·intro R p room u hp hRw hb hR
  simp only[if_pos (show p≤Z.length by omega)]
  obtain⟨h1,h2,h3,-,-,-,-,-⟩:=pfx_ok Z p (by omega)
  refine number_ok (pfx Z p).1 (pfx Z p).2.1 (pfx Z p).2.2 h1 h2 (by omega) (fun u' hk hu=>prefix_in_b a n c Z p u' hu.row (by omega) (by omega)) _ _ _ _ (hwf _).1 (hwf _).2 (fun hne u' hk=>hD p u' hp (fun e=>hne (.inl e)) (kp_low hb hk hRw)) hR
end
open mem
open vl (Vl Vls Fls)
theorem numR_flat{Z:List Int}{nr:ByteArray→Int × Int × Nat × Int}(hk:∀ s,(nr s).1≠5∧(nr s).1≠6):∀ p v p',(fun p=>if p≤Z.length then numR Z nr p else .error (p,50)) p = .ok (v,p')→dp v=0:=fun p v p' h=>by
 simp only at h
 split at h
 ·unfold numR numF at h
  split at h
  ·cases h
  split at h
  ·injection h with h
   injection h with e1 e2
   rw[←e1]
   unfold numV dp
   rw[if_neg (hk _).1,if_neg (hk _).2]
  ·cases h
 ·cases h
theorem runF_sh(P l:List Int):∀ (m k e:Nat) (st f:Int),m+k=l.length→runF (P++l) m st (P.length+e) f (P.length+k)=(P.length+(runF l m st e f k).1,P.length+(runF l m st e f k).2.1,(runF l m st e f k).2.2)
 | 0,k,e,st,f,h=>by
  rw[runF,runF,List.length_append]
 | m+1,k,e,st,f,h=>by
  rw[runF,runF]
  simp only[getD_sh,Nat.add_assoc]
  split
  ·rfl
  ·split
   ·exact runF_sh P l m (k+1) (k+1) _ _ (by omega)
   ·exact runF_sh P l m (k+1) e _ _ (by omega)
theorem pfx_sh(P l:List Int)(p:Nat)(hp:p≤l.length):pfx (P++l) (P.length+p)=(P.length+(pfx l p).1,P.length+(pfx l p).2.1,(pfx l p).2.2):=by
 rw[←pfx_run l p hp,←pfx_run (P++l) (P.length+p) (by rw[List.length_append];omega)]
 unfold run
 rw[show (P++l).length-(P.length+p)=l.length-p by rw[List.length_append];omega]
 exact runF_sh P l _ p p 0 0 (by omega)
theorem numR_sh(P Z:List Int)(nr:ByteArray→Int × Int × Nat × Int)(p:Nat)(hp:p≤Z.length):numR (P++Z) nr (P.length+p)=sh P.length (numR Z nr p):=by
 unfold numR
 rw[pfx_sh P Z p hp,pcZ_sh]
 unfold numF
 simp only[show (P.length+(pfx Z p).1<P.length+(pfx Z p).2.1)=((pfx Z p).1<(pfx Z p).2.1) from propext ⟨fun h=>by omega,fun h=>by omega⟩]
 split
 ·rfl
 ·split
  ·rfl
  ·rfl
theorem rdF_front{W Z:List Int}(hW:∀ z∈W,blB z=true)(nr:ByteArray→Int × Int × Nat × Int)(room:Nat) :
  rdF (W++Z) (fun p=>if p≤(W++Z).length then numR (W++Z) nr p else .error (p,50)) room=sh W.length (rdF Z (fun p=>if p≤Z.length then numR Z nr p else .error (p,50)) room):=by
 have hb0:blE (W++Z) 0=W.length+blE Z 0:=by
  unfold blE
  rw[List.drop_zero,List.drop_zero,List.takeWhile_append_of_pos hW,List.length_append]
  omega
 have hbl:=blE_le (Z:=Z) (p:=0) (Nat.zero_le _)
 have hpos:∀ p v p',(fun p=>if p≤Z.length then numR Z nr p else Except.error (p,50)) p = .ok (v,p')→p<p'∧p'≤Z.length:=fun p v p' h=>by
  by_cases hp:p≤Z.length
  ·simp only[if_pos hp] at h
   exact numR_pos hp h
  ·simp only[if_neg hp] at h
   cases h
 unfold rdF whF
 rw[hb0,vrF_sh (nm:=fun p=>if p≤Z.length then numR Z nr p else .error (p,50)) hpos (fun p hp=>by
  simp only[if_pos (show p≤Z.length by omega),if_pos (show W.length+p≤(W++Z).length by rw[List.length_append];omega)]
  exact numR_sh W Z nr p (by omega)) ((W++Z).length+1) (Z.length+1) room (blE Z 0) hbl.2 (by rw[List.length_append];omega) (by omega)]
 cases h1:vrF Z (fun p=>if p≤Z.length then numR Z nr p else .error (p,50)) (Z.length+1) room (blE Z 0) with
 | error b=>obtain⟨p,e⟩:=b;rfl
 | ok b =>
  obtain⟨v,p⟩:=b
  simp only[sh,exB,blE_sh,lt_sh]
  split
  ·rfl
  ·rfl
open ints (hexV)
section
variable {W Z:List Int}
theorem getD_ext{q:Nat}(h:q<Z.length):(Z++W).getD q 0=Z.getD q 0:=by
 rw[List.getD_eq_getElem?_getD,List.getD_eq_getElem?_getD,List.getElem?_append_left h]
theorem len_ext{q:Nat}(h:q<Z.length):q<(Z++W).length:=by rw[List.length_append];omega
theorem drop_ext{q:Nat}(h:q≤Z.length):(Z++W).drop q=Z.drop q++W:=by
 rw[List.drop_append,show q-Z.length=0 by omega,List.drop_zero]
theorem blE_ext{q:Nat}(hq:q≤Z.length)(h:blE Z q<Z.length):blE (Z++W) q=blE Z q:=by
 unfold blE at h ⊢
 rw[drop_ext hq,List.takeWhile_append,if_neg (by rw[List.length_drop];omega)]
theorem plE_ext{q:Nat}(hq:q≤Z.length)(h:plE Z q<Z.length):plE (Z++W) q=plE Z q:=by
 unfold plE at h ⊢
 rw[drop_ext hq,List.takeWhile_append,if_neg (by rw[List.length_drop];omega)]
theorem pcZ_ext{q p:Nat}(hq:q≤Z.length)(h:p≤Z.length):pcZ (Z++W) q p=pcZ Z q p:=by
 unfold pcZ
 rw[drop_ext hq,List.take_append_of_le_length (by rw[List.length_drop];omega)]
theorem digF_ext{s:Bool}{q:Nat}:∀ {k:Nat} {n v:Int},digF Z s q k n = .ok v→digF (Z++W) s q k n = .ok v
 | 0,n,v,h=>by rw[digF] at h ⊢;exact h
 | k+1,n,v,h=>by
  rw[digF] at h ⊢
  split at h
  case isFalse=>cases h
  rename_i g
  rw[if_pos (len_ext g),getD_ext g]
  split at h
  ·cases h
  rename_i g2
  rw[if_neg g2]
  exact digF_ext h
theorem cdF_ext{q:Nat}{r:Int × Nat}(h:cdF Z q = .ok r):cdF (Z++W) q = .ok r:=by
 unfold cdF at h ⊢
 cases h1:digF Z false q 4 0 with
 | error b=>rw[h1] at h;cases h
 | ok f =>
  rw[h1] at h
  rw[digF_ext h1]
  simp only at h ⊢
  split at h
  ·rename_i g;rw[if_pos g];exact h
  rename_i g
  rw[if_neg g]
  split at h
  case isFalse=>cases h
  rename_i g2
  rw[if_pos ⟨len_ext g2.1,by rw[getD_ext g2.1];exact g2.2⟩]
  split at h
  case isFalse=>cases h
  rename_i g3
  rw[if_pos ⟨len_ext g3.1,by rw[getD_ext g3.1];exact g3.2⟩]
  cases h2:digF Z true (q+6) 4 0 with
  | error b=>rw[h2] at h;cases h
  | ok s=>rw[h2] at h;rw[digF_ext h2];exact h
theorem esF_ext{q:Nat}{r:Int × Nat}(h:esF Z q = .ok r):esF (Z++W) q = .ok r:=by
 unfold esF at h ⊢
 split at h
 case isFalse=>cases h
 rename_i g
 rw[if_pos (len_ext g),getD_ext g]
 split at h
 ·rename_i g1;rw[if_pos g1];exact h
 rename_i g1
 rw[if_neg g1]
 split at h
 ·rename_i g1;rw[if_pos g1];exact h
 rename_i g1
 rw[if_neg g1]
 split at h
 ·rename_i g1;rw[if_pos g1];exact h
 rename_i g1
 rw[if_neg g1]
 split at h
 ·rename_i g1;rw[if_pos g1];exact h
 rename_i g1
 rw[if_neg g1]
 split at h
 ·rename_i g1;rw[if_pos g1];exact h
 rename_i g1
 rw[if_neg g1]
 split at h
 ·rename_i g1;rw[if_pos g1];exact h
 rename_i g1
 rw[if_neg g1]
 split at h
 ·rename_i g1;rw[if_pos g1];exact cdF_ext h
 ·cases h
theorem wdF_ext:∀ {l:List Int} {q p:Nat},wdF Z l q = .ok p→wdF (Z++W) l q = .ok p
 | [],q,p,h=>by rw[wdF] at h ⊢;exact h
 | z::r,q,p,h=>by
  rw[wdF] at h ⊢
  split at h
  case isFalse=>cases h
  rename_i g
  rw[if_pos ⟨len_ext g.1,by rw[getD_ext g.1];exact g.2⟩]
  exact wdF_ext h
theorem plR_ext{q p:Nat}{s:ByteArray}(hq:q≤Z.length)(h:plR Z q = .ok (s,p))(hp:p<Z.length):plR (Z++W) q = .ok (s,p):=by
 have e:=(plR_pos hq h).1
 unfold plR at h ⊢
 rw[plE_ext hq (by omega),pcZ_ext hq (by omega)]
 exact h
theorem txG_ext:∀ {f f' q:Nat} {acc:List Int} {r:List Int × Nat},f≤f'→q≤Z.length→txG Z f q acc = .ok r→txG (Z++W) f' q acc = .ok r
 | 0,f',q,acc,r,hf,hq,h=>by rw[txG] at h;cases h
 | f+1,0,q,acc,r,hf,hq,h=>by omega
 | f+1,f'+1,q,acc,r,hf,hq,h=>by
  cases h1:plR Z q with
  | error b=>rw[txG_err h1] at h;cases h
  | ok b =>
   obtain⟨s,p⟩:=b
   rw[txG_ok h1] at h
   split at h
   case isFalse=>cases h
   rename_i g
   rw[txG_ok (plR_ext hq h1 g),if_pos (len_ext g),getD_ext g]
   split at h
   ·rename_i g2;rw[if_pos g2];exact h
   rename_i g2
   rw[if_neg g2]
   split at h
   case isFalse=>cases h
   rename_i g3
   rw[if_pos g3]
   cases h2:esF Z (p+1) with
   | error b=>rw[h2] at h;cases h
   | ok b =>
    obtain⟨r1,q'⟩:=b
    rw[h2] at h
    obtain⟨-,b1,b2,b3⟩:=esF_sc h2
    rw[esF_ext h2]
    simp only[exB] at h ⊢
    exact txG_ext (by omega) b3 h
theorem txR_ext{q:Nat}{r:ByteArray × Nat}(h:txR Z q = .ok r):txR (Z++W) q = .ok r:=by
 unfold txR at h ⊢
 split at h
 case isFalse=>cases h
 rename_i g
 rw[if_pos ⟨len_ext g.1,by rw[getD_ext g.1];exact g.2⟩]
 cases h1:txG Z (Z.length+1) (q+1) [] with
 | error b=>rw[h1] at h;cases h
 | ok b =>
  rw[h1] at h
  rw[txG_ext (by rw[List.length_append];omega) (by omega) h1]
  exact h
variable {σ:Type} {shut:Int}
theorem elF_ext{step step':σ→Nat→Except (Nat × Int) (σ × Nat)}(hs:∀ st q st' q',step st q = .ok (st',q')→q<q'∧q'≤Z.length)(H:∀ st q r,q≤Z.length→step st q = .ok r→step' st q = .ok r):∀ {f f':Nat} {st:σ} {q:Nat} {r:σ × Nat},f≤f'→q≤Z.length→elF Z step shut f st q = .ok r→elF (Z++W) step' shut f' st q = .ok r
 | 0,f',st,q,r,hf,hq,h=>by rw[elF] at h;cases h
 | f+1,0,st,q,r,hf,hq,h=>by omega
 | f+1,f'+1,st,q,r,hf,hq,h=>by
  rw[elF] at h ⊢
  cases h1:step st q with
  | error b=>rw[h1] at h;cases h
  | ok b =>
   obtain⟨s1,q1⟩:=b
   rw[h1] at h
   obtain⟨a1,a2⟩:=hs _ _ _ _ h1
   rw[H _ _ _ hq h1]
   simp only[exB] at h ⊢
   split at h
   case isFalse=>cases h
   rename_i g
   rw[blE_ext a2 g,if_pos (len_ext g),getD_ext g]
   split at h
   ·rename_i g2
    rw[if_pos g2]
    have hb2:=blE_le (Z:=Z) (p:=blE Z q1+1) (by omega)
    have g4:blE Z (blE Z q1+1)<Z.length:=by
     rcases Nat.lt_or_ge (blE Z (blE Z q1+1)) Z.length with g4 | g4
     ·exact g4
     ·exfalso
      have e:blE Z (blE Z q1+1)=Z.length:=by omega
      rw[e] at h
      cases f with
      | zero=>rw[elF] at h;cases h
      | succ f =>
       rw[elF] at h
       cases h5:step s1 Z.length with
       | error b=>rw[h5] at h;cases h
       | ok b =>
        obtain⟨s2,q2⟩:=b
        have:=hs _ _ _ _ h5
        omega
    rw[blE_ext (by omega) g4]
    exact elF_ext hs H (by omega) (by omega) h
   ·rename_i g2
    rw[if_neg g2]
    split at h
    ·rename_i g3;rw[if_pos g3];exact h
    ·cases h
theorem brF_ext{step step':σ→Nat→Except (Nat × Int) (σ × Nat)}{room q:Nat}{st:σ}{r:σ × Nat}(hq:q<Z.length)(hs:∀ st q st' q',step st q = .ok (st',q')→q<q'∧q'≤Z.length)(H:∀ st q r,q≤Z.length→step st q = .ok r→step' st q = .ok r)(h:brF Z step shut room q st = .ok r):brF (Z++W) step' shut room q st = .ok r:=by
 unfold brF at h ⊢
 split at h
 ·cases h
 rename_i g0
 rw[if_neg g0]
 split at h
 case isFalse=>cases h
 rename_i g1
 rw[blE_ext (by omega) g1,if_pos (len_ext g1),getD_ext g1]
 split at h
 ·rename_i g2;rw[if_pos g2];exact h
 rename_i g2
 rw[if_neg g2]
 cases h1:elF Z step shut (Z.length+1) st (blE Z (q+1)) with
 | error b=>rw[h1] at h;cases h
 | ok b =>
  rw[h1] at h
  rw[elF_ext hs H (by rw[List.length_append];omega) (by omega) h1]
  exact h
end
theorem blank_dead{c:Int}(hc:blB c=true)(st:Int):stepZ st c<0:=by
 have h:c=32∨c=9∨c=10∨c=13:=by
  unfold blB at hc
  simp at hc
  omega
 unfold stepZ
 rcases h with rfl | rfl | rfl | rfl <;> simp[digB] <;> repeat (first | omega | split)
theorem runF_ext{W l:List Int}(hW:∀ z∈W,blB z=true):∀ (m k e:Nat) (st f:Int),m+k=l.length→runF (l++W) (m+W.length) st e f k=runF l m st e f k
 | 0,k,e,st,f,h=>by
  cases W with
  | nil=>rw[List.append_nil];rfl
  | cons c r =>
   have hk:k=l.length:=by omega
   rw[show 0+(c::r).length=r.length+1 by simp,runF,runF]
   have hg:(l++c::r).getD k 0=c:=by
    rw[List.getD_eq_getElem?_getD,List.getElem?_append_right (by omega),hk,Nat.sub_self]
    rfl
   rw[hg,if_pos (blank_dead (hW c (by simp)) st),hk]
 | m+1,k,e,st,f,h=>by
  rw[show m+1+W.length=(m+W.length)+1 by omega,runF,runF,getD_ext (by omega)]
  split
  ·rfl
  ·split
   ·exact runF_ext hW m (k+1) (k+1) _ _ (by omega)
   ·exact runF_ext hW m (k+1) e _ _ (by omega)
theorem pfx_ext{W l:List Int}(hW:∀ z∈W,blB z=true)(p:Nat)(hp:p≤l.length):pfx (l++W) p=pfx l p:=by
 rw[←pfx_run l p hp,←pfx_run (l++W) p (by rw[List.length_append];omega)]
 unfold run
 rw[show (l++W).length-p=(l.length-p)+W.length by rw[List.length_append];omega]
 exact runF_ext hW _ p p 0 0 (by omega)
theorem numR_ext{W Z:List Int}(hW:∀ z∈W,blB z=true)(nr:ByteArray→Int × Int × Nat × Int)(p:Nat)(hp:p≤Z.length):numR (Z++W) nr p=numR Z nr p:=by
 unfold numR
 obtain⟨h1,h2,h3,-⟩:=pfx_ok Z p hp
 rw[pfx_ext hW p hp,pcZ_ext hp (by omega)]
theorem vrF_ext{W Z:List Int}{nm nm':Nat→Except (Nat × Int) (Vl × Nat)}(hnm:∀ p v p',nm p = .ok (v,p')→p<p'∧p'≤Z.length)(hN:∀ p r,p<Z.length→nm p = .ok r→nm' p = .ok r) :
  ∀ (f f' room q:Nat) (r:Vl × Nat),f≤f'→vrF Z nm f room q = .ok r→vrF (Z++W) nm' f' room q = .ok r
 | 0,f',room,q,r,hf,h=>by rw[vrF] at h;cases h
 | f+1,0,room,q,r,hf,h=>by omega
 | f+1,f'+1,room,q,r,hf,h=>by
  have ih:=fun p r h=>vrF_ext (W:=W) hnm hN f f' (room-1) p r (by omega) h
  have ps:=vrF_pos hnm f (room-1)
  rw[vrF] at h ⊢
  split at h
  case isFalse=>cases h
  rename_i hq
  rw[if_pos (len_ext hq)]
  have wx:∀ v0 l,wV v0 (wdF Z l q) = .ok r→wV v0 (wdF (Z++W) l q) = .ok r:=fun v0 l hw=>by
   cases h1:wdF Z l q with
   | error b=>rw[h1] at hw;cases hw
   | ok p=>rw[wdF_ext h1];rw[h1] at hw;exact hw
  unfold dvF at h ⊢
  rw[getD_ext hq]
  split at h
  ·rename_i g;rw[if_pos g];exact wx _ _ h
  rename_i g
  rw[if_neg g]
  split at h
  ·rename_i g;rw[if_pos g];exact wx _ _ h
  rename_i g
  rw[if_neg g]
  split at h
  ·rename_i g;rw[if_pos g];exact wx _ _ h
  rename_i g
  rw[if_neg g]
  split at h
  ·rename_i g
   rw[if_pos g]
   cases h1:txR Z q with
   | error b=>rw[h1] at h;cases h
   | ok b=>rw[txR_ext h1];rw[h1] at h;exact h
  rename_i g
  rw[if_neg g]
  split at h
  ·rename_i g
   rw[if_pos g]
   cases h1:brF Z (stepL (vrF Z nm f (room-1))) 93 room q [] with
   | error b=>rw[h1] at h;cases h
   | ok b =>
    rw[h1] at h
    rw[brF_ext (step':=stepL (vrF (Z++W) nm' f' (room-1))) hq (stepL_pos ps) (fun st p r1 hp hs=>by
     unfold stepL at hs ⊢
     cases h2:vrF Z nm f (room-1) p with
     | error b=>rw[h2] at hs;cases hs
     | ok b=>rw[ih _ _ h2];rw[h2] at hs;exact hs) h1]
    exact h
  rename_i g
  rw[if_neg g]
  split at h
  ·rename_i g
   rw[if_pos g]
   cases h1:brF Z (stepO Z (vrF Z nm f (room-1))) 125 room q [] with
   | error b=>rw[h1] at h;cases h
   | ok b =>
    rw[h1] at h
    rw[brF_ext (step':=stepO (Z++W) (vrF (Z++W) nm' f' (room-1))) hq (stepO_pos ps) (fun st p r1 hp hs=>by
     unfold stepO at hs ⊢
     cases h2:txR Z p with
     | error b=>rw[h2] at hs;cases hs
     | ok b =>
      obtain⟨s,qa⟩:=b
      rw[h2] at hs
      rw[txR_ext h2]
      obtain⟨a1,a2,-⟩:=txR_len h2
      simp only[exB] at hs ⊢
      split at hs
      ·cases hs
      rename_i g1
      rw[if_neg g1]
      split at hs
      case isFalse=>cases hs
      rename_i g2
      rw[blE_ext a2 g2.1,if_pos ⟨len_ext g2.1,by rw[getD_ext g2.1];exact g2.2⟩]
      cases h3:vrF Z nm f (room-1) (blE Z (blE Z qa+1)) with
      | error b=>rw[h3] at hs;cases hs
      | ok b =>
       have g4:blE Z (blE Z qa+1)<Z.length:=by
        cases f with
        | zero=>rw[vrF] at h3;cases h3
        | succ f =>
         rw[vrF] at h3
         split at h3
         ·assumption
         ·cases h3
       rw[blE_ext (by omega) g4,ih _ _ h3]
       rw[h3] at hs
       exact hs) h1]
    exact h
  rename_i g
  rw[if_neg g]
  exact hN q r hq h
theorem rdF_behind{W Z:List Int}(hW:∀ z∈W,blB z=true)(nr:ByteArray→Int × Int × Nat × Int)(room:Nat){v:Vl}{p:Nat}
  (h:rdF Z (fun p=>if p≤Z.length then numR Z nr p else .error (p,50)) room = .ok (v,p)):∃ p',rdF (Z++W) (fun p=>if p≤(Z++W).length then numR (Z++W) nr p else .error (p,50)) room = .ok (v,p'):=by
 have hpos:∀ p v p',(fun p=>if p≤Z.length then numR Z nr p else Except.error (p,50)) p = .ok (v,p')→p<p'∧p'≤Z.length:=fun p v p' h=>by
  by_cases hp:p≤Z.length
  ·simp only[if_pos hp] at h
   exact numR_pos hp h
  ·simp only[if_neg hp] at h
   cases h
 unfold rdF whF at h ⊢
 cases h1:vrF Z (fun p=>if p≤Z.length then numR Z nr p else .error (p,50)) (Z.length+1) room (blE Z 0) with
 | error b=>rw[h1] at h;cases h
 | ok b =>
  obtain⟨u,q'⟩:=b
  have hu:=vrF_pos hpos _ _ _ _ _ h1
  rw[h1] at h
  simp only[exB] at h
  split at h
  ·cases h
  rename_i g
  injection h with h
  injection h with e1 e2
  subst e1
  have hq':=blE_le (Z:=Z) (p:=q') hu.2
  have hall:blE (Z++W) q'=(Z++W).length:=by
   unfold blE at g hq' ⊢
   rw[drop_ext hu.2,List.takeWhile_append,if_pos (by rw[List.length_drop];omega),List.length_append,List.length_append,List.length_drop,show W.takeWhile blB=W from by have:=List.takeWhile_append_of_pos (p:=blB) (l₁:=W) (l₂:=[]) hW;simpa using this]
   omega
  refine⟨blE (Z++W) q',?_⟩
  rw[blE_ext (Nat.zero_le _) (by omega),vrF_ext (W:=W) (nm':=fun p=>if p≤(Z++W).length then numR (Z++W) nr p else .error (p,50)) hpos (fun p r hp hr=>by
   simp only[if_pos (show p≤Z.length by omega)] at hr
   simp only[if_pos (show p≤(Z++W).length by rw[List.length_append];omega)]
   rw[numR_ext hW nr p (by omega)]
   exact hr) (Z.length+1) ((Z++W).length+1) room _ _ (by rw[List.length_append];omega) h1]
  simp only[exB]
  rw[if_neg (by omega)]
end Go.Proofs.YtdogjghalplohaaGreatDoor.jin
namespace Go.Proofs.YtdogjghalplohaaGreatDoor.vl
open Go.ChangeShapes Go.WideShapes Go.ChangeAt Go.RowKit
theorem keepC{w w':World}{b o:Nat}{u:Value}(h:Below w.heap.size w w')(hl:b<w.heap.size)(hc:w.cell? ⟨b,o,none⟩=some u):w'.cell? ⟨b,o,none⟩=some u:=(h.cell (p:=⟨b,o,none⟩) hl).trans hc
mutual
def Small:Vl→Prop
 | .mk kd b n f tx ty its fls=>its.list.length≤1256584717458∧fls.list.length≤1099511627776∧f<18446744073709551616∧SmallI its∧SmallF fls
def SmallI:Vls→Prop
 | .nil=>True
 | .cons v r=>Small v∧SmallI r
def SmallF:Fls→Prop
 | .nil=>True
 | .cons nm v r=>Small v∧SmallF r
end
theorem SmallI.all:∀ {l:Vls},SmallI l→∀ v∈l.list,Small v
 | .nil,_,v,h=>by simp[Vls.list] at h
 | .cons u r,hs,v,h=>by
  unfold SmallI at hs
  simp only[Vls.list,List.mem_cons] at h
  rcases h with h | h
  ·rw[h];exact hs.1
  ·exact hs.2.all v h
theorem SmallF.all:∀ {l:Fls},SmallF l→∀ q∈l.list,Small q.2
 | .nil,_,q,h=>by simp[Fls.list] at h
 | .cons nm u r,hs,q,h=>by
  unfold SmallF at hs
  simp only[Fls.list,List.mem_cons] at h
  rcases h with h | h
  ·rw[h];exact hs.1
  ·exact hs.2.all q h
end Go.Proofs.YtdogjghalplohaaGreatDoor.vl
