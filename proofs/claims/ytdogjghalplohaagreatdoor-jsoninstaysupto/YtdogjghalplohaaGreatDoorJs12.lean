import Derived.Test.YtdogjghalplohaaGreatDoorJs1
import Derived.Test.YtdogjghalplohaaGreatDoorJs11
import Derived.Test.YtdogjghalplohaaGreatDoorJs9
import Derived.Test.YtdogjghalplohaaGreatDoorJs4
import Derived.Test.YtdogjghalplohaaGreatDoorJs5
namespace Go.Proofs.YtdogjghalplohaaGreatDoor.mem
open Go.ChangeShapes Go.WideShapes Go.ChangeAt Go.RowKit
open ints (hide unhide)
set_option linter.unusedVariables false
theorem is_b (a:Option Addr) (n c:Nat) (l:List Int) (p:Nat) (x:Int) (w:World) (h:Row .u8 w a n c l) (hn:n ≤ 4611686018427387904) (hp:p ≤ 4611686018427387904) :
  Calls Tryz.prog 64 #[.slice a n c,.int .i64 (p:Int),.int .u8 x] w fun e w' => e = .returned (.bool (isAt l p x)) ∧ Below w.heap.size w w':=by
 by_cases hlt:p < n
 ·rcases h.at_ with h0 | ⟨b,off,rfl,hbw,hcell⟩
  ·omega
  have c1:=hcell p hlt
  have HI:=hide (show isAt l p x = (l.getD p 0 == x) from isAt_of (by rw [h.len];exact hlt) x)
  have pi:(p:Int) < (n:Int):=by omega
  rw [unhide HI]
  generalize l.getD p 0 = y at *
  clear hcell
  go_enter Tryz.func64,Tryz.ntmps64
  cases e1:(y == x)
  all_goals
   go_wp2
   go_ret
   exact ⟨rfl,Below.refl _ _⟩
 ·have HI:=hide (show isAt l p x = false from isAt_not (by rw [h.len];exact hlt) x)
  have pi:¬ (p:Int) < (n:Int):=by omega
  rw [unhide HI]
  go_enter Tryz.func64,Tryz.ntmps64
  go_wp2
  go_ret
  exact ⟨rfl,Below.refl _ _⟩
theorem digs_b (a:Option Addr) (n c:Nat) (l:List Int) (p:Nat) (w:World) (h:Row .u8 w a n c l) (hn:n ≤ 4611686018427387904) (hp:p ≤ 4611686018427387904) :
  Calls Tryz.prog 93 #[.slice a n c,.int .i64 (p:Int)] w fun e w' => e = .returned (.int .i64 (digs l p:Nat)) ∧ Below w.heap.size w w':=by
 go_enter Tryz.func93,Tryz.ntmps93
 go_wp2
 go_loopw [1] (fun v wr => ∃ k:Nat,k ≤ 4611686018427387904 ∧ v = .int .i64 k ∧ digs l p = digs l k ∧ Below w.heap.size w wr) (fun v _ => n - (intOf v).toNat)
 case atStart => exact ⟨p,hp,rfl,rfl,Below.refl _ _⟩
 case round =>
  obtain ⟨k,hk,rfl,heq,hbel⟩:=hrel
  have HE:=hide heq
  clear heq
  by_cases hlt:k < n
  ·rcases h.at_ with h0 | ⟨b,off,rfl,hbw,hcell⟩
   ·omega
   have c1:=(hbel.cell (p:=⟨b,off + k,none⟩) hbw).trans (hcell k hlt)
   have HD:=hide (show digAt l k = digB (l.getD k 0) from digAt_of (by rw [h.len];exact hlt))
   have ki:(k:Int) < (n:Int):=by omega
   generalize l.getD k 0 = y at *
   clear hcell
   by_cases h1:48 ≤ y
   ·by_cases h2:y ≤ 57
    ·have hd:=hide (show digAt l k = true from by rw [unhide HD];simp [digB,h1,h2])
     go_wp2
     go_roundw
     case rel => exact ⟨k + 1,by omega,by go_num,by rw [unhide HE,digs_yes (unhide hd)],hbel⟩
     case measure => simp [intOf];omega
    ·have hd:=hide (show digAt l k = false from by rw [unhide HD];simp [digB,h1,h2])
     go_wp2
     go_ret
     rw [unhide HE,digs_no (unhide hd)]
     exact ⟨rfl,hbel⟩
   ·have hd:=hide (show digAt l k = false from by rw [unhide HD];simp [digB,h1])
    go_wp2
    go_ret
    rw [unhide HE,digs_no (unhide hd)]
    exact ⟨rfl,hbel⟩
  ·have ki:¬ (k:Int) < (n:Int):=by omega
   have hd:=hide (show digAt l k = false from digAt_not (by rw [h.len];exact hlt))
   go_wp2
   go_ret
   rw [unhide HE,digs_no (unhide hd)]
   exact ⟨rfl,hbel⟩
theorem isq_b (a:Option Addr) (n c:Nat) (l:List Int) (p:Nat) (q:Int) (hq:q = (p:Int)) (x:Int) (w:World) (h:Row .u8 w a n c l) (hn:n ≤ 4611686018427387904) (hp:p ≤ 4611686018427387904) :
  Calls Tryz.prog 64 #[.slice a n c,.int .i64 q,.int .u8 x] w fun e w' => e = .returned (.bool (isAt l p x)) ∧ Below w.heap.size w w':=by
 subst hq;exact is_b a n c l p x w h hn hp
theorem point_b (a:Option Addr) (n c:Nat) (l:List Int) (p:Nat) (w:World) (h:Row .u8 w a n c l) (hn:n ≤ 4611686018427387904) (hp:p ≤ 4611686018427387904) :
  Calls Tryz.prog 67 #[.slice a n c,.int .i64 (p:Int)] w fun e w' => e = .returned (.int .i64 (bPoint l p:Nat)) ∧ Below w.heap.size w w':=by
 go_enter Tryz.func67,Tryz.ntmps67
 go_wp2_with fail
 refine (is_b a n c l p 46 w h hn hp).mono ?_
 rintro e w1 ⟨rfl,b1⟩
 cases e1:isAt l p 46
 all_goals
  go_wp2
  go_ret
  exact ⟨by unfold bPoint;rw [e1];go_num,b1⟩
theorem mark_b (a:Option Addr) (n c:Nat) (l:List Int) (p:Nat) (w:World) (h:Row .u8 w a n c l) (hn:n ≤ 4611686018427387904) (hp:p ≤ 4611686018427387903) :
  Calls Tryz.prog 68 #[.slice a n c,.int .i64 (p:Int)] w fun e w' => e = .returned (.int .i64 (bMark l p:Nat)) ∧ Below w.heap.size w w':=by
 go_enter Tryz.func68,Tryz.ntmps68
 go_wp2_with fail
 refine (is_b a n c l p 101 w h hn (by omega)).mono ?_
 rintro e w1 ⟨rfl,b1⟩
 cases e1:isAt l p 101
 ·go_wp2_with fail
  refine (is_b a n c l p 69 w1 (h.below b1) hn (by omega)).mono ?_
  rintro e w2 ⟨rfl,b2⟩
  have b2:=b1.trans (b2.mono b1.size)
  cases e2:isAt l p 69
  ·go_wp2
   go_ret
   exact ⟨by unfold bMark;rw [if_pos ⟨e1,e2⟩];rfl,b2⟩
  ·go_wp2_with fail
   refine (isq_b a n c l (p + 1) _ (by omega) 43 w2 (h.below b2) hn (by omega)).mono ?_
   rintro e w3 ⟨rfl,b3⟩
   have b3:=b2.trans (b3.mono b2.size)
   cases e3:isAt l (p + 1) 43
   ·go_wp2_with fail
    refine (isq_b a n c l (p + 1) _ (by omega) 45 w3 (h.below b3) hn (by omega)).mono ?_
    rintro e w4 ⟨rfl,b4⟩
    have b4:=b3.trans (b4.mono b3.size)
    cases e4:isAt l (p + 1) 45
    ·go_wp2
     go_ret
     exact ⟨by unfold bMark;rw [if_neg (by simp [e2]),if_neg (by simp [e3,e4])];go_num,b4⟩
    ·go_wp2
     go_ret
     exact ⟨by unfold bMark;rw [if_neg (by simp [e2]),if_pos (.inr e4)];go_num,b4⟩
   ·go_wp2
    go_ret
    exact ⟨by unfold bMark;rw [if_neg (by simp [e2]),if_pos (.inl e3)];go_num,b3⟩
 ·go_wp2_with fail
  refine (isq_b a n c l (p + 1) _ (by omega) 43 w1 (h.below b1) hn (by omega)).mono ?_
  rintro e w3 ⟨rfl,b3⟩
  have b3:=b1.trans (b3.mono b1.size)
  cases e3:isAt l (p + 1) 43
  ·go_wp2_with fail
   refine (isq_b a n c l (p + 1) _ (by omega) 45 w3 (h.below b3) hn (by omega)).mono ?_
   rintro e w4 ⟨rfl,b4⟩
   have b4:=b3.trans (b4.mono b3.size)
   cases e4:isAt l (p + 1) 45
   ·go_wp2
    go_ret
    exact ⟨by unfold bMark;rw [if_neg (by simp [e1]),if_neg (by simp [e3,e4])];go_num,b4⟩
   ·go_wp2
    go_ret
    exact ⟨by unfold bMark;rw [if_neg (by simp [e1]),if_pos (.inr e4)];go_num,b4⟩
  ·go_wp2
   go_ret
   exact ⟨by unfold bMark;rw [if_neg (by simp [e1]),if_pos (.inl e3)];go_num,b3⟩
theorem whole_b (a:Option Addr) (n c:Nat) (l:List Int) (p:Nat) (w:World) (h:Row .u8 w a n c l) (hn:n ≤ 4611686018427387904) (hp:p ≤ 4611686018427387904) :
  Calls Tryz.prog 65 #[.slice a n c,.int .i64 (p:Int)] w fun e w' => e = .returned (.int .i64 (bWhole l p:Nat)) ∧ Below w.heap.size w w':=by
 go_enter Tryz.func65,Tryz.ntmps65
 go_wp2_with fail
 refine (is_b a n c l p 48 w h hn hp).mono ?_
 rintro e w1 ⟨rfl,b1⟩
 cases e1:isAt l p 48
 ·go_wp2_with fail
  refine (digs_b a n c l p w1 (h.below b1) hn hp).mono ?_
  rintro e w2 ⟨rfl,b2⟩
  have b2:=b1.trans (b2.mono b1.size)
  go_wp2
  go_ret
  exact ⟨by unfold bWhole;rw [e1];rfl,b2⟩
 ·go_wp2
  go_ret
  exact ⟨by unfold bWhole;rw [e1];go_num,b1⟩
theorem wholeq_b (a:Option Addr) (n c:Nat) (l:List Int) (p:Nat) (q:Int) (hq:q = (p:Int)) (w:World) (h:Row .u8 w a n c l) (hn:n ≤ 4611686018427387904) (hp:p ≤ 4611686018427387904) :
  Calls Tryz.prog 65 #[.slice a n c,.int .i64 q] w fun e w' => e = .returned (.int .i64 (bWhole l p:Nat)) ∧ Below w.heap.size w w':=by
 subst hq;exact whole_b a n c l p w h hn hp
theorem part_b (a:Option Addr) (n c:Nat) (l:List Int) (p first:Nat) (w:World) (h:Row .u8 w a n c l) (hn:n ≤ 4611686018427387904) (hp:p ≤ 4611686018427387904) (hf:first ≤ 4611686018427387904) :
  Calls Tryz.prog 66 #[.slice a n c,.int .i64 (p:Int),.int .i64 (first:Int)] w fun e w' => e = .returned (.tuple #[.int .i64 ((bPart l p first).1:Nat),.int .i64 ((bPart l p first).2:Nat)]) ∧ Below w.heap.size w w':=by
 go_enter Tryz.func66,Tryz.ntmps66
 by_cases e1:first = p
 ·have e1i:((first:Int) == (p:Int)) = true:=by simp [e1]
  go_wp2
  go_ret2
  exact ⟨by unfold bPart;rw [if_pos e1];rfl,Below.refl _ _⟩
 ·have e1i:((first:Int) == (p:Int)) = false:=by simp;omega
  go_wp2_with fail
  refine (digs_b a n c l first w h hn hf).mono ?_
  rintro e w1 ⟨rfl,b1⟩
  by_cases e2:digs l first = first
  ·have e2i:((digs l first:Int) == (first:Int)) = true:=by simp [e2]
   go_wp2
   go_ret2
   exact ⟨by unfold bPart;rw [if_neg e1,if_pos e2,e2];rfl,b1⟩
  ·have e2i:((digs l first:Int) == (first:Int)) = false:=by simp;omega
   go_wp2
   go_ret2
   exact ⟨by unfold bPart;rw [if_neg e1,if_neg e2];rfl,b1⟩
set_option maxHeartbeats 1000000 in
theorem prefix_in_b (a:Option Addr) (n c:Nat) (l:List Int) (p:Nat) (w:World) (h:Row .u8 w a n c l) (hn:n ≤ 4611686018427387900) (hp:p ≤ n) :
  Calls Tryz.prog 32 #[.slice a n c,.int .i64 (p:Int)] w fun e w' => e = .returned (.tuple #[.int .i64 ((pfx l p).1:Nat),.int .i64 ((pfx l p).2.1:Nat),.int .i64 (pfx l p).2.2]) ∧ Below w.heap.size w w':=by
 go_enter Tryz.func32,Tryz.ntmps32
 have h0:¬ (p:Int) < 0:=by omega
 have h1:¬ (n:Int) < (p:Int):=by omega
 go_wp2_with fail
 refine (is_b a n c l p 45 w h (by omega) (by omega)).mono ?_
 rintro e w1 ⟨rfl,b1⟩
 cases e1:isAt l p 45
 ·have hF:=hide (show pfxFirst l p = p from by unfold pfxFirst;rw [e1];rfl)
  clear e1
  have HL:=hide h.len
  have hF1:=whole_le (l:=l) (p:=p) (by rw [h.len];omega)
  rw [h.len] at hF1
  go_wp2_with fail
  refine (wholeq_b a n c l (p) _ (by omega) w1 (h.below b1) (by omega) (by omega)).mono ?_
  rintro e w2 ⟨rfl,b2⟩
  have b2:=b1.trans (b2.mono b1.size)
  by_cases e2:bWhole l (p) = p
  ·have e2i:((bWhole l (p):Int) == (p:Int)) = true:=by simp;omega
   have HE2:=hide e2
   clear e2
   go_wp2
   go_ret3
   exact ⟨by unfold pfx;rw [unhide hF,if_pos (unhide HE2)];rfl,b2⟩
  ·have e2i:((bWhole l (p):Int) == (p:Int)) = false:=by simp;omega
   have HP:=hide (show pfx l p = ((pfxR l (bWhole l (p))).1,(pfxR l (bWhole l (p))).2,if (pfxR l (bWhole l (p))).1 > bWhole l (p) then 2 else 1) from by unfold pfx;rw [unhide hF,if_neg e2])
   clear e2
   generalize bWhole l (p) = E at *
   have hq1:=point_le (l:=l) (p:=E) (by rw [unhide HL];exact hF1)
   have hq2:=part_le (l:=l) (p:=E) (f:=bPoint l E) (by rw [unhide HL];exact hF1) hq1
   rw [unhide HL] at hq1 hq2
   go_wp2_with fail
   refine (point_b a n c l E w2 (h.below b2) (by omega) (by omega)).mono ?_
   rintro e w3 ⟨rfl,b3⟩
   have b3:=b2.trans (b3.mono b2.size)
   go_wp2_with fail
   refine (part_b a n c l E (bPoint l E) w3 (h.below b3) (by omega) (by omega) (by omega)).mono ?_
   rintro e w4 ⟨rfl,b4⟩
   have b4:=b3.trans (b4.mono b3.size)
   have HR:=hide (show pfxR l E = if (bPart l E (bPoint l E)).1 = (bPart l E (bPoint l E)).2 then bPart l (bPart l E (bPoint l E)).1 (bMark l (bPart l E (bPoint l E)).1) else bPart l E (bPoint l E) from rfl)
   clear hq1
   generalize bPart l E (bPoint l E) = R at *
   obtain ⟨R1,R2⟩:=R
   simp only at hq2
   by_cases e3:R1 = R2
   ·have e3i:((R1:Int) == (R2:Int)) = true:=by simp;omega
    have HR2:=hide (show pfxR l E = bPart l R1 (bMark l R1) from by rw [unhide HR];exact if_pos e3)
    clear HR
    clear e3i
    subst e3
    have e3i:((R1:Int) == (R1:Int)) = true:=by simp
    have hm1:=mark_le (l:=l) (p:=R1) (by rw [unhide HL];exact hq2.1)
    rw [unhide HL] at hm1
    go_wp2_with fail
    refine (mark_b a n c l R1 w4 (h.below b4) (by omega) (by omega)).mono ?_
    rintro e w5 ⟨rfl,b5⟩
    have b5:=b4.trans (b5.mono b4.size)
    go_wp2_with fail
    refine (part_b a n c l R1 (bMark l R1) w5 (h.below b5) (by omega) (by omega) (by omega)).mono ?_
    rintro e w6 ⟨rfl,b6⟩
    have b6:=b5.trans (b6.mono b5.size)
    clear hm1 e3i
    rw [unhide HR2] at HP
    generalize bPart l R1 (bMark l R1) = S at *
    obtain ⟨S1,S2⟩:=S
    by_cases e4:E < S1
    ·have HQ:=hide (show pfx l p = (S1,S2,2) from by rw [unhide HP];simp [e4])
     have e4i:(E:Int) < (S1:Int):=by omega
     clear HP HR2
     go_wp2
     go_ret3
     exact ⟨by rw [unhide HQ];rfl,b6⟩
    ·have HQ:=hide (show pfx l p = (S1,S2,1) from by rw [unhide HP];simp [e4])
     have e4i:¬ (E:Int) < (S1:Int):=by omega
     clear HP HR2
     go_wp2
     go_ret3
     exact ⟨by rw [unhide HQ];rfl,b6⟩
   ·have e3i:((R1:Int) == (R2:Int)) = false:=by simp;omega
    have HR2:=hide (show pfxR l E = (R1,R2) from by rw [unhide HR];exact if_neg e3)
    clear HR e3
    rw [unhide HR2] at HP
    by_cases e4:E < R1
    ·have HQ:=hide (show pfx l p = (R1,R2,2) from by rw [unhide HP];simp [e4])
     have e4i:(E:Int) < (R1:Int):=by omega
     clear HP HR2
     go_wp2
     go_ret3
     exact ⟨by rw [unhide HQ];rfl,b4⟩
    ·have HQ:=hide (show pfx l p = (R1,R2,1) from by rw [unhide HP];simp [e4])
     have e4i:¬ (E:Int) < (R1:Int):=by omega
     clear HP HR2
     go_wp2
     go_ret3
     exact ⟨by rw [unhide HQ];rfl,b4⟩
 ·have hF:=hide (show pfxFirst l p = p + 1 from by unfold pfxFirst;rw [e1];rfl)
  have hpl:=isAt_lt e1
  rw [h.len] at hpl
  clear e1
  have HL:=hide h.len
  have hF1:=whole_le (l:=l) (p:=p + 1) (by rw [h.len];omega)
  rw [h.len] at hF1
  go_wp2_with fail
  refine (wholeq_b a n c l (p + 1) _ (by omega) w1 (h.below b1) (by omega) (by omega)).mono ?_
  rintro e w2 ⟨rfl,b2⟩
  have b2:=b1.trans (b2.mono b1.size)
  by_cases e2:bWhole l (p + 1) = p + 1
  ·have e2i:((bWhole l (p + 1):Int) == ((p:Int) + 1)) = true:=by simp;omega
   have HE2:=hide e2
   clear e2
   go_wp2
   go_ret3
   exact ⟨by unfold pfx;rw [unhide hF,if_pos (unhide HE2)];rfl,b2⟩
  ·have e2i:((bWhole l (p + 1):Int) == ((p:Int) + 1)) = false:=by simp;omega
   have HP:=hide (show pfx l p = ((pfxR l (bWhole l (p + 1))).1,(pfxR l (bWhole l (p + 1))).2,if (pfxR l (bWhole l (p + 1))).1 > bWhole l (p + 1) then 2 else 1) from by unfold pfx;rw [unhide hF,if_neg e2])
   clear e2
   generalize bWhole l (p + 1) = E at *
   have hq1:=point_le (l:=l) (p:=E) (by rw [unhide HL];exact hF1)
   have hq2:=part_le (l:=l) (p:=E) (f:=bPoint l E) (by rw [unhide HL];exact hF1) hq1
   rw [unhide HL] at hq1 hq2
   go_wp2_with fail
   refine (point_b a n c l E w2 (h.below b2) (by omega) (by omega)).mono ?_
   rintro e w3 ⟨rfl,b3⟩
   have b3:=b2.trans (b3.mono b2.size)
   go_wp2_with fail
   refine (part_b a n c l E (bPoint l E) w3 (h.below b3) (by omega) (by omega) (by omega)).mono ?_
   rintro e w4 ⟨rfl,b4⟩
   have b4:=b3.trans (b4.mono b3.size)
   have HR:=hide (show pfxR l E = if (bPart l E (bPoint l E)).1 = (bPart l E (bPoint l E)).2 then bPart l (bPart l E (bPoint l E)).1 (bMark l (bPart l E (bPoint l E)).1) else bPart l E (bPoint l E) from rfl)
   clear hq1
   generalize bPart l E (bPoint l E) = R at *
   obtain ⟨R1,R2⟩:=R
   simp only at hq2
   by_cases e3:R1 = R2
   ·have e3i:((R1:Int) == (R2:Int)) = true:=by simp;omega
    have HR2:=hide (show pfxR l E = bPart l R1 (bMark l R1) from by rw [unhide HR];exact if_pos e3)
    clear HR
    clear e3i
    subst e3
    have e3i:((R1:Int) == (R1:Int)) = true:=by simp
    have hm1:=mark_le (l:=l) (p:=R1) (by rw [unhide HL];exact hq2.1)
    rw [unhide HL] at hm1
    go_wp2_with fail
    refine (mark_b a n c l R1 w4 (h.below b4) (by omega) (by omega)).mono ?_
    rintro e w5 ⟨rfl,b5⟩
    have b5:=b4.trans (b5.mono b4.size)
    go_wp2_with fail
    refine (part_b a n c l R1 (bMark l R1) w5 (h.below b5) (by omega) (by omega) (by omega)).mono ?_
    rintro e w6 ⟨rfl,b6⟩
    have b6:=b5.trans (b6.mono b5.size)
    clear hm1 e3i
    rw [unhide HR2] at HP
    generalize bPart l R1 (bMark l R1) = S at *
    obtain ⟨S1,S2⟩:=S
    by_cases e4:E < S1
    ·have HQ:=hide (show pfx l p = (S1,S2,2) from by rw [unhide HP];simp [e4])
     have e4i:(E:Int) < (S1:Int):=by omega
     clear HP HR2
     go_wp2
     go_ret3
     exact ⟨by rw [unhide HQ];rfl,b6⟩
    ·have HQ:=hide (show pfx l p = (S1,S2,1) from by rw [unhide HP];simp [e4])
     have e4i:¬ (E:Int) < (S1:Int):=by omega
     clear HP HR2
     go_wp2
     go_ret3
     exact ⟨by rw [unhide HQ];rfl,b6⟩
   ·have e3i:((R1:Int) == (R2:Int)) = false:=by simp;omega
    have HR2:=hide (show pfxR l E = (R1,R2) from by rw [unhide HR];exact if_neg e3)
    clear HR e3
    rw [unhide HR2] at HP
    by_cases e4:E < R1
    ·have HQ:=hide (show pfx l p = (R1,R2,2) from by rw [unhide HP];simp [e4])
     have e4i:(E:Int) < (R1:Int):=by omega
     clear HP HR2
     go_wp2
     go_ret3
     exact ⟨by rw [unhide HQ];rfl,b4⟩
    ·have HQ:=hide (show pfx l p = (R1,R2,1) from by rw [unhide HP];simp [e4])
     have e4i:¬ (E:Int) < (R1:Int):=by omega
     clear HP HR2
     go_wp2
     go_ret3
     exact ⟨by rw [unhide HQ];rfl,b4⟩
end Go.Proofs.YtdogjghalplohaaGreatDoor.mem
namespace Go.Proofs.YtdogjghalplohaaGreatDoor.jin
open Go.ChangeShapes Go.WideShapes Go.ChangeAt Go.RowKit
open mem Go.Maps
open vl (Vl Vls Fls VlC VlsAt FlsAt Row8)
open ints (hide unhide hexV)
set_option linter.unusedVariables false
set_option linter.unusedSimpArgs false
def aut (l:List Int):Int:=l.foldl stepZ 0
theorem aut_snoc (l:List Int) (c:Int):aut (l ++ [c]) = stepZ (aut l) c:=by simp [aut]
structure PxI (l:List Int) (p:Nat) (e s:Nat) (f:Int):Prop where
 pe:p ≤ e
 es:e ≤ s
 sl:s ≤ l.length
 no:∀ k,e < k → k ≤ s → formZ (aut ((l.drop p).take (k - p))) = 0
 fm:formZ (aut ((l.drop p).take (e - p))) = f
 lv:0 ≤ aut ((l.drop p).take (s - p))
 st:s < l.length → aut ((l.drop p).take (s + 1 - p)) < 0
 nz:p < e → f ≠ 0
theorem take_one (l:List Int) (p k:Nat) (hp:p ≤ k) (hk:k < l.length):(l.drop p).take (k + 1 - p) = (l.drop p).take (k - p) ++ [l.getD k 0]:=by
 rw [show k + 1 - p = (k - p) + 1 by omega,List.take_add_one,List.getElem?_drop,show p + (k - p) = k by omega,List.getElem?_eq_getElem hk,List.getD_eq_getElem?_getD,List.getElem?_eq_getElem hk]
 rfl
theorem runF_ok (l:List Int) (p:Nat):∀ (m k e:Nat) (st f:Int),m = l.length - k → p ≤ e → e ≤ k → k ≤ l.length → aut ((l.drop p).take (k - p)) = st → 0 ≤ st →
  (∀ j,e < j → j ≤ k → formZ (aut ((l.drop p).take (j - p))) = 0) → formZ (aut ((l.drop p).take (e - p))) = f → (p < e → f ≠ 0) → PxI l p (runF l m st e f k).1 (runF l m st e f k).2.1 (runF l m st e f k).2.2:=by
 intro m
 induction m with
 | zero =>
  intro k e st f hm h1 h2 h3 h4 h5 h6 h7 h8
  have hk:k = l.length:=by omega
  subst hk
  exact ⟨h1,h2,Nat.le_refl _,h6,h7,by show 0 ≤ aut ((l.drop p).take (l.length - p));rw [h4];exact h5,fun h => absurd h (Nat.lt_irrefl _),h8⟩
 | succ m ih =>
  intro k e st f hm h1 h2 h3 h4 h5 h6 h7 h8
  have hk:k < l.length:=by omega
  have hst:aut ((l.drop p).take (k + 1 - p)) = stepZ st (l.getD k 0):=by rw [take_one l p k (by omega) hk,aut_snoc,h4]
  simp only [runF]
  by_cases c1:stepZ st (l.getD k 0) < 0
  ·rw [if_pos c1]
   exact ⟨h1,h2,h3,h6,h7,by show 0 ≤ aut ((l.drop p).take (k - p));rw [h4];exact h5,fun _ => by show aut ((l.drop p).take (k + 1 - p)) < 0;rw [hst];exact c1,h8⟩
  ·rw [if_neg c1]
   by_cases c2:formZ (stepZ st (l.getD k 0)) = 0
   ·rw [if_neg (by rw [c2];simp)]
    refine ih (k + 1) e _ f (by omega) h1 (by omega) (by omega) hst (by omega) ?_ h7 h8
    intro j j1 j2
    by_cases hj:j = k + 1
    ·subst hj;rw [hst];exact c2
    ·exact h6 j j1 (by omega)
   ·rw [if_pos c2]
    refine ih (k + 1) (k + 1) _ _ (by omega) (by omega) (Nat.le_refl _) (by omega) hst (by omega) ?_ (by rw [hst]) (fun _ => c2)
    intro j j1 j2;omega
theorem pfx_ok (l:List Int) (p:Nat) (hp:p ≤ l.length):PxI l p (pfx l p).1 (pfx l p).2.1 (pfx l p).2.2:=by
 rw [← pfx_run l p hp]
 unfold run
 exact runF_ok l p _ p p 0 0 rfl (Nat.le_refl _) (Nat.le_refl _) hp (by rw [Nat.sub_self,List.take_zero];rfl) (by omega) (fun j h1 h2 => by omega) (by rw [Nat.sub_self,List.take_zero];rfl) (fun h => absurd h (Nat.lt_irrefl _))
def numR (Z:List Int) (nr:ByteArray → Int × Int × Nat × Int) (q:Nat):Except (Nat × Int) (Vl × Nat):=
 numF q (pfx Z q).1 (pfx Z q).2.1 (pfx Z q).2.2 (nr (strOfNums (pcZ Z q (pfx Z q).1))).1 (nr (strOfNums (pcZ Z q (pfx Z q).1))).2.1 (nr (strOfNums (pcZ Z q (pfx Z q).1))).2.2.1 (nr (strOfNums (pcZ Z q (pfx Z q).1))).2.2.2
theorem numR_pos {Z:List Int} {nr:ByteArray → Int × Int × Nat × Int} {p:Nat} {v:Vl} {p':Nat} (hp:p ≤ Z.length) (h:numR Z nr p = .ok (v,p')):p < p' ∧ p' ≤ Z.length:=by
 obtain ⟨h1,h2,h3,-,h5,-,-,-⟩:=pfx_ok Z p hp
 unfold numR numF at h
 split at h
 ·cases h
 rename_i g
 have hf:(pfx Z p).2.2 ≠ 0:=fun e => g (.inl e)
 split at h
 ·injection h with h
  injection h with e1 e2
  have hne:(pfx Z p).1 ≠ p:=fun e => hf (by rw [← h5,e,Nat.sub_self,List.take_zero];rfl)
  omega
 ·cases h
section
variable {a:Option Addr} {n c:Nat} {Z:List Int} {w:World}
theorem read_num (hZ:∀ z ∈ Z,0 ≤ z ∧ z ≤ 255) (hn:n ≤ 1099511627776) (nr:ByteArray → Int × Int × Nat × Int) (hwf:∀ s,(Lit.int .i64 (nr s).1).wf = true ∧ (Lit.int .i64 (nr s).2.1).wf = true)
  (hD:∀ p u,p < n → (pfx Z p).2.2 ≠ 0 → Below w.heap.size w u → Calls Tryz.prog 16 #[.string (strOfNums (pcZ Z p (pfx Z p).1))] u fun x u' => x = .returned (.tuple #[.agg #[.int .i64 (nr (strOfNums (pcZ Z p (pfx Z p).1))).1,.int .i64 (nr (strOfNums (pcZ Z p (pfx Z p).1))).2.1,.float .f64 (nr (strOfNums (pcZ Z p (pfx Z p).1))).2.2.1],.int .i64 (nr (strOfNums (pcZ Z p (pfx Z p).1))).2.2.2]) ∧ Below u.heap.size u u')
  (depth:Int) (room:Nat) (hd:(depth < 0 ∧ room = 0) ∨ (depth = room ∧ room ≤ 200) ∨ (200 < depth ∧ room = 200)) (hrow:Row .u8 w a n c Z) :
  Calls Tryz.prog 10 #[.slice a n c,.int .i64 depth] w fun e w' => (∃ cs,e = .returned (.tuple #[.agg cs.toArray,.int .i64 (rdA (rdF Z (fun p => if p ≤ Z.length then numR Z nr p else .error (p,50)) room)),.int .i64 (rdE (rdF Z (fun p => if p ≤ Z.length then numR Z nr p else .error (p,50)) room))]) ∧ FvC w.heap.size none w' (rdV (rdF Z (fun p => if p ≤ Z.length then numR Z nr p else .error (p,50)) room)) cs) ∧ Below w.heap.size w w':=by
 have hzl:=hrow.len
 refine read_ok hZ hn _ ?_ ?_ depth room hd hrow
 ·intro p v p' h
  by_cases hp:p ≤ Z.length
  ·simp only [if_pos hp] at h
   exact numR_pos hp h
  ·simp only [if_neg hp] at h
   cases h
 ·intro R p room u hp hRw hb hR
  simp only [if_pos (show p ≤ Z.length by omega)]
  obtain ⟨h1,h2,h3,-,-,-,-,-⟩:=pfx_ok Z p (by omega)
  refine number_ok (pfx Z p).1 (pfx Z p).2.1 (pfx Z p).2.2 h1 h2 (by omega) (fun u' hk hu => prefix_in_b a n c Z p u' hu.row (by omega) (by omega)) _ _ _ _ (hwf _).1 (hwf _).2 (fun hne u' hk => hD p u' hp (fun e => hne (.inl e)) (kp_low hb hk hRw)) hR
end
end Go.Proofs.YtdogjghalplohaaGreatDoor.jin
namespace Go.Proofs.YtdogjghalplohaaGreatDoor.jin
open mem
open vl (Vl Vls Fls)
set_option linter.unusedVariables false
set_option linter.unusedSimpArgs false
theorem numR_flat {Z:List Int} {nr:ByteArray → Int × Int × Nat × Int} (hk:∀ s,(nr s).1 ≠ 5 ∧ (nr s).1 ≠ 6):∀ p v p',(fun p => if p ≤ Z.length then numR Z nr p else .error (p,50)) p = .ok (v,p') → dp v = 0:=fun p v p' h => by
 simp only at h
 split at h
 ·unfold numR numF at h
  split at h
  ·cases h
  split at h
  ·injection h with h
   injection h with e1 e2
   rw [← e1]
   unfold numV dp
   rw [if_neg (hk _).1,if_neg (hk _).2]
  ·cases h
 ·cases h
end Go.Proofs.YtdogjghalplohaaGreatDoor.jin
namespace Go.Proofs.YtdogjghalplohaaGreatDoor.vl
open Go.ChangeShapes Go.WideShapes Go.ChangeAt Go.RowKit
set_option linter.unusedVariables false
set_option linter.unusedSimpArgs false
end Go.Proofs.YtdogjghalplohaaGreatDoor.vl
namespace Go.Proofs.YtdogjghalplohaaGreatDoor.vl
open Go.ChangeShapes Go.WideShapes Go.ChangeAt Go.RowKit
set_option linter.unusedVariables false
set_option linter.unusedSimpArgs false
mutual
def Small:Vl → Prop
 | .mk kd b n f tx ty its fls => its.list.length ≤ 1256584717458 ∧ fls.list.length ≤ 1099511627776 ∧ f < 18446744073709551616 ∧ SmallI its ∧ SmallF fls
def SmallI:Vls → Prop
 | .nil => True
 | .cons v r => Small v ∧ SmallI r
def SmallF:Fls → Prop
 | .nil => True
 | .cons nm v r => Small v ∧ SmallF r
end
theorem SmallI.all:∀ {l:Vls},SmallI l → ∀ v ∈ l.list,Small v
 | .nil,_,v,h => by simp [Vls.list] at h
 | .cons u r,hs,v,h => by
  unfold SmallI at hs
  simp only [Vls.list,List.mem_cons] at h
  rcases h with h | h
  ·rw [h];exact hs.1
  ·exact hs.2.all v h
theorem SmallF.all:∀ {l:Fls},SmallF l → ∀ q ∈ l.list,Small q.2
 | .nil,_,q,h => by simp [Fls.list] at h
 | .cons nm u r,hs,q,h => by
  unfold SmallF at hs
  simp only [Fls.list,List.mem_cons] at h
  rcases h with h | h
  ·rw [h];exact hs.1
  ·exact hs.2.all q h
end Go.Proofs.YtdogjghalplohaaGreatDoor.vl
namespace Go.Proofs.YtdogjghalplohaaGreatDoor.jin
open mem
open vl (Vl Vls Fls Small SmallI SmallF)
set_option linter.unusedVariables false
set_option linter.unusedSimpArgs false
section
variable {σ:Type} {Z:List Int}
theorem elF_invq {step:σ → Nat → Except (Nat × Int) (σ × Nat)} {shut:Int} (I:σ → Nat → Prop) (M:∀ st q q',q ≤ q' → I st q → I st q') (hs:∀ st q st' q',step st q = .ok (st',q') → q' ≤ Z.length) (H:∀ st q st' q',I st q → step st q = .ok (st',q') → I st' q'):∀ f st q st' q',I st q → elF Z step shut f st q = .ok (st',q') → I st' q'
 | 0,st,q,st',q',hi,h => by rw [elF] at h;cases h
 | f + 1,st,q,st',q',hi,h => by
  rw [elF] at h
  cases h1:step st q with
  | error b => rw [h1] at h;cases h
  | ok b =>
   obtain ⟨s1,q1⟩:=b
   rw [h1] at h
   have i1:=H _ _ _ _ hi h1
   have b1:=blE_le (hs _ _ _ _ h1)
   simp only [exB] at h
   split at h
   case isFalse => cases h
   rename_i g1
   have b2:=blE_le (Z:=Z) (p:=blE Z q1 + 1) (by omega)
   split at h
   ·exact elF_invq I M hs H f _ _ _ _ (M _ _ _ (by omega) i1) h
   ·split at h
    ·injection h with h
     injection h with e1 e2
     subst e1
     subst e2
     exact M _ _ _ b1.1 i1
    ·cases h
theorem brF_invq {step:σ → Nat → Except (Nat × Int) (σ × Nat)} {shut:Int} (I:σ → Nat → Prop) (M:∀ st q q',q ≤ q' → I st q → I st q') (hs:∀ st q st' q',step st q = .ok (st',q') → q' ≤ Z.length) (H:∀ st q st' q',I st q → step st q = .ok (st',q') → I st' q') {room q:Nat} {st st':σ} {p:Nat} (hq:q < Z.length) (hi:I st q) (h:brF Z step shut room q st = .ok (st',p)):I st' p:=by
 unfold brF at h
 have hb:=blE_le (Z:=Z) (p:=q + 1) (by omega)
 split at h
 ·cases h
 split at h
 case isFalse => cases h
 split at h
 ·injection h with h
  injection h with e1 e2
  subst e1
  subst e2
  exact M _ _ _ (by omega) hi
 ·cases h1:elF Z step shut (Z.length + 1) st (blE Z (q + 1)) with
  | error b => rw [h1] at h;cases h
  | ok b =>
   obtain ⟨s1,q1⟩:=b
   rw [h1] at h
   simp only [exB] at h
   injection h with h
   injection h with e1 e2
   subst e1
   subst e2
   exact M _ _ _ (by omega) (elF_invq I M hs H _ _ _ _ _ (M _ _ _ (by omega) hi) h1)
end
theorem vrF_all {Z:List Int} {nm:Nat → Except (Nat × Int) (Vl × Nat)} (hnm:∀ p v p',nm p = .ok (v,p') → p < p' ∧ p' ≤ Z.length) (P:Vl → Prop) (p0:P nulV) (p1:∀ b,P (boolV b)) (p2:∀ s:ByteArray,s.size ≤ Z.length → P (strV s)) (p3:∀ p v p',nm p = .ok (v,p') → P v)
  (p4:∀ L:List Vl,L.length ≤ Z.length → (∀ v ∈ L,P v) → P (listV L)) (p5:∀ F:List (ByteArray × Vl),F.length ≤ Z.length → (∀ m ∈ F,m.1.size ≤ Z.length ∧ P m.2) → P (objV F)):∀ (f room p:Nat) (v:Vl) (p':Nat),vrF Z nm f room p = .ok (v,p') → P v
 | 0,room,p,v,p',h => by rw [vrF] at h;cases h
 | f + 1,room,p,v,p',h => by
  have ih:=fun q v q' => vrF_all hnm P p0 p1 p2 p3 p4 p5 f (room - 1) q v q'
  have ip:=fun q v q' => vrF_pos hnm f (room - 1) q v q'
  have wflat:∀ {v0:Vl} {l:List Int},P v0 → wV v0 (wdF Z l p) = .ok (v,p') → P v:=fun {v0 l} h0 hw => by
   cases h1:wdF Z l p with
   | error b => rw [h1] at hw;cases hw
   | ok p1 =>
    rw [h1] at hw
    simp only [wV] at hw
    injection hw with hw
    injection hw with e1 e2
    rw [← e1]
    exact h0
  rw [vrF] at h
  split at h
  case isFalse => cases h
  rename_i hq
  unfold dvF at h
  split at h
  ·exact wflat p0 h
  split at h
  ·exact wflat (p1 _) h
  split at h
  ·exact wflat (p1 _) h
  split at h
  ·cases h1:txR Z p with
   | error b => rw [h1] at h;cases h
   | ok b =>
    obtain ⟨s,q1⟩:=b
    rw [h1] at h
    simp only [tV] at h
    injection h with h
    injection h with e1 e2
    subst e1
    exact p2 s (txR_len h1).2.2
  split at h
  ·cases h1:brF Z (stepL (vrF Z nm f (room - 1))) 93 room p [] with
   | error b => rw [h1] at h;cases h
   | ok b =>
    obtain ⟨L,q1⟩:=b
    rw [h1] at h
    simp only [exB] at h
    injection h with h
    injection h with e1 e2
    subst e1
    have hI:=brF_invq (fun (L:List Vl) q => L.length ≤ q ∧ ∀ v ∈ L,P v) (fun st q q' hq h => ⟨by omega,h.2⟩) (fun st q st' q' hs => (stepL_pos ip st q st' q' hs).2) (fun st q st' q' hi hs => by
     have hp:=stepL_pos ip st q st' q' hs
     unfold stepL at hs
     cases h2:vrF Z nm f (room - 1) q with
     | error b => rw [h2] at hs;cases hs
     | ok b =>
      obtain ⟨u,q2⟩:=b
      rw [h2] at hs
      simp only [exB] at hs
      injection hs with hs
      injection hs with e1 e2
      subst e1
      refine ⟨by rw [List.length_append,List.length_singleton];omega,fun x hx => ?_⟩
      rcases List.mem_append.1 hx with hx | hx
      ·exact hi.2 x hx
      ·rw [List.mem_singleton.1 hx];exact ih _ _ _ h2) hq (st:=[]) ⟨Nat.zero_le _,fun v hv => by simp at hv⟩ h1
    have hp:=brF_pos (stepL_pos ip) hq h1
    exact p4 L (by have:=hI.1;omega) hI.2
  split at h
  ·cases h1:brF Z (stepO Z (vrF Z nm f (room - 1))) 125 room p [] with
   | error b => rw [h1] at h;cases h
   | ok b =>
    obtain ⟨L,q1⟩:=b
    rw [h1] at h
    simp only [exB] at h
    injection h with h
    injection h with e1 e2
    subst e1
    have hI:=brF_invq (fun (L:List (ByteArray × Vl)) q => L.length ≤ q ∧ ∀ m ∈ L,m.1.size ≤ Z.length ∧ P m.2) (fun st q q' hq h => ⟨by omega,h.2⟩) (fun st q st' q' hs => (stepO_pos ip st q st' q' hs).2) (fun st q st' q' hi hs => by
     have hp:=stepO_pos ip st q st' q' hs
     unfold stepO at hs
     cases h2:txR Z q with
     | error b => rw [h2] at hs;cases hs
     | ok b =>
      obtain ⟨s,qa⟩:=b
      rw [h2] at hs
      simp only [exB] at hs
      split at hs
      ·cases hs
      split at hs
      case isFalse => cases hs
      cases h3:vrF Z nm f (room - 1) (blE Z (blE Z qa + 1)) with
      | error b => rw [h3] at hs;cases hs
      | ok b =>
       obtain ⟨u,q2⟩:=b
       rw [h3] at hs
       simp only at hs
       injection hs with hs
       injection hs with e1 e2
       subst e1
       refine ⟨by rw [List.length_append,List.length_singleton];omega,fun x hx => ?_⟩
       rcases List.mem_append.1 hx with hx | hx
       ·exact hi.2 x hx
       ·rw [List.mem_singleton.1 hx];exact ⟨(txR_len h2).2.2,ih _ _ _ h3⟩) hq (st:=[]) ⟨Nat.zero_le _,fun v hv => by simp at hv⟩ h1
    have hp:=brF_pos (stepO_pos ip) hq h1
    exact p5 L (by have:=hI.1;omega) hI.2
  ·exact p3 _ _ _ h
theorem rdF_all {Z:List Int} {nm:Nat → Except (Nat × Int) (Vl × Nat)} (hnm:∀ p v p',nm p = .ok (v,p') → p < p' ∧ p' ≤ Z.length) (P:Vl → Prop) (p0:P nulV) (p1:∀ b,P (boolV b)) (p2:∀ s:ByteArray,s.size ≤ Z.length → P (strV s)) (p3:∀ p v p',nm p = .ok (v,p') → P v)
  (p4:∀ L:List Vl,L.length ≤ Z.length → (∀ v ∈ L,P v) → P (listV L)) (p5:∀ F:List (ByteArray × Vl),F.length ≤ Z.length → (∀ m ∈ F,m.1.size ≤ Z.length ∧ P m.2) → P (objV F)) {room:Nat}:P (rdV (rdF Z nm room)):=by
 unfold rdF whF
 cases h1:vrF Z nm (Z.length + 1) room (blE Z 0) with
 | error b => exact p0
 | ok b =>
  obtain ⟨v,q⟩:=b
  have hv:=vrF_all hnm P p0 p1 p2 p3 p4 p5 _ _ _ _ _ h1
  simp only [exB]
  split
  ·exact p0
  ·exact hv
theorem smallI_of:∀ {L:List Vl},(∀ v ∈ L,Small v) → SmallI (vl.Vls.of L)
 | [],_ => by unfold vl.Vls.of SmallI;trivial
 | v :: r,h => by unfold vl.Vls.of SmallI;exact ⟨h v (by simp),smallI_of (fun u hu => h u (by simp [hu]))⟩
theorem smallF_of:∀ {L:List (ByteArray × Vl)},(∀ m ∈ L,Small m.2) → SmallF (flsOf L)
 | [],_ => by unfold flsOf SmallF;trivial
 | v :: r,h => by unfold flsOf SmallF;exact ⟨h v (by simp),smallF_of (fun u hu => h u (by simp [hu]))⟩
theorem flsOf_list:∀ L:List (ByteArray × Vl),(flsOf L).list = L
 | [] => rfl
 | p :: r => by unfold flsOf;simp only [vl.Fls.list];rw [flsOf_list r]
theorem Small.flat {kd:Int} {b:Bool} {n:Int} {f:Nat} {s t:ByteArray} (hf:f < 18446744073709551616):Small (.mk kd b n f s t .nil .nil):=by
 unfold Small SmallI SmallF
 exact ⟨by simp [vl.Vls.list],by simp [vl.Fls.list],hf,trivial,trivial⟩
theorem Small.lst {L:List Vl} (hl:L.length ≤ 1099511627776) (h:∀ v ∈ L,Small v):Small (listV L):=by
 unfold listV Small
 exact ⟨by rw [vl.Vls.list_of];omega,by simp [vl.Fls.list],by decide,smallI_of h,by unfold SmallF;trivial⟩
theorem Small.obj {L:List (ByteArray × Vl)} (hl:L.length ≤ 1099511627776) (h:∀ m ∈ L,Small m.2):Small (objV L):=by
 unfold objV Small
 exact ⟨by simp [vl.Vls.list],by rw [flsOf_list];omega,by decide,by unfold SmallI;trivial,smallF_of h⟩
end Go.Proofs.YtdogjghalplohaaGreatDoor.jin
