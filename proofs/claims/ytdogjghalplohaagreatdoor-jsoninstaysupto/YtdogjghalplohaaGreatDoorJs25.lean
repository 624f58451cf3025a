import Derived.Test.YtdogjghalplohaaGreatDoorJs24
import Derived.Test.YtdogjghalplohaaGreatDoorJs18
import Derived.RegionTactic
import Derived.ChangeAlike
namespace Go.Proofs.YtdogjghalplohaaGreatDoor.dcm
open Go.ChangeShapes Go.WideShapes Go.ChangeAt Go.RowKit
open mem fto
open ints (hide unhide)
set_option linter.unusedVariables false
set_option linter.unusedSimpArgs false
def tr8 (s:ByteArray) (a:Nat):Nat → Bool
 | 0 => false
 | j + 1 => tr8 s a j || (decide (800 ≤ j) && decide (bz s (a + j) ≠ 48))
structure SI (s:ByteArray) (a:Nat) (s':Dcs) (j:Nat):Prop where
 dig:∀ i,i < j → i < 800 → (s'.D i:Int) = bz s (a + i)
 nd:s'.nd = min j 800
 tr:s'.tr = tr8 s a j
theorem SI.write {s:ByteArray} {a j v:Nat} {s':Dcs} (h:SI s a s' j) (hj:j < 800) (hv:(v:Int) = bz s (a + j)):SI s a { s' with D:=fun i => if j = i then v else s'.D i,nd:=j + 1 } (j + 1):=by
 refine ⟨fun i h1 h2 => ?_,?_,?_⟩
 ·show (((if j = i then v else s'.D i):Nat):Int) = _
  by_cases e:j = i
  ·rw [if_pos e,← e];exact hv
  ·rw [if_neg e];exact h.dig i (by omega) h2
 ·show j + 1 = _;omega
 ·show s'.tr = _
  rw [h.tr,tr8,decide_eq_false (by omega),Bool.false_and,Bool.or_false]
theorem SI.drop0 {s:ByteArray} {a j:Nat} {s':Dcs} (h:SI s a s' j) (hj:800 ≤ j) (hv:bz s (a + j) = 48):SI s a s' (j + 1):=by
 refine ⟨fun i h1 h2 => h.dig i (by omega) h2,by rw [h.nd];omega,?_⟩
 rw [h.tr,tr8,hv];simp
theorem SI.drop1 {s:ByteArray} {a j:Nat} {s':Dcs} (h:SI s a s' j) (hj:800 ≤ j) (hv:bz s (a + j) ≠ 48):SI s a { s' with tr:=true } (j + 1):=by
 refine ⟨fun i h1 h2 => h.dig i (by omega) h2,by show s'.nd = _;rw [h.nd];omega,?_⟩
 show true = _
 rw [tr8,decide_eq_true hj,decide_eq_true hv];simp
theorem Dec.setG {w:World} {b:Nat} {s:Dcs} (h:Dec w b s) (v:Bool):Dec (w.setCell ⟨b,802,none⟩ (.bool v)) b { s with ng:=v }:=by
 obtain ⟨arr,t,h⟩:=h
 have hs:=h.size
 refine ⟨_,t,blk_set h.blk _ _,by simpa using hs,fun i hi => ?_,?_,?_,?_,?_⟩
 ·rw [get_set _ _ _ _ (by omega),if_neg (by omega)];exact h.dig i hi
 ·rw [get_set _ _ _ _ (by omega),if_neg (by omega)];exact h.nd
 ·rw [get_set _ _ _ _ (by omega),if_neg (by omega)];exact h.dp
 ·rw [get_set _ _ _ _ (by omega),if_pos rfl]
 ·rw [get_set _ _ _ _ (by omega),if_neg (by omega)];exact h.tr
set_option maxHeartbeats 4000000 in
set_option maxRecDepth 100000 in
theorem set0 (s:ByteArray) (b m g z:Nat) (d0:Dcs) (w:World) (h:Ntx s 0 m g z) (hm:1 ≤ m) (hd:Dec w b d0) (hnd:d0.nd = 0) (hdp:d0.dp = 0) :
  Calls Tryz.prog 181 #[.pointer (some ⟨b,0,none⟩),.string s] w fun e w' => e = .returned (.bool true) ∧ (∃ s',Dec w' b s' ∧ SI s 2 s' m ∧ s'.dp = (if g = 1 then - (mvs s (3 + m + g) z:Int) else (mvs s (3 + m + g) z:Int)) ∧ s'.ng = false) ∧ Below b w w' ∧ w'.heap.size = w.heap.size:=by
 have HH:=hide h
 have hsz1:s.size ≤ 2000000:=by have:=h.sz;have:=h.m1;have:=h.z1;have:=h.g1;omega
 have hsz2:0 + 4 ≤ s.size:=by have:=h.sz;have:=h.z0;omega
 have q0:0 < s.size:=by omega
 have q1:0 < s.size:=by omega
 have c1s:((s[0]'q1).toNat:Int) = 48:=by rw [← bz_at];exact h.b1
 have i1:(0:Int) < (s.size:Int):=by omega
 have i2:(0:Int) < (s.size:Int):=by omega
 have hse:s ≠ ByteArray.empty:=by intro he;rw [he] at q0;exact absurd q0 (by decide)
 obtain ⟨XX,hXX⟩:∃ XX:Int,XX = (if g = 1 then - (mvs s (3 + m + g) z:Int) else (mvs s (3 + m + g) z:Int)):=⟨_,rfl⟩
 rw [← hXX]
 have HXX:=hide hXX
 clear hXX
 have LE:=hide lower_e
 have hl:=hd.lt
 have e1:=hd.cng
 have e2:=hd.ctr
 have f1:=hd.froz 802
 have f2:=hd.froz 803
 have HD0:=hide ((hd.setG false).setT false)
 have HB0:=hide (show Below b w (((w.setCell ⟨b,802,none⟩ (.bool false)).setCell ⟨b,803,none⟩ (.bool false))) by
  first
  | exact ((((Below.refl b w).setCell (p:=⟨b,802,none⟩) (Nat.le_refl _) _).setCell (p:=⟨b,803,none⟩) (Nat.le_refl _) _).setCell (p:=⟨b,802,none⟩) (Nat.le_refl _) _)
  | exact (((Below.refl b w).setCell (p:=⟨b,802,none⟩) (Nat.le_refl _) _).setCell (p:=⟨b,803,none⟩) (Nat.le_refl _) _))
 have HZ0:=hide (show (((w.setCell ⟨b,802,none⟩ (.bool false)).setCell ⟨b,803,none⟩ (.bool false))).heap.size = w.heap.size by simp)
 have HND:=hide hnd
 have HDP:=hide hdp
 clear h hd hnd hdp
 go_enter Tryz.func181,Tryz.ntmps181
 go_wp2_with fail
 go_loopw [5,6,7] (fun vi vd vs wr => Below b w wr ∧ wr.heap.size = w.heap.size ∧ ∃ s',Dec wr b s' ∧ s'.ng = false ∧ (
   (vi = .int .i64 0 ∧ vd = .bool false ∧ vs = .bool false ∧ s'.nd = 0 ∧ s'.dp = 0 ∧ s'.tr = false) ∨
   (vi = .int .i64 1 ∧ vd = .bool false ∧ vs = .bool true ∧ s'.nd = 0 ∧ s'.dp = -1 ∧ s'.tr = false) ∨
   (∃ p j:Nat,vi = .int .i64 p ∧ vd = .bool true ∧ vs = .bool true ∧ j ≤ m ∧ p ≤ 2 + j ∧ 2 + j ≤ p ∧ SI s 2 s' j ∧ s'.dp = 0))) (fun vi _ _ _ => s.size - (intOf vi).toNat)
 case atStart => exact ⟨unhide HB0,unhide HZ0,_,unhide HD0,rfl,.inl ⟨rfl,rfl,rfl,unhide HND,unhide HDP,rfl⟩⟩
 case round =>
  clear e1 e2 f1 f2 HD0 HB0 HZ0 hl q1 c1s i2 hse 
  obtain ⟨hBel,hsz,s',hDec,hng,hr⟩:=hrel
  have hlb:=hDec.lt
  have c0:=hDec.cnd
  have c1:=hDec.cdp
  have f0:=hDec.froz 800
  have f1:=hDec.froz 801
  have HDC:=hide hDec
  have HBL:=hide hBel
  have HSZ:=hide hsz
  have HNG:=hide hng
  rcases hr with ⟨rfl,rfl,rfl,hn,hp,ht⟩ | ⟨rfl,rfl,rfl,hn,hp,ht⟩ | ⟨p,j,rfl,rfl,rfl,hj,p1,p2,hSI,hp⟩
  ·have q1:0 < s.size:=by omega
   have x1:((s[0]'q1).toNat:Int) = 48:=by rw [← bz_at];exact (unhide HH).b1
   have i2:(0:Int) < (s.size:Int):=by omega
   rw [hn] at c0
   rw [hp] at c1
   have HN:=hide hn
   have HT:=hide ht
   clear hBel hsz hDec hng hn hp ht
   go_wp2
   go_roundw
   case rel => exact ⟨(unhide HBL).setCell (p:=⟨b,801,none⟩) (Nat.le_refl _) _,by simpa using unhide HSZ,_,(unhide HDC).setP (-1),unhide HNG,.inr (.inl ⟨rfl,rfl,rfl,unhide HN,rfl,unhide HT⟩)⟩
   case measure => simp [intOf];omega
  ·have q1:1 < s.size:=by omega
   have x1:((s[1]'q1).toNat:Int) = 46:=by rw [← bz_at];exact (unhide HH).b2
   have i2:(1:Int) < (s.size:Int):=by omega
   rw [hn] at c0
   rw [hp] at c1
   have HN:=hide hn
   have HT:=hide ht
   clear hBel hsz hDec hng hn hp ht
   go_wp2
   go_roundw
   case rel => exact ⟨(unhide HBL).setCell (p:=⟨b,801,none⟩) (Nat.le_refl _) _,by simpa using unhide HSZ,_,(unhide HDC).setP 0,unhide HNG,.inr (.inr ⟨2,0,rfl,rfl,rfl,Nat.zero_le _,by omega,by omega,⟨fun i h1 _ => absurd h1 (by omega),by show s'.nd = _;rw [unhide HN];rfl,unhide HT⟩,rfl⟩)⟩
   case measure => simp [intOf];omega
  ·have hps:p < s.size:=by have:=(unhide HH).sz;have:=(unhide HH).z0;omega
   have ips:(p:Int) < (s.size:Int):=by omega
   have hpe:p = 2 + j:=by omega
   have hcb:((s[p]'hps).toNat:Int) = bz s (2 + j):=by rw [← bz_at,hpe]
   have hdg:=(unhide HH).bd
   have hn:=hSI.nd
   rcases Nat.lt_or_ge j m with hjm | hjm
   ·obtain ⟨d1,d2⟩:=hdg j hjm
    have HCB:=hide hcb
    rw [← hcb] at d1 d2
    obtain ⟨v,hv⟩:∃ v:Nat,v = (s[p]'hps).toNat:=⟨_,rfl⟩
    have n1:(((s[p]'hps).toNat:Int) == 95) = false:=by rw [beq_eq_false_iff_ne];omega
    have n2:(((s[p]'hps).toNat:Int) == 46) = false:=by rw [beq_eq_false_iff_ne];omega
    have F0:=(unhide HH).bf (by omega)
    have JZ:j = 0 → (((s[p]'hps).toNat:Int) == 48) = false:=by
     intro h0;rw [beq_eq_false_iff_ne,hcb,h0];exact F0
    have HSI:=hide hSI
    have HP:=hide hp
    rcases Nat.lt_or_ge j 800 with h8 | h8
    ·rw [hn,Nat.min_eq_left (by omega)] at c0
     have i8:(j:Int) < 800:=by omega
     have jz:(0:Int) ≤ (j:Int):=by omega
     have c3:=hDec.dig j h8
     have f3:=hDec.froz j
     have hw1:∀ b1:Bool,(((s[p]'hps).toNat:Int) == 48) = b1 → (b1 = true → ((j:Int) == 0) = false):=fun b1 hb hb1 => by
      rw [beq_eq_false_iff_ne]
      intro h0
      have:=JZ (by omega)
      rw [hb] at this
      rw [this] at hb1
      cases hb1
     have HW:=hide hw1
     cases n3:(((s[p]'hps).toNat:Int) == 48)
     all_goals
      have n5:=unhide HW _ n3
      try (have n6:=n5 rfl)
      clear n5
      clear hcb hdg F0 JZ hpe hBel hsz hDec hng hn hp hSI hw1 HW
      go_wp2_with fail
      go_region
      all_goals
       go_wp2
       go_roundw
       case rel => exact ⟨((unhide HBL).drew.setCell (p:=⟨b,j,none⟩) (Nat.le_refl _) _).setCell (p:=⟨b,800,none⟩) (Nat.le_refl _) _,by simpa using unhide HSZ,_,(((unhide HDC).drew.setD j (s[p]'hps).toNat h8).setN (j + 1)),unhide HNG,.inr (.inr ⟨p + 1,j + 1,rfl,rfl,rfl,by omega,by omega,by omega,(unhide HSI).write h8 (unhide HCB),unhide HP⟩)⟩
       case measure => simp [intOf];omega
    ·rw [hn,Nat.min_eq_right h8] at c0
     have c4:=hDec.ctr
     have f4:=hDec.froz 803
     have c0:wr.cell? ⟨b,800,none⟩ = some (.int .i64 800):=c0
     cases n3:(((s[p]'hps).toNat:Int) == 48)
     ·have n4:(((s[p]'hps).toNat:Int) != 48) = true:=by simp [bne,n3]
      have HB:=hide (show bz s (2 + j) ≠ 48 by rw [← hcb];rw [beq_eq_false_iff_ne] at n3;exact n3)
      clear hcb hdg F0 JZ hpe hBel hsz hDec hng hn hp hSI
      go_wp2
      go_roundw
      case rel => exact ⟨(unhide HBL).setCell (p:=⟨b,803,none⟩) (Nat.le_refl _) _,by simpa using unhide HSZ,_,(unhide HDC).setT true,unhide HNG,.inr (.inr ⟨p + 1,j + 1,rfl,rfl,rfl,by omega,by omega,by omega,(unhide HSI).drop1 h8 (unhide HB),unhide HP⟩)⟩
      case measure => simp [intOf];omega
     ·have n4:(((s[p]'hps).toNat:Int) != 48) = false:=by simp [bne,n3]
      have HB:=hide (show bz s (2 + j) = 48 by rw [← hcb];rw [beq_iff_eq] at n3;exact n3)
      clear hcb hdg F0 JZ hpe hBel hsz hDec hng hn hp hSI
      go_wp2
      go_roundw
      case rel => exact ⟨unhide HBL,unhide HSZ,_,unhide HDC,unhide HNG,.inr (.inr ⟨p + 1,j + 1,rfl,rfl,rfl,by omega,by omega,by omega,(unhide HSI).drop0 h8 (unhide HB),unhide HP⟩)⟩
      case measure => simp [intOf];omega
   ·have e1:j = m:=by omega
    subst e1
    have c2:((s[p]'hps).toNat:Int) = 101:=by rw [hcb];exact (unhide HH).be
    have hs1:s.size = p + 1 + g + z:=by have:=(unhide HH).sz;omega
    have HX:=hide (show ∀ f x,f < z → x = p + 1 + g + f → ∀ h:x < s.size,48 ≤ ((s[x]'h).toNat:Int) ∧ ((s[x]'h).toNat:Int) ≤ 57 ∧ ((s[x]'h).toNat:Int) = bz s (3 + j + g + f) from fun f x hf hx h => by
     have hq:=(unhide HH).bx f hf
     rw [← bz_at,show x = 3 + j + g + f by omega]
     exact ⟨hq.1,hq.2,rfl⟩)
    have HE:=hide (mvs_lt s (3 + j + g) z (fun f hf => (unhide HH).bx f hf))
    have HG:=hide (show g = 1 → ∀ h:p + 1 < s.size,((s[p + 1]'h).toNat:Int) = 45 from fun h1 h => by
     rw [← bz_at,show p + 1 = 3 + j by omega]
     exact (unhide HH).bg h1)
    have z0:=(unhide HH).z0
    have z1:=(unhide HH).z1
    have g1:=(unhide HH).g1
    have HSI:=hide hSI
    rw [hp] at c1
    obtain ⟨wr0,hwr0⟩:∃ wr0,wr0 = wr:=⟨_,rfl⟩
    have ip1:(p:Int) + 1 < (s.size:Int):=by omega
    have hp1:p + 1 < s.size:=by omega
    have hs2:p + 1 + g + z ≤ s.size:=by omega
    have hs3:s.size ≤ p + 1 + g + z:=by omega
    subst hwr0
    clear hcb hdg hpe hBel hsz hDec hng hn hp hSI hs1 HH hj hjm
    have hg:g = 0 ∨ g = 1:=by omega
    obtain ⟨m,hmj⟩:∃ m,m = j:=⟨_,rfl⟩
    subst hmj
    rcases hg with h0 | h0
    ·subst h0
     obtain ⟨x1,x2,-⟩:=unhide HX 0 (p + 1) (by omega) (by omega) hp1
     have x3:(((s[p + 1]'hp1).toNat:Int) == 43) = false:=by rw [beq_eq_false_iff_ne];omega
     have x4:(((s[p + 1]'hp1).toNat:Int) == 45) = false:=by rw [beq_eq_false_iff_ne];omega
     go_wp2_with fail
     refine (unhide LE _).mono ?_
     rintro e w1 ⟨rfl,hw⟩
     subst w1
     go_wp2_with fail
     go_loopw [5,9] (fun vi ve wr => wr0 = wr ∧ ∃ x f E:Nat,vi = .int .i64 x ∧ ve = .int .i64 E ∧ f ≤ z ∧ x ≤ p + 1 + 0 + f ∧ p + 1 + 0 + f ≤ x ∧ E ≤ 9999 ∧ Hid (E = mvs s (3 + m + 0) f)) (fun vi _ _ => s.size - (intOf vi).toNat)
     case atStart => exact ⟨rfl,p + 1 + 0,0,0,rfl,rfl,Nat.zero_le _,by omega,by omega,by omega,hide rfl⟩
     case round =>
      obtain ⟨hw,x,f,E,rfl,rfl,hf,f1,f2,hE,HE1⟩:=hrel
      subst hw
      rcases Nat.lt_or_ge f z with hfz | hfz
      ·have hxs:x < s.size:=by omega
       have ixs:(x:Int) < (s.size:Int):=by omega
       obtain ⟨y1,y2,y3⟩:=unhide HX f x hfz (by omega) hxs
       have y4:(((s[x]'hxs).toNat:Int) == 95) = false:=by rw [beq_eq_false_iff_ne];omega
       have hE2:E ≤ 999:=by
        have a:=unhide HE f hf
        rw [← unhide HE1] at a
        have:=Nat.pow_le_pow_right (by decide:0 < 10) (by omega:f ≤ 3)
        omega
       have HN:=hide (show E * 10 + ((s[x]'hxs).toNat - 48) = mvs s (3 + m + 0) (f + 1) from by
        rw [mvs,← y3,unhide HE1];omega)
       clear y3
       go_wp2
       go_roundw
       case rel => exact ⟨trivial,x + 1,f + 1,E * 10 + ((s[x]'hxs).toNat - 48),rfl,by congr 1;omega,by omega,by omega,by omega,by omega,HN⟩
       case measure => simp [intOf];omega
      ·have ixs:(s.size:Int) ≤ (x:Int):=by omega
       have hfe:f = z:=by omega
       have hxe:x = s.size:=by omega
       have ixe:((x:Int) != (s.size:Int)) = false:=by simp [bne,hxe]
       have HFE:=hide hfe
       clear hfe hxe
       go_wp2
       go_ret
       refine ⟨rfl,⟨_,(unhide HDC).setP _,?_,?_,?_⟩,(unhide HBL).setCell (p:=⟨b,801,none⟩) (Nat.le_refl _) _,by simpa using unhide HSZ⟩
       ·exact ⟨(unhide HSI).dig,(unhide HSI).nd,(unhide HSI).tr⟩
       ·show _ = _
        rw [unhide HXX,if_neg (by decide),← unhide HFE,← unhide HE1]
        try omega
       ·exact unhide HNG
    ·subst h0
     have x5:=unhide HG rfl hp1
     have hp2:p + 1 + 1 < s.size:=by omega
     have ip2:(p:Int) + 1 + 1 < (s.size:Int):=by omega
     obtain ⟨x1,x2,-⟩:=unhide HX 0 (p + 1 + 1) (by omega) (by omega) hp2
     go_wp2_with fail
     refine (unhide LE _).mono ?_
     rintro e w1 ⟨rfl,hw⟩
     subst w1
     go_wp2_with fail
     go_loopw [5,9] (fun vi ve wr => wr0 = wr ∧ ∃ x f E:Nat,vi = .int .i64 x ∧ ve = .int .i64 E ∧ f ≤ z ∧ x ≤ p + 1 + 1 + f ∧ p + 1 + 1 + f ≤ x ∧ E ≤ 9999 ∧ Hid (E = mvs s (3 + m + 1) f)) (fun vi _ _ => s.size - (intOf vi).toNat)
     case atStart => exact ⟨rfl,p + 1 + 1,0,0,rfl,rfl,Nat.zero_le _,by omega,by omega,by omega,hide rfl⟩
     case round =>
      obtain ⟨hw,x,f,E,rfl,rfl,hf,f1,f2,hE,HE1⟩:=hrel
      subst hw
      rcases Nat.lt_or_ge f z with hfz | hfz
      ·have hxs:x < s.size:=by omega
       have ixs:(x:Int) < (s.size:Int):=by omega
       obtain ⟨y1,y2,y3⟩:=unhide HX f x hfz (by omega) hxs
       have y4:(((s[x]'hxs).toNat:Int) == 95) = false:=by rw [beq_eq_false_iff_ne];omega
       have hE2:E ≤ 999:=by
        have a:=unhide HE f hf
        rw [← unhide HE1] at a
        have:=Nat.pow_le_pow_right (by decide:0 < 10) (by omega:f ≤ 3)
        omega
       have HN:=hide (show E * 10 + ((s[x]'hxs).toNat - 48) = mvs s (3 + m + 1) (f + 1) from by
        rw [mvs,← y3,unhide HE1];omega)
       clear y3
       go_wp2
       go_roundw
       case rel => exact ⟨trivial,x + 1,f + 1,E * 10 + ((s[x]'hxs).toNat - 48),rfl,by congr 1;omega,by omega,by omega,by omega,by omega,HN⟩
       case measure => simp [intOf];omega
      ·have ixs:(s.size:Int) ≤ (x:Int):=by omega
       have hfe:f = z:=by omega
       have hxe:x = s.size:=by omega
       have ixe:((x:Int) != (s.size:Int)) = false:=by simp [bne,hxe]
       have HFE:=hide hfe
       clear hfe hxe
       go_wp2
       go_ret
       refine ⟨rfl,⟨_,(unhide HDC).setP _,?_,?_,?_⟩,(unhide HBL).setCell (p:=⟨b,801,none⟩) (Nat.le_refl _) _,by simpa using unhide HSZ⟩
       ·exact ⟨(unhide HSI).dig,(unhide HSI).nd,(unhide HSI).tr⟩
       ·show _ = _
        rw [unhide HXX,if_pos trivial,← unhide HFE,← unhide HE1]
        try omega
       ·exact unhide HNG
set_option maxHeartbeats 4000000 in
set_option maxRecDepth 100000 in
theorem set1 (s:ByteArray) (b m g z:Nat) (d0:Dcs) (w:World) (h:Ntx s 1 m g z) (hm:1 ≤ m) (hd:Dec w b d0) (hnd:d0.nd = 0) (hdp:d0.dp = 0) :
  Calls Tryz.prog 181 #[.pointer (some ⟨b,0,none⟩),.string s] w fun e w' => e = .returned (.bool true) ∧ (∃ s',Dec w' b s' ∧ SI s 3 s' m ∧ s'.dp = (if g = 1 then - (mvs s (4 + m + g) z:Int) else (mvs s (4 + m + g) z:Int)) ∧ s'.ng = true) ∧ Below b w w' ∧ w'.heap.size = w.heap.size:=by
 have HH:=hide h
 have hsz1:s.size ≤ 2000000:=by have:=h.sz;have:=h.m1;have:=h.z1;have:=h.g1;omega
 have hsz2:1 + 4 ≤ s.size:=by have:=h.sz;have:=h.z0;omega
 have q0:0 < s.size:=by omega
 have q1:1 < s.size:=by omega
 have c1s:((s[1]'q1).toNat:Int) = 48:=by rw [← bz_at];exact h.b1
 have c0s:((s[0]'q0).toNat:Int) = 45:=by rw [← bz_at];exact h.b0 rfl
 have i1:(0:Int) < (s.size:Int):=by omega
 have i2:(1:Int) < (s.size:Int):=by omega
 have hse:s ≠ ByteArray.empty:=by intro he;rw [he] at q0;exact absurd q0 (by decide)
 obtain ⟨XX,hXX⟩:∃ XX:Int,XX = (if g = 1 then - (mvs s (4 + m + g) z:Int) else (mvs s (4 + m + g) z:Int)):=⟨_,rfl⟩
 rw [← hXX]
 have HXX:=hide hXX
 clear hXX
 have LE:=hide lower_e
 have hl:=hd.lt
 have e1:=hd.cng
 have e2:=hd.ctr
 have f1:=hd.froz 802
 have f2:=hd.froz 803
 have HD0:=hide (((hd.setG false).setT false).setG true)
 have HB0:=hide (show Below b w (((w.setCell ⟨b,802,none⟩ (.bool false)).setCell ⟨b,803,none⟩ (.bool false)).setCell ⟨b,802,none⟩ (.bool true)) by
  first
  | exact ((((Below.refl b w).setCell (p:=⟨b,802,none⟩) (Nat.le_refl _) _).setCell (p:=⟨b,803,none⟩) (Nat.le_refl _) _).setCell (p:=⟨b,802,none⟩) (Nat.le_refl _) _)
  | exact (((Below.refl b w).setCell (p:=⟨b,802,none⟩) (Nat.le_refl _) _).setCell (p:=⟨b,803,none⟩) (Nat.le_refl _) _))
 have HZ0:=hide (show (((w.setCell ⟨b,802,none⟩ (.bool false)).setCell ⟨b,803,none⟩ (.bool false)).setCell ⟨b,802,none⟩ (.bool true)).heap.size = w.heap.size by simp)
 have HND:=hide hnd
 have HDP:=hide hdp
 clear h hd hnd hdp
 go_enter Tryz.func181,Tryz.ntmps181
 go_wp2_with fail
 go_loopw [5,6,7] (fun vi vd vs wr => Below b w wr ∧ wr.heap.size = w.heap.size ∧ ∃ s',Dec wr b s' ∧ s'.ng = true ∧ (
   (vi = .int .i64 1 ∧ vd = .bool false ∧ vs = .bool false ∧ s'.nd = 0 ∧ s'.dp = 0 ∧ s'.tr = false) ∨
   (vi = .int .i64 2 ∧ vd = .bool false ∧ vs = .bool true ∧ s'.nd = 0 ∧ s'.dp = -1 ∧ s'.tr = false) ∨
   (∃ p j:Nat,vi = .int .i64 p ∧ vd = .bool true ∧ vs = .bool true ∧ j ≤ m ∧ p ≤ 3 + j ∧ 3 + j ≤ p ∧ SI s 3 s' j ∧ s'.dp = 0))) (fun vi _ _ _ => s.size - (intOf vi).toNat)
 case atStart => exact ⟨unhide HB0,unhide HZ0,_,unhide HD0,rfl,.inl ⟨rfl,rfl,rfl,unhide HND,unhide HDP,rfl⟩⟩
 case round =>
  clear e1 e2 f1 f2 HD0 HB0 HZ0 hl q1 c1s i2 hse c0s q0
  obtain ⟨hBel,hsz,s',hDec,hng,hr⟩:=hrel
  have hlb:=hDec.lt
  have c0:=hDec.cnd
  have c1:=hDec.cdp
  have f0:=hDec.froz 800
  have f1:=hDec.froz 801
  have HDC:=hide hDec
  have HBL:=hide hBel
  have HSZ:=hide hsz
  have HNG:=hide hng
  rcases hr with ⟨rfl,rfl,rfl,hn,hp,ht⟩ | ⟨rfl,rfl,rfl,hn,hp,ht⟩ | ⟨p,j,rfl,rfl,rfl,hj,p1,p2,hSI,hp⟩
  ·have q1:1 < s.size:=by omega
   have x1:((s[1]'q1).toNat:Int) = 48:=by rw [← bz_at];exact (unhide HH).b1
   have i2:(1:Int) < (s.size:Int):=by omega
   rw [hn] at c0
   rw [hp] at c1
   have HN:=hide hn
   have HT:=hide ht
   clear hBel hsz hDec hng hn hp ht
   go_wp2
   go_roundw
   case rel => exact ⟨(unhide HBL).setCell (p:=⟨b,801,none⟩) (Nat.le_refl _) _,by simpa using unhide HSZ,_,(unhide HDC).setP (-1),unhide HNG,.inr (.inl ⟨rfl,rfl,rfl,unhide HN,rfl,unhide HT⟩)⟩
   case measure => simp [intOf];omega
  ·have q1:2 < s.size:=by omega
   have x1:((s[2]'q1).toNat:Int) = 46:=by rw [← bz_at];exact (unhide HH).b2
   have i2:(2:Int) < (s.size:Int):=by omega
   rw [hn] at c0
   rw [hp] at c1
   have HN:=hide hn
   have HT:=hide ht
   clear hBel hsz hDec hng hn hp ht
   go_wp2
   go_roundw
   case rel => exact ⟨(unhide HBL).setCell (p:=⟨b,801,none⟩) (Nat.le_refl _) _,by simpa using unhide HSZ,_,(unhide HDC).setP 0,unhide HNG,.inr (.inr ⟨3,0,rfl,rfl,rfl,Nat.zero_le _,by omega,by omega,⟨fun i h1 _ => absurd h1 (by omega),by show s'.nd = _;rw [unhide HN];rfl,unhide HT⟩,rfl⟩)⟩
   case measure => simp [intOf];omega
  ·have hps:p < s.size:=by have:=(unhide HH).sz;have:=(unhide HH).z0;omega
   have ips:(p:Int) < (s.size:Int):=by omega
   have hpe:p = 3 + j:=by omega
   have hcb:((s[p]'hps).toNat:Int) = bz s (3 + j):=by rw [← bz_at,hpe]
   have hdg:=(unhide HH).bd
   have hn:=hSI.nd
   rcases Nat.lt_or_ge j m with hjm | hjm
   ·obtain ⟨d1,d2⟩:=hdg j hjm
    have HCB:=hide hcb
    rw [← hcb] at d1 d2
    obtain ⟨v,hv⟩:∃ v:Nat,v = (s[p]'hps).toNat:=⟨_,rfl⟩
    have n1:(((s[p]'hps).toNat:Int) == 95) = false:=by rw [beq_eq_false_iff_ne];omega
    have n2:(((s[p]'hps).toNat:Int) == 46) = false:=by rw [beq_eq_false_iff_ne];omega
    have F0:=(unhide HH).bf (by omega)
    have JZ:j = 0 → (((s[p]'hps).toNat:Int) == 48) = false:=by
     intro h0;rw [beq_eq_false_iff_ne,hcb,h0];exact F0
    have HSI:=hide hSI
    have HP:=hide hp
    rcases Nat.lt_or_ge j 800 with h8 | h8
    ·rw [hn,Nat.min_eq_left (by omega)] at c0
     have i8:(j:Int) < 800:=by omega
     have jz:(0:Int) ≤ (j:Int):=by omega
     have c3:=hDec.dig j h8
     have f3:=hDec.froz j
     have hw1:∀ b1:Bool,(((s[p]'hps).toNat:Int) == 48) = b1 → (b1 = true → ((j:Int) == 0) = false):=fun b1 hb hb1 => by
      rw [beq_eq_false_iff_ne]
      intro h0
      have:=JZ (by omega)
      rw [hb] at this
      rw [this] at hb1
      cases hb1
     have HW:=hide hw1
     cases n3:(((s[p]'hps).toNat:Int) == 48)
     all_goals
      have n5:=unhide HW _ n3
      try (have n6:=n5 rfl)
      clear n5
      clear hcb hdg F0 JZ hpe hBel hsz hDec hng hn hp hSI hw1 HW
      go_wp2_with fail
      go_region
      all_goals
       go_wp2
       go_roundw
       case rel => exact ⟨((unhide HBL).drew.setCell (p:=⟨b,j,none⟩) (Nat.le_refl _) _).setCell (p:=⟨b,800,none⟩) (Nat.le_refl _) _,by simpa using unhide HSZ,_,(((unhide HDC).drew.setD j (s[p]'hps).toNat h8).setN (j + 1)),unhide HNG,.inr (.inr ⟨p + 1,j + 1,rfl,rfl,rfl,by omega,by omega,by omega,(unhide HSI).write h8 (unhide HCB),unhide HP⟩)⟩
       case measure => simp [intOf];omega
    ·rw [hn,Nat.min_eq_right h8] at c0
     have c4:=hDec.ctr
     have f4:=hDec.froz 803
     have c0:wr.cell? ⟨b,800,none⟩ = some (.int .i64 800):=c0
     cases n3:(((s[p]'hps).toNat:Int) == 48)
     ·have n4:(((s[p]'hps).toNat:Int) != 48) = true:=by simp [bne,n3]
      have HB:=hide (show bz s (3 + j) ≠ 48 by rw [← hcb];rw [beq_eq_false_iff_ne] at n3;exact n3)
      clear hcb hdg F0 JZ hpe hBel hsz hDec hng hn hp hSI
      go_wp2
      go_roundw
      case rel => exact ⟨(unhide HBL).setCell (p:=⟨b,803,none⟩) (Nat.le_refl _) _,by simpa using unhide HSZ,_,(unhide HDC).setT true,unhide HNG,.inr (.inr ⟨p + 1,j + 1,rfl,rfl,rfl,by omega,by omega,by omega,(unhide HSI).drop1 h8 (unhide HB),unhide HP⟩)⟩
      case measure => simp [intOf];omega
     ·have n4:(((s[p]'hps).toNat:Int) != 48) = false:=by simp [bne,n3]
      have HB:=hide (show bz s (3 + j) = 48 by rw [← hcb];rw [beq_iff_eq] at n3;exact n3)
      clear hcb hdg F0 JZ hpe hBel hsz hDec hng hn hp hSI
      go_wp2
      go_roundw
      case rel => exact ⟨unhide HBL,unhide HSZ,_,unhide HDC,unhide HNG,.inr (.inr ⟨p + 1,j + 1,rfl,rfl,rfl,by omega,by omega,by omega,(unhide HSI).drop0 h8 (unhide HB),unhide HP⟩)⟩
      case measure => simp [intOf];omega
   ·have e1:j = m:=by omega
    subst e1
    have c2:((s[p]'hps).toNat:Int) = 101:=by rw [hcb];exact (unhide HH).be
    have hs1:s.size = p + 1 + g + z:=by have:=(unhide HH).sz;omega
    have HX:=hide (show ∀ f x,f < z → x = p + 1 + g + f → ∀ h:x < s.size,48 ≤ ((s[x]'h).toNat:Int) ∧ ((s[x]'h).toNat:Int) ≤ 57 ∧ ((s[x]'h).toNat:Int) = bz s (4 + j + g + f) from fun f x hf hx h => by
     have hq:=(unhide HH).bx f hf
     rw [← bz_at,show x = 4 + j + g + f by omega]
     exact ⟨hq.1,hq.2,rfl⟩)
    have HE:=hide (mvs_lt s (4 + j + g) z (fun f hf => (unhide HH).bx f hf))
    have HG:=hide (show g = 1 → ∀ h:p + 1 < s.size,((s[p + 1]'h).toNat:Int) = 45 from fun h1 h => by
     rw [← bz_at,show p + 1 = 4 + j by omega]
     exact (unhide HH).bg h1)
    have z0:=(unhide HH).z0
    have z1:=(unhide HH).z1
    have g1:=(unhide HH).g1
    have HSI:=hide hSI
    rw [hp] at c1
    obtain ⟨wr0,hwr0⟩:∃ wr0,wr0 = wr:=⟨_,rfl⟩
    have ip1:(p:Int) + 1 < (s.size:Int):=by omega
    have hp1:p + 1 < s.size:=by omega
    have hs2:p + 1 + g + z ≤ s.size:=by omega
    have hs3:s.size ≤ p + 1 + g + z:=by omega
    subst hwr0
    clear hcb hdg hpe hBel hsz hDec hng hn hp hSI hs1 HH hj hjm
    have hg:g = 0 ∨ g = 1:=by omega
    obtain ⟨m,hmj⟩:∃ m,m = j:=⟨_,rfl⟩
    subst hmj
    rcases hg with h0 | h0
    ·subst h0
     obtain ⟨x1,x2,-⟩:=unhide HX 0 (p + 1) (by omega) (by omega) hp1
     have x3:(((s[p + 1]'hp1).toNat:Int) == 43) = false:=by rw [beq_eq_false_iff_ne];omega
     have x4:(((s[p + 1]'hp1).toNat:Int) == 45) = false:=by rw [beq_eq_false_iff_ne];omega
     go_wp2_with fail
     refine (unhide LE _).mono ?_
     rintro e w1 ⟨rfl,hw⟩
     subst w1
     go_wp2_with fail
     go_loopw [5,9] (fun vi ve wr => wr0 = wr ∧ ∃ x f E:Nat,vi = .int .i64 x ∧ ve = .int .i64 E ∧ f ≤ z ∧ x ≤ p + 1 + 0 + f ∧ p + 1 + 0 + f ≤ x ∧ E ≤ 9999 ∧ Hid (E = mvs s (4 + m + 0) f)) (fun vi _ _ => s.size - (intOf vi).toNat)
     case atStart => exact ⟨rfl,p + 1 + 0,0,0,rfl,rfl,Nat.zero_le _,by omega,by omega,by omega,hide rfl⟩
     case round =>
      obtain ⟨hw,x,f,E,rfl,rfl,hf,f1,f2,hE,HE1⟩:=hrel
      subst hw
      rcases Nat.lt_or_ge f z with hfz | hfz
      ·have hxs:x < s.size:=by omega
       have ixs:(x:Int) < (s.size:Int):=by omega
       obtain ⟨y1,y2,y3⟩:=unhide HX f x hfz (by omega) hxs
       have y4:(((s[x]'hxs).toNat:Int) == 95) = false:=by rw [beq_eq_false_iff_ne];omega
       have hE2:E ≤ 999:=by
        have a:=unhide HE f hf
        rw [← unhide HE1] at a
        have:=Nat.pow_le_pow_right (by decide:0 < 10) (by omega:f ≤ 3)
        omega
       have HN:=hide (show E * 10 + ((s[x]'hxs).toNat - 48) = mvs s (4 + m + 0) (f + 1) from by
        rw [mvs,← y3,unhide HE1];omega)
       clear y3
       go_wp2
       go_roundw
       case rel => exact ⟨trivial,x + 1,f + 1,E * 10 + ((s[x]'hxs).toNat - 48),rfl,by congr 1;omega,by omega,by omega,by omega,by omega,HN⟩
       case measure => simp [intOf];omega
      ·have ixs:(s.size:Int) ≤ (x:Int):=by omega
       have hfe:f = z:=by omega
       have hxe:x = s.size:=by omega
       have ixe:((x:Int) != (s.size:Int)) = false:=by simp [bne,hxe]
       have HFE:=hide hfe
       clear hfe hxe
       go_wp2
       go_ret
       refine ⟨rfl,⟨_,(unhide HDC).setP _,?_,?_,?_⟩,(unhide HBL).setCell (p:=⟨b,801,none⟩) (Nat.le_refl _) _,by simpa using unhide HSZ⟩
       ·exact ⟨(unhide HSI).dig,(unhide HSI).nd,(unhide HSI).tr⟩
       ·show _ = _
        rw [unhide HXX,if_neg (by decide),← unhide HFE,← unhide HE1]
        try omega
       ·exact unhide HNG
    ·subst h0
     have x5:=unhide HG rfl hp1
     have hp2:p + 1 + 1 < s.size:=by omega
     have ip2:(p:Int) + 1 + 1 < (s.size:Int):=by omega
     obtain ⟨x1,x2,-⟩:=unhide HX 0 (p + 1 + 1) (by omega) (by omega) hp2
     go_wp2_with fail
     refine (unhide LE _).mono ?_
     rintro e w1 ⟨rfl,hw⟩
     subst w1
     go_wp2_with fail
     go_loopw [5,9] (fun vi ve wr => wr0 = wr ∧ ∃ x f E:Nat,vi = .int .i64 x ∧ ve = .int .i64 E ∧ f ≤ z ∧ x ≤ p + 1 + 1 + f ∧ p + 1 + 1 + f ≤ x ∧ E ≤ 9999 ∧ Hid (E = mvs s (4 + m + 1) f)) (fun vi _ _ => s.size - (intOf vi).toNat)
     case atStart => exact ⟨rfl,p + 1 + 1,0,0,rfl,rfl,Nat.zero_le _,by omega,by omega,by omega,hide rfl⟩
     case round =>
      obtain ⟨hw,x,f,E,rfl,rfl,hf,f1,f2,hE,HE1⟩:=hrel
      subst hw
      rcases Nat.lt_or_ge f z with hfz | hfz
      ·have hxs:x < s.size:=by omega
       have ixs:(x:Int) < (s.size:Int):=by omega
       obtain ⟨y1,y2,y3⟩:=unhide HX f x hfz (by omega) hxs
       have y4:(((s[x]'hxs).toNat:Int) == 95) = false:=by rw [beq_eq_false_iff_ne];omega
       have hE2:E ≤ 999:=by
        have a:=unhide HE f hf
        rw [← unhide HE1] at a
        have:=Nat.pow_le_pow_right (by decide:0 < 10) (by omega:f ≤ 3)
        omega
       have HN:=hide (show E * 10 + ((s[x]'hxs).toNat - 48) = mvs s (4 + m + 1) (f + 1) from by
        rw [mvs,← y3,unhide HE1];omega)
       clear y3
       go_wp2
       go_roundw
       case rel => exact ⟨trivial,x + 1,f + 1,E * 10 + ((s[x]'hxs).toNat - 48),rfl,by congr 1;omega,by omega,by omega,by omega,by omega,HN⟩
       case measure => simp [intOf];omega
      ·have ixs:(s.size:Int) ≤ (x:Int):=by omega
       have hfe:f = z:=by omega
       have hxe:x = s.size:=by omega
       have ixe:((x:Int) != (s.size:Int)) = false:=by simp [bne,hxe]
       have HFE:=hide hfe
       clear hfe hxe
       go_wp2
       go_ret
       refine ⟨rfl,⟨_,(unhide HDC).setP _,?_,?_,?_⟩,(unhide HBL).setCell (p:=⟨b,801,none⟩) (Nat.le_refl _) _,by simpa using unhide HSZ⟩
       ·exact ⟨(unhide HSI).dig,(unhide HSI).nd,(unhide HSI).tr⟩
       ·show _ = _
        rw [unhide HXX,if_pos trivial,← unhide HFE,← unhide HE1]
        try omega
       ·exact unhide HNG
end Go.Proofs.YtdogjghalplohaaGreatDoor.dcm
