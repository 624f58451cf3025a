import Derived.Test.YtjlaoeigfokkiaaGreatDoorBr23
import Derived.Test.YtjlaoeigfokkiaaGreatDoorBr24
namespace Go.Proofs.YtjlaoeigfokkiaaGreatDoor.mem
open Go.ChangeShapes Go.WideShapes Go.ChangeAt Go.RowKit
open ints (hide unhide)
set_option linter.unusedVariables false
set_option maxHeartbeats 2000000 in
theorem ofDigits_any (s:ByteArray) (w:World) (hs:s.size ≤ 100000) (hd:dig (bytesZ s)) :
  Calls Tryz.prog 70 #[.string s] w fun e w' => ∃ a n c,e = .returned (.slice a n c) ∧ Big w' a n c (dT (bytesZ s) s.size) ∧ Below w.heap.size w w':=by
 go_enter Tryz.func70,Tryz.ntmps70
 go_wp2
 go_loopw [3,4] (fun v x wr => ∃ (i:Nat) (a:Option Addr) (n c:Nat),i ≤ s.size + 8 ∧ x = .int .i64 i ∧ v = .slice a n c ∧ n ≤ i ∧ Big wr a n c (dT (bytesZ s) (min i s.size)) ∧ Below w.heap.size w wr) (fun _ x _ => s.size + 8 - (intOf x).toNat)
 case atStart => exact ⟨0,none,0,0,by omega,rfl,rfl,by omega,by simp only [Nat.zero_min,dT];exact big_nil _,Below.refl _ _⟩
 case round =>
  obtain ⟨i,a,n,c,hi,rfl,rfl,hni,hB,hbel⟩:=hrel
  by_cases hlt:i < s.size
  ·have ii:(i:Int) < (s.size:Int):=by omega
   rw [Nat.min_eq_left (by omega)] at hB
   go_wp2
   go_loopw [5,6,7] (fun v m j wr => ∃ (t V M:Nat),t ≤ 9 ∧ i + t ≤ s.size ∧ j = .int .i64 ((i + t:Nat):Int) ∧ v = .int .u32 V ∧ m = .int .u32 M ∧ V < M ∧ M ≤ 1000000000 ∧ Hid (M = 10 ^ t ∧ dT (bytesZ s) (i + t) = dT (bytesZ s) i * M + V) ∧ Big wr a n c (dT (bytesZ s) i) ∧ Below w.heap.size w wr) (fun _ _ j _ => s.size - (intOf j).toNat)
   case atStart => exact ⟨0,0,1,by omega,by omega,rfl,rfl,rfl,by omega,by omega,hide ⟨rfl,by simp⟩,hB,hbel⟩
   case round =>
    obtain ⟨t,V,M,ht,hts,rfl,rfl,rfl,hVM,hM,HV,hBr,hbr⟩:=hrel
    clear hB hbel
    have hcast:((i + t:Nat):Int) = (i:Int) + (t:Int):=by omega
    rw [hcast]
    by_cases hgo:i + t < s.size ∧ t < 9
    ·obtain ⟨hg1,hg2⟩:=hgo
     have j1:(i:Int) + (t:Int) < (s.size:Int):=by omega
     have j2:(i:Int) + (t:Int) < (i:Int) + 9:=by omega
     have HZ:=hide (bytesZ_at s (i + t) hg1)
     have hdd:=hd _ (getD_mem (by rw [bytesZ_len];exact hg1):(bytesZ s).getD (i + t) 0 ∈ bytesZ s)
     rw [unhide HZ] at hdd
     obtain ⟨p1,p2⟩:=unhide HV
     have hM8:M ≤ 100000000:=by
      rw [p1]
      have:10 ^ t ≤ 10 ^ 8:=Nat.pow_le_pow_right (by decide) (by omega)
      simpa using this
     have HN:=hide (show M * 10 = 10 ^ (t + 1) ∧ dT (bytesZ s) (i + (t + 1)) = dT (bytesZ s) i * (M * 10) + (10 * V + ((s[i + t]'hg1).toNat - 48)) from ⟨by rw [p1,Nat.pow_succ],by
      rw [← Nat.add_assoc]
      simp only [dT]
      rw [unhide HZ,p2,← Nat.mul_assoc]
      omega⟩)
     clear p1 p2 HV HZ
     go_wp2
     go_roundw
     case rel =>
      refine ⟨t + 1,10 * V + ((s[i + t]'hg1).toNat - 48),M * 10,by omega,by omega,by go_num,?_,?_,by omega,by omega,hide (unhide HN),hBr,hbr⟩
      ·congr 1;omega
      ·congr 1 <;> omega
     case measure => simp [intOf];omega
    ·have HT:=hide (show min (i + 9) s.size = i + t by omega)
     obtain ⟨p1,p2⟩:=unhide HV
     have HN:=hide (show dT (bytesZ s) i * (M:Int).toNat + (V:Int).toNat = dT (bytesZ s) (min (i + 9) s.size) from by rw [unhide HT,p2];simp)
     clear p1 p2 HV
     have TB:=hide (times_big a n c _ (M:Int) (V:Int) wr hBr (by omega) (by omega) (by omega))
     rw [unhide HN] at TB
     by_cases hs9:i + t < s.size
     ·have j1:(i:Int) + (t:Int) < (s.size:Int):=by omega
      have j2:¬ (i:Int) + (t:Int) < (i:Int) + 9:=by omega
      go_wp2_with fail
      refine (unhide TB).mono ?_
      rintro e w2 ⟨a2,n2,c2,rfl,B2,b2⟩
      have hl2:=times_len hBr (M:=M) (D:=V) (by rw [← unhide HN] at B2;simpa using B2) (by omega) (by omega)
      clear TB hBr
      have hb2:=hbr.trans (b2.mono hbr.size)
      go_wp2
      go_roundw
      case rel => exact ⟨i + 9,a2,n2,c2,by omega,by go_num,rfl,by omega,B2,hb2⟩
      case measure => simp [intOf];omega
     ·have j1:¬ (i:Int) + (t:Int) < (s.size:Int):=by omega
      go_wp2_with fail
      refine (unhide TB).mono ?_
      rintro e w2 ⟨a2,n2,c2,rfl,B2,b2⟩
      have hl2:=times_len hBr (M:=M) (D:=V) (by rw [← unhide HN] at B2;simpa using B2) (by omega) (by omega)
      clear TB hBr
      have hb2:=hbr.trans (b2.mono hbr.size)
      go_wp2
      go_roundw
      case rel => exact ⟨i + 9,a2,n2,c2,by omega,by go_num,rfl,by omega,B2,hb2⟩
      case measure => simp [intOf];omega
  ·have ii:¬ (i:Int) < (s.size:Int):=by omega
   rw [Nat.min_eq_right (by omega)] at hB
   go_wp2
   go_ret
   exact ⟨a,n,c,rfl,hB,hbel⟩
end Go.Proofs.YtjlaoeigfokkiaaGreatDoor.mem
namespace Go.Proofs.YtjlaoeigfokkiaaGreatDoor.mem
open Go.ChangeShapes Go.WideShapes Go.ChangeAt Go.RowKit
open ints (hide unhide)
set_option linter.unusedVariables false
theorem big_lit1 (w:World):Big (w.alloc (.cells #[.int .u32 1] 114)) (some ⟨w.heap.size,0,none⟩) 1 1 1:=
 ⟨[1],row_lit .u32 114 (0,0) w [1],(by intro z hz;simp at hz;omega),.inr (by decide),by simp [val,vT]⟩
set_option maxHeartbeats 1000000 in
theorem ten_any (k:Int) (w:World) (hk:k ≤ 10000) (hk0:-10000 ≤ k) :
  Calls Tryz.prog 71 #[.int .i64 k] w fun e w' => ∃ a n c,e = .returned (.slice a n c) ∧ n ≤ k.toNat + 1 ∧ Big w' a n c (10 ^ k.toNat) ∧ Below w.heap.size w w':=by
 have HL:=hide (big_lit1 w)
 have HB:=hide ((Below.refl w.heap.size w).alloc (Nat.le_refl _) (.cells #[.int .u32 1] 114))
 go_enter Tryz.func71,Tryz.ntmps71
 go_wp2
 go_loopw [0,3] (fun x v wr => ∃ (y:Int) (a:Option Addr) (n c:Nat),x = .int .i64 y ∧ y ≤ k ∧ (y = k ∨ 0 ≤ y) ∧ v = .slice a n c ∧ n ≤ (k - y).toNat + 1 ∧ Big wr a n c (10 ^ (k - y).toNat) ∧ Below w.heap.size w wr) (fun x _ _ => (intOf x).toNat)
 case atStart => exact ⟨k,some ⟨w.heap.size,0,none⟩,1,1,rfl,by omega,.inl rfl,rfl,by omega,by rw [Int.sub_self];exact unhide HL,unhide HB⟩
 case round =>
  obtain ⟨y,a,n,c,rfl,hy,hy0,rfl,hn,hB,hbel⟩:=hrel
  clear HL HB
  by_cases hgo:9 ≤ y
  ·have g1:(9:Int) ≤ y:=hgo
   have g2:(0:Int) < y:=by omega
   go_wp2_with fail
   refine (times_big a n c _ 1000000000 0 wr hB (by omega) (by omega) (by omega)).mono ?_
   rintro e w1 ⟨a1,n1,c1,rfl,B1,b1⟩
   have HP:=hide (show 10 ^ (k - y).toNat * (1000000000:Int).toNat + (0:Int).toNat = 10 ^ (k - (y - 9)).toNat from by
    rw [show (k - (y - 9)).toNat = (k - y).toNat + 9 by omega,Nat.pow_add,show (1000000000:Int).toNat = 10 ^ 9 from by decide];exact Nat.add_zero _)
   have hl:=times_len hB B1 (by decide) (by decide)
   rw [unhide HP] at B1
   have hb1:=hbel.trans (b1.mono hbel.size)
   clear hB b1
   go_wp2
   go_roundw
   case rel => exact ⟨y - 9,a1,n1,c1,by go_num,by omega,by omega,rfl,by omega,B1,hb1⟩
   case measure => simp [intOf];omega
  ·have g1:¬ (9:Int) ≤ y:=hgo
   go_wp2
   go_loopw [0,3] (fun x v wr => ∃ (y:Int) (a:Option Addr) (n c:Nat),x = .int .i64 y ∧ y ≤ k ∧ (y = k ∨ 0 ≤ y) ∧ v = .slice a n c ∧ n ≤ (k - y).toNat + 1 ∧ Big wr a n c (10 ^ (k - y).toNat) ∧ Below w.heap.size w wr) (fun x _ _ => (intOf x).toNat)
   case atStart => exact ⟨y,a,n,c,rfl,hy,hy0,rfl,hn,hB,hbel⟩
   case round =>
    clear hB hbel hy hy0 hn g1 hgo
    obtain ⟨y,a,n,c,rfl,hy,hy0,rfl,hn,hB,hbel⟩:=hrel
    skip
    by_cases hgo:1 ≤ y
    ·have g1:(1:Int) ≤ y:=hgo
     have g2:(0:Int) < y:=by omega
     go_wp2_with fail
     refine (times_big a n c _ 10 0 wr hB (by omega) (by omega) (by omega)).mono ?_
     rintro e w1 ⟨a1,n1,c1,rfl,B1,b1⟩
     have HP:=hide (show 10 ^ (k - y).toNat * (10:Int).toNat + (0:Int).toNat = 10 ^ (k - (y - 1)).toNat from by
      rw [show (k - (y - 1)).toNat = (k - y).toNat + 1 by omega,Nat.pow_add,show (10:Int).toNat = 10 ^ 1 from by decide];exact Nat.add_zero _)
     have hl:=times_len hB B1 (by decide) (by decide)
     rw [unhide HP] at B1
     have hb1:=hbel.trans (b1.mono hbel.size)
     clear hB b1
     go_wp2
     go_roundw
     case rel => exact ⟨y - 1,a1,n1,c1,by go_num,by omega,by omega,rfl,by omega,B1,hb1⟩
     case measure => simp [intOf];omega
    ·have g1:¬ (1:Int) ≤ y:=hgo
     have g3:¬ (0:Int) < y:=by omega
     go_wp2
     go_ret
     have e:(k - y).toNat = k.toNat:=by omega
     rw [e] at hB hn
     exact ⟨a,n,c,rfl,hn,hB,hbel⟩
end Go.Proofs.YtjlaoeigfokkiaaGreatDoor.mem
namespace Go.Proofs.YtjlaoeigfokkiaaGreatDoor.mem
open Go.ChangeShapes Go.WideShapes Go.ChangeAt Go.RowKit
open ints (hide unhide)
set_option linter.unusedVariables false
def Box2 (w:World) (B:Nat) (x y:Value) (t:TypeId):Prop:=w.heap[B]? = some (.cells #[x,y] t (0,0))
theorem Box2.cells {w:World} {B:Nat} {x y:Value} {t:TypeId} (h:Box2 w B x y t):w.cell? ⟨B,0,none⟩ = some x ∧ w.cell? ⟨B,1,none⟩ = some y ∧ w.frozen? ⟨B,0,none⟩ = false ∧ w.frozen? ⟨B,1,none⟩ = false:=by
 unfold Box2 at h
 refine ⟨?_,?_,?_,?_⟩
 ·simp [World.cell?,h]
 ·simp [World.cell?,h]
 ·simp [World.frozen?,h]
 ·simp [World.frozen?,h]
theorem Box2.lt {w:World} {B:Nat} {x y:Value} {t:TypeId} (h:Box2 w B x y t):B < w.heap.size:=(Array.getElem?_eq_some_iff.1 h).1
theorem Box2.below {w w':World} {B:Nat} {x y:Value} {t:TypeId} (h:Box2 w B x y t) (hb:Below w.heap.size w w'):Box2 w' B x y t:=(hb.block B h.lt).trans h
theorem Box2.set {w:World} {B:Nat} {x y:Value} {t:TypeId} (h:Box2 w B x y t) (x' y':Value):Box2 ((w.setCell ⟨B,0,none⟩ x').setCell ⟨B,1,none⟩ y') B x' y' t:=by
 unfold Box2 at *
 simp [World.setCell,Array.getElem?_modify,h]
theorem box2_new (w:World) (x y:Value) (t:TypeId):Box2 (w.alloc (.cells #[x,y] t)) w.heap.size x y t:=heap_alloc_new w _
theorem Big.set2 {w:World} {a:Option Addr} {n c N B:Nat} {p p':Option Addr} {q r q' r':Nat} {t:TypeId} (h:Big w a n c N) (hb:Box2 w B (.slice p q r) (.slice p' q' r') t) (x y:Value):Big ((w.setCell ⟨B,0,none⟩ x).setCell ⟨B,1,none⟩ y) a n c N:=by
 obtain ⟨zs,rw0,rest⟩:=h
 refine ⟨zs,⟨rw0.len,rw0.le,rw0.nil,?_⟩,rest⟩
 rcases rw0.at_ with h0 | ⟨b,off,ha,hlt,hc⟩
 ·exact .inl h0
 ·refine .inr ⟨b,off,ha,by simpa using hlt,fun i hi => ?_⟩
  obtain ⟨c0,c1,_,_⟩:=hb.cells
  have h0:(⟨b,off + i,none⟩:Addr) ≠ ⟨B,0,none⟩:=by
   intro e
   have:=hc i hi
   rw [e,c0] at this
   cases this
  have h1:(⟨b,off + i,none⟩:Addr) ≠ ⟨B,1,none⟩:=by
   intro e
   have:=hc i hi
   rw [e,c1] at this
   cases this
  rw [World.cell?_setCell_other _ _ _ _ h1.symm,World.cell?_setCell_other _ _ _ _ h0.symm]
  exact hc i hi
end Go.Proofs.YtjlaoeigfokkiaaGreatDoor.mem
namespace Go.Proofs.YtjlaoeigfokkiaaGreatDoor.mem
open Go.ChangeShapes Go.WideShapes Go.ChangeAt Go.RowKit
open ints (hide unhide)
set_option linter.unusedVariables false
set_option maxRecDepth 4000 in
theorem dec_neg (s:ByteArray) (x:Int) (w:World) (hs:s.size ≤ 100000) (hd:dig (bytesZ s)) (hx:x ≤ 0) (hx0:-10000 ≤ x) :
  Calls Tryz.prog 47 #[.string s,.int .i64 x] w fun e w' => ∃ aT nT cT aB nB cB,e = .returned (.agg #[.slice aT nT cT,.slice aB nB cB]) ∧ Big w' aT nT cT (dT (bytesZ s) s.size) ∧ Big w' aB nB cB (10 ^ (-x).toNat) ∧ nB ≤ (-x).toNat + 1 ∧ Below w.heap.size w w':=by
 have HO:=hide (fun W => ofDigits_any s W hs hd)
 have HT:=hide (fun W => ten_any (-x) W (by omega) (by omega))
 have g0:¬ (0:Int) < x:=by omega
 go_enter Tryz.func47,Tryz.ntmps47
 go_wp2_with fail
 refine (unhide HO _).mono ?_
 rintro e w1 ⟨aT,nT,cT,rfl,B1,b1⟩
 go_wp2_with fail
 refine (unhide HT _).mono ?_
 rintro e w2 ⟨aB,nB,cB,rfl,hnB,B2,b2⟩
 have B1:=B1.below b2
 have hb1:Below w.heap.size w w1:=((Below.refl w.heap.size w).alloc (Nat.le_refl _) _).trans (b1.mono (by simp))
 have hb2:=hb1.trans (b2.mono hb1.size)
 have bx:Box2 w2 w.heap.size (.slice none 0 0) (.slice none 0 0) 88:=((box2_new w _ _ _).below b1).below b2
 obtain ⟨W3,HW⟩:∃ W3,W3 = w2.alloc (.cells #[.slice aT nT cT,.slice aB nB cB] 88):=⟨_,rfl⟩
 have al:Below w2.heap.size w2 W3:=by rw [HW];exact (Below.refl _ _).alloc (Nat.le_refl _) _
 have bx3:=bx.below al
 have BT:=(B1.below al).set2 bx3 (.slice aT nT cT) (.slice aB nB cB)
 have BB:=(B2.below al).set2 bx3 (.slice aT nT cT) (.slice aB nB cB)
 have bxs:=bx3.set (.slice aT nT cT) (.slice aB nB cB)
 have hb3:=hb2.trans (al.mono hb2.size)
 have hbF:Below w.heap.size w ((W3.setCell ⟨w.heap.size,0,none⟩ (.slice aT nT cT)).setCell ⟨w.heap.size,1,none⟩ (.slice aB nB cB)):=(hb3.setCell (Nat.le_refl _) _).setCell (Nat.le_refl _) _
 obtain ⟨q0,q1,_,_⟩:=bxs.cells
 rw [HW] at bx3 q0 q1
 obtain ⟨r0,r1,r2,r3⟩:=bx3.cells
 have Q0:=hide q0
 have Q1:=hide q1
 have HW':=hide HW
 have HN:=hide hnB
 have HBB:=hide BB
 clear HO HT b1 b2 hb1 q0 q1 HW bx bx3 bxs al hb2 hb3 B1 B2 hnB BB
 go_wp2
 exact bodyPost_ret (v:=.agg #[.slice aT nT cT,.slice aB nB cB]) (by simp [results,Tryz.results47,go_sem,unhide Q0,unhide Q1]) rfl ⟨aT,nT,cT,aB,nB,cB,rfl,by rw [← unhide HW'];exact BT,by rw [← unhide HW'];exact unhide HBB,unhide HN,by rw [← unhide HW'];exact hbF⟩
theorem Big.set1 {w:World} {a:Option Addr} {n c N B k:Nat} {v:Value} (h:Big w a n c N) (hv:w.cell? ⟨B,k,none⟩ = some v) (hn:∀ t z,v ≠ .int t z) (x:Value):Big (w.setCell ⟨B,k,none⟩ x) a n c N:=by
 obtain ⟨zs,rw0,rest⟩:=h
 refine ⟨zs,⟨rw0.len,rw0.le,rw0.nil,?_⟩,rest⟩
 rcases rw0.at_ with h0 | ⟨b,off,ha,hlt,hc⟩
 ·exact .inl h0
 ·refine .inr ⟨b,off,ha,by simpa using hlt,fun i hi => ?_⟩
  have h0:(⟨b,off + i,none⟩:Addr) ≠ ⟨B,k,none⟩:=by
   intro e
   have:=hc i hi
   rw [e,hv] at this
   exact hn _ _ (Option.some.inj this)
  rw [World.cell?_setCell_other _ _ _ _ h0.symm]
  exact hc i hi
theorem Box2.set0 {w:World} {B:Nat} {x y:Value} {t:TypeId} (h:Box2 w B x y t) (x':Value):Box2 (w.setCell ⟨B,0,none⟩ x') B x' y t:=by
 unfold Box2 at *
 simp [World.setCell,Array.getElem?_modify,h]
theorem Box2.other {w:World} {B C:Nat} {x y v:Value} {t:TypeId} {k:Nat} (h:Box2 w B x y t) (hne:B ≠ C):Box2 (w.setCell ⟨C,k,none⟩ v) B x y t:=by
 unfold Box2 at *
 rw [Below.heap_setCell w ⟨C,k,none⟩ v B hne]
 exact h
structure DcI (w wr:World) (T:Nat) (x:Int) (D:Nat) (aB:Option Addr) (nB cB nT:Nat) (y:Int) (a:Option Addr) (n c:Nat):Prop where
 y0:0 ≤ y
 yx:y ≤ x
 bx:Box2 wr D (.slice a n c) (.slice aB nB cB) 88
 top:Big wr a n c (T * 10 ^ (x - y).toNat)
 bot:Big wr aB nB cB 1
 out:Box2 wr w.heap.size (.slice none 0 0) (.slice none 0 0) 88
 len:n ≤ nT + (x - y).toNat
 bel:Below w.heap.size w wr
theorem DcI.step {w wr w1:World} {T:Nat} {x y:Int} {D nB cB nT n c n1 c1 k:Nat} {aB a a1:Option Addr} (h:DcI w wr T x D aB nB cB nT y a n c) (hne:D ≠ w.heap.size) (hle:w.heap.size ≤ D) (b1:Below wr.heap.size wr w1) (B1:Big w1 a1 n1 c1 (T * 10 ^ (x - y).toNat * 10 ^ k)) (hk:(k:Int) ≤ y) (hn1:n1 ≤ n + k) :
  DcI w (w1.setCell ⟨D,0,none⟩ (.slice a1 n1 c1)) T x D aB nB cB nT (y - k) a1 n1 c1:=by
 have bx1:=h.bx.below b1
 have hc0:=bx1.cells.1
 have hbel:=h.bel.trans (b1.mono h.bel.size)
 refine ⟨by omega,by have:=h.yx;omega,bx1.set0 _,?_,(h.bot.below b1).set1 hc0 (fun _ _ e => by cases e) _,(h.out.below b1).other hne.symm,by have:=h.len;have:=h.yx;omega,hbel.setCell hle _⟩
 have e:(x - (y - k)).toNat = (x - y).toNat + k:=by have:=h.yx;omega
 rw [e,Nat.pow_add,← Nat.mul_assoc]
 exact B1.set1 hc0 (fun _ _ e => by cases e) _
set_option maxHeartbeats 1000000 in
set_option maxRecDepth 4000 in
theorem dec_pos (s:ByteArray) (T:Nat) (x:Int) (w:World) (hs:s.size ≤ 100000) (hd:dig (bytesZ s)) (hT:dT (bytesZ s) s.size = T) (M:Nat) (hM:M ≤ 100) (hTl:T < 2 ^ (32 * M)) (hx:0 < x) (hx0:x ≤ 10000) :
  Calls Tryz.prog 47 #[.string s,.int .i64 x] w fun e w' => ∃ aT nT cT aB nB cB,e = .returned (.agg #[.slice aT nT cT,.slice aB nB cB]) ∧ Big w' aT nT cT (T * 10 ^ x.toNat) ∧ nT ≤ M + x.toNat ∧ Big w' aB nB cB 1 ∧ nB ≤ 1 ∧ Below w.heap.size w w':=by
 have HO:=hide (fun W => ofDigits_any s W hs hd)
 rw [hT] at HO
 have HT:=hide (fun W => ten_any (-x) W (by omega) (by omega))
 have g0:(0:Int) < x:=by omega
 go_enter Tryz.func47,Tryz.ntmps47
 go_wp2_with fail
 refine (unhide HO _).mono ?_
 rintro e w1 ⟨aT,nT,cT,rfl,B1,b1⟩
 go_wp2_with fail
 refine (unhide HT _).mono ?_
 rintro e w2 ⟨aB,nB,cB,rfl,hnB,B2,b2⟩
 rw [show (-x).toNat = 0 by omega] at B2 hnB
 rw [Nat.pow_zero] at B2
 have B1:=B1.below b2
 have hb1:Below w.heap.size w w1:=((Below.refl w.heap.size w).alloc (Nat.le_refl _) _).trans (b1.mono (by simp))
 have hb2:=hb1.trans (b2.mono hb1.size)
 have bx:Box2 w2 w.heap.size (.slice none 0 0) (.slice none 0 0) 88:=((box2_new w _ _ _).below b1).below b2
 obtain ⟨W3,HW⟩:∃ W3,w2.alloc (.cells #[.slice aT nT cT,.slice aB nB cB] 88) = W3:=⟨_,rfl⟩
 have al:Below w2.heap.size w2 W3:=by rw [← HW];exact (Below.refl _ _).alloc (Nat.le_refl _) _
 obtain ⟨D,hD⟩:∃ D,w2.heap.size = D:=⟨_,rfl⟩
 have hDl:w.heap.size < D:=by have:=bx.lt;omega
 have hlen:nT ≤ M:=B1.len hTl
 have I0:DcI w W3 T x D aB nB cB nT x aT nT cT:=⟨by omega,by omega,by rw [← HW,← hD];exact box2_new w2 _ _ _,by rw [Int.sub_self];exact (by simpa using B1.below al),B2.below al,bx.below al,by omega,hb2.trans (al.mono hb2.size)⟩
 have HI:=hide I0
 have HN:=hide hnB
 clear HO HT b1 b2 hb1 bx al hb2 B1 B2 I0 hT hTl hnB hs hd
 go_wp2
 clear HW hD
 go_loopw [1] (fun v wr => ∃ (y:Int) (a:Option Addr) (n c:Nat),v = .int .i64 y ∧ DcI w wr T x D aB nB cB nT y a n c) (fun v _ => (intOf v).toNat)
 case atStart => exact ⟨x,aT,nT,cT,rfl,unhide HI⟩
 case round =>
  obtain ⟨y,a,n,c,rfl,hi⟩:=hrel
  obtain ⟨q0,q1,f0,f1⟩:=hi.bx.cells
  have yx:=hi.yx
  have y0:=hi.y0
  have nl:=hi.len
  by_cases hgo:9 ≤ y
  ·have TB:=hide (times_big a n c _ 1000000000 0 wr hi.top (by omega) (by omega) (by omega))
   have HH:=hide hi
   clear hi
   go_wp2_with fail
   refine (unhide TB).mono ?_
   rintro e w1 ⟨a1,n1,c1,rfl,B1,b1⟩
   have hl:=times_len (unhide HH).top B1 (by decide) (by decide)
   have hi2:=(unhide HH).step (k:=9) (by omega) (by omega) b1 (by
    have e:(1000000000:Int).toNat = 10 ^ 9:=by decide
    rw [e,show (0:Int).toNat = 0 from rfl,Nat.add_zero] at B1
    exact B1) (by omega) (by omega)
   have bx1:=(unhide HH).bx.below b1
   obtain ⟨q0,q1,f0,f1⟩:=bx1.cells
   have H2:=hide hi2
   clear hi2 bx1 B1 b1 TB hl HH
   go_wp2
   go_roundw
   case rel => exact ⟨y - 9,a1,n1,c1,by go_num,unhide H2⟩
   case measure => simp [intOf];omega
  ·have HH:=hide hi
   clear hi HI
   go_wp2
   go_loopw [1] (fun v wr => ∃ (y:Int) (a:Option Addr) (n c:Nat),v = .int .i64 y ∧ DcI w wr T x D aB nB cB nT y a n c) (fun v _ => (intOf v).toNat)
   case atStart => exact ⟨y,a,n,c,rfl,unhide HH⟩
   case round =>
    clear HH nl y0 yx hgo q0 q1 f0 f1
    obtain ⟨y,a,n,c,rfl,hi⟩:=hrel
    obtain ⟨q0,q1,f0,f1⟩:=hi.bx.cells
    have yx:=hi.yx
    have y0:=hi.y0
    have nl:=hi.len
    by_cases hgo:1 ≤ y
    ·have g1:(0:Int) < y:=by omega
     have TB:=hide (times_big a n c _ 10 0 wr hi.top (by omega) (by omega) (by omega))
     have HH:=hide hi
     clear hi
     go_wp2_with fail
     refine (unhide TB).mono ?_
     rintro e w1 ⟨a1,n1,c1,rfl,B1,b1⟩
     have hl:=times_len (unhide HH).top B1 (by decide) (by decide)
     have hi2:=(unhide HH).step (k:=1) (by omega) (by omega) b1 (by
      have e:(10:Int).toNat = 10 ^ 1:=by decide
      rw [e,show (0:Int).toNat = 0 from rfl,Nat.add_zero] at B1
      exact B1) (by omega) (by omega)
     have bx1:=(unhide HH).bx.below b1
     obtain ⟨q0,q1,f0,f1⟩:=bx1.cells
     have H2:=hide hi2
     clear hi2 bx1 B1 b1 TB hl HH
     go_wp2
     go_roundw
     case rel => exact ⟨y - 1,a1,n1,c1,by go_num,unhide H2⟩
     case measure => simp [intOf];omega
    ·have g1:¬ (0:Int) < y:=by omega
     have ey:y = 0:=by omega
     have BT:=(hi.top.set2 hi.out (.slice a n c) (.slice aB nB cB))
     have BB:=(hi.bot.set2 hi.out (.slice a n c) (.slice aB nB cB))
     have bxs:=hi.out.set (.slice a n c) (.slice aB nB cB)
     have hbF:Below w.heap.size w ((wr.setCell ⟨w.heap.size,0,none⟩ (.slice a n c)).setCell ⟨w.heap.size,1,none⟩ (.slice aB nB cB)):=(hi.bel.setCell (Nat.le_refl _) _).setCell (Nat.le_refl _) _
     obtain ⟨r0,r1,r2,r3⟩:=hi.out.cells
     obtain ⟨s0,s1,_,_⟩:=bxs.cells
     rw [show x - y = x by omega] at BT nl
     have Q0:=hide s0
     have Q1:=hide s1
     have HBT:=hide BT
     have HBB:=hide BB
     have HBF:=hide hbF
     clear hi s0 s1 bxs BT BB hbF
     go_wp2
     exact bodyPost_ret (v:=.agg #[.slice a n c,.slice aB nB cB]) (by simp [results,Tryz.results47,go_sem,unhide Q0,unhide Q1]) rfl ⟨a,n,c,aB,nB,cB,rfl,unhide HBT,by omega,unhide HBB,unhide HN,unhide HBF⟩
end Go.Proofs.YtjlaoeigfokkiaaGreatDoor.mem
