import Derived.Test.YtdogjghalplohaaGreatDoorJs17
import Derived.WalkMore
namespace Go.Proofs.YtdogjghalplohaaGreatDoor.fto
open Go.ChangeShapes Go.WideShapes Go.ChangeAt Go.RowKit
open mem Go.Sort
open ints (hide unhide)
set_option linter.unusedVariables false
def bz (s:ByteArray) (k:Nat):Int:=(s.data.toList.map fun b => (b.toNat:Int)).getD k 0
theorem bz_at (s:ByteArray) (k:Nat) (h:k < s.size):bz s k = ((s[k]'h).toNat:Int):=by
 unfold bz
 have h':k < (s.data.toList.map fun b => (b.toNat:Int)).length:=by rw [List.length_map,Array.length_toList];exact h
 rw [List.getD_eq_getElem?_getD,List.getElem?_eq_getElem h',Option.getD_some,List.getElem_map]
 rfl
structure Ntx (s:ByteArray) (k m g z:Nat):Prop where
 m1:m ≤ 1100000
 z0:1 ≤ z
 z1:z ≤ 4
 g1:g ≤ 1
 sz:s.size = k + m + g + z + 3
 b0:k = 1 → bz s 0 = 45
 b1:bz s k = 48
 b2:bz s (k + 1) = 46
 bd:∀ j,j < m → 48 ≤ bz s (k + 2 + j) ∧ bz s (k + 2 + j) ≤ 57
 bf:0 < m → bz s (k + 2) ≠ 48
 be:bz s (k + 2 + m) = 101
 bg:g = 1 → bz s (k + 3 + m) = 45
 bx:∀ j,j < z → 48 ≤ bz s (k + 3 + m + g + j) ∧ bz s (k + 3 + m + g + j) ≤ 57
def mvs (s:ByteArray) (a:Nat):Nat → Nat
 | 0 => 0
 | j + 1 => mvs s a j * 10 + (bz s (a + j) - 48).toNat
def trs (s:ByteArray) (a:Nat):Nat → Bool
 | 0 => false
 | j + 1 => trs s a j || (decide (19 ≤ j) && decide (bz s (a + j) ≠ 48))
theorem mvs_lt (s:ByteArray) (a n:Nat) (h:∀ j,j < n → 48 ≤ bz s (a + j) ∧ bz s (a + j) ≤ 57):∀ j,j ≤ n → mvs s a j < 10 ^ j:=by
 intro j
 induction j with
 | zero => intro _;exact Nat.one_pos
 | succ j ih =>
  intro hj
  have h1:=ih (by omega)
  have h2:=h j (by omega)
  rw [mvs,Nat.pow_succ]
  omega
theorem mvs_pos (s:ByteArray) (a:Nat) (h1:49 ≤ bz s a):∀ j,0 < j → 0 < mvs s a j:=by
 intro j
 induction j with
 | zero => intro h;omega
 | succ j ih =>
  intro _
  rw [mvs]
  by_cases h0:j = 0
  ·subst h0;rw [Nat.add_zero];omega
  ·have:=ih (by omega);omega
theorem trs_small (s:ByteArray) (a:Nat):∀ j,j ≤ 19 → trs s a j = false:=by
 intro j
 induction j with
 | zero => intro _;rfl
 | succ j ih => intro hj;rw [trs,ih (by omega),decide_eq_false (by omega)];rfl
theorem results_tmp7 {fn:Func} {t0 t1 t2 t3 t4 t5 t6:Tmp} (h:fn.results = #[.tmp t0,.tmp t1,.tmp t2,.tmp t3,.tmp t4,.tmp t5,.tmp t6]) (tmps:Array Value) (P:Program) (w:World) :
  (results fn tmps).run P w = .ok (.tuple #[tmps.getD t0 undef,tmps.getD t1 undef,tmps.getD t2 undef,tmps.getD t3 undef,tmps.getD t4 undef,tmps.getD t5 undef,tmps.getD t6 undef]) w:=by
 simp [results,h]
theorem lower_pt (w:World):Calls Tryz.prog 120 #[.int .u8 46] w fun e w' => e = .returned (.int .u8 46) ∧ w' = w:=by
 go_enter Tryz.func120,Tryz.ntmps120
 go_wp2
 go_ret
 exact ⟨rfl,rfl⟩
theorem lower_e (w:World):Calls Tryz.prog 120 #[.int .u8 101] w fun e w' => e = .returned (.int .u8 101) ∧ w' = w:=by
 go_enter Tryz.func120,Tryz.ntmps120
 go_wp2
 go_ret
 exact ⟨rfl,rfl⟩
set_option maxHeartbeats 1100000 in
set_option maxRecDepth 100000 in
theorem readF0 (s:ByteArray) (m g z:Nat) (w:World) (h:Ntx s 0 m g z) :
  Calls Tryz.prog 175 #[.string s] w fun e w' => e = .returned (.tuple #[.int .u64 (mvs s 2 (min m 19)),.int .i64 (if m = 0 then 0 else (if g = 1 then - (mvs s (3 + m + g) z:Int) else (mvs s (3 + m + g) z:Int)) - (min m 19:Nat)),.bool false,.bool (trs s 2 m),.bool false,.int .i64 s.size,.bool true]) ∧ w' = w:=by
 have HH:=hide h
 have hsz1:s.size ≤ 2000000:=by have:=h.sz;have:=h.m1;have:=h.z1;have:=h.g1;omega
 have hsz2:0 + 4 ≤ s.size:=by have:=h.sz;have:=h.z0;omega
 have q0:0 < s.size:=by omega
 have q1:0 < s.size:=by omega
 have q2:1 < s.size:=by omega
 have c1:((s[0]'q1).toNat:Int) = 48:=by rw [← bz_at];exact h.b1
 have c2:((s[1]'q2).toNat:Int) = 46:=by rw [← bz_at];exact h.b2
 have hse:s ≠ ByteArray.empty:=by intro he;rw [he] at q0;exact absurd q0 (by decide)
 have LP:=hide (lower_pt w)
 have i1:(0:Int) < (s.size:Int):=by omega
 have i2:(0:Int) < (s.size:Int):=by omega
 have i3:(1:Int) < (s.size:Int):=by omega
 have i4:(2:Int) < (s.size:Int):=by omega
 clear h
 go_enter Tryz.func175,Tryz.ntmps175
 go_wp2_with fail
 go_step3
 go_wp2_with fail
 refine (unhide LP).mono ?_
 rintro e w1 ⟨rfl,hw⟩
 subst w1
 go_wp2_with fail
 go_step3
 go_wp2_with fail
 clear c1 c2 LP q0 q1 q2 i2 i3 i4 hse
 go_loopw [2,5,7,9,13,14,15,16,17] (fun vM vT vi vu vd vs vn vm vp wr => w = wr ∧ vu = .bool false ∧ (
   (vi = .int .i64 0 ∧ vM = .int .u64 0 ∧ vT = .bool false ∧ vd = .bool false ∧ vs = .bool false ∧ vn = .int .i64 0 ∧ vm = .int .i64 0 ∧ vp = .int .i64 0) ∨
   (vi = .int .i64 1 ∧ vM = .int .u64 0 ∧ vT = .bool false ∧ vd = .bool false ∧ vs = .bool true ∧ vn = .int .i64 0 ∧ vm = .int .i64 0 ∧ vp = .int .i64 (-1)) ∨
   (∃ p j nm M:Nat,∃ T:Bool,vi = .int .i64 p ∧ vM = .int .u64 M ∧ vT = .bool T ∧ vd = .bool true ∧ vs = .bool true ∧ vn = .int .i64 j ∧ vm = .int .i64 nm ∧ vp = .int .i64 0 ∧
    j ≤ m ∧ p ≤ 2 + j ∧ 2 + j ≤ p ∧ Hid (nm = min j 19 ∧ M = mvs s 2 (min j 19) ∧ T = trs s 2 j)))) (fun _ _ vi _ _ _ _ _ _ _ => s.size - (intOf vi).toNat)
 case atStart => exact ⟨rfl,rfl,.inl ⟨rfl,rfl,rfl,rfl,rfl,rfl,rfl,rfl⟩⟩
 case round =>
  obtain ⟨hw,rfl,hr⟩:=hrel
  subst hw
  rcases hr with ⟨rfl,rfl,rfl,rfl,rfl,rfl,rfl,rfl⟩ | ⟨rfl,rfl,rfl,rfl,rfl,rfl,rfl,rfl⟩ | ⟨p,j,nm,M,T,rfl,rfl,rfl,rfl,rfl,rfl,rfl,rfl,hj,p1,p2,HV⟩
  ·have q1:0 < s.size:=by omega
   have c1:((s[0]'q1).toNat:Int) = 48:=by rw [← bz_at];exact (unhide HH).b1
   have i2:(0:Int) < (s.size:Int):=by omega
   go_wp2
   go_roundw
   case rel => exact ⟨trivial,rfl,.inr (.inl ⟨rfl,rfl,rfl,rfl,rfl,rfl,rfl,rfl⟩)⟩
   case measure => simp [intOf];omega
  ·have q1:1 < s.size:=by omega
   have c1:((s[1]'q1).toNat:Int) = 46:=by rw [← bz_at];exact (unhide HH).b2
   have i2:(1:Int) < (s.size:Int):=by omega
   go_wp2
   go_roundw
   case rel => exact ⟨trivial,rfl,.inr (.inr ⟨2,0,0,0,false,rfl,rfl,rfl,rfl,rfl,rfl,rfl,rfl,Nat.zero_le _,by omega,by omega,hide ⟨rfl,rfl,rfl⟩⟩)⟩
   case measure => simp [intOf];omega
  ·obtain ⟨v1,v2,v3⟩:=unhide HV
   have hps:p < s.size:=by have:=(unhide HH).sz;omega
   have ips:(p:Int) < (s.size:Int):=by omega
   have hpe:p = 2 + j:=by omega
   have hcb:((s[p]'hps).toNat:Int) = bz s (2 + j):=by rw [← bz_at,hpe]
   have hdg:=(unhide HH).bd
   have hml:=mvs_lt s 2 m hdg
   rcases Nat.lt_or_ge j m with hjm | hjm
   ·obtain ⟨d1,d2⟩:=hdg j hjm
    rw [← hcb] at d1 d2
    have n1:(((s[p]'hps).toNat:Int) == 95) = false:=by rw [beq_eq_false_iff_ne];omega
    have n2:(((s[p]'hps).toNat:Int) == 46) = false:=by rw [beq_eq_false_iff_ne];omega
    have TN:∀ b:Bool,(((s[p]'hps).toNat:Int) == 48) = b → 19 ≤ j → (T || !b) = trs s 2 (j + 1):=by
     intro b hb h19
     rw [trs,← v3,decide_eq_true h19,← hcb,Bool.true_and]
     cases b
     ·rw [beq_eq_false_iff_ne] at hb;rw [decide_eq_true hb];rfl
     ·rw [beq_iff_eq] at hb;rw [decide_eq_false (by omega)];rfl
    have TS:j < 19 → T = trs s 2 (j + 1):=by
     intro h19
     rw [v3,trs_small s 2 j (by omega),trs_small s 2 (j + 1) (by omega)]
    have MS:j < 19 → M * 10 + ((s[p]'hps).toNat - 48) = mvs s 2 (min (j + 1) 19):=by
     intro h19
     rw [show min (j + 1) 19 = j + 1 by omega,mvs,← hcb,v2,show min j 19 = j by omega]
     omega
    have MG:19 ≤ j → M = mvs s 2 (min (j + 1) 19):=by
     intro h19
     rw [v2,show min j 19 = 19 by omega,show min (j + 1) 19 = 19 by omega]
    have MB:j < 19 → M < 1000000000000000000:=by
     intro h19
     rw [v2,show min j 19 = j by omega]
     exact Nat.lt_of_lt_of_le (hml j (by omega)) (Nat.pow_le_pow_right (by decide) (by omega:j ≤ 18))
    have F0:=(unhide HH).bf (by omega)
    have JZ:j = 0 → (((s[p]'hps).toNat:Int) == 48) = false:=by
     intro h0;rw [beq_eq_false_iff_ne,hcb,h0];exact F0
    have HTN:=hide TN
    have HTS:=hide TS
    have HMS:=hide MS
    have HMG:=hide MG
    have hnm1:nm ≤ 19:=by omega
    rcases Nat.lt_or_ge j 19 with h19 | h19
    ·have hM:=MB h19
     have e1:nm = j:=by omega
     clear v1
     subst nm
     have i19:(j:Int) < 19:=by omega
     rcases Nat.eq_zero_or_pos j with h0 | h0
     ·have n3:=JZ h0
      clear hcb hdg hml v2 v3 TN TS MS MG MB F0 JZ hpe HV
      subst h0
      go_wp2
      go_roundw
      case rel => exact ⟨trivial,rfl,.inr (.inr ⟨p + 1,0 + 1,0 + 1,M * 10 + ((s[p]'hps).toNat - 48),T,rfl,by congr 1;omega,rfl,rfl,rfl,rfl,rfl,rfl,by omega,by omega,by omega,hide ⟨by omega,unhide HMS (by omega),unhide HTS (by omega)⟩⟩)⟩
      case measure => simp [intOf];omega
     ·have ij:(0:Int) < (j:Int):=by omega
      have n0:((j:Int) == 0) = false:=by rw [beq_eq_false_iff_ne];omega
      cases n3:(((s[p]'hps).toNat:Int) == 48)
      all_goals
       clear hcb hdg hml v2 v3 TN TS MS MG MB F0 JZ hpe HV
       go_wp2
       go_roundw
       case rel => exact ⟨trivial,rfl,.inr (.inr ⟨p + 1,j + 1,j + 1,M * 10 + ((s[p]'hps).toNat - 48),T,rfl,by congr 1;omega,rfl,rfl,rfl,rfl,rfl,rfl,by omega,by omega,by omega,hide ⟨by omega,unhide HMS (by omega),unhide HTS (by omega)⟩⟩)⟩
       case measure => simp [intOf];omega
    ·have e1:nm = 19:=by omega
     clear v1
     subst nm
     have ij:(0:Int) < (j:Int):=by omega
     have n0:((j:Int) == 0) = false:=by rw [beq_eq_false_iff_ne];omega
     cases n3:(((s[p]'hps).toNat:Int) == 48)
     ·have n4:(((s[p]'hps).toNat:Int) != 48) = true:=by simp [bne,n3]
      have hT:=unhide HTN false n3 h19
      have HT:=hide hT
      clear hcb hdg hml v2 v3 TN TS MS MG MB F0 JZ hpe HV hT
      go_wp2
      go_roundw
      case rel => exact ⟨trivial,rfl,.inr (.inr ⟨p + 1,j + 1,19,M,true,rfl,rfl,rfl,rfl,rfl,rfl,rfl,rfl,by omega,by omega,by omega,hide ⟨by omega,unhide HMG (by omega),by rw [← unhide HT];simp⟩⟩)⟩
      case measure => simp [intOf];omega
     ·have n4:(((s[p]'hps).toNat:Int) != 48) = false:=by simp [bne,n3]
      have hT:=unhide HTN true n3 h19
      have HT:=hide hT
      clear hcb hdg hml v2 v3 TN TS MS MG MB F0 JZ hpe HV hT
      go_wp2
      go_roundw
      case rel => exact ⟨trivial,rfl,.inr (.inr ⟨p + 1,j + 1,19,M,T,rfl,rfl,rfl,rfl,rfl,rfl,rfl,rfl,by omega,by omega,by omega,hide ⟨by omega,unhide HMG (by omega),by rw [← unhide HT];simp⟩⟩)⟩
      case measure => simp [intOf];omega
   ·have e1:j = m:=by omega
    have c1:((s[p]'hps).toNat:Int) = 101:=by rw [hcb,e1];exact (unhide HH).be
    have hMB:M < 18446744073709551616:=by
     rw [v2,e1]
     exact Nat.lt_of_lt_of_le (hml _ (Nat.min_le_left _ _)) (Nat.le_trans (Nat.pow_le_pow_right (by decide) (Nat.min_le_right _ _)) (by decide:10 ^ 19 ≤ _))
    have hM0:((M:Int) != 0) = decide (m ≠ 0):=by
     by_cases h0:m = 0
     ·rw [decide_eq_false (by omega),v2,e1,h0];rfl
     ·have:=mvs_pos s 2 (by have a1:bz s 2 ≠ 48:=(unhide HH).bf (by omega);have a2:48 ≤ bz s 2 ∧ bz s 2 ≤ 57:=hdg 0 (by omega);omega) (min m 19) (by omega)
      rw [decide_eq_true h0,v2,e1]
      simp
      omega
    obtain ⟨B,hB⟩:∃ B,B = decide (m ≠ 0):=⟨_,rfl⟩
    rw [← hB] at hM0
    have hs1:s.size = p + 1 + g + z:=by have:=(unhide HH).sz;omega
    have HX:=hide (show ∀ f x,f < z → x = p + 1 + g + f → ∀ h:x < s.size,48 ≤ ((s[x]'h).toNat:Int) ∧ ((s[x]'h).toNat:Int) ≤ 57 ∧ ((s[x]'h).toNat:Int) = bz s (3 + m + g + f) from fun f x hf hx h => by
     have hq:=(unhide HH).bx f hf
     rw [← bz_at,show x = 3 + m + g + f by omega]
     exact ⟨hq.1,hq.2,rfl⟩)
    have HE:=hide (mvs_lt s (3 + m + g) z (fun f hf => (unhide HH).bx f hf))
    have HG:=hide (show g = 1 → ∀ h:p + 1 < s.size,((s[p + 1]'h).toNat:Int) = 45 from fun h1 h => by
     rw [← bz_at,show p + 1 = 3 + m by omega]
     exact (unhide HH).bg h1)
    have z0:=(unhide HH).z0
    have z1:=(unhide HH).z1
    have g1:=(unhide HH).g1
    have LE:=hide (lower_e w)
    have R:=hide (⟨e1,v1,v2,v3,hB⟩:j = m ∧ nm = min j 19 ∧ M = mvs s 2 (min j 19) ∧ T = trs s 2 j ∧ B = decide (m ≠ 0))
    have hnm1:nm ≤ 19:=by omega
    have ip1:(p:Int) + 1 < (s.size:Int):=by omega
    have hp1:p + 1 < s.size:=by omega
    have hs2:p + 1 + g + z ≤ s.size:=by omega
    have hs3:s.size ≤ p + 1 + g + z:=by omega
    clear e1 v1 v2 v3 hB hs1 HV hml hdg hcb hpe HH hj hjm
    have hg:g = 0 ∨ g = 1:=by omega
    rcases hg with h0 | h0
    ·subst h0
     obtain ⟨x1,x2,-⟩:=unhide HX 0 (p + 1) (by omega) (by omega) hp1
     have x3:(((s[p + 1]'hp1).toNat:Int) == 43) = false:=by rw [beq_eq_false_iff_ne];omega
     have x4:(((s[p + 1]'hp1).toNat:Int) == 45) = false:=by rw [beq_eq_false_iff_ne];omega
     go_wp2_with fail
     refine (unhide LE).mono ?_
     rintro e w1 ⟨rfl,hw⟩
     subst w1
     go_wp2_with fail
     go_loopw [7,9,20] (fun vi vu ve wr => w = wr ∧ vu = .bool false ∧ ∃ x f E:Nat,vi = .int .i64 x ∧ ve = .int .i64 E ∧ f ≤ z ∧ x ≤ p + 1 + 0 + f ∧ p + 1 + 0 + f ≤ x ∧ E ≤ 9999 ∧ Hid (E = mvs s (3 + m + 0) f)) (fun vi _ _ _ => s.size - (intOf vi).toNat)
     case atStart => exact ⟨rfl,rfl,p + 1 + 0,0,0,rfl,rfl,Nat.zero_le _,by omega,by omega,by omega,hide rfl⟩
     case round =>
      obtain ⟨hw,rfl,x,f,E,rfl,rfl,hf,f1,f2,hE,HE1⟩:=hrel
      subst hw
      rcases Nat.lt_or_ge f z with hfz | hfz
      ·have hxs:x < s.size:=by omega
       have ixs:(x:Int) < (s.size:Int):=by omega
       obtain ⟨y1,y2,y3⟩:=unhide HX f x hfz (by omega) hxs
       have y4:(((s[x]'hxs).toNat:Int) == 95) = false:=by rw [beq_eq_false_iff_ne];omega
       have hE2:E ≤ 999:=by
        have a:=unhide HE f hf
        rw [← unhide HE1] at a
        have:=Nat.pow_le_pow_right (by decide:0 < 10) (by omega:f ≤ 3)
        omega
       have HN:=hide (show E * 10 + ((s[x]'hxs).toNat - 48) = mvs s (3 + m + 0) (f + 1) from by
        rw [mvs,← y3,unhide HE1];omega)
       clear y3
       go_wp2
       go_roundw
       case rel => exact ⟨trivial,rfl,x + 1,f + 1,E * 10 + ((s[x]'hxs).toNat - 48),rfl,by congr 1;omega,by omega,by omega,by omega,by omega,HN⟩
       case measure => simp [intOf];omega
      ·have ixs:(s.size:Int) ≤ (x:Int):=by omega
       have hfe:f = z:=by omega
       have hxe:x = s.size:=by omega
       have HR:=hide (⟨hfe,hxe⟩:f = z ∧ x = s.size)
       clear hfe hxe
       cases B
       ·go_wp2
        simp only [Exit.noGoto_ret]
        refine bodyPost_ret (results_tmp7 rfl _ _ _) rfl ?_
        obtain ⟨r1,r2,r3,r4,r5⟩:=unhide R
        obtain ⟨r6,r7⟩:=unhide HR
        have r8:m = 0:=by simpa using r5
        refine ⟨?_,rfl⟩
        rw [r3,r4,r1,r7,if_pos r8]
        rfl
       ·go_wp2
        simp only [Exit.noGoto_ret]
        refine bodyPost_ret (results_tmp7 rfl _ _ _) rfl ?_
        obtain ⟨r1,r2,r3,r4,r5⟩:=unhide R
        obtain ⟨r6,r7⟩:=unhide HR
        have r8:m ≠ 0:=by simpa using r5
        refine ⟨?_,rfl⟩
        rw [r3,r4,r2,r1,r7,if_neg r8,unhide HE1,r6]
        congr 3
    ·subst h0
     have x5:=unhide HG rfl hp1
     have hp2:p + 1 + 1 < s.size:=by omega
     have ip2:(p:Int) + 1 + 1 < (s.size:Int):=by omega
     obtain ⟨x1,x2,-⟩:=unhide HX 0 (p + 1 + 1) (by omega) (by omega) hp2
     go_wp2_with fail
     refine (unhide LE).mono ?_
     rintro e w1 ⟨rfl,hw⟩
     subst w1
     go_wp2_with fail
     go_loopw [7,9,20] (fun vi vu ve wr => w = wr ∧ vu = .bool false ∧ ∃ x f E:Nat,vi = .int .i64 x ∧ ve = .int .i64 E ∧ f ≤ z ∧ x ≤ p + 1 + 1 + f ∧ p + 1 + 1 + f ≤ x ∧ E ≤ 9999 ∧ Hid (E = mvs s (3 + m + 1) f)) (fun vi _ _ _ => s.size - (intOf vi).toNat)
     case atStart => exact ⟨rfl,rfl,p + 1 + 1,0,0,rfl,rfl,Nat.zero_le _,by omega,by omega,by omega,hide rfl⟩
     case round =>
      obtain ⟨hw,rfl,x,f,E,rfl,rfl,hf,f1,f2,hE,HE1⟩:=hrel
      subst hw
      rcases Nat.lt_or_ge f z with hfz | hfz
      ·have hxs:x < s.size:=by omega
       have ixs:(x:Int) < (s.size:Int):=by omega
       obtain ⟨y1,y2,y3⟩:=unhide HX f x hfz (by omega) hxs
       have y4:(((s[x]'hxs).toNat:Int) == 95) = false:=by rw [beq_eq_false_iff_ne];omega
       have hE2:E ≤ 999:=by
        have a:=unhide HE f hf
        rw [← unhide HE1] at a
        have:=Nat.pow_le_pow_right (by decide:0 < 10) (by omega:f ≤ 3)
        omega
       have HN:=hide (show E * 10 + ((s[x]'hxs).toNat - 48) = mvs s (3 + m + 1) (f + 1) from by
        rw [mvs,← y3,unhide HE1];omega)
       clear y3
       go_wp2
       go_roundw
       case rel => exact ⟨trivial,rfl,x + 1,f + 1,E * 10 + ((s[x]'hxs).toNat - 48),rfl,by congr 1;omega,by omega,by omega,by omega,by omega,HN⟩
       case measure => simp [intOf];omega
      ·have ixs:(s.size:Int) ≤ (x:Int):=by omega
       have hfe:f = z:=by omega
       have hxe:x = s.size:=by omega
       have HR:=hide (⟨hfe,hxe⟩:f = z ∧ x = s.size)
       clear hfe hxe
       cases B
       ·go_wp2
        simp only [Exit.noGoto_ret]
        refine bodyPost_ret (results_tmp7 rfl _ _ _) rfl ?_
        obtain ⟨r1,r2,r3,r4,r5⟩:=unhide R
        obtain ⟨r6,r7⟩:=unhide HR
        have r8:m = 0:=by simpa using r5
        refine ⟨?_,rfl⟩
        rw [r3,r4,r1,r7,if_pos r8]
        rfl
       ·go_wp2
        simp only [Exit.noGoto_ret]
        refine bodyPost_ret (results_tmp7 rfl _ _ _) rfl ?_
        obtain ⟨r1,r2,r3,r4,r5⟩:=unhide R
        obtain ⟨r6,r7⟩:=unhide HR
        have r8:m ≠ 0:=by simpa using r5
        refine ⟨?_,rfl⟩
        rw [r3,r4,r2,r1,r7,if_neg r8,unhide HE1,r6]
        congr 3
set_option maxHeartbeats 1100000 in
set_option maxRecDepth 100000 in
theorem readF1 (s:ByteArray) (m g z:Nat) (w:World) (h:Ntx s 1 m g z) :
  Calls Tryz.prog 175 #[.string s] w fun e w' => e = .returned (.tuple #[.int .u64 (mvs s 3 (min m 19)),.int .i64 (if m = 0 then 0 else (if g = 1 then - (mvs s (4 + m + g) z:Int) else (mvs s (4 + m + g) z:Int)) - (min m 19:Nat)),.bool true,.bool (trs s 3 m),.bool false,.int .i64 s.size,.bool true]) ∧ w' = w:=by
 have HH:=hide h
 have hsz1:s.size ≤ 2000000:=by have:=h.sz;have:=h.m1;have:=h.z1;have:=h.g1;omega
 have hsz2:1 + 4 ≤ s.size:=by have:=h.sz;have:=h.z0;omega
 have q0:0 < s.size:=by omega
 have q1:1 < s.size:=by omega
 have q2:2 < s.size:=by omega
 have c1:((s[1]'q1).toNat:Int) = 48:=by rw [← bz_at];exact h.b1
 have c2:((s[2]'q2).toNat:Int) = 46:=by rw [← bz_at];exact h.b2
 have c0:((s[0]'q0).toNat:Int) = 45:=by rw [← bz_at];exact h.b0 rfl
 have hse:s ≠ ByteArray.empty:=by intro he;rw [he] at q0;exact absurd q0 (by decide)
 have LP:=hide (lower_pt w)
 have i1:(0:Int) < (s.size:Int):=by omega
 have i2:(1:Int) < (s.size:Int):=by omega
 have i3:(2:Int) < (s.size:Int):=by omega
 have i4:(3:Int) < (s.size:Int):=by omega
 clear h
 go_enter Tryz.func175,Tryz.ntmps175
 go_wp2_with fail
 go_step3
 go_wp2_with fail
 refine (unhide LP).mono ?_
 rintro e w1 ⟨rfl,hw⟩
 subst w1
 go_wp2_with fail
 go_step3
 go_wp2_with fail
 clear c1 c2 LP q0 q1 q2 i2 i3 i4 hse c0
 go_loopw [2,5,7,9,13,14,15,16,17] (fun vM vT vi vu vd vs vn vm vp wr => w = wr ∧ vu = .bool false ∧ (
   (vi = .int .i64 1 ∧ vM = .int .u64 0 ∧ vT = .bool false ∧ vd = .bool false ∧ vs = .bool false ∧ vn = .int .i64 0 ∧ vm = .int .i64 0 ∧ vp = .int .i64 0) ∨
   (vi = .int .i64 2 ∧ vM = .int .u64 0 ∧ vT = .bool false ∧ vd = .bool false ∧ vs = .bool true ∧ vn = .int .i64 0 ∧ vm = .int .i64 0 ∧ vp = .int .i64 (-1)) ∨
   (∃ p j nm M:Nat,∃ T:Bool,vi = .int .i64 p ∧ vM = .int .u64 M ∧ vT = .bool T ∧ vd = .bool true ∧ vs = .bool true ∧ vn = .int .i64 j ∧ vm = .int .i64 nm ∧ vp = .int .i64 0 ∧
    j ≤ m ∧ p ≤ 3 + j ∧ 3 + j ≤ p ∧ Hid (nm = min j 19 ∧ M = mvs s 3 (min j 19) ∧ T = trs s 3 j)))) (fun _ _ vi _ _ _ _ _ _ _ => s.size - (intOf vi).toNat)
 case atStart => exact ⟨rfl,rfl,.inl ⟨rfl,rfl,rfl,rfl,rfl,rfl,rfl,rfl⟩⟩
 case round =>
  obtain ⟨hw,rfl,hr⟩:=hrel
  subst hw
  rcases hr with ⟨rfl,rfl,rfl,rfl,rfl,rfl,rfl,rfl⟩ | ⟨rfl,rfl,rfl,rfl,rfl,rfl,rfl,rfl⟩ | ⟨p,j,nm,M,T,rfl,rfl,rfl,rfl,rfl,rfl,rfl,rfl,hj,p1,p2,HV⟩
  ·have q1:1 < s.size:=by omega
   have c1:((s[1]'q1).toNat:Int) = 48:=by rw [← bz_at];exact (unhide HH).b1
   have i2:(1:Int) < (s.size:Int):=by omega
   go_wp2
   go_roundw
   case rel => exact ⟨trivial,rfl,.inr (.inl ⟨rfl,rfl,rfl,rfl,rfl,rfl,rfl,rfl⟩)⟩
   case measure => simp [intOf];omega
  ·have q1:2 < s.size:=by omega
   have c1:((s[2]'q1).toNat:Int) = 46:=by rw [← bz_at];exact (unhide HH).b2
   have i2:(2:Int) < (s.size:Int):=by omega
   go_wp2
   go_roundw
   case rel => exact ⟨trivial,rfl,.inr (.inr ⟨3,0,0,0,false,rfl,rfl,rfl,rfl,rfl,rfl,rfl,rfl,Nat.zero_le _,by omega,by omega,hide ⟨rfl,rfl,rfl⟩⟩)⟩
   case measure => simp [intOf];omega
  ·obtain ⟨v1,v2,v3⟩:=unhide HV
   have hps:p < s.size:=by have:=(unhide HH).sz;omega
   have ips:(p:Int) < (s.size:Int):=by omega
   have hpe:p = 3 + j:=by omega
   have hcb:((s[p]'hps).toNat:Int) = bz s (3 + j):=by rw [← bz_at,hpe]
   have hdg:=(unhide HH).bd
   have hml:=mvs_lt s 3 m hdg
   rcases Nat.lt_or_ge j m with hjm | hjm
   ·obtain ⟨d1,d2⟩:=hdg j hjm
    rw [← hcb] at d1 d2
    have n1:(((s[p]'hps).toNat:Int) == 95) = false:=by rw [beq_eq_false_iff_ne];omega
    have n2:(((s[p]'hps).toNat:Int) == 46) = false:=by rw [beq_eq_false_iff_ne];omega
    have TN:∀ b:Bool,(((s[p]'hps).toNat:Int) == 48) = b → 19 ≤ j → (T || !b) = trs s 3 (j + 1):=by
     intro b hb h19
     rw [trs,← v3,decide_eq_true h19,← hcb,Bool.true_and]
     cases b
     ·rw [beq_eq_false_iff_ne] at hb;rw [decide_eq_true hb];rfl
     ·rw [beq_iff_eq] at hb;rw [decide_eq_false (by omega)];rfl
    have TS:j < 19 → T = trs s 3 (j + 1):=by
     intro h19
     rw [v3,trs_small s 3 j (by omega),trs_small s 3 (j + 1) (by omega)]
    have MS:j < 19 → M * 10 + ((s[p]'hps).toNat - 48) = mvs s 3 (min (j + 1) 19):=by
     intro h19
     rw [show min (j + 1) 19 = j + 1 by omega,mvs,← hcb,v2,show min j 19 = j by omega]
     omega
    have MG:19 ≤ j → M = mvs s 3 (min (j + 1) 19):=by
     intro h19
     rw [v2,show min j 19 = 19 by omega,show min (j + 1) 19 = 19 by omega]
    have MB:j < 19 → M < 1000000000000000000:=by
     intro h19
     rw [v2,show min j 19 = j by omega]
     exact Nat.lt_of_lt_of_le (hml j (by omega)) (Nat.pow_le_pow_right (by decide) (by omega:j ≤ 18))
    have F0:=(unhide HH).bf (by omega)
    have JZ:j = 0 → (((s[p]'hps).toNat:Int) == 48) = false:=by
     intro h0;rw [beq_eq_false_iff_ne,hcb,h0];exact F0
    have HTN:=hide TN
    have HTS:=hide TS
    have HMS:=hide MS
    have HMG:=hide MG
    have hnm1:nm ≤ 19:=by omega
    rcases Nat.lt_or_ge j 19 with h19 | h19
    ·have hM:=MB h19
     have e1:nm = j:=by omega
     clear v1
     subst nm
     have i19:(j:Int) < 19:=by omega
     rcases Nat.eq_zero_or_pos j with h0 | h0
     ·have n3:=JZ h0
      clear hcb hdg hml v2 v3 TN TS MS MG MB F0 JZ hpe HV
      subst h0
      go_wp2
      go_roundw
      case rel => exact ⟨trivial,rfl,.inr (.inr ⟨p + 1,0 + 1,0 + 1,M * 10 + ((s[p]'hps).toNat - 48),T,rfl,by congr 1;omega,rfl,rfl,rfl,rfl,rfl,rfl,by omega,by omega,by omega,hide ⟨by omega,unhide HMS (by omega),unhide HTS (by omega)⟩⟩)⟩
      case measure => simp [intOf];omega
     ·have ij:(0:Int) < (j:Int):=by omega
      have n0:((j:Int) == 0) = false:=by rw [beq_eq_false_iff_ne];omega
      cases n3:(((s[p]'hps).toNat:Int) == 48)
      all_goals
       clear hcb hdg hml v2 v3 TN TS MS MG MB F0 JZ hpe HV
       go_wp2
       go_roundw
       case rel => exact ⟨trivial,rfl,.inr (.inr ⟨p + 1,j + 1,j + 1,M * 10 + ((s[p]'hps).toNat - 48),T,rfl,by congr 1;omega,rfl,rfl,rfl,rfl,rfl,rfl,by omega,by omega,by omega,hide ⟨by omega,unhide HMS (by omega),unhide HTS (by omega)⟩⟩)⟩
       case measure => simp [intOf];omega
    ·have e1:nm = 19:=by omega
     clear v1
     subst nm
     have ij:(0:Int) < (j:Int):=by omega
     have n0:((j:Int) == 0) = false:=by rw [beq_eq_false_iff_ne];omega
     cases n3:(((s[p]'hps).toNat:Int) == 48)
     ·have n4:(((s[p]'hps).toNat:Int) != 48) = true:=by simp [bne,n3]
      have hT:=unhide HTN false n3 h19
      have HT:=hide hT
      clear hcb hdg hml v2 v3 TN TS MS MG MB F0 JZ hpe HV hT
      go_wp2
      go_roundw
      case rel => exact ⟨trivial,rfl,.inr (.inr ⟨p + 1,j + 1,19,M,true,rfl,rfl,rfl,rfl,rfl,rfl,rfl,rfl,by omega,by omega,by omega,hide ⟨by omega,unhide HMG (by omega),by rw [← unhide HT];simp⟩⟩)⟩
      case measure => simp [intOf];omega
     ·have n4:(((s[p]'hps).toNat:Int) != 48) = false:=by simp [bne,n3]
      have hT:=unhide HTN true n3 h19
      have HT:=hide hT
      clear hcb hdg hml v2 v3 TN TS MS MG MB F0 JZ hpe HV hT
      go_wp2
      go_roundw
      case rel => exact ⟨trivial,rfl,.inr (.inr ⟨p + 1,j + 1,19,M,T,rfl,rfl,rfl,rfl,rfl,rfl,rfl,rfl,by omega,by omega,by omega,hide ⟨by omega,unhide HMG (by omega),by rw [← unhide HT];simp⟩⟩)⟩
      case measure => simp [intOf];omega
   ·have e1:j = m:=by omega
    have c1:((s[p]'hps).toNat:Int) = 101:=by rw [hcb,e1];exact (unhide HH).be
    have hMB:M < 18446744073709551616:=by
     rw [v2,e1]
     exact Nat.lt_of_lt_of_le (hml _ (Nat.min_le_left _ _)) (Nat.le_trans (Nat.pow_le_pow_right (by decide) (Nat.min_le_right _ _)) (by decide:10 ^ 19 ≤ _))
    have hM0:((M:Int) != 0) = decide (m ≠ 0):=by
     by_cases h0:m = 0
     ·rw [decide_eq_false (by omega),v2,e1,h0];rfl
     ·have:=mvs_pos s 3 (by have a1:bz s 3 ≠ 48:=(unhide HH).bf (by omega);have a2:48 ≤ bz s 3 ∧ bz s 3 ≤ 57:=hdg 0 (by omega);omega) (min m 19) (by omega)
      rw [decide_eq_true h0,v2,e1]
      simp
      omega
    obtain ⟨B,hB⟩:∃ B,B = decide (m ≠ 0):=⟨_,rfl⟩
    rw [← hB] at hM0
    have hs1:s.size = p + 1 + g + z:=by have:=(unhide HH).sz;omega
    have HX:=hide (show ∀ f x,f < z → x = p + 1 + g + f → ∀ h:x < s.size,48 ≤ ((s[x]'h).toNat:Int) ∧ ((s[x]'h).toNat:Int) ≤ 57 ∧ ((s[x]'h).toNat:Int) = bz s (4 + m + g + f) from fun f x hf hx h => by
     have hq:=(unhide HH).bx f hf
     rw [← bz_at,show x = 4 + m + g + f by omega]
     exact ⟨hq.1,hq.2,rfl⟩)
    have HE:=hide (mvs_lt s (4 + m + g) z (fun f hf => (unhide HH).bx f hf))
    have HG:=hide (show g = 1 → ∀ h:p + 1 < s.size,((s[p + 1]'h).toNat:Int) = 45 from fun h1 h => by
     rw [← bz_at,show p + 1 = 4 + m by omega]
     exact (unhide HH).bg h1)
    have z0:=(unhide HH).z0
    have z1:=(unhide HH).z1
    have g1:=(unhide HH).g1
    have LE:=hide (lower_e w)
    have R:=hide (⟨e1,v1,v2,v3,hB⟩:j = m ∧ nm = min j 19 ∧ M = mvs s 3 (min j 19) ∧ T = trs s 3 j ∧ B = decide (m ≠ 0))
    have hnm1:nm ≤ 19:=by omega
    have ip1:(p:Int) + 1 < (s.size:Int):=by omega
    have hp1:p + 1 < s.size:=by omega
    have hs2:p + 1 + g + z ≤ s.size:=by omega
    have hs3:s.size ≤ p + 1 + g + z:=by omega
    clear e1 v1 v2 v3 hB hs1 HV hml hdg hcb hpe HH hj hjm
    have hg:g = 0 ∨ g = 1:=by omega
    rcases hg with h0 | h0
    ·subst h0
     obtain ⟨x1,x2,-⟩:=unhide HX 0 (p + 1) (by omega) (by omega) hp1
     have x3:(((s[p + 1]'hp1).toNat:Int) == 43) = false:=by rw [beq_eq_false_iff_ne];omega
     have x4:(((s[p + 1]'hp1).toNat:Int) == 45) = false:=by rw [beq_eq_false_iff_ne];omega
     go_wp2_with fail
     refine (unhide LE).mono ?_
     rintro e w1 ⟨rfl,hw⟩
     subst w1
     go_wp2_with fail
     go_loopw [7,9,20] (fun vi vu ve wr => w = wr ∧ vu = .bool false ∧ ∃ x f E:Nat,vi = .int .i64 x ∧ ve = .int .i64 E ∧ f ≤ z ∧ x ≤ p + 1 + 0 + f ∧ p + 1 + 0 + f ≤ x ∧ E ≤ 9999 ∧ Hid (E = mvs s (4 + m + 0) f)) (fun vi _ _ _ => s.size - (intOf vi).toNat)
     case atStart => exact ⟨rfl,rfl,p + 1 + 0,0,0,rfl,rfl,Nat.zero_le _,by omega,by omega,by omega,hide rfl⟩
     case round =>
      obtain ⟨hw,rfl,x,f,E,rfl,rfl,hf,f1,f2,hE,HE1⟩:=hrel
      subst hw
      rcases Nat.lt_or_ge f z with hfz | hfz
      ·have hxs:x < s.size:=by omega
       have ixs:(x:Int) < (s.size:Int):=by omega
       obtain ⟨y1,y2,y3⟩:=unhide HX f x hfz (by omega) hxs
       have y4:(((s[x]'hxs).toNat:Int) == 95) = false:=by rw [beq_eq_false_iff_ne];omega
       have hE2:E ≤ 999:=by
        have a:=unhide HE f hf
        rw [← unhide HE1] at a
        have:=Nat.pow_le_pow_right (by decide:0 < 10) (by omega:f ≤ 3)
        omega
       have HN:=hide (show E * 10 + ((s[x]'hxs).toNat - 48) = mvs s (4 + m + 0) (f + 1) from by
        rw [mvs,← y3,unhide HE1];omega)
       clear y3
       go_wp2
       go_roundw
       case rel => exact ⟨trivial,rfl,x + 1,f + 1,E * 10 + ((s[x]'hxs).toNat - 48),rfl,by congr 1;omega,by omega,by omega,by omega,by omega,HN⟩
       case measure => simp [intOf];omega
      ·have ixs:(s.size:Int) ≤ (x:Int):=by omega
       have hfe:f = z:=by omega
       have hxe:x = s.size:=by omega
       have HR:=hide (⟨hfe,hxe⟩:f = z ∧ x = s.size)
       clear hfe hxe
       cases B
       ·go_wp2
        simp only [Exit.noGoto_ret]
        refine bodyPost_ret (results_tmp7 rfl _ _ _) rfl ?_
        obtain ⟨r1,r2,r3,r4,r5⟩:=unhide R
        obtain ⟨r6,r7⟩:=unhide HR
        have r8:m = 0:=by simpa using r5
        refine ⟨?_,rfl⟩
        rw [r3,r4,r1,r7,if_pos r8]
        rfl
       ·go_wp2
        simp only [Exit.noGoto_ret]
        refine bodyPost_ret (results_tmp7 rfl _ _ _) rfl ?_
        obtain ⟨r1,r2,r3,r4,r5⟩:=unhide R
        obtain ⟨r6,r7⟩:=unhide HR
        have r8:m ≠ 0:=by simpa using r5
        refine ⟨?_,rfl⟩
        rw [r3,r4,r2,r1,r7,if_neg r8,unhide HE1,r6]
        congr 3
    ·subst h0
     have x5:=unhide HG rfl hp1
     have hp2:p + 1 + 1 < s.size:=by omega
     have ip2:(p:Int) + 1 + 1 < (s.size:Int):=by omega
     obtain ⟨x1,x2,-⟩:=unhide HX 0 (p + 1 + 1) (by omega) (by omega) hp2
     go_wp2_with fail
     refine (unhide LE).mono ?_
     rintro e w1 ⟨rfl,hw⟩
     subst w1
     go_wp2_with fail
     go_loopw [7,9,20] (fun vi vu ve wr => w = wr ∧ vu = .bool false ∧ ∃ x f E:Nat,vi = .int .i64 x ∧ ve = .int .i64 E ∧ f ≤ z ∧ x ≤ p + 1 + 1 + f ∧ p + 1 + 1 + f ≤ x ∧ E ≤ 9999 ∧ Hid (E = mvs s (4 + m + 1) f)) (fun vi _ _ _ => s.size - (intOf vi).toNat)
     case atStart => exact ⟨rfl,rfl,p + 1 + 1,0,0,rfl,rfl,Nat.zero_le _,by omega,by omega,by omega,hide rfl⟩
     case round =>
      obtain ⟨hw,rfl,x,f,E,rfl,rfl,hf,f1,f2,hE,HE1⟩:=hrel
      subst hw
      rcases Nat.lt_or_ge f z with hfz | hfz
      ·have hxs:x < s.size:=by omega
       have ixs:(x:Int) < (s.size:Int):=by omega
       obtain ⟨y1,y2,y3⟩:=unhide HX f x hfz (by omega) hxs
       have y4:(((s[x]'hxs).toNat:Int) == 95) = false:=by rw [beq_eq_false_iff_ne];omega
       have hE2:E ≤ 999:=by
        have a:=unhide HE f hf
        rw [← unhide HE1] at a
        have:=Nat.pow_le_pow_right (by decide:0 < 10) (by omega:f ≤ 3)
        omega
       have HN:=hide (show E * 10 + ((s[x]'hxs).toNat - 48) = mvs s (4 + m + 1) (f + 1) from by
        rw [mvs,← y3,unhide HE1];omega)
       clear y3
       go_wp2
       go_roundw
       case rel => exact ⟨trivial,rfl,x + 1,f + 1,E * 10 + ((s[x]'hxs).toNat - 48),rfl,by congr 1;omega,by omega,by omega,by omega,by omega,HN⟩
       case measure => simp [intOf];omega
      ·have ixs:(s.size:Int) ≤ (x:Int):=by omega
       have hfe:f = z:=by omega
       have hxe:x = s.size:=by omega
       have HR:=hide (⟨hfe,hxe⟩:f = z ∧ x = s.size)
       clear hfe hxe
       cases B
       ·go_wp2
        simp only [Exit.noGoto_ret]
        refine bodyPost_ret (results_tmp7 rfl _ _ _) rfl ?_
        obtain ⟨r1,r2,r3,r4,r5⟩:=unhide R
        obtain ⟨r6,r7⟩:=unhide HR
        have r8:m = 0:=by simpa using r5
        refine ⟨?_,rfl⟩
        rw [r3,r4,r1,r7,if_pos r8]
        rfl
       ·go_wp2
        simp only [Exit.noGoto_ret]
        refine bodyPost_ret (results_tmp7 rfl _ _ _) rfl ?_
        obtain ⟨r1,r2,r3,r4,r5⟩:=unhide R
        obtain ⟨r6,r7⟩:=unhide HR
        have r8:m ≠ 0:=by simpa using r5
        refine ⟨?_,rfl⟩
        rw [r3,r4,r2,r1,r7,if_neg r8,unhide HE1,r6]
        congr 3
end Go.Proofs.YtdogjghalplohaaGreatDoor.fto
