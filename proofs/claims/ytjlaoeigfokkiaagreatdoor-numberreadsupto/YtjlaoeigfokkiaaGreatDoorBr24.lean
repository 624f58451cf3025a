import Derived.Test.YtjlaoeigfokkiaaGreatDoorBr23
import Derived.Deep.RegionHeld3
import Derived.Test.YtjlaoeigfokkiaaGreatDoorBr4
namespace Go.Proofs.YtjlaoeigfokkiaaGreatDoor.mem
open Go.ChangeShapes Go.WideShapes Go.ChangeAt Go.RowKit
open ints (hide unhide)
set_option linter.unusedVariables false
theorem plus_step {zs ys rs:List Int} {k C:Nat} {x y:Int} (hx:x = zs.getD k 0) (hy:y = ys.getD k 0) (hx0:0 ≤ x) (hy0:0 ≤ y) (hl:rs.length = k) (h:val rs + C * 2 ^ (32 * k) = vT zs k + vT ys k) {X:Int} (hX:X = C + x + y) :
  val (rs ++ [X % 4294967296]) + (X / 4294967296).toNat * 2 ^ (32 * (k + 1)) = vT zs (k + 1) + vT ys (k + 1):=by
 rw [val_snoc,hl,pow32]
 simp only [vT]
 rw [← hx,← hy]
 have e0:X.toNat = C + x.toNat + y.toNat:=by omega
 have e1:(X % 4294967296).toNat = X.toNat % 4294967296:=by omega
 have e2:(X / 4294967296).toNat = X.toNat / 4294967296:=by omega
 rw [e1,e2]
 have hdm:=Nat.div_add_mod X.toNat 4294967296
 generalize X.toNat / 4294967296 = q at *
 generalize X.toNat % 4294967296 = r at *
 generalize 2 ^ (32 * k) = p at *
 have e3:val rs + r * p + q * (4294967296 * p) = val rs + (4294967296 * q + r) * p:=by
  rw [Nat.add_mul,← Nat.mul_assoc q,Nat.mul_comm q 4294967296];omega
 rw [e3,hdm,e0,Nat.add_mul,Nat.add_mul]
 omega
set_option maxHeartbeats 2000000 in
theorem plus_any (a a':Option Addr) (n c n' c' N N':Nat) (w:World) (h:Big w a n c N) (h':Big w a' n' c' N') (hn:n ≤ 1099511627776) (hn':n' ≤ 1099511627776) :
  Calls Tryz.prog 127 #[.slice a n c,.slice a' n' c'] w fun e w' => ∃ a2 n2 c2,e = .returned (.slice a2 n2 c2) ∧ Big w' a2 n2 c2 (N + N') ∧ Below w.heap.size w w':=by
 obtain ⟨zs,r,hw,hnr,rfl⟩:=h
 obtain ⟨ys,r',hw',hnr',rfl⟩:=h'
 obtain ⟨i0,hi,hz0,hz1,hz2⟩:=info_parts infoU
 have HL:=hide r.len
 have HL':=hide r'.len
 obtain ⟨M,hM⟩:∃ M,M = max n n':=⟨_,rfl⟩
 have hM1:n ≤ M:=by omega
 have hM2:n' ≤ M:=by omega
 have hM3:M ≤ 1099511627776:=by omega
 clear hM
 go_enter Tryz.func127,Tryz.ntmps127
 go_wp2
 go_loopw [5,6,7] (fun r cv i wr => ∃ (k C:Nat) (rs:List Int),k ≤ M + 1 ∧ i = .int .i64 k ∧ cv = .int .u64 C ∧ C ≤ 1 ∧ (k = M + 1 → C = 0) ∧ wr.ownsRow w.heap.size 114 1 r k (rs.map (Value.int .u32)) ∧ Hid (wds rs ∧ rs.length = k ∧ val rs + C * 2 ^ (32 * k) = vT zs k + vT ys k) ∧ Below w.heap.size w wr) (fun _ _ i _ => M + 1 - (intOf i).toNat)
 case atStart => exact ⟨0,0,[],Nat.zero_le _,rfl,rfl,by omega,fun _ => rfl,World.ownsRow_nil _ _ _ _,hide ⟨wds_nil,rfl,by simp [val,vT]⟩,Below.refl _ _⟩
 case round =>
  obtain ⟨k,C,rs,hk,rfl,rfl,hC,hC0,hown,HV,hbel⟩:=hrel
  have hxb:=hw.at k
  have hyb:=hw'.at k
  have hsz:=hbel.size
  by_cases hx:k < n
  ·have xi:(k:Int) < (n:Int):=by omega
   rcases r.at_ with h0 | ⟨b,off,rfl,hbw,hcell⟩
   ·omega
   have c1:=(hbel.cell (p:=⟨b,off + k,none⟩) hbw).trans (hcell k hx)
   obtain ⟨x,hxe⟩:∃ x,x = zs.getD k 0:=⟨_,rfl⟩
   rw [← hxe] at c1 hxb
   have Hx:=hide hxe
   obtain ⟨hx0,hx1⟩:=hxb
   clear hxe hcell
   by_cases hy:k < n'
   ·have yi:(k:Int) < (n':Int):=by omega
    rcases r'.at_ with h0 | ⟨b',off',rfl,hbw',hcell'⟩
    ·omega
    have c2:=(hbel.cell (p:=⟨b',off' + k,none⟩) hbw').trans (hcell' k hy)
    obtain ⟨y,hye⟩:∃ y,y = ys.getD k 0:=⟨_,rfl⟩
    rw [← hye] at c2 hyb
    have Hy:=hide hye
    obtain ⟨hy0,hy1⟩:=hyb
    clear hye hcell'
    go_wp2_with (at_builtin;refine wpList_append_one _ rfl _ _ 86 rfl w.heap.size 114 i0 .u32 4 Tryz.underlying86 hi hz0 hz1 hz2 _ _ _ rfl hown _ rfl (by unfold maxLen;omega) (by omega) (by omega) ?_;intro v' wC hown' hbC)
    go_roundw
    case rel =>
     obtain ⟨v1,v2,v3⟩:=unhide HV
     refine ⟨k + 1,(((C:Int) + x + y) / 4294967296).toNat,rs ++ [((C:Int) + x + y) % 4294967296],by omega,by go_num,?_,by omega,by omega,by rw [List.map_append];exact hown',hide ⟨wds_snoc v1 (by omega),by simp [v2],plus_step (unhide Hx) (unhide Hy) hx0 hy0 v2 v3 (by omega)⟩,hbel.trans hbC⟩
     rw [Int.toNat_of_nonneg (by omega)]
    case measure => simp [intOf];omega
   ·have yi:¬ (k:Int) < (n':Int):=by omega
    have Hy:=hide (show (0:Int) = ys.getD k 0 from (getD_out (by rw [unhide HL'];omega)).symm)
    go_wp2_with (at_builtin;refine wpList_append_one _ rfl _ _ 86 rfl w.heap.size 114 i0 .u32 4 Tryz.underlying86 hi hz0 hz1 hz2 _ _ _ rfl hown _ rfl (by unfold maxLen;omega) (by omega) (by omega) ?_;intro v' wC hown' hbC)
    go_roundw
    case rel =>
     obtain ⟨v1,v2,v3⟩:=unhide HV
     refine ⟨k + 1,(((C:Int) + x) / 4294967296).toNat,rs ++ [((C:Int) + x) % 4294967296],by omega,by go_num,?_,by omega,by omega,by rw [List.map_append];exact hown',hide ⟨wds_snoc v1 (by omega),by simp [v2],plus_step (unhide Hx) (unhide Hy) hx0 (by omega) v2 v3 (by omega)⟩,hbel.trans hbC⟩
     rw [Int.toNat_of_nonneg (by omega)]
    case measure => simp [intOf];omega
  ·have xi:¬ (k:Int) < (n:Int):=by omega
   have Hx:=hide (show (0:Int) = zs.getD k 0 from (getD_out (by rw [unhide HL];omega)).symm)
   by_cases hy:k < n'
   ·have yi:(k:Int) < (n':Int):=by omega
    rcases r'.at_ with h0 | ⟨b',off',rfl,hbw',hcell'⟩
    ·omega
    have c2:=(hbel.cell (p:=⟨b',off' + k,none⟩) hbw').trans (hcell' k hy)
    obtain ⟨y,hye⟩:∃ y,y = ys.getD k 0:=⟨_,rfl⟩
    rw [← hye] at c2 hyb
    have Hy:=hide hye
    obtain ⟨hy0,hy1⟩:=hyb
    clear hye hcell'
    go_wp2_with (at_builtin;refine wpList_append_one _ rfl _ _ 86 rfl w.heap.size 114 i0 .u32 4 Tryz.underlying86 hi hz0 hz1 hz2 _ _ _ rfl hown _ rfl (by unfold maxLen;omega) (by omega) (by omega) ?_;intro v' wC hown' hbC)
    go_roundw
    case rel =>
     obtain ⟨v1,v2,v3⟩:=unhide HV
     refine ⟨k + 1,(((C:Int) + y) / 4294967296).toNat,rs ++ [((C:Int) + y) % 4294967296],by omega,by go_num,?_,by omega,by omega,by rw [List.map_append];exact hown',hide ⟨wds_snoc v1 (by omega),by simp [v2],plus_step (unhide Hx) (unhide Hy) (by omega) hy0 v2 v3 (by omega)⟩,hbel.trans hbC⟩
     rw [Int.toNat_of_nonneg (by omega)]
    case measure => simp [intOf];omega
   ·have yi:¬ (k:Int) < (n':Int):=by omega
    have Hy:=hide (show (0:Int) = ys.getD k 0 from (getD_out (by rw [unhide HL'];omega)).symm)
    by_cases hc:0 < C
    ·have ci:(0:Int) < (C:Int):=by omega
     have hkM:k ≤ M:=by omega
     go_wp2_with (at_builtin;refine wpList_append_one _ rfl _ _ 86 rfl w.heap.size 114 i0 .u32 4 Tryz.underlying86 hi hz0 hz1 hz2 _ _ _ rfl hown _ rfl (by unfold maxLen;omega) (by omega) (by omega) ?_;intro v' wC hown' hbC)
     go_roundw
     case rel =>
      obtain ⟨v1,v2,v3⟩:=unhide HV
      refine ⟨k + 1,((C:Int) / 4294967296).toNat,rs ++ [(C:Int) % 4294967296],by omega,by go_num,?_,by omega,by omega,by rw [List.map_append,show (C:Int) % 4294967296 = (C:Int) by omega];exact hown',hide ⟨wds_snoc v1 (by omega),by simp [v2],plus_step (unhide Hx) (unhide Hy) (by omega) (by omega) v2 v3 (by omega)⟩,hbel.trans hbC⟩
      rw [Int.toNat_of_nonneg (by omega)]
     case measure => simp [intOf];omega
    ·have ci:¬ (0:Int) < (C:Int):=by omega
     obtain ⟨v1,v2,v3⟩:=unhide HV
     have HE:=hide (show val rs = val zs + val ys from by
      rw [show C = 0 by omega,vT_ge (by rw [unhide HL];omega),vT_ge (by rw [unhide HL'];omega)] at v3
      omega)
     obtain ⟨aR,cR,rfl,rR⟩:=own_row hown
     clear v2 v3 HV hown Hx Hy
     go_wp2_with fail
     refine (trim_any aR k cR rs wr rR v1 (by omega)).mono ?_
     rintro e w1 ⟨m1,rfl,B1,b1⟩
     rw [unhide HE] at B1
     go_wp2
     go_ret
     exact ⟨aR,m1,cR,rfl,B1,hbel.trans (b1.mono hbel.size)⟩
theorem Big.zero {w:World} {a:Option Addr} {n c:Nat} (h:Big w a n c 0):n = 0:=by
 obtain ⟨zs,r,hw,hn,hv⟩:=h
 have:=val_zero hn hw hv
 rw [← r.len,this];rfl
theorem Big.nonzero {w:World} {a:Option Addr} {n c N:Nat} (h:Big w a n c N) (hn:n = 0):N = 0:=by
 obtain ⟨zs,r,hw,_,rfl⟩:=h
 have:zs = []:=List.eq_nil_of_length_eq_zero (by rw [r.len,hn])
 rw [this];rfl
theorem big_nil (w:World):Big w none 0 0 0:=⟨[],⟨rfl,Nat.le_refl _,fun _ => rfl,.inl rfl⟩,wds_nil,.inl rfl,rfl⟩
theorem pow_lt32 (k:Nat) (h:k < 32):2 ^ k < 4294967296:=by
 have:2 ^ k < 2 ^ 32:=(Nat.pow_lt_pow_iff_right (by decide)).2 h
 simpa using this
end Go.Proofs.YtjlaoeigfokkiaaGreatDoor.mem
namespace Go.Proofs.YtjlaoeigfokkiaaGreatDoor.mem
open Go.ChangeShapes Go.WideShapes Go.ChangeAt Go.RowKit
open ints (hide unhide)
set_option linter.unusedVariables false
theorem Big.lt {w:World} {a:Option Addr} {n c N:Nat} (h:Big w a n c N):N < 2 ^ (32 * n):=by
 obtain ⟨zs,r,hw,hn,rfl⟩:=h
 rw [← r.len];exact val_lt hw
theorem Big.pos {w:World} {a:Option Addr} {n c N:Nat} (h:Big w a n c N) (hn:n ≠ 0):0 < N:=by
 rcases Nat.eq_zero_or_pos N with e | e
 ·subst e;exact absurd h.zero hn
 ·exact e
theorem pow_mod (s:Nat) (h:s < 32):(2:Int) ^ s % 4294967296 = ((2 ^ s:Nat):Int):=by
 have e:(2:Int) ^ s = ((2 ^ s:Nat):Int):=by rw [Int.natCast_pow];rfl
 have:=pow_lt32 s h
 rw [e]
 generalize 2 ^ s = p at *
 omega
set_option maxRecDepth 4000 in
theorem up_any (a:Option Addr) (n c N k:Nat) (w:World) (h:Big w a n c N) (hn:n ≤ 1073741824) (hk:k ≤ 1073741824) :
  Calls Tryz.prog 102 #[.slice a n c,.int .i64 (k:Int)] w fun e w' => ∃ a2 n2 c2,e = .returned (.slice a2 n2 c2) ∧ Big w' a2 n2 c2 (N * 2 ^ k) ∧ Below w.heap.size w w':=by
 obtain ⟨i0,hi,hz0,hz1,hz2⟩:=info_parts infoU
 by_cases h0:n = 0
 ·have hN:=h.nonzero h0
  subst h0 hN
  go_enter Tryz.func102,Tryz.ntmps102
  go_wp2
  go_ret
  exact ⟨none,0,0,rfl,by rw [Nat.zero_mul];exact big_nil _,Below.refl _ _⟩
 ·have hni:((n:Int) == 0) = false:=by simp;omega
  obtain ⟨q,hq⟩:∃ q,q = k / 32:=⟨_,rfl⟩
  obtain ⟨s,hs⟩:∃ s,s = k % 32:=⟨_,rfl⟩
  have hkd:(k:Int) / 32 = (q:Int):=by omega
  have hkr:(k:Int) % 32 = (s:Int):=by omega
  have hs1:s < 32:=by omega
  have hq1:q ≤ 1073741824:=by omega
  have HK:=hide (show k = 32 * q + s by omega)
  clear hq hs
  go_enter Tryz.func102,Tryz.ntmps102
  go_wp2_with (refine wpList_make_full _ rfl _ _ 86 rfl w.heap.size 114 i0 (.int .u32 0) 1 Tryz.underlying86 hi hz0 hz1 .i64 .i64 _ _ q rfl rfl rfl rfl (by rw [hz2];omega) (by unfold maxLen;omega) (Nat.le_refl _) ?_;intro w1 hown hgrow)
  have hp2:=pow_mod s hs1
  have hp3:=pow_lt32 s hs1
  have hN0:=h.pos h0
  have hNl:=h.lt
  refine (times_big a n c N _ 0 w1 (h.below (belowNone hgrow)) (by rw [hp2];omega) (by omega) (by omega)).mono ?_
  rintro e w2 ⟨a2,n2,c2,rfl,B2,b2⟩
  rw [hp2] at B2
  have hval:N * (((2 ^ s:Nat):Int)).toNat + (0:Int).toNat = N * 2 ^ s:=by rw [Int.toNat_natCast];rfl
  rw [hval] at B2
  have hn2:n2 ≤ n + 1:=B2.len (by
   rw [pow32,Nat.mul_comm 4294967296]
   exact Nat.mul_lt_mul'' hNl hp3)
  have hNs:0 < N * 2 ^ s:=Nat.mul_pos hN0 (Nat.two_pow_pos s)
  obtain ⟨ys,r2,wy,ny,vy⟩:=B2
  have o2:=own_below hown b2
  rw [Nat.mul_one,show (Value.int IntKind.u32 0).cells = #[Value.int .u32 0] from rfl,toList_madeCells_one] at o2
  have hb2:=(belowNone hgrow).trans (b2.mono (belowNone hgrow).size)
  have hs2:=hb2.size
  have HF:=hide (show Big w2 a2 n2 c2 (N * 2 ^ s) from ⟨ys,r2,wy,ny,vy⟩)
  have HR:=hide (show val (List.replicate q 0 ++ ys) = N * 2 ^ k from by
   rw [val_append,val_noughts,vy,List.length_replicate,unhide HK,Nat.pow_add,Nat.zero_add,Nat.mul_assoc,Nat.mul_comm (2 ^ s)])
  have HNr:=hide (show nrm (List.replicate q 0 ++ ys) from nrm_append ny (by
   intro e
   rw [e,val_nil] at vy
   omega))
  clear hown hgrow b2 vy hval hp2 hNl hNs
  go_wp2_with (at_builtin;refine wpList_append_row _ rfl _ _ 86 rfl w.heap.size 114 i0 .u32 4 Tryz.underlying86 hi hz0 hz1 hz2 _ _ _ rfl o2 _ _ _ ys rfl r2 (by unfold maxLen;omega) (by omega) (by omega) ?_;intro v3 w3 o3 b3)
  go_ret
  obtain ⟨a3,c3,rfl,r3⟩:=own_row (zs:=List.replicate q 0 ++ ys) (k:=.u32) (by rw [List.map_append,List.map_replicate];exact o3)
  exact ⟨a3,q + n2,c3,rfl,⟨_,r3,wds_append (wds_noughts q) wy,unhide HNr,unhide HR⟩,hb2.trans b3⟩
end Go.Proofs.YtjlaoeigfokkiaaGreatDoor.mem
namespace Go.Proofs.YtjlaoeigfokkiaaGreatDoor.mem
open Go.ChangeShapes Go.WideShapes Go.ChangeAt Go.RowKit
open ints (hide unhide)
set_option linter.unusedVariables false
theorem times_len {w w':World} {a a2:Option Addr} {n c N n2 c2 M D:Nat} (h:Big w a n c N) (h2:Big w' a2 n2 c2 (N * M + D)) (hM:M < 4294967296) (hD:D < 4294967296):n2 ≤ n + 1:=by
 refine h2.len ?_
 have hl:=h.lt
 rw [pow32]
 have h3:(N + 1) * M ≤ 2 ^ (32 * n) * M:=Nat.mul_le_mul_right _ hl
 have h4:2 ^ (32 * n) * M ≤ 2 ^ (32 * n) * 4294967295:=Nat.mul_le_mul_left _ (by omega)
 have h5:N * M ≤ N * 4294967295:=Nat.mul_le_mul_left _ (by omega)
 have h6:(N + 1) * 4294967295 ≤ 2 ^ (32 * n) * 4294967295:=Nat.mul_le_mul_right _ hl
 rw [Nat.add_mul,Nat.one_mul] at h6
 generalize 2 ^ (32 * n) = p at *
 omega
theorem split32 (N m:Nat):N * (m % 4294967296) + N * (m / 4294967296) * 2 ^ 32 = N * m:=by
 have h:=Nat.div_add_mod m 4294967296
 have e:N * (m / 4294967296) * 2 ^ 32 = N * (4294967296 * (m / 4294967296)):=by
  rw [Nat.mul_assoc,Nat.mul_comm (m / 4294967296)]
 rw [e,Nat.add_comm,← Nat.mul_add,h]
theorem wide_any (a:Option Addr) (n c N m:Nat) (w:World) (h:Big w a n c N) (hn:n ≤ 1000000) (hm:m < 18446744073709551616) :
  Calls Tryz.prog 101 #[.slice a n c,.int .u64 (m:Int)] w fun e w' => ∃ a2 n2 c2,e = .returned (.slice a2 n2 c2) ∧ Big w' a2 n2 c2 (N * m) ∧ Below w.heap.size w w':=by
 have hmi:(m:Int) < 18446744073709551616:=by omega
 have hm0:(0:Int) ≤ (m:Int):=by omega
 have e1:((m:Int) % 4294967296).toNat = m % 4294967296:=by omega
 have e2:((m:Int) / 4294967296).toNat = m / 4294967296:=by omega
 have E1:=hide e1
 have E2:=hide e2
 clear e1 e2
 go_enter Tryz.func101,Tryz.ntmps101
 go_wp2_with fail
 refine (times_big a n c N ((m:Int) % 4294967296) 0 w h (by omega) (by omega) (by omega)).mono ?_
 rintro e w1 ⟨a1,n1,c1,rfl,B1,b1⟩
 have hl1:=times_len h B1 (by omega) (by decide)
 rw [unhide E1,show (0:Int).toNat = 0 from rfl,Nat.add_zero] at B1
 go_wp2_with fail
 refine (times_big a n c N ((m:Int) / 4294967296) 0 w1 (h.below b1) (by omega) (by omega) (by omega)).mono ?_
 rintro e w2 ⟨a2,n2,c2,rfl,B2,b2⟩
 have hl2:=times_len (h.below b1) B2 (by omega) (by decide)
 rw [unhide E2,show (0:Int).toNat = 0 from rfl,Nat.add_zero] at B2
 have B12:=B1.below b2
 have hb2:=b1.trans (b2.mono b1.size)
 clear b1 b2 B1
 go_wp2_with fail
 refine (up_any a2 n2 c2 _ 32 w2 B2 (by omega) (by omega)).mono ?_
 rintro e w3 ⟨a3,n3,c3,rfl,B3,b3⟩
 have hl3:n3 ≤ n2 + 1:=B3.len (by
  rw [pow32]
  have:=B2.lt
  generalize 2 ^ (32 * n2) = p at *
  omega)
 have B13:=B12.below b3
 have hb3:=hb2.trans (b3.mono hb2.size)
 clear b3 B2 B12
 go_wp2_with fail
 refine (plus_any a1 a3 n1 c1 n3 c3 _ _ w3 B13 B3 (by omega) (by omega)).mono ?_
 rintro e w4 ⟨a4,n4,c4,rfl,B4,b4⟩
 rw [split32] at B4
 go_wp2
 go_ret
 exact ⟨a4,n4,c4,rfl,B4,hb3.trans (b4.mono hb3.size)⟩
theorem up_len {w w':World} {a a2:Option Addr} {n c N n2 c2 k:Nat} (h:Big w a n c N) (h2:Big w' a2 n2 c2 (N * 2 ^ k)):n2 ≤ n + k:=by
 refine h2.len ?_
 have hl:=h.lt
 have:N * 2 ^ k < 2 ^ (32 * n) * 2 ^ k:=Nat.mul_lt_mul_of_pos_right hl (Nat.two_pow_pos k)
 rw [← Nat.pow_add] at this
 exact Nat.lt_of_lt_of_le this (Nat.pow_le_pow_right (by decide) (by omega))
theorem wide_len {w w':World} {a a2:Option Addr} {n c N n2 c2 m:Nat} (h:Big w a n c N) (h2:Big w' a2 n2 c2 (N * m)) (hm:m < 18446744073709551616):n2 ≤ n + 2:=by
 refine h2.len ?_
 have hl:=h.lt
 have:N * m ≤ 2 ^ (32 * n) * m:=Nat.mul_le_mul_right _ (Nat.le_of_lt hl)
 have h3:2 ^ (32 * n) * m < 2 ^ (32 * n) * 2 ^ 64:=Nat.mul_lt_mul_of_pos_left hm (Nat.two_pow_pos _)
 rw [← Nat.pow_add,show 32 * n + 64 = 32 * (n + 2) by omega] at h3
 omega
set_option maxRecDepth 4000 in
theorem against_pos (aT aB:Option Addr) (nT cT nB cB T B m e:Nat) (w:World) (hT:Big w aT nT cT T) (hB:Big w aB nB cB B) (hnT:nT ≤ 100000) (hnB:nB ≤ 100000) (hm:m < 18446744073709551616) (he:e ≤ 100000) :
  Calls Tryz.prog 74 #[.agg #[.slice aT nT cT,.slice aB nB cB],.int .u64 (m:Int),.int .i64 (e:Int)] w fun x w' => x = .returned (.int .i64 (cmpN T (B * m * 2 ^ e))) ∧ Below w.heap.size w w':=by
 have hei:(0:Int) ≤ (e:Int):=by omega
 have hW:=(Below.refl w.heap.size w).alloc (Nat.le_refl _) (.cells #[.slice aT nT cT,.slice aB nB cB] 88)
 have kT:(w.alloc (.cells #[.slice aT nT cT,.slice aB nB cB] 88)).cell? ⟨w.heap.size,0,none⟩ = some (.slice aT nT cT):=by simp
 have HT:=hide hT
 have KT:=hide kT
 clear kT
 go_enter Tryz.func74,Tryz.ntmps74
 go_wp2_with fail
 refine (wide_any aB nB cB B m _ (hB.below hW) (by omega) hm).mono ?_
 rintro x w1 ⟨a1,n1,c1,rfl,B1,b1⟩
 have hl1:=wide_len hB B1 hm
 have k1:=(b1.cell (p:=⟨w.heap.size,0,none⟩) (by simp)).trans (unhide KT)
 have hb1:=hW.trans (b1.mono (by simp))
 clear b1 KT hW
 go_wp2_with fail
 refine (up_any a1 n1 c1 _ e w1 B1 (by omega) (by omega)).mono ?_
 rintro x w2 ⟨a2,n2,c2,rfl,B2,b2⟩
 have hl2:=up_len B1 B2
 have hb2:=hb1.trans (b2.mono hb1.size)
 clear b2 k1
 go_wp2_with fail
 refine (order_any aT a2 nT cT n2 c2 T _ w2 ((unhide HT).below hb2) B2 (by omega) (by omega)).mono ?_
 rintro x w3 ⟨rfl,b3⟩
 go_wp2
 go_ret
 exact ⟨rfl,hb2.trans (b3.mono hb2.size)⟩
set_option maxRecDepth 4000 in
theorem against_neg (aT aB:Option Addr) (nT cT nB cB T B m e:Nat) (w:World) (hT:Big w aT nT cT T) (hB:Big w aB nB cB B) (hnT:nT ≤ 100000) (hnB:nB ≤ 100000) (hm:m < 18446744073709551616) (he:e ≤ 100000) (he0:0 < e) :
  Calls Tryz.prog 74 #[.agg #[.slice aT nT cT,.slice aB nB cB],.int .u64 (m:Int),.int .i64 (-(e:Int))] w fun x w' => x = .returned (.int .i64 (cmpN (T * 2 ^ e) (B * m))) ∧ Below w.heap.size w w':=by
 have hei:¬ (0:Int) ≤ -(e:Int):=by omega
 have hW:=(Below.refl w.heap.size w).alloc (Nat.le_refl _) (.cells #[.slice aT nT cT,.slice aB nB cB] 88)
 have kT:(w.alloc (.cells #[.slice aT nT cT,.slice aB nB cB] 88)).cell? ⟨w.heap.size,0,none⟩ = some (.slice aT nT cT):=by simp
 have HT:=hide hT
 have KT:=hide kT
 clear kT
 go_enter Tryz.func74,Tryz.ntmps74
 go_wp2_with fail
 refine (wide_any aB nB cB B m _ (hB.below hW) (by omega) hm).mono ?_
 rintro x w1 ⟨a1,n1,c1,rfl,B1,b1⟩
 have hl1:=wide_len hB B1 hm
 have k1:=(b1.cell (p:=⟨w.heap.size,0,none⟩) (by simp)).trans (unhide KT)
 have hb1:=hW.trans (b1.mono (by simp))
 clear b1 KT hW
 go_wp2_with fail
 have eneg:- -(e:Int) = (e:Int):=by omega
 try rw [eneg]
 refine (up_any aT nT cT T e w1 ((unhide HT).below hb1) (by omega) (by omega)).mono ?_
 rintro x w2 ⟨a2,n2,c2,rfl,B2,b2⟩
 have hl2:=up_len hT B2
 have B1:=B1.below b2
 have hb2:=hb1.trans (b2.mono hb1.size)
 clear b2 k1
 go_wp2_with fail
 refine (order_any a2 a1 n2 c2 n1 c1 _ _ w2 B2 B1 (by omega) (by omega)).mono ?_
 rintro x w3 ⟨rfl,b3⟩
 go_wp2
 go_ret
 exact ⟨rfl,hb2.trans (b3.mono hb2.size)⟩
end Go.Proofs.YtjlaoeigfokkiaaGreatDoor.mem
namespace Go.Proofs.YtjlaoeigfokkiaaGreatDoor.mem
open Go.ChangeShapes Go.WideShapes Go.ChangeAt Go.RowKit
open ints (hide unhide)
set_option linter.unusedVariables false
theorem and52 (r:Nat) (h:r < 18446744073709551616):bits .and .u64 (r:Int) 4503599627370495 = ((r % 4503599627370496:Nat):Int):=by
 have:=u64_and_nat r 4503599627370495 (by omega) (by omega)
 rw [nat_mask52] at this
 exact this
theorem and2047 (r:Nat) (h:r < 18446744073709551616):bits .and .u64 (r:Int) 2047 = ((r % 2048:Nat):Int):=by
 have:=u64_and_nat r 2047 (by omega) (by omega)
 rw [nat_mask11] at this
 exact this
theorem or52 (t:Nat) (h:t < 4503599627370496):bits .or .u64 (t:Int) 4503599627370496 = ((4503599627370496 + t:Nat):Int):=by
 have:=u64_or_nat t 4503599627370496 (by omega) (by omega)
 rw [show (t ||| 4503599627370496) = 4503599627370496 + t from by
  rw [Nat.or_comm,show (4503599627370496:Nat) = 2 ^ 52 * 1 from rfl,Nat.two_pow_add_eq_or_of_lt (by omega)]] at this
 exact this
theorem splitX (r:Nat) (h:r < 9223372036854775808):wrap64 (bits .and .u64 ((r:Int) / 4503599627370496) 2047) = ((r / 4503599627370496:Nat):Int):=by
 have e3:(r:Int) / 4503599627370496 = ((r / 4503599627370496:Nat):Int):=by omega
 rw [e3,and2047 _ (by omega),Nat.mod_eq_of_lt (by omega)]
 have:r / 4503599627370496 < 2048:=by omega
 exact IntWalk.wrap64_in _ ⟨by omega,by omega⟩
theorem split_raw (r:Int) (w:World) :
  Calls Tryz.prog 73 #[.int .u64 r] w fun e w' => (e = .returned (if (wrap64 (bits .and .u64 (r / 4503599627370496) 2047) == 0) = true then .tuple #[.int .u64 (bits .and .u64 r 4503599627370495),.int .i64 (-1074)]
   else .tuple #[.int .u64 (bits .or .u64 (bits .and .u64 r 4503599627370495) 4503599627370496),.int .i64 (wrap64 (wrap64 (bits .and .u64 (r / 4503599627370496) 2047) - 1075))])) ∧ w' = w:=by
 cases hx:(wrap64 (bits .and .u64 (r / 4503599627370496) 2047) == 0)
 ·go_enter Tryz.func73,Tryz.ntmps73
  go_wp2
  go_ret2
  exact ⟨rfl,rfl⟩
 ·go_enter Tryz.func73,Tryz.ntmps73
  go_wp2
  go_ret2
  exact ⟨rfl,rfl⟩
theorem split_any (r:Nat) (w:World) (h:r < 9223372036854775808) :
  Calls Tryz.prog 73 #[.int .u64 (r:Int)] w fun e w' => e = .returned (.tuple #[.int .u64 (mantR r:Nat),.int .i64 ((exR r:Int) - 1074)]) ∧ w' = w:=by
 have hraw:=split_raw (r:Int) w
 rw [splitX r h,and52 r (by omega),or52 _ (by omega)] at hraw
 refine hraw.mono ?_
 rintro e w' ⟨rfl,rfl⟩
 refine ⟨?_,rfl⟩
 have hm:r / 4503599627370496 < 2048:=by omega
 unfold mantR exR b52
 by_cases h0:r < 4503599627370496
 ·have e0:r / 4503599627370496 = 0:=by omega
  rw [if_pos h0,e0,if_pos (by simp),Nat.mod_eq_of_lt h0]
  rfl
 ·have e0:r / 4503599627370496 ≠ 0:=by omega
  rw [if_neg h0,if_neg (by simp;omega)]
  have e1:wrap64 (((r / 4503599627370496:Nat):Int) - 1075) = ((r / 4503599627370496 - 1:Nat):Int) - 1074:=by
   generalize r / 4503599627370496 = x at *
   have:wrap64 ((x:Int) - 1075) = (x:Int) - 1075:=IntWalk.wrap64_in _ ⟨by omega,by omega⟩
   rw [this];omega
  rw [e1]
end Go.Proofs.YtjlaoeigfokkiaaGreatDoor.mem
namespace Go.Proofs.YtjlaoeigfokkiaaGreatDoor.mem
open Go.ChangeShapes Go.WideShapes Go.ChangeAt Go.RowKit
open ints (hide unhide)
set_option linter.unusedVariables false
theorem cmpN_mul (a b k:Nat) (hk:0 < k):cmpN (a * k) (b * k) = cmpN a b:=by
 unfold cmpN
 simp only [Nat.mul_lt_mul_right hk]
theorem mantR_lt (r:Nat):mantR r < 9007199254740992:=by
 unfold mantR b52
 split
 ·omega
 ·have:=Nat.mod_lt r (show 4503599627370496 > 0 by decide)
  omega
theorem against_at (aT aB:Option Addr) (nT cT nB cB T B r:Nat) (w:World) (hT:Big w aT nT cT T) (hB:Big w aB nB cB B) (hnT:nT ≤ 50000) (hnB:nB ≤ 50000) (hr:r < 9223372036854775808) :
  Calls Tryz.prog 74 #[.agg #[.slice aT nT cT,.slice aB nB cB],.int .u64 (mantR r:Nat),.int .i64 ((exR r:Int) - 1074)] w fun x w' => x = .returned (.int .i64 (cmpN (T * k74) (B * vR r))) ∧ Below w.heap.size w w':=by
 have hm:=mantR_lt r
 have he:exR r ≤ 2047:=by unfold exR b52;omega
 by_cases h:1074 ≤ exR r
 ·have e1:(exR r:Int) - 1074 = ((exR r - 1074:Nat):Int):=by omega
  rw [e1]
  refine (against_pos aT aB nT cT nB cB T B (mantR r) (exR r - 1074) w hT hB (by omega) (by omega) (by omega) (by omega)).mono ?_
  rintro x w' ⟨rfl,b⟩
  refine ⟨?_,b⟩
  have e2:B * vR r = B * mantR r * 2 ^ (exR r - 1074) * k74:=by
   unfold vR k74
   rw [Nat.mul_assoc (B * mantR r),← Nat.pow_add,show exR r - 1074 + (52 + e22) = exR r from by rw [e22_eq];omega,Nat.mul_assoc]
  rw [e2,cmpN_mul _ _ _ (by unfold k74;exact Nat.two_pow_pos _)]
 ·have e1:(exR r:Int) - 1074 = -((1074 - exR r:Nat):Int):=by omega
  rw [e1]
  refine (against_neg aT aB nT cT nB cB T B (mantR r) (1074 - exR r) w hT hB (by omega) (by omega) (by omega) (by omega) (by omega)).mono ?_
  rintro x w' ⟨rfl,b⟩
  refine ⟨?_,b⟩
  have e2:T * k74 = T * 2 ^ (1074 - exR r) * 2 ^ exR r:=by
   unfold k74
   rw [Nat.mul_assoc,← Nat.pow_add,show 1074 - exR r + exR r = 52 + e22 from by rw [e22_eq];omega]
  have e3:B * vR r = B * mantR r * 2 ^ exR r:=by unfold vR;rw [Nat.mul_assoc]
  rw [e2,e3,cmpN_mul _ _ _ (Nat.two_pow_pos _)]
theorem against_half (aT aB:Option Addr) (nT cT nB cB T B r:Nat) (w:World) (hT:Big w aT nT cT T) (hB:Big w aB nB cB B) (hnT:nT ≤ 50000) (hnB:nB ≤ 50000) (hr:r < 9223372036854775808) :
  Calls Tryz.prog 74 #[.agg #[.slice aT nT cT,.slice aB nB cB],.int .u64 ((2 * mantR r + 1:Nat):Int),.int .i64 ((exR r:Int) - 1075)] w fun x w' => x = .returned (.int .i64 (cmpN (2 * (T * k74)) (B * (2 * vR r + 2 ^ exR r)))) ∧ Below w.heap.size w w':=by
 have hm:=mantR_lt r
 have he:exR r ≤ 2047:=by unfold exR b52;omega
 have e5:B * (2 * vR r + 2 ^ exR r) = B * (2 * mantR r + 1) * 2 ^ exR r:=by
  unfold vR
  rw [Nat.mul_assoc B,Nat.add_mul (2 * mantR r),Nat.one_mul,Nat.mul_assoc 2]
 by_cases h:1075 ≤ exR r
 ·have e1:(exR r:Int) - 1075 = ((exR r - 1075:Nat):Int):=by omega
  rw [e1]
  refine (against_pos aT aB nT cT nB cB T B (2 * mantR r + 1) (exR r - 1075) w hT hB (by omega) (by omega) (by omega) (by omega)).mono ?_
  rintro x w' ⟨rfl,b⟩
  refine ⟨?_,b⟩
  have e2:2 * (T * k74) = T * 2 ^ (52 + e22 + 1):=by
   have:2 ^ (52 + e22 + 1) = k74 * 2:=by unfold k74;rw [← Nat.pow_succ]
   rw [this,← Nat.mul_assoc T k74 2,Nat.mul_comm 2]
  have e3:B * (2 * mantR r + 1) * 2 ^ exR r = B * (2 * mantR r + 1) * 2 ^ (exR r - 1075) * 2 ^ (52 + e22 + 1):=by
   rw [Nat.mul_assoc _ (2 ^ (exR r - 1075)),← Nat.pow_add,show exR r - 1075 + (52 + e22 + 1) = exR r from by rw [e22_eq];omega]
  rw [e5,e2,e3,cmpN_mul _ _ _ (Nat.two_pow_pos _)]
 ·have e1:(exR r:Int) - 1075 = -((1075 - exR r:Nat):Int):=by omega
  rw [e1]
  refine (against_neg aT aB nT cT nB cB T B (2 * mantR r + 1) (1075 - exR r) w hT hB (by omega) (by omega) (by omega) (by omega) (by omega)).mono ?_
  rintro x w' ⟨rfl,b⟩
  refine ⟨?_,b⟩
  have e2:2 * (T * k74) = T * 2 ^ (1075 - exR r) * 2 ^ exR r:=by
   have:2 ^ (1075 - exR r) * 2 ^ exR r = k74 * 2:=by unfold k74;rw [← Nat.pow_add,← Nat.pow_succ,show 1075 - exR r + exR r = 52 + e22 + 1 from by rw [e22_eq];omega]
   rw [Nat.mul_assoc,this,← Nat.mul_assoc T,Nat.mul_comm 2]
  rw [e5,e2,cmpN_mul _ _ _ (Nat.two_pow_pos _)]
theorem lo_iff {P B lo mid:Nat} (h:Lo P B lo):B * vR mid ≤ P ↔ mid ≤ lo:=by
 constructor
 ·intro h1
  rcases Nat.lt_or_ge lo mid with h2 | h2
  ·have h3:=Nat.mul_le_mul_left B (vR_mono_le (show lo + 1 ≤ mid from h2))
   have:=h.2
   omega
  ·exact h2
 ·intro h1
  exact Nat.le_trans (Nat.mul_le_mul_left B (vR_mono_le h1)) h.1
theorem mantR_odd (r:Nat):mantR r % 2 = r % 2:=by
 unfold mantR b52
 split <;> omega
theorem splitq (r:Nat) (q:Int) (hq:q = (r:Int)) (w:World) (h:r < 9223372036854775808) :
  Calls Tryz.prog 73 #[.int .u64 q] w fun e w' => e = .returned (.tuple #[.int .u64 (mantR r:Nat),.int .i64 ((exR r:Int) - 1074)]) ∧ w' = w:=by
 subst hq;exact split_any r w h
theorem halfq (aT aB:Option Addr) (nT cT nB cB T B r:Nat) (q e:Int) (hq:q = ((2 * mantR r + 1:Nat):Int)) (he:e = (exR r:Int) - 1075) (w:World) (hT:Big w aT nT cT T) (hB:Big w aB nB cB B) (hnT:nT ≤ 50000) (hnB:nB ≤ 50000) (hr:r < 9223372036854775808) :
  Calls Tryz.prog 74 #[.agg #[.slice aT nT cT,.slice aB nB cB],.int .u64 q,.int .i64 e] w fun x w' => x = .returned (.int .i64 (cmpN (2 * (T * k74)) (B * (2 * vR r + 2 ^ exR r)))) ∧ Below w.heap.size w w':=by
 subst hq he;exact against_half aT aB nT cT nB cB T B r w hT hB hnT hnB hr
end Go.Proofs.YtjlaoeigfokkiaaGreatDoor.mem
