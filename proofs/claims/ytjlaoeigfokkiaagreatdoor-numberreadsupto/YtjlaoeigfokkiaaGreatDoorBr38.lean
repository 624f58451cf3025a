import Derived.Test.YtjlaoeigfokkiaaGreatDoorBr36
import Derived.Test.YtjlaoeigfokkiaaGreatDoorBr37
import Derived.Test.YtjlaoeigfokkiaaGreatDoorBr28
import Derived.Test.YtjlaoeigfokkiaaGreatDoorBr15
import Derived.Test.YtjlaoeigfokkiaaGreatDoorBr16
namespace Go.Proofs.YtjlaoeigfokkiaaGreatDoor.dcm
open Go.ChangeShapes Go.WideShapes Go.ChangeAt Go.RowKit
open mem fto
open ints (hide unhide)
set_option linter.unusedVariables false
set_option linter.unusedSimpArgs false
theorem trs_noughts {s:ByteArray} {a:Nat}:∀ i,trs s a (19 + i) = false → mvs s a (19 + i) = mvs s a 19 * 10 ^ i
 | 0,_ => by simp
 | i + 1,h => by
  have h1:trs s a (19 + i) = false ∧ (decide (19 ≤ 19 + i) && decide (bz s (a + (19 + i)) ≠ 48)) = false:=by
   have:trs s a (19 + i + 1) = false:=h
   rw [trs,Bool.or_eq_false_iff] at this
   exact this
  have h2:bz s (a + (19 + i)) = 48:=by
   have:=h1.2
   simpa using this
  show mvs s a (19 + i) * 10 + (bz s (a + (19 + i)) - 48).toNat = _
  rw [trs_noughts i h1.1,h2,Nat.pow_succ]
  simp [Nat.mul_assoc]
def n345:Nat:=345
theorem low_345:2 * (18446744073709551616 * k74) < 10 ^ n345:=by decide +kernel
theorem vR_one:vR 1 = 1:=by decide
theorem round_none {P B lo:Nat} (h:Lo P B lo) (hB:0 < B) (hs:2 * P < B):roundR P B lo = 0:=by
 have h0:lo = 0:=by
  rcases Nat.eq_zero_or_pos lo with g | g
  ·exact g
  ·exfalso
   have h1:=Nat.mul_le_mul_left B (vR_mono_le g)
   have h2:=h.1
   rw [vR_one] at h1
   omega
 subst h0
 unfold roundR
 rw [vR_zero,if_neg]
 have e:exR 0 = 0:=by decide
 rw [e]
 rintro (c | ⟨c,-⟩) <;> omega
set_option maxRecDepth 10000 in
theorem atof_all (k:Nat) (s:ByteArray) (m g z:Nat) (e:Int) (h:Ntx s k m g z) (hk:k ≤ 1) (hm:1 ≤ m)
  (he:e = if g = 1 then - (mvs s (k + 3 + m + g) z:Int) else (mvs s (k + 3 + m + g) z:Int)) (w:World) (hF:Fy w) (hSl:Slow w w.heap.size) :
  ∃ lo,Lo (mvs s (k + 2) m * 10 ^ (e - m).toNat * k74) (10 ^ (-(e - m)).toNat) lo ∧
   Calls Tryz.prog 126 #[.string s] w fun ed w' => ed = .returned (.tuple #[.float .f64 (k * 9223372036854775808 + cpR (roundR (mvs s (k + 2) m * 10 ^ (e - m).toNat * k74) (10 ^ (-(e - m)).toNat) lo)),.int .i64 s.size,erR (roundR (mvs s (k + 2) m * 10 ^ (e - m).toNat * k74) (10 ^ (-(e - m)).toNat) lo)]) ∧ Below w.heap.size w w':=by
 have hsz1:s.size ≤ 2000000:=by have:=h.sz;have:=h.m1;have:=h.z1;have:=h.g1;omega
 have hsz2:k + 4 ≤ s.size:=by have:=h.sz;have:=h.z0;omega
 have hBq:0 < 10 ^ (-(e - m)).toNat:=Nat.pow_pos (by decide)
 obtain ⟨c,hc⟩:∃ c,c = min m 19:=⟨_,rfl⟩
 obtain ⟨j,hj⟩:∃ j,m = c + j:=⟨m - c,by omega⟩
 have hpq:e - c = (e - m) + (j:Int):=by omega
 obtain ⟨d,hd⟩:∃ d,d = mvs s (k + 2) c:=⟨_,rfl⟩
 have f1:49 ≤ bz s (k + 2):=by have a1:=h.bf (by omega);have a2:=h.bd 0 (by omega);rw [Nat.add_zero] at a2;omega
 have hd0:1 ≤ d:=by rw [hd];exact mvs_pos s (k + 2) f1 _ (by omega)
 have hd1:d < 10000000000000000000:=by
  rw [hd]
  exact Nat.lt_of_lt_of_le (mvs_lt s (k + 2) m h.bd c (by omega)) (Nat.le_trans (Nat.pow_le_pow_right (by decide) (show c ≤ 19 by omega)) (by decide))
 obtain ⟨r,hr,hrj⟩:=dvN_split (tdec_ok h.bd) c j
 rw [tdec_dv h.bd c (by omega),tdec_dv h.bd (c + j) (by omega),← hj,← hd] at hr
 have hS2:k * 9223372036854775808 = 0 ∨ k * 9223372036854775808 = 9223372036854775808:=by omega
 obtain ⟨ng,hng⟩:∃ ng:Bool,ng = decide (k = 1):=⟨_,rfl⟩
 have hSn:k * 9223372036854775808 = if ng then 9223372036854775808 else 0:=by
  rw [hng]
  have:k = 0 ∨ k = 1:=by omega
  rcases this with rfl | rfl <;> rfl
 have m0':¬ m = 0:=by omega
 have SP:Calls Tryz.prog 146 #[.string s] w fun e w' => e = .returned (.tuple #[.float .f64 0,.int .i64 0,.bool false]) ∧ w' = w:=by
  have:k = 0 ∨ k = 1:=by omega
  rcases this with rfl | rfl
  ·exact special0 s w (by omega) (by rw [← bz_at];exact h.b1)
  ·exact special1 s w (by omega) hsz1 (by omega) (by rw [← bz_at];exact h.b0 rfl) (by rw [← bz_at];exact h.b1)
 have RF:Calls Tryz.prog 147 #[.string s] w fun ed w' => ed = .returned (.tuple #[.int .u64 d,.int .i64 (e - c),.bool ng,.bool (trs s (k + 2) m),.bool false,.int .i64 s.size,.bool true]) ∧ w' = w:=by
  have:k = 0 ∨ k = 1:=by omega
  rcases this with rfl | rfl
  ·have RF:=readF0 s m g z w h
   rw [if_neg m0',← hc,← hd,← he] at RF
   rw [hng];exact RF
  ·have RF:=readF1 s m g z w h
   rw [if_neg m0',← hc,← hd,← he] at RF
   rw [hng];exact RF
 by_cases hhi:310 < e - c
 ·obtain ⟨lo,hlo⟩:=lo_some (mvs s (k + 2) m * 10 ^ (e - m).toNat * k74) hBq
  refine ⟨lo,hlo,?_⟩
  have hinf:infR ≤ roundR (mvs s (k + 2) m * 10 ^ (e - m).toNat * k74) (10 ^ (-(e - m)).toNat) lo:=by
   refine round_inf hlo hBq ?_
   have hx:=cross_le (d:=d) (N:=mvs s (k + 2) m) (j:=j) (q:=e - m) (by rw [hr];omega)
   rw [← hpq,show (-(e - c)).toNat = 0 by omega,Nat.pow_zero,Nat.mul_one] at hx
   refine Nat.le_trans ?_ hx
   rw [Nat.mul_comm]
   refine Nat.mul_le_mul_right _ (Nat.le_trans inf_310 (Nat.mul_le_mul_right _ ?_))
   have h7:1 * 10 ^ n31 ≤ d * 10 ^ (e - c).toNat:=Nat.mul_le_mul hd0 (Nat.pow_le_pow_right (by decide) (by have:n31 = 310:=rfl;omega))
   rw [Nat.one_mul] at h7
   exact h7
  refine (atof_high s d _ s.size (e - c) ng _ w hSn hd0 hhi (by omega) hF.opt SP RF).mono ?_
  rintro ed w' ⟨rfl,hb⟩
  unfold cpR erR
  rw [if_neg (by omega),if_neg (by omega)]
  exact ⟨rfl,hb⟩
 by_cases hlow:e - c < -345
 ·obtain ⟨lo,hlo⟩:=lo_some (mvs s (k + 2) m * 10 ^ (e - m).toNat * k74) hBq
  refine ⟨lo,hlo,?_⟩
  have hz:roundR (mvs s (k + 2) m * 10 ^ (e - m).toNat * k74) (10 ^ (-(e - m)).toNat) lo = 0:=by
   refine round_none hlo hBq ?_
   have hx:=cross_ge (d:=d + 1) (N:=mvs s (k + 2) m) (j:=j) (q:=e - m) (by rw [hr,Nat.add_mul];omega)
   rw [← hpq,show (e - c).toNat = 0 by omega,Nat.pow_zero,Nat.mul_one] at hx
   have h8:10 ^ n345 ≤ 10 ^ (-(e - c)).toNat:=Nat.pow_le_pow_right (by decide) (by have:n345 = 345:=rfl;omega)
   have h9:2 * ((d + 1) * k74) ≤ 2 * (18446744073709551616 * k74):=Nat.mul_le_mul_left 2 (Nat.mul_le_mul_right _ (by omega))
   have h10:=low_345
   have h11:0 < 10 ^ (-(e - c)).toNat:=Nat.pow_pos (by decide)
   generalize mvs s (k + 2) m * 10 ^ (e - m).toNat * k74 = P at *
   generalize 10 ^ (-(e - m)).toNat = B at *
   generalize 10 ^ (-(e - c)).toNat = T at *
   generalize 10 ^ n345 = T0 at *
   generalize 2 * (18446744073709551616 * k74) = Z at *
   have h12:2 * P * T ≤ 2 * ((d + 1) * k74) * B:=by rw [Nat.mul_assoc,Nat.mul_assoc];exact Nat.mul_le_mul_left 2 hx
   have h13:2 * ((d + 1) * k74) * B < T * B:=Nat.mul_lt_mul_of_pos_right (by omega) hBq
   exact Nat.lt_of_mul_lt_mul_right (a:=T) (by rw [Nat.mul_comm B];omega)
  refine (atof_low s d _ s.size (e - c) ng _ w hSn hd0 hlow (by omega) hF.opt SP RF).mono ?_
  rintro ed w' ⟨rfl,hb⟩
  rw [hz]
  have q1:cpR 0 = 0:=by unfold cpR;rw [if_pos (by decide)]
  have q2:erR 0 = .nilIface:=by unfold erR;rw [if_pos (by decide)]
  rw [q1,q2,Nat.add_zero]
  exact ⟨rfl,hb⟩
 have hp:-345 ≤ e - c ∧ e - c ≤ 310:=by omega
 cases ht:trs s (k + 2) m with
 | true =>
  have h19:20 ≤ m:=by
   rcases Nat.lt_or_ge m 20 with q | q
   ·rw [trs_small s (k + 2) m (by omega)] at ht;cases ht
   ·exact q
  have hc19:c = 19:=by omega
  rw [hc19] at hp
  exact atof_cut k s m g z e h hk h19 ht he hp w hF hSl
 | false =>
  rw [ht] at RF
  have hN:mvs s (k + 2) m = d * 10 ^ j:=by
   rcases Nat.lt_or_ge m 19 with q | q
   ·have:c = m:=by omega
    have hj0:j = 0:=by omega
    rw [hj0,Nat.pow_zero,Nat.mul_one,hd,this]
   ·have hc19:c = 19:=by omega
    have:=trs_noughts (s:=s) (a:=k + 2) j (by rw [← hc19,← hj];exact ht)
    rw [← hc19,← hj,← hd] at this
    exact this
  obtain ⟨lo0,hlo0,PA⟩:=parse_full d (k * 9223372036854775808) (e - c) hd0 (by omega) hp hS2
  obtain ⟨lo,hlo⟩:=lo_some (mvs s (k + 2) m * 10 ^ (e - m).toNat * k74) hBq
  have hBp:0 < 10 ^ (-(e - c)).toNat:=Nat.pow_pos (by decide)
  have eR:roundR (d * 10 ^ (e - c).toNat * k74) (10 ^ (-(e - c)).toNat) lo0 = roundR (mvs s (k + 2) m * 10 ^ (e - m).toNat * k74) (10 ^ (-(e - m)).toNat) lo:=by
   refine Nat.le_antisymm (round_mono hBp hBq hlo0 hlo ?_) (round_mono hBq hBp hlo hlo0 ?_)
   ·rw [hpq];exact cross_le (by rw [hN];exact Nat.le_refl _)
   ·rw [hpq];exact cross_ge (by rw [hN];exact Nat.le_refl _)
  refine ⟨lo,hlo,?_⟩
  rw [← eR]
  refine atof_nt s s.size d (k * 9223372036854775808) _ (e - c) ng _ w hSn hd0 (by omega) hp (by omega) hF.opt SP RF ?_ (PA w hF.fx.fw.pt hF.fx.fw.g)
  by_cases hRi:roundR (d * 10 ^ (e - c).toNat * k74) (10 ^ (-(e - c)).toNat) lo0 < infR
  ·refine (ex_any d (e - c) ng (k * 9223372036854775808) lo0 w hd0 (by omega) hp hF.info hF.ten hSn hlo0 hRi).mono ?_
   rintro ed w' ⟨⟨G,ok,h1,h2⟩,hw⟩
   refine ⟨⟨G,ok,h1,fun h3 => ⟨?_,?_⟩⟩,hw⟩
   ·unfold cpR;rw [if_pos hRi];exact h2 h3
   ·unfold erR;rw [if_pos hRi]
  ·have h37:=inf_far (by omega) hlo0 (by omega)
   rcases Nat.lt_or_ge d 4503599627370496 with q | q
   ·refine (ex_far d (e - c) ng w q (Or.inr h37) (by omega) hF.info).mono ?_
    rintro ed w' ⟨⟨G,h1⟩,hw⟩
    exact ⟨⟨G,false,h1,fun h3 => by cases h3⟩,hw⟩
   ·refine (ex_long d (e - c) ng w q (by omega) hF.info).mono ?_
    rintro ed w' ⟨h1,hw⟩
    exact ⟨⟨0,false,h1,fun h3 => by cases h3⟩,hw⟩
end Go.Proofs.YtjlaoeigfokkiaaGreatDoor.dcm
namespace Go.Proofs.YtjlaoeigfokkiaaGreatDoor.dcm
open Go.ChangeShapes Go.WideShapes Go.ChangeAt Go.RowKit
open mem fto
open ints (hide unhide)
set_option linter.unusedVariables false
set_option linter.unusedSimpArgs false
structure ErV (w:World):Prop where
 ev:∃ ev,w.cell? ⟨2,0,none⟩ = some ev ∧ (ev = .nilIface ∨ ∃ te pe,ev = .iface te pe)
 g:2 < w.heap.size
theorem ErV.below {w W:World} (h:ErV w) (hb:Below w.heap.size w W):ErV W:=by
 obtain ⟨ev,h1,h2⟩:=h.ev
 exact ⟨⟨ev,(hb.cell (p:=⟨2,0,none⟩) h.g).trans h1,h2⟩,Nat.lt_of_lt_of_le h.g hb.size⟩
set_option maxRecDepth 100000 in
theorem pf_err (s:ByteArray) (F:Nat) (w:World) (hs:s.size ≤ 2000000) (hE:ErV w)
  (AT:Calls Tryz.prog 126 #[.string s] w fun e w' => e = .returned (.tuple #[.float .f64 F,.int .i64 s.size,errR]) ∧ Below w.heap.size w w') :
  Calls Tryz.prog 43 #[.string s,.int .i64 64] w fun e w' => (∃ er,e = .returned (.tuple #[.float .f64 F,er])) ∧ Below w.heap.size w w':=by
 unfold errR at AT
 have P1:Calls Tryz.prog 99 #[.string s,.int .i64 64] w fun e w' => e = .returned (.tuple #[.float .f64 F,.int .i64 s.size,.iface 96 (.int .i64 1)]) ∧ Below w.heap.size w w':=by
  have HA:=hide AT
  clear AT
  go_enter Tryz.func99,Tryz.ntmps99
  go_wp2_with fail
  refine (unhide HA).mono ?_
  rintro e w1 ⟨rfl,b1⟩
  have HB:=hide b1
  clear b1
  go_wp2
  go_ret3
  exact ⟨rfl,unhide HB⟩
 have P2:Calls Tryz.prog 69 #[.string s,.int .i64 64] w fun e w' => e = .returned (.tuple #[.float .f64 F,.iface 96 (.int .i64 1)]) ∧ Below w.heap.size w w':=by
  have HA:=hide P1
  clear P1 AT
  go_enter Tryz.func69,Tryz.ntmps69
  go_wp2_with fail
  refine (unhide HA).mono ?_
  rintro e w1 ⟨rfl,b1⟩
  have HB:=hide b1
  clear b1
  go_wp2
  go_ret2
  exact ⟨rfl,unhide HB⟩
 have HA:=hide P2
 have HE:=hide hE
 clear P1 P2 AT hE
 go_enter Tryz.func43,Tryz.ntmps43
 go_wp2_with fail
 refine (unhide HA).mono ?_
 rintro e w1 ⟨rfl,b1⟩
 have HB:=hide b1
 obtain ⟨ev,h1,h2⟩:=((unhide HE).below b1).ev
 have TE:=hide (fun fn => Tryz.strconv_toError_range fn s 0 64 ev w1 (by omega) h1 h2)
 clear b1 h1 h2
 go_wp2_with fail
 refine (unhide TE _).mono ?_
 rintro e w2 ⟨N,rfl,-,-,b2⟩
 have HB2:=hide ((unhide HB).trans (b2.mono (unhide HB).size))
 clear b2
 go_wp2
 go_ret2
 exact ⟨⟨_,rfl⟩,unhide HB2⟩
theorem pf_all (k:Nat) (s:ByteArray) (m g z:Nat) (e:Int) (h:Ntx s k m g z) (hk:k ≤ 1) (hm:1 ≤ m)
  (he:e = if g = 1 then - (mvs s (k + 3 + m + g) z:Int) else (mvs s (k + 3 + m + g) z:Int)) (w:World) (hF:Fy w) (hSl:Slow w w.heap.size) (hE:ErV w) :
  ∃ lo,Lo (mvs s (k + 2) m * 10 ^ (e - m).toNat * k74) (10 ^ (-(e - m)).toNat) lo ∧
   Calls Tryz.prog 43 #[.string s,.int .i64 64] w fun ed w' => (∃ er,ed = .returned (.tuple #[.float .f64 (k * 9223372036854775808 + cpR (roundR (mvs s (k + 2) m * 10 ^ (e - m).toNat * k74) (10 ^ (-(e - m)).toNat) lo)),er])) ∧ Below w.heap.size w w':=by
 have hsz1:s.size ≤ 2000000:=by have:=h.sz;have:=h.m1;have:=h.z1;have:=h.g1;omega
 obtain ⟨lo,hlo,C⟩:=atof_all k s m g z e h hk hm he w hF hSl
 refine ⟨lo,hlo,?_⟩
 generalize roundR (mvs s (k + 2) m * 10 ^ (e - m).toNat * k74) (10 ^ (-(e - m)).toNat) lo = R at *
 unfold erR at C
 by_cases hR:R < infR
 ·rw [if_pos hR] at C
  refine (pf_in s _ w hsz1 C).mono ?_
  rintro ed w' ⟨h1,h2⟩
  exact ⟨⟨_,h1⟩,h2⟩
 ·rw [if_neg hR] at C
  exact pf_err s _ w hsz1 hE C
end Go.Proofs.YtjlaoeigfokkiaaGreatDoor.dcm
namespace Go.Proofs.YtjlaoeigfokkiaaGreatDoor.dcm
open Go.ChangeShapes Go.WideShapes Go.ChangeAt Go.RowKit
open fto
structure Fz (w:World):Prop where
 fy:Fy w
 sl:Slow w w.heap.size
 ev:ErV w
theorem Fz.below {w W:World} (h:Fz w) (hb:Below w.heap.size w W):Fz W:=⟨h.fy.below hb,h.sl.at hb hb.size hb.size (Nat.le_refl _),h.ev.below hb⟩
end Go.Proofs.YtjlaoeigfokkiaaGreatDoor.dcm
namespace Go.Proofs.YtjlaoeigfokkiaaGreatDoor.fto
open Go.ChangeShapes Go.WideShapes Go.ChangeAt Go.RowKit
open mem Go.Sort
open ints (hide unhide)
set_option linter.unusedVariables false
set_option maxHeartbeats 1100000 in
set_option maxRecDepth 100000 in
theorem nearest_in2 (ng bb:Bool) (s r ms wh fr wf dg T I:ByteArray) (x pw:Int) (R:Nat) (w:World) (hF:dcm.Fz w)
  (z1:s.size ≤ 2000000) (z2:ms.size ≤ 2000000) (z3:dg.size ≤ 1100000) (z4:fr.size ≤ 1100000) (z5:wh.size ≤ 1100000) (zr:r.size ≤ 2000000) (zI:I.size ≤ 30) (zk:ng = true → 1 ≤ s.size) (hx:-2000000000000 ≤ x ∧ x ≤ 2000000000000)
  (HP:Lib.hasPrefix s.data.toList (⟨#[45]⟩:ByteArray).data.toList = ng)
  (hr:s.extract ng.toNat s.size = r)
  (CE:∀ W,Calls Tryz.prog 40 #[.string r] W fun e w' => e = .returned (.tuple #[.string ms,.int .i64 x]) ∧ Below W.heap.size W w')
  (hc1:(⟨(Lib.cut ms.data.toList (⟨#[46]⟩:ByteArray).data.toList).1.toArray⟩:ByteArray) = wh) (hc2:(⟨(Lib.cut ms.data.toList (⟨#[46]⟩:ByteArray).data.toList).2.1.toArray⟩:ByteArray) = fr) (hc3:(Lib.cut ms.data.toList (⟨#[46]⟩:ByteArray).data.toList).2.2 = bb)
  (hwf:wh ++ fr = wf) (htr:(⟨(Lib.trimLeftB wf.data.toList 48).toArray⟩:ByteArray) = dg)
  (hpw:max (-400) (min (x + dg.size - fr.size) 400) = pw) (hI:itB pw = I)
  (hT:(if ng then ⟨#[45]⟩ else ⟨#[]⟩) ++ ⟨#[48,46]⟩ ++ dg ++ ⟨#[101]⟩ ++ I = T)
  (PF:∀ W,dcm.Fz W → Calls Tryz.prog 43 #[.string T,.int .i64 64] W fun e w' => (∃ er,e = .returned (.tuple #[.float .f64 R,er])) ∧ Below W.heap.size W w') :
  Calls Tryz.prog 20 #[.string s] w fun e w' => e = .returned (.float .f64 R) ∧ Below w.heap.size w w':=by
 have H1:=Tryz.strings_HasPrefix s ⟨#[45]⟩ w
 rw [HP] at H1
 replace H1:=hide H1
 have HC:=hide CE
 have HCU:=fun (W:World) (hW:dcm.Fz W) => Tryz.strings_Cut ms ⟨#[46]⟩ (Classical.choose hW.fy.fx.most) W (by omega) (Classical.choose_spec hW.fy.fx.most)
 simp only [hc1,hc2,hc3] at HCU
 replace HCU:=hide HCU
 have HTR:=fun W => Tryz.strings_TrimLeft_one wf 48 (by decide) W
 simp only [htr] at HTR
 replace HTR:=hide HTR
 have HPF:=hide PF
 have HFy:=hide hF
 have pb:-400 ≤ pw ∧ pw ≤ 400:=by omega
 have HWT:=fun (W:World) (hW:dcm.Fz W) => whole_ok pw (by omega) (by omega) W hW.fy.fx
 rw [hI] at HWT
 replace HWT:=hide HWT
 have hpa:max (-400) (min (x + (dg.size:Int) - (fr.size:Int)) 400) = pw:=hpw
 clear PF CE hF hI HP htr hc1 hc2 hc3 hpw
 cases ng
 ·have hr0:s.extract 0 s.size = r:=hr
  have hT0:(⟨#[]⟩:ByteArray) ++ ⟨#[48,46]⟩ ++ dg ++ ⟨#[101]⟩ ++ I = T:=hT
  clear hr hT zk
  go_enter Tryz.func20,Tryz.ntmps20
  go_wp2_with fail
  refine (unhide H1).mono ?_
  rintro e w1 ⟨rfl,hw⟩
  subst w1
  go_wp2_with fail
  refine (unhide HC _).mono ?_
  rintro e w1 ⟨rfl,b1⟩
  have F1:=hide ((unhide HFy).below b1)
  have B1:=hide b1
  clear b1 H1 HC
  go_wp2_with fail
  refine (unhide HCU _ (unhide F1)).mono ?_
  rintro e w2 ⟨rfl,n,rfl⟩
  have F2:=hide ((unhide F1).below (below_dn w1 n))
  have B2:=hide ((unhide B1).trans ((below_dn w1 n).mono (unhide B1).size))
  clear HCU F1 B1
  generalize w1.drewN n = w2 at *
  go_wp2_with fail
  refine (unhide HTR _).mono ?_
  rintro e w3 ⟨rfl,hw⟩
  subst w3
  clear HTR
  go_wp2_with fail
  refine (unhide HWT _ (unhide F2)).mono ?_
  rintro e w3 ⟨rfl,b3⟩
  have F3:=hide ((unhide F2).below b3)
  have B3:=hide ((unhide B2).trans (b3.mono (unhide B2).size))
  clear b3 HWT F2 B2
  go_wp2_with fail
  refine (unhide HPF _ (unhide F3)).mono ?_
  rintro e w4 ⟨⟨er,rfl⟩,b4⟩
  have B4:=hide ((unhide B3).trans (b4.mono (unhide B3).size))
  clear b4 B3 F3 HPF
  go_wp2
  go_ret
  exact ⟨rfl,unhide B4⟩
 ·have hr0:s.extract 1 s.size = r:=hr
  have hT0:(⟨#[45]⟩:ByteArray) ++ ⟨#[48,46]⟩ ++ dg ++ ⟨#[101]⟩ ++ I = T:=hT
  have zk1:=zk rfl
  have zk2:(1:Int) ≤ s.size:=by omega
  clear hr hT zk
  go_enter Tryz.func20,Tryz.ntmps20
  go_wp2_with fail
  refine (unhide H1).mono ?_
  rintro e w1 ⟨rfl,hw⟩
  subst w1
  go_wp2_with fail
  refine (unhide HC _).mono ?_
  rintro e w1 ⟨rfl,b1⟩
  have F1:=hide ((unhide HFy).below b1)
  have B1:=hide b1
  clear b1 H1 HC
  go_wp2_with fail
  refine (unhide HCU _ (unhide F1)).mono ?_
  rintro e w2 ⟨rfl,n,rfl⟩
  have F2:=hide ((unhide F1).below (below_dn w1 n))
  have B2:=hide ((unhide B1).trans ((below_dn w1 n).mono (unhide B1).size))
  clear HCU F1 B1
  generalize w1.drewN n = w2 at *
  go_wp2_with fail
  refine (unhide HTR _).mono ?_
  rintro e w3 ⟨rfl,hw⟩
  subst w3
  clear HTR
  go_wp2_with fail
  refine (unhide HWT _ (unhide F2)).mono ?_
  rintro e w3 ⟨rfl,b3⟩
  have F3:=hide ((unhide F2).below b3)
  have B3:=hide ((unhide B2).trans (b3.mono (unhide B2).size))
  clear b3 HWT F2 B2
  go_wp2_with fail
  refine (unhide HPF _ (unhide F3)).mono ?_
  rintro e w4 ⟨⟨er,rfl⟩,b4⟩
  have B4:=hide ((unhide B3).trans (b4.mono (unhide B3).size))
  clear b4 B3 F3 HPF
  go_wp2
  go_ret
  exact ⟨rfl,unhide B4⟩
end Go.Proofs.YtjlaoeigfokkiaaGreatDoor.fto
