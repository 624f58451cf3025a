import Derived.Test.YtdogjghalplohaaGreatDoorJs28
import Derived.Test.YtdogjghalplohaaGreatDoorJs19
import Derived.RegionTactic
import Derived.ChangeAlike
namespace Go.Proofs.YtdogjghalplohaaGreatDoor.dcm
open Go.ChangeShapes Go.WideShapes Go.ChangeAt Go.RowKit
open mem
open ints (hide unhide)
set_option linter.unusedVariables false
set_option linter.unusedSimpArgs false
theorem St.dp16 {X Y E:Nat} {s:Dcs} (h:St X Y s E) (hl:X < 10 ^ 16 * Y):s.dp ≤ 16:=by
 rcases Int.lt_or_le 16 s.dp with g | g
 ·exfalso
  have h1:=Nat.le_trans (Nat.mul_le_mul_right Y h.std.lead) h.ex.le
  have hd:=h.dp
  rw [T79_split (a:=(800 - s.dp).toNat) (b:=s.dp.toNat - 1) (by omega),Nat.mul_assoc,Nat.mul_comm X] at h1
  have h2:=Nat.le_of_mul_le_mul_left h1 (Nat.pow_pos (by decide))
  have h3:10 ^ 16 ≤ 10 ^ (s.dp.toNat - 1):=Nat.pow_le_pow_right (by decide) (by omega)
  have h4:=Nat.mul_le_mul_right Y h3
  omega
 ·exact g
theorem wp_at_eq {P:Program} {c:Code} {Q:Exit → Act → World → Prop} {a:Act} {w w':World} (e:w' = w) (h:c.wp P Q a w'):c.wp P Q a w:=e ▸ h
theorem then_goto {N:Act → World → Prop} {Q:Exit → Act → World → Prop} {l:Nat} {a:Act} {w:World}:Exit.then N Q (.goto l) a w = Q (.goto l) a w:=rfl
theorem jump_0 {P:Program} {Q:Exit → Act → World → Prop} {a:Act} {w:World} {r0 r1:Code} (h:r0.wp P (Exit.noGoto Q) a w) :
  jumpL (fun l a w => if l = 0 then r0.wp P (Exit.noGoto Q) a w else if l = 1 then r1.wp P (Exit.noGoto Q) a w else False) Q (.goto 0) a w:=h
theorem jump_1 {P:Program} {Q:Exit → Act → World → Prop} {a:Act} {w:World} {r0 r1:Code} (h:r1.wp P (Exit.noGoto Q) a w) :
  jumpL (fun l a w => if l = 0 then r0.wp P (Exit.noGoto Q) a w else if l = 1 then r1.wp P (Exit.noGoto Q) a w else False) Q (.goto 1) a w:=h
theorem and_ef:∀ e:Nat,e < 2048 → bits .and .i64 (e:Int) 2047 = (e:Int):=by decide +kernel
theorem and_m52 (M:Nat) (h:M < 18446744073709551616):bits .and .u64 (M:Int) 4503599627370495 = ((M % 4503599627370496:Nat):Int):=and_low M 52 h (by decide)
theorem or_e (r E:Nat) (hr:r < 4503599627370496) (hE:E ≤ 2047):bits .or .u64 (r:Int) ((E:Int) * 4503599627370496) = ((r + E * 4503599627370496:Nat):Int):=by
 have h:=u64_or_nat r (E * 4503599627370496) (by omega) (by omega)
 rw [Int.natCast_mul] at h
 refine h.trans ?_
 congr 1
 have:=Nat.two_pow_add_eq_or_of_lt (i:=52) (b:=r) hr E
 rw [show 2 ^ 52 = 4503599627370496 from rfl] at this
 rw [Nat.or_comm,Nat.mul_comm,← this]
 omega
theorem or_s (R:Nat) (hR:R < 9223372036854775808):bits .or .u64 (R:Int) 9223372036854775808 = ((9223372036854775808 + R:Nat):Int):=by
 have h:=u64_or_nat R 9223372036854775808 (by omega) (by decide)
 refine h.trans ?_
 congr 1
 rw [Nat.or_comm]
 exact fto.or_sgn 9223372036854775808 R (Or.inr rfl) hR
def FbA (X Y:Nat) (ng:Bool) (e:Ending):Prop:=∃ lo R ov,Lo (X * k74) Y lo ∧ e = .returned (.tuple #[.int .u64 (((if ng then 9223372036854775808 else 0) + R:Nat):Int),.bool ov]) ∧ ((roundR (X * k74) Y lo < infR ∧ R = roundR (X * k74) Y lo ∧ ov = false) ∨ (infR ≤ roundR (X * k74) Y lo ∧ R = infR ∧ ov = true))
theorem fin_n {X Y K M R:Nat} (h:∃ lo,Lo (X * k74) Y lo ∧ roundR (X * k74) Y lo = K * b52 + M) (e:K * 4503599627370496 + M = R) (hR:R < 9218868437227405312):(∃ lo,Lo (X * k74) Y lo ∧ roundR (X * k74) Y lo = R) ∧ R < infR:=by
 obtain ⟨lo,h1,h2⟩:=h
 exact ⟨⟨lo,h1,by rw [h2];exact e⟩,hR⟩
theorem fin_o {X Y K M:Nat} (h:∃ lo,Lo (X * k74) Y lo ∧ roundR (X * k74) Y lo = K * b52 + M) (e:9218868437227405312 ≤ K * 4503599627370496 + M):∃ V,(∃ lo,Lo (X * k74) Y lo ∧ roundR (X * k74) Y lo = V) ∧ infR ≤ V:=⟨_,h,e⟩
theorem fin_s {X Y M R:Nat} (h:∃ lo,Lo (X * k74) Y lo ∧ roundR (X * k74) Y lo = M) (e:M = R) (hR:R < 9218868437227405312):(∃ lo,Lo (X * k74) Y lo ∧ roundR (X * k74) Y lo = R) ∧ R < infR:=by
 subst e
 exact ⟨h,hR⟩
theorem fb_fin {X Y R:Nat} {ng:Bool} (h:∃ lo,Lo (X * k74) Y lo ∧ roundR (X * k74) Y lo = R) (hR:R < infR):FbA X Y ng (.returned (.tuple #[.int .u64 (((if ng then 9223372036854775808 else 0) + R:Nat):Int),.bool false])):=by
 obtain ⟨lo,h1,h2⟩:=h
 exact ⟨lo,R,false,h1,rfl,Or.inl ⟨by omega,h2.symm,rfl⟩⟩
theorem fb_inf {X Y V:Nat} {ng:Bool} (h:∃ lo,Lo (X * k74) Y lo ∧ roundR (X * k74) Y lo = V) (hR:infR ≤ V):FbA X Y ng (.returned (.tuple #[.int .u64 (((if ng then 9223372036854775808 else 0) + infR:Nat):Int),.bool true])):=by
 obtain ⟨lo,h1,h2⟩:=h
 exact ⟨lo,infR,true,h1,rfl,Or.inr ⟨by omega,rfl,rfl⟩⟩
set_option maxRecDepth 100000 in
set_option maxHeartbeats 4000000 in
theorem fbits_ok (b X Y:Nat) (s:Dcs) (w:World) (h:Dec w b s) (hSt:St X Y s (800 - s.dp).toNat) (hp:-330 ≤ s.dp) (hlc:LC w b) (hpw:PW w b) (hfi:FI w b) :
  Calls Tryz.prog 182 #[.pointer (some ⟨b,0,none⟩),.pointer (some ⟨9,0,none⟩)] w fun e w' => FbA X Y s.ng e ∧ Below b w w':=by
 have HLC:=hide hlc
 have HPW:=hide hpw
 have HFI:=hide hfi
 have HH:=hide h
 have HST:=hide hSt
 have HP:=hide hp
 have c0:=h.cnd
 have c1:=h.cdp
 have hl:=h.lt
 have hn0:=hSt.std.pos
 have hp310:=hSt.dp
 obtain ⟨n,hn⟩:∃ n:Nat,n = s.nd:=⟨_,rfl⟩
 rw [← hn] at c0 hn0
 obtain ⟨P,hP⟩:∃ P:Int,P = s.dp:=⟨_,rfl⟩
 rw [← hP] at c1 hp hp310
 have HPe:=hide hP
 have e0:((n:Int) == 0) = false:=by rw [beq_eq_false_iff_ne];omega
 clear h hSt hlc hpw hfi hn hP
 go_enter Tryz.func182,Tryz.ntmps182
 go_wp2_with fail
 refine scope_two (by rfl) (by rfl) ?_
 go_wp2_with fail
 obtain ⟨E,hE⟩:∃ E,E = (800 - s.dp).toNat:=⟨_,rfl⟩
 have HE:=hide hE
 have hEl:490 ≤ E:=by have:=unhide HPe;omega
 clear hE
 go_loopw [6,8] (fun xv nv wr => ∃ (a:Nat) (s1:Dcs),xv = .int .i64 (a:Int) ∧ St X (Y * 2 ^ a) s1 E ∧ s1.ng = s.ng ∧ ((a = 0 ∧ s1.dp = s.dp) ∨ (-8 ≤ s1.dp ∧ Y * 2 ^ a ≤ X * 2 ^ 27)) ∧ Dec wr b s1 ∧ Below b w wr ∧ w.heap.size ≤ wr.heap.size) (fun xv _ _ => X / (Y * 2 ^ (intOf xv).toNat))
 case atStart => exact ⟨0,s,rfl,by rw [Nat.pow_zero,Nat.mul_one,unhide HE];exact unhide HST,rfl,Or.inl ⟨rfl,rfl⟩,unhide HH,Below.refl _ _,Nat.le_refl _⟩
 case round =>
  clear c0 c1 hl e0
  obtain ⟨a,s1,rfl,hSt,hng,hway,hDec,hBel,hsz⟩:=hrel
  have c1:=hDec.cdp
  have hl:=hDec.lt
  have hdp1:=hSt.dp
  obtain ⟨p,hpe⟩:∃ p:Int,p = s1.dp:=⟨_,rfl⟩
  rw [← hpe] at c1 hdp1
  have hp3:-330 ≤ p:=by have:=unhide HPe;rcases hway with ⟨-,q⟩ | ⟨q,-⟩ <;> omega
  have ha:a < 1060:=by
   rcases hway with ⟨q,-⟩ | ⟨-,q⟩
   ·omega
   ·exact right_far (unhide HST).y0 (unhide HST).most q
  have HST1:=hide hSt
  have HNG:=hide hng
  have HW:=hide hway
  have HDC:=hide hDec
  have HBL:=hide hBel
  have HSZ:=hide hsz
  have HPE:=hide hpe
  by_cases hp0:0 < p
  ·obtain ⟨q,hq⟩:∃ q:Nat,(q:Int) = p:=⟨p.toNat,by omega⟩
   obtain ⟨k,hk⟩:∃ k,k = ptab q:=⟨_,rfl⟩
   have hk1:=(ptab_le q).1
   have hk27:=(ptab_le q).2
   rw [← hk] at hk1 hk27
   have CS:=hide (fun w' (hd:Dec w' b s1) => shiftR_ok b k s1 w' hd hSt.std hk1 (by omega) (by omega))
   have kn:IntKind.i64.wrap (-(k:Int)) = -(k:Int):=by rw [IntKind.wrap_i64];omega
   have ke:IntKind.i64.wrap ((a:Int) + (k:Int)) = ((a + k:Nat):Int):=by rw [IntKind.wrap_i64];omega
   obtain ⟨tb,o,cap,t0,htb,hgp,htab⟩:=(unhide HPW).below hBel
   have hx1:=hSt.one (by omega)
   have MS:=hide (show X / (Y * 2 ^ (a + k)) < X / (Y * 2 ^ a) by
    have h0:0 < Y * 2 ^ a:=hSt.y0
    have h2:2 ^ 1 ≤ 2 ^ k:=Nat.pow_le_pow_right (by decide) hk1
    rw [Nat.pow_add,← Nat.mul_assoc,← Nat.div_div_eq_div_mul]
    exact Nat.div_lt_self (Nat.div_pos hx1 h0) (by omega))
   have HX27:=hide (show Y * 2 ^ (a + k) ≤ X * 2 ^ 27 by
    rw [Nat.pow_add,← Nat.mul_assoc]
    exact Nat.mul_le_mul hx1 (Nat.pow_le_pow_right (by decide) hk27))
   have ST2:=hide (fun s2 (hr:RSh s1 s2 k) => show St X (Y * 2 ^ (a + k)) s2 E by
    rw [Nat.pow_add,← Nat.mul_assoc]
    exact hSt.right hr (by omega) hSt.ee)
   have FEW:=hide (fun s2 (hr:RSh s1 s2 k) => hr.few hSt.std hk27)
   rw [← hq] at c1 hp0
   have qz:(0:Int) ≤ (q:Int):=by omega
   have HQP:=hide hq
   by_cases hq9:q < 9
   ·have iq:(q:Int) < 9:=by omega
    have t1:=htab q hq9
    rw [← hk] at t1
    clear htab hSt hng hway hDec hBel hsz hpe hx1 hq hk hdp1 hp3
    go_wp2_with fail
    refine wp_region_noPanic ?_
    refine wp_region_held (S:=fun w' => w'.cell? ⟨b,801,none⟩ = some (.int .i64 (q:Int)) ∧ w'.cell? ⟨11,0,none⟩ = some (.slice (some ⟨tb,o,none⟩) 9 cap)) mixedD ?_
    have hS0:(fun w':World => w'.cell? ⟨b,801,none⟩ = some (.int .i64 (q:Int)) ∧ w'.cell? ⟨11,0,none⟩ = some (.slice (some ⟨tb,o,none⟩) 9 cap)) wr.drew:=⟨c1,t0⟩
    refine rgn.tl (i:=0) (v:=?v1) rfl (by kernel_rfl) (fun _ _ _ h => h) (by rfl) ?hy1 hS0 ?_
    case hy1 => (intro w' hw';obtain ⟨q0,q1⟩:=hw';go_simp;try with_reducible rfl)
    simp only [zA,zB,zC,Act.put,zD,zE,zF]
    refine rgn.tl (i:=1) (v:=?v2) rfl (by kernel_rfl) (fun _ _ _ h => h) (by rfl) ?hy2 hS0 ?_
    case hy2 => (intro w' hw';obtain ⟨q0,q1⟩:=hw';go_simp;try with_reducible rfl)
    simp only [zA,zB,zC,Act.put,zD,zE,zF]
    refine rgn.tl (i:=2) (v:=?v3) rfl (by kernel_rfl) (fun _ _ _ h => h) (by rfl) ?hy3 hS0 ?_
    case hy3 => (intro w' hw';obtain ⟨q0,q1⟩:=hw';go_simp;try with_reducible rfl)
    simp only [zA,zB,zC,Act.put,zD,zE,zF]
    refine rgn.tl (i:=3) (v:=?v4) rfl (by kernel_rfl) (fun _ _ _ h => h) (by rfl) ?hy4 hS0 ?_
    case hy4 => (intro w' hw';obtain ⟨q0,q1⟩:=hw';go_simp;try with_reducible rfl)
    simp only [zA,zB,zC,Act.put,zD,zE,zF]
    refine rgn.tl (i:=4) (v:=?v5) rfl (by kernel_rfl) (fun _ _ _ h => h) (by rfl) ?hy5 hS0 ?_
    case hy5 => (intro w' hw';obtain ⟨q0,q1⟩:=hw';go_simp;try with_reducible rfl)
    simp only [zA,zB,zC,Act.put,zD,zE,zF]
    refine rgn.tl (i:=5) (v:=?v6) rfl (by kernel_rfl) (fun _ _ _ h => h) (by rfl) ?hy6 hS0 ?_
    case hy6 => (intro w' hw';obtain ⟨q0,q1⟩:=hw';go_simp;try with_reducible rfl)
    simp only [zA,zB,zC,Act.put,zD,zE,zF]
    refine rgn.tl (i:=6) (v:=?v7) rfl (by kernel_rfl) (fun _ _ _ h => h) (by rfl) ?hy7 hS0 ?_
    case hy7 => (intro w' hw';have hdq:decide ((9:Int) ≤ (q:Int)) = false:=decide_eq_false (by omega);go_simp;try with_reducible rfl)
    simp only [zA,zB,zC,Act.put,zD,zE,zF]
    refine wpAnyH_done (by kernel_rfl) ?_ _;refine NoPanic.normal ?_
    clear hS0
    go_wp2_with fail
    refine wp_region_noPanic ?_
    refine wp_region_held (S:=fun w' => w'.cell? ⟨b,801,none⟩ = some (.int .i64 (q:Int)) ∧ w'.cell? ⟨11,0,none⟩ = some (.slice (some ⟨tb,o,none⟩) 9 cap) ∧ w'.cell? ⟨tb,o + q,none⟩ = some (.int .i64 (k:Int))) mixedD ?_
    have hS0:(fun w':World => w'.cell? ⟨b,801,none⟩ = some (.int .i64 (q:Int)) ∧ w'.cell? ⟨11,0,none⟩ = some (.slice (some ⟨tb,o,none⟩) 9 cap) ∧ w'.cell? ⟨tb,o + q,none⟩ = some (.int .i64 (k:Int))) wr.drew.drew:=⟨c1,t0,t1⟩
    refine rgn.tl (i:=0) (v:=?v8) rfl (by kernel_rfl) (fun _ _ _ h => h) (by rfl) ?hy8 hS0 ?_
    case hy8 => (intro w' hw';obtain ⟨q0,q1,q2⟩:=hw';go_simp;try with_reducible rfl)
    simp only [zA,zB,zC,Act.put,zD,zE,zF]
    refine rgn.tl (i:=1) (v:=?v9) rfl (by kernel_rfl) (fun _ _ _ h => h) (by rfl) ?hy9 hS0 ?_
    case hy9 => (intro w' hw';obtain ⟨q0,q1,q2⟩:=hw';go_simp;try with_reducible rfl)
    simp only [zA,zB,zC,Act.put,zD,zE,zF]
    refine rgn.tl (i:=2) (v:=?v10) rfl (by kernel_rfl) (fun _ _ _ h => h) (by rfl) ?hy10 hS0 ?_
    case hy10 => (intro w' hw';obtain ⟨q0,q1,q2⟩:=hw';go_simp;try with_reducible rfl)
    simp only [zA,zB,zC,Act.put,zD,zE,zF]
    refine rgn.tl (i:=3) (v:=?v11) rfl (by kernel_rfl) (fun _ _ _ h => h) (by rfl) ?hy11 hS0 ?_
    case hy11 => (intro w' hw';obtain ⟨q0,q1,q2⟩:=hw';go_simp;try with_reducible rfl)
    simp only [zA,zB,zC,Act.put,zD,zE,zF]
    refine rgn.tl (i:=4) (v:=?v12) rfl (by kernel_rfl) (fun _ _ _ h => h) (by rfl) ?hy12 hS0 ?_
    case hy12 => (intro w' hw';obtain ⟨q0,q1,q2⟩:=hw';go_simp;try with_reducible rfl)
    simp only [zA,zB,zC,Act.put,zD,zE,zF]
    refine rgn.tl (i:=5) (v:=?v13) rfl (by kernel_rfl) (fun _ _ _ h => h) (by rfl) ?hy13 hS0 ?_
    case hy13 => (intro w' hw';obtain ⟨q0,q1,q2⟩:=hw';go_simp;try with_reducible rfl)
    simp only [zA,zB,zC,Act.put,zD,zE,zF]
    refine rgn.tl (i:=6) (v:=?v14) rfl (by kernel_rfl) (fun _ _ _ h => h) (by rfl) ?hy14 hS0 ?_
    case hy14 => (intro w' hw';obtain ⟨q0,q1,q2⟩:=hw';go_simp;try with_reducible rfl)
    simp only [zA,zB,zC,Act.put,zD,zE,zF]
    refine rgn.tl (i:=7) (v:=?v15) rfl (by kernel_rfl) (fun _ _ _ h => h) (by rfl) ?hy15 hS0 ?_
    case hy15 => (intro w' hw';obtain ⟨q0,q1,q2⟩:=hw';go_simp;try with_reducible rfl)
    simp only [zA,zB,zC,Act.put,zD,zE,zF]
    refine wpAnyH_done (by kernel_rfl) ?_ _;refine NoPanic.normal ?_
    clear hS0
    go_wp2_with fail
    refine (unhide CS _ (unhide HDC).drew.drew).mono ?_
    rintro e w1 ⟨rfl,⟨s2,hr,hd⟩,hb,hz⟩
    have HR:=hide hr
    have HD2:=hide hd
    have HB2:=hide hb
    have HZ2:=hide hz
    clear hr hd hb hz
    go_wp2
    refine ⟨?_,?_⟩
    ·have hf:=unhide FEW s2 (unhide HR)
     exact ⟨a + k,s2,by go_num,unhide ST2 s2 (unhide HR),by rw [(unhide HR).ng];exact unhide HNG,Or.inr ⟨by have:=unhide HQP;have:=unhide HPE;omega,unhide HX27⟩,unhide HD2,((unhide HBL).drew.drew).trans (unhide HB2),Nat.le_trans (unhide HSZ) (unhide HZ2)⟩
    ·simp only [intOf]
     rw [show ((a:Int) + (k:Int)).toNat = a + k by omega,Int.toNat_natCast]
     exact unhide MS
   ·have iq:(9:Int) ≤ (q:Int):=by omega
    have hk':k = 27:=by rw [hk];exact ptab_far (by omega)
    have CT:=hide (fun w' (hd:Dec w' b s1) => by have:=unhide CS w' hd;rw [show -(k:Int) = -27 by omega] at this;exact this)
    have HK:=hide hk'
    clear hk' CS kn ke hk1 hk27
    clear htab hSt hng hway hDec hBel hsz hpe hx1 hq hk hdp1 hp3
    go_wp2_with fail
    refine wp_region_noPanic ?_
    refine wp_region_held (S:=fun w' => w'.cell? ⟨b,801,none⟩ = some (.int .i64 (q:Int)) ∧ w'.cell? ⟨11,0,none⟩ = some (.slice (some ⟨tb,o,none⟩) 9 cap)) mixedD ?_
    have hS0:(fun w':World => w'.cell? ⟨b,801,none⟩ = some (.int .i64 (q:Int)) ∧ w'.cell? ⟨11,0,none⟩ = some (.slice (some ⟨tb,o,none⟩) 9 cap)) wr.drew:=⟨c1,t0⟩
    refine rgn.tl (i:=0) (v:=?v16) rfl (by kernel_rfl) (fun _ _ _ h => h) (by rfl) ?hy16 hS0 ?_
    case hy16 => (intro w' hw';obtain ⟨q0,q1⟩:=hw';go_simp;try with_reducible rfl)
    simp only [zA,zB,zC,Act.put,zD,zE,zF]
    refine rgn.tl (i:=1) (v:=?v17) rfl (by kernel_rfl) (fun _ _ _ h => h) (by rfl) ?hy17 hS0 ?_
    case hy17 => (intro w' hw';obtain ⟨q0,q1⟩:=hw';go_simp;try with_reducible rfl)
    simp only [zA,zB,zC,Act.put,zD,zE,zF]
    refine rgn.tl (i:=2) (v:=?v18) rfl (by kernel_rfl) (fun _ _ _ h => h) (by rfl) ?hy18 hS0 ?_
    case hy18 => (intro w' hw';obtain ⟨q0,q1⟩:=hw';go_simp;try with_reducible rfl)
    simp only [zA,zB,zC,Act.put,zD,zE,zF]
    refine rgn.tl (i:=3) (v:=?v19) rfl (by kernel_rfl) (fun _ _ _ h => h) (by rfl) ?hy19 hS0 ?_
    case hy19 => (intro w' hw';obtain ⟨q0,q1⟩:=hw';go_simp;try with_reducible rfl)
    simp only [zA,zB,zC,Act.put,zD,zE,zF]
    refine rgn.tl (i:=4) (v:=?v20) rfl (by kernel_rfl) (fun _ _ _ h => h) (by rfl) ?hy20 hS0 ?_
    case hy20 => (intro w' hw';obtain ⟨q0,q1⟩:=hw';go_simp;try with_reducible rfl)
    simp only [zA,zB,zC,Act.put,zD,zE,zF]
    refine rgn.tl (i:=5) (v:=?v21) rfl (by kernel_rfl) (fun _ _ _ h => h) (by rfl) ?hy21 hS0 ?_
    case hy21 => (intro w' hw';obtain ⟨q0,q1⟩:=hw';go_simp;try with_reducible rfl)
    simp only [zA,zB,zC,Act.put,zD,zE,zF]
    refine rgn.tl (i:=6) (v:=?v22) rfl (by kernel_rfl) (fun _ _ _ h => h) (by rfl) ?hy22 hS0 ?_
    case hy22 => (intro w' hw';have hdq:decide ((9:Int) ≤ (q:Int)) = true:=decide_eq_true (by omega);go_simp;try with_reducible rfl)
    simp only [zA,zB,zC,Act.put,zD,zE,zF]
    refine wpAnyH_done (by kernel_rfl) ?_ _;refine NoPanic.normal ?_
    clear hS0
    go_wp2_with fail
    refine (unhide CT _ (unhide HDC).drew).mono ?_
    rintro e w1 ⟨rfl,⟨s2,hr,hd⟩,hb,hz⟩
    have HR:=hide hr
    have HD2:=hide hd
    have HB2:=hide hb
    have HZ2:=hide hz
    clear hr hd hb hz
    go_wp2
    refine ⟨?_,?_⟩
    ·have hf:=unhide FEW s2 (unhide HR)
     exact ⟨a + k,s2,by rw [show ((a + k:Nat):Int) = (a:Int) + 27 by have:=unhide HK;omega],unhide ST2 s2 (unhide HR),by rw [(unhide HR).ng];exact unhide HNG,Or.inr ⟨by have:=unhide HQP;have:=unhide HPE;omega,unhide HX27⟩,unhide HD2,((unhide HBL).drew).trans (unhide HB2),Nat.le_trans (unhide HSZ) (unhide HZ2)⟩
    ·simp only [intOf]
     rw [show ((a:Int) + 27).toNat = a + k by have:=unhide HK;omega,Int.toNat_natCast]
     exact unhide MS
  ·obtain ⟨q0,hq0⟩:∃ q0:Nat,s1.dp = -(q0:Int):=⟨(-s1.dp).toNat,by omega⟩
   have hq330:q0 ≤ 330:=by omega
   have hleast:=hSt.least hq0
   have hx0:=hSt.x0
   have WAY:(a = 0 ∧ E = 800 + q0) ∨ q0 ≤ 8:=by
    rcases hway with ⟨r1,r2⟩ | ⟨r1,-⟩
    ·left;refine ⟨r1,?_⟩;rw [unhide HE,← r2,hq0];omega
    ·right;omega
   have HPW0:=hide (fun l (h:X * 2 ^ l < Y * 2 ^ a) => show 2 ^ l < 10 ^ (q0 + 1) from Nat.lt_of_mul_lt_mul_left (Nat.lt_of_lt_of_le h hleast))
   have HB30:=hide (fun l (h:X * 2 ^ l < Y * 2 ^ a) (h8:q0 ≤ 8) => show l < 30 from two_lt (Nat.lt_of_lt_of_le (unhide HPW0 l h) (Nat.le_trans (Nat.pow_le_pow_right (by decide) (show q0 + 1 ≤ 9 by omega)) ten_two_d)))
   have HFAR:=hide (fun l (h:X * 2 ^ l < Y * 2 ^ a) => show l + 28 ≤ E ∧ l ≤ 1102 by
    rcases WAY with ⟨r1,r2⟩ | r1
    ·have:=left_far (unhide HPW0 l h) hq330;omega
    ·have:=unhide HB30 l h r1;omega)
   have HNORM:=hide (fun l (h:X * 2 ^ l < Y * 2 ^ a) (hl:l ≤ a + 1021) => show l + 54 ≤ E by
    rcases WAY with ⟨r1,r2⟩ | r1
    ·have:=left_norm (unhide HPW0 l h) (by omega);omega
    ·have:=unhide HB30 l h r1;omega)
   have HSUB:=hide (fun l (h:X * 2 ^ l < Y * 2 ^ a) (hl:a + 1022 ≤ l) => show a = 0 ∧ 1107 ≤ E by
    rcases WAY with ⟨r1,r2⟩ | r1
    ·have:=left_sub (unhide HPW0 l h) (by omega);omega
    ·have:=unhide HB30 l h r1;omega)
   have hlt0:X * 2 ^ 0 < Y * 2 ^ a:=hSt.below (Nat.zero_le _) (by
    rw [Nat.pow_zero,Nat.mul_one]
    refine Nat.lt_of_lt_of_le (dvN_lt8 hSt.std.ok) ?_
    rw [pow_T8 (c:=q0) (by omega)]
    exact Nat.le_mul_of_pos_right _ (Nat.pow_pos (by decide)))
   have HLT0:=hide hlt0
   have HY0:=hide (unhide HST).y0
   obtain ⟨Y1,hY1⟩:∃ Y1,Y1 = Y * 2 ^ a:=⟨_,rfl⟩
   rw [← hY1] at HFAR HNORM HSUB HLT0 HST1
   have HY1:=hide hY1
   have HQ0:=hide (show -330 ≤ s1.dp ∧ s1.dp ≤ 0 by omega)
   clear hSt hng hway hDec hBel hsz hpe hq0 hleast hx0 hlt0 hY1 WAY HPW0 HB30 HW hq330 hdp1 hp3
   go_wp2_with fail
   go_loopw [6,9] (fun xv nv wr => ∃ (l:Nat) (s2:Dcs),xv = .int .i64 ((a:Int) - (l:Int)) ∧ St (X * 2 ^ l) Y1 s2 (E - l) ∧ X * 2 ^ l < Y1 ∧ s2.ng = s.ng ∧ (-330 ≤ s2.dp ∧ s2.dp ≤ 0) ∧ Dec wr b s2 ∧ Below b w wr ∧ w.heap.size ≤ wr.heap.size) (fun xv _ _ => (intOf xv + 2000).toNat)
   case atStart => exact ⟨0,s1,by simp,by rw [Nat.pow_zero,Nat.mul_one];exact unhide HST1,unhide HLT0,unhide HNG,unhide HQ0,unhide HDC,unhide HBL,unhide HSZ⟩
   case round =>
    clear HST1 HNG HDC HBL HSZ HLT0 HQ0 HPE hp0 c1 hl
    obtain ⟨l,s2,rfl,hSt,hlt,hng,hdp,hDec,hBel,hsz⟩:=hrel
    have hl11:=(unhide HFAR l hlt).2
    have hl28:=(unhide HFAR l hlt).1
    have c1:=hDec.cdp
    have c2:=hDec.dig 0 (by omega)
    have hl:=hDec.lt
    obtain ⟨q,hq⟩:∃ q:Nat,s2.dp = -(q:Int):=⟨(-s2.dp).toNat,by omega⟩
    have hq330:q ≤ 330:=by omega
    rw [hq] at c1
    obtain ⟨D0,hD0⟩:∃ D0:Nat,D0 = s2.D 0:=⟨_,rfl⟩
    rw [← hD0] at c2
    have hd5:=hSt.std.ok 0 hSt.std.pos
    rw [← hD0] at hd5
    have HST2:=hide hSt
    have HLT:=hide hlt
    have HNG:=hide hng
    have HDC:=hide hDec
    have HBL:=hide hBel
    have HSZ:=hide hsz
    have HQ:=hide hq
    have HD0:=hide hD0
    obtain ⟨k,hk⟩:∃ k,k = ptab q:=⟨_,rfl⟩
    have hk1:=(ptab_le q).1
    have hk27:=(ptab_le q).2
    rw [← hk] at hk1 hk27
    have CS:=hide (fun w' (hd:Dec w' b s2) (hlc:LC w' b) => shiftL_ok b k s2 w' hd hSt.std hk1 (by omega) (by omega) hlc)
    obtain ⟨tb,o,cap,t0,htb,hgp,htab⟩:=(unhide HPW).below hBel
    have kq:IntKind.i64.wrap (- -(q:Int)) = (q:Int):=by rw [IntKind.wrap_i64];omega
    have kq2:IntKind.i64.wrap (q:Int) = (q:Int):=by rw [IntKind.wrap_i64];omega
    have kx:IntKind.i64.wrap ((a:Int) - (l:Int) - (k:Int)) = (a:Int) - (l:Int) - (k:Int):=by rw [IntKind.wrap_i64];omega
    have kx7:IntKind.i64.wrap ((a:Int) - (l:Int) - 27) = (a:Int) - (l:Int) - 27:=by rw [IntKind.wrap_i64];omega
    have kx8:wrap64 ((a:Int) - (l:Int) - 27) = (a:Int) - (l:Int) - 27:=by unfold wrap64;omega
    have qz:(0:Int) ≤ (q:Int):=by omega
    have HL11:=hide (⟨hl11,hk1⟩:l ≤ 1102 ∧ 1 ≤ k)
    by_cases hgo:q = 0 → D0 < 53
    ·have HLK:=hide (show X * 2 ^ (l + k) < Y1 by
      rw [Nat.pow_add,← Nat.mul_assoc,hk]
      exact hSt.round2 (by omega) hq (by rw [← hD0];exact hgo))
     have ST2:=hide (fun s3 (hr:LSh s2 s3 k) => show St (X * 2 ^ (l + k)) Y1 s3 (E - (l + k)) ∧ -330 ≤ s3.dp ∧ s3.dp ≤ 0 by
      obtain ⟨d,d1,d2,-,-⟩:=hr.ex
      have h1:St (X * 2 ^ l * 2 ^ k) Y1 s3 (E - (l + k)):=by
       refine St.left ?_ hr (by omega)
       rw [show E - (l + k) + k = E - l by omega]
       exact hSt
      rw [Nat.mul_assoc,← Nat.pow_add] at h1
      have h2:=h1.low (unhide HLK)
      exact ⟨h1,by omega,h2⟩)
     by_cases hq0:q = 0
     ·have hd53:(D0:Int) < 53:=by have:=hgo hq0;omega
      have t1:=htab q (by omega)
      rw [← hk] at t1
      rw [hq0] at t1 c1
      have c1:wr.cell? ⟨b,801,none⟩ = some (.int .i64 0):=c1
      have t2:wr.cell? ⟨tb,o,none⟩ = some (.int .i64 (k:Int)):=t1
      have k00:IntKind.i64.wrap 0 = 0:=by rw [IntKind.wrap_i64];rfl
      clear kq kq2 qz
      have HQZ:=hide hq0
      clear htab hSt hlt hng hdp hDec hBel hsz hq hk hD0 hgo hl11 hl28 hk1 hk27 hq330
      clear hq0
      go_wp2_with fail
      refine wp_region_noPanic ?_
      refine wp_region_held (S:=fun w' => w'.cell? ⟨b,801,none⟩ = some (.int .i64 0) ∧ w'.cell? ⟨11,0,none⟩ = some (.slice (some ⟨tb,o,none⟩) 9 cap)) mixedD ?_
      have hS0:(fun w':World => w'.cell? ⟨b,801,none⟩ = some (.int .i64 0) ∧ w'.cell? ⟨11,0,none⟩ = some (.slice (some ⟨tb,o,none⟩) 9 cap)) wr.drew:=⟨c1,t0⟩
      refine rgn.tl (i:=0) (v:=?v23) rfl (by kernel_rfl) (fun _ _ _ h => h) (by rfl) ?hy23 hS0 ?_
      case hy23 => (intro w' hw';obtain ⟨q0,q1⟩:=hw';go_simp;try with_reducible rfl)
      simp only [zA,zB,zC,Act.put,zD,zE,zF]
      refine rgn.tl (i:=1) (v:=?v24) rfl (by kernel_rfl) (fun _ _ _ h => h) (by rfl) ?hy24 hS0 ?_
      case hy24 => (intro w' hw';obtain ⟨q0,q1⟩:=hw';go_simp;try with_reducible rfl)
      simp only [zA,zB,zC,Act.put,zD,zE,zF]
      refine rgn.tl (i:=2) (v:=?v25) rfl (by kernel_rfl) (fun _ _ _ h => h) (by rfl) ?hy25 hS0 ?_
      case hy25 => (intro w' hw';obtain ⟨q0,q1⟩:=hw';go_simp;try with_reducible rfl)
      simp only [zA,zB,zC,Act.put,zD,zE,zF]
      refine rgn.tl (i:=3) (v:=?v26) rfl (by kernel_rfl) (fun _ _ _ h => h) (by rfl) ?hy26 hS0 ?_
      case hy26 => (intro w' hw';obtain ⟨q0,q1⟩:=hw';go_simp;try with_reducible rfl)
      simp only [zA,zB,zC,Act.put,zD,zE,zF]
      refine rgn.tl (i:=4) (v:=?v27) rfl (by kernel_rfl) (fun _ _ _ h => h) (by rfl) ?hy27 hS0 ?_
      case hy27 => (intro w' hw';obtain ⟨q0,q1⟩:=hw';go_simp;try with_reducible rfl)
      simp only [zA,zB,zC,Act.put,zD,zE,zF]
      refine rgn.tl (i:=5) (v:=?v28) rfl (by kernel_rfl) (fun _ _ _ h => h) (by rfl) ?hy28 hS0 ?_
      case hy28 => (intro w' hw';obtain ⟨q0,q1⟩:=hw';go_simp;try with_reducible rfl)
      simp only [zA,zB,zC,Act.put,zD,zE,zF]
      refine rgn.tl (i:=6) (v:=?v29) rfl (by kernel_rfl) (fun _ _ _ h => h) (by rfl) ?hy29 hS0 ?_
      case hy29 => (intro w' hw';obtain ⟨q0,q1⟩:=hw';go_simp;try with_reducible rfl)
      simp only [zA,zB,zC,Act.put,zD,zE,zF]
      refine rgn.tl (i:=7) (v:=?v30) rfl (by kernel_rfl) (fun _ _ _ h => h) (by rfl) ?hy30 hS0 ?_
      case hy30 => (intro w' hw';go_simp;try with_reducible rfl)
      simp only [zA,zB,zC,Act.put,zD,zE,zF]
      refine wpAnyH_done (by kernel_rfl) ?_ _;refine NoPanic.normal ?_
      clear hS0
      go_wp2_with fail
      refine wp_region_noPanic ?_
      refine wp_region_held (S:=fun w' => w'.cell? ⟨b,801,none⟩ = some (.int .i64 0) ∧ w'.cell? ⟨11,0,none⟩ = some (.slice (some ⟨tb,o,none⟩) 9 cap) ∧ w'.cell? ⟨tb,o,none⟩ = some (.int .i64 (k:Int))) mixedD ?_
      have hS0:(fun w':World => w'.cell? ⟨b,801,none⟩ = some (.int .i64 0) ∧ w'.cell? ⟨11,0,none⟩ = some (.slice (some ⟨tb,o,none⟩) 9 cap) ∧ w'.cell? ⟨tb,o,none⟩ = some (.int .i64 (k:Int))) wr.drew.drew:=⟨c1,t0,t2⟩
      refine rgn.tl (i:=0) (v:=?v31) rfl (by kernel_rfl) (fun _ _ _ h => h) (by rfl) ?hy31 hS0 ?_
      case hy31 => (intro w' hw';obtain ⟨q0,q1,q2⟩:=hw';go_simp;try with_reducible rfl)
      simp only [zA,zB,zC,Act.put,zD,zE,zF]
      refine rgn.tl (i:=1) (v:=?v32) rfl (by kernel_rfl) (fun _ _ _ h => h) (by rfl) ?hy32 hS0 ?_
      case hy32 => (intro w' hw';obtain ⟨q0,q1,q2⟩:=hw';go_simp;try with_reducible rfl)
      simp only [zA,zB,zC,Act.put,zD,zE,zF]
      refine rgn.tl (i:=2) (v:=?v33) rfl (by kernel_rfl) (fun _ _ _ h => h) (by rfl) ?hy33 hS0 ?_
      case hy33 => (intro w' hw';obtain ⟨q0,q1,q2⟩:=hw';go_simp;try with_reducible rfl)
      simp only [zA,zB,zC,Act.put,zD,zE,zF]
      refine rgn.tl (i:=3) (v:=?v34) rfl (by kernel_rfl) (fun _ _ _ h => h) (by rfl) ?hy34 hS0 ?_
      case hy34 => (intro w' hw';obtain ⟨q0,q1,q2⟩:=hw';go_simp;try with_reducible rfl)
      simp only [zA,zB,zC,Act.put,zD,zE,zF]
      refine rgn.tl (i:=4) (v:=?v35) rfl (by kernel_rfl) (fun _ _ _ h => h) (by rfl) ?hy35 hS0 ?_
      case hy35 => (intro w' hw';obtain ⟨q0,q1,q2⟩:=hw';go_simp;try with_reducible rfl)
      simp only [zA,zB,zC,Act.put,zD,zE,zF]
      refine rgn.tl (i:=5) (v:=?v36) rfl (by kernel_rfl) (fun _ _ _ h => h) (by rfl) ?hy36 hS0 ?_
      case hy36 => (intro w' hw';obtain ⟨q0,q1,q2⟩:=hw';go_simp;try with_reducible rfl)
      simp only [zA,zB,zC,Act.put,zD,zE,zF]
      refine rgn.tl (i:=6) (v:=?v37) rfl (by kernel_rfl) (fun _ _ _ h => h) (by rfl) ?hy37 hS0 ?_
      case hy37 => (intro w' hw';obtain ⟨q0,q1,q2⟩:=hw';go_simp;try with_reducible rfl)
      simp only [zA,zB,zC,Act.put,zD,zE,zF]
      refine rgn.tl (i:=7) (v:=?v38) rfl (by kernel_rfl) (fun _ _ _ h => h) (by rfl) ?hy38 hS0 ?_
      case hy38 => (intro w' hw';obtain ⟨q0,q1,q2⟩:=hw';go_simp;try with_reducible rfl)
      simp only [zA,zB,zC,Act.put,zD,zE,zF]
      refine rgn.tl (i:=8) (v:=?v39) rfl (by kernel_rfl) (fun _ _ _ h => h) (by rfl) ?hy39 hS0 ?_
      case hy39 => (intro w' hw';obtain ⟨q0,q1,q2⟩:=hw';go_simp;try with_reducible rfl)
      simp only [zA,zB,zC,Act.put,zD,zE,zF]
      refine wpAnyH_done (by kernel_rfl) ?_ _;refine NoPanic.normal ?_
      clear hS0
      go_wp2_with fail
      refine (unhide CS _ (unhide HDC).drew.drew ((unhide HLC).below ((unhide HBL).drew.drew) (unhide HSZ))).mono ?_
      rintro e w1 ⟨rfl,⟨s3,hr,hd⟩,hb,hz⟩
      have HR:=hide hr
      have HD2:=hide hd
      have HB2:=hide hb
      have HZ2:=hide hz
      clear hr hd hb hz
      go_wp2
      refine ⟨?_,?_⟩
      ·obtain ⟨g1,g2,g3⟩:=unhide ST2 s3 (unhide HR)
       exact ⟨l + k,s3,by rw [show (a:Int) - ((l + k:Nat):Int) = (a:Int) - (l:Int) - (k:Int) by omega],g1,unhide HLK,by rw [(unhide HR).ng];exact unhide HNG,⟨g2,g3⟩,unhide HD2,((unhide HBL).drew.drew).trans (unhide HB2),Nat.le_trans (unhide HSZ) (unhide HZ2)⟩
      ·simp only [intOf]
       have:=unhide HL11
       omega
     ·have hdn:-(q:Int) < 0:=by omega
      by_cases hq9:q < 9
      ·have iq:(q:Int) < 9:=by omega
       have t1:=htab q hq9
       rw [← hk] at t1
       clear htab hSt hlt hng hdp hDec hBel hsz hq hk hD0 hgo hl11 hl28 hk1 hk27 hq330
       clear hq0
       go_wp2_with fail
       refine wp_region_noPanic ?_
       refine wp_region_held (S:=fun w' => w'.cell? ⟨b,801,none⟩ = some (.int .i64 (-(q:Int))) ∧ w'.cell? ⟨11,0,none⟩ = some (.slice (some ⟨tb,o,none⟩) 9 cap)) mixedD ?_
       have hS0:(fun w':World => w'.cell? ⟨b,801,none⟩ = some (.int .i64 (-(q:Int))) ∧ w'.cell? ⟨11,0,none⟩ = some (.slice (some ⟨tb,o,none⟩) 9 cap)) wr.drew:=⟨c1,t0⟩
       refine rgn.tl (i:=0) (v:=?v40) rfl (by kernel_rfl) (fun _ _ _ h => h) (by rfl) ?hy40 hS0 ?_
       case hy40 => (intro w' hw';obtain ⟨q0,q1⟩:=hw';go_simp;try with_reducible rfl)
       simp only [zA,zB,zC,Act.put,zD,zE,zF]
       refine rgn.tl (i:=1) (v:=?v41) rfl (by kernel_rfl) (fun _ _ _ h => h) (by rfl) ?hy41 hS0 ?_
       case hy41 => (intro w' hw';obtain ⟨q0,q1⟩:=hw';go_simp;try with_reducible rfl)
       simp only [zA,zB,zC,Act.put,zD,zE,zF]
       refine rgn.tl (i:=2) (v:=?v42) rfl (by kernel_rfl) (fun _ _ _ h => h) (by rfl) ?hy42 hS0 ?_
       case hy42 => (intro w' hw';obtain ⟨q0,q1⟩:=hw';go_simp;try with_reducible rfl)
       simp only [zA,zB,zC,Act.put,zD,zE,zF]
       refine rgn.tl (i:=3) (v:=?v43) rfl (by kernel_rfl) (fun _ _ _ h => h) (by rfl) ?hy43 hS0 ?_
       case hy43 => (intro w' hw';obtain ⟨q0,q1⟩:=hw';go_simp;try with_reducible rfl)
       simp only [zA,zB,zC,Act.put,zD,zE,zF]
       refine rgn.tl (i:=4) (v:=?v44) rfl (by kernel_rfl) (fun _ _ _ h => h) (by rfl) ?hy44 hS0 ?_
       case hy44 => (intro w' hw';obtain ⟨q0,q1⟩:=hw';go_simp;try with_reducible rfl)
       simp only [zA,zB,zC,Act.put,zD,zE,zF]
       refine rgn.tl (i:=5) (v:=?v45) rfl (by kernel_rfl) (fun _ _ _ h => h) (by rfl) ?hy45 hS0 ?_
       case hy45 => (intro w' hw';obtain ⟨q0,q1⟩:=hw';go_simp;try with_reducible rfl)
       simp only [zA,zB,zC,Act.put,zD,zE,zF]
       refine rgn.tl (i:=6) (v:=?v46) rfl (by kernel_rfl) (fun _ _ _ h => h) (by rfl) ?hy46 hS0 ?_
       case hy46 => (intro w' hw';obtain ⟨q0,q1⟩:=hw';go_simp;try with_reducible rfl)
       simp only [zA,zB,zC,Act.put,zD,zE,zF]
       refine rgn.tl (i:=7) (v:=?v47) rfl (by kernel_rfl) (fun _ _ _ h => h) (by rfl) ?hy47 hS0 ?_
       case hy47 => (intro w' hw';have hdq:decide ((9:Int) ≤ (q:Int)) = false:=decide_eq_false (by omega);go_simp;try with_reducible rfl)
       simp only [zA,zB,zC,Act.put,zD,zE,zF]
       refine wpAnyH_done (by kernel_rfl) ?_ _;refine NoPanic.normal ?_
       clear hS0
       go_wp2_with fail
       refine wp_region_noPanic ?_
       refine wp_region_held (S:=fun w' => w'.cell? ⟨b,801,none⟩ = some (.int .i64 (-(q:Int))) ∧ w'.cell? ⟨11,0,none⟩ = some (.slice (some ⟨tb,o,none⟩) 9 cap) ∧ w'.cell? ⟨tb,o + q,none⟩ = some (.int .i64 (k:Int))) mixedD ?_
       have hS0:(fun w':World => w'.cell? ⟨b,801,none⟩ = some (.int .i64 (-(q:Int))) ∧ w'.cell? ⟨11,0,none⟩ = some (.slice (some ⟨tb,o,none⟩) 9 cap) ∧ w'.cell? ⟨tb,o + q,none⟩ = some (.int .i64 (k:Int))) wr.drew.drew:=⟨c1,t0,t1⟩
       refine rgn.tl (i:=0) (v:=?v48) rfl (by kernel_rfl) (fun _ _ _ h => h) (by rfl) ?hy48 hS0 ?_
       case hy48 => (intro w' hw';obtain ⟨q0,q1,q2⟩:=hw';go_simp;try with_reducible rfl)
       simp only [zA,zB,zC,Act.put,zD,zE,zF]
       refine rgn.tl (i:=1) (v:=?v49) rfl (by kernel_rfl) (fun _ _ _ h => h) (by rfl) ?hy49 hS0 ?_
       case hy49 => (intro w' hw';obtain ⟨q0,q1,q2⟩:=hw';go_simp;try with_reducible rfl)
       simp only [zA,zB,zC,Act.put,zD,zE,zF]
       refine rgn.tl (i:=2) (v:=?v50) rfl (by kernel_rfl) (fun _ _ _ h => h) (by rfl) ?hy50 hS0 ?_
       case hy50 => (intro w' hw';obtain ⟨q0,q1,q2⟩:=hw';go_simp;try with_reducible rfl)
       simp only [zA,zB,zC,Act.put,zD,zE,zF]
       refine rgn.tl (i:=3) (v:=?v51) rfl (by kernel_rfl) (fun _ _ _ h => h) (by rfl) ?hy51 hS0 ?_
       case hy51 => (intro w' hw';obtain ⟨q0,q1,q2⟩:=hw';go_simp;try with_reducible rfl)
       simp only [zA,zB,zC,Act.put,zD,zE,zF]
       refine rgn.tl (i:=4) (v:=?v52) rfl (by kernel_rfl) (fun _ _ _ h => h) (by rfl) ?hy52 hS0 ?_
       case hy52 => (intro w' hw';obtain ⟨q0,q1,q2⟩:=hw';go_simp;try with_reducible rfl)
       simp only [zA,zB,zC,Act.put,zD,zE,zF]
       refine rgn.tl (i:=5) (v:=?v53) rfl (by kernel_rfl) (fun _ _ _ h => h) (by rfl) ?hy53 hS0 ?_
       case hy53 => (intro w' hw';obtain ⟨q0,q1,q2⟩:=hw';go_simp;try with_reducible rfl)
       simp only [zA,zB,zC,Act.put,zD,zE,zF]
       refine rgn.tl (i:=6) (v:=?v54) rfl (by kernel_rfl) (fun _ _ _ h => h) (by rfl) ?hy54 hS0 ?_
       case hy54 => (intro w' hw';obtain ⟨q0,q1,q2⟩:=hw';go_simp;try with_reducible rfl)
       simp only [zA,zB,zC,Act.put,zD,zE,zF]
       refine rgn.tl (i:=7) (v:=?v55) rfl (by kernel_rfl) (fun _ _ _ h => h) (by rfl) ?hy55 hS0 ?_
       case hy55 => (intro w' hw';obtain ⟨q0,q1,q2⟩:=hw';go_simp;try with_reducible rfl)
       simp only [zA,zB,zC,Act.put,zD,zE,zF]
       refine rgn.tl (i:=8) (v:=?v56) rfl (by kernel_rfl) (fun _ _ _ h => h) (by rfl) ?hy56 hS0 ?_
       case hy56 => (intro w' hw';obtain ⟨q0,q1,q2⟩:=hw';go_simp;try with_reducible rfl)
       simp only [zA,zB,zC,Act.put,zD,zE,zF]
       refine wpAnyH_done (by kernel_rfl) ?_ _;refine NoPanic.normal ?_
       clear hS0
       go_wp2_with fail
       refine (unhide CS _ (unhide HDC).drew.drew ((unhide HLC).below ((unhide HBL).drew.drew) (unhide HSZ))).mono ?_
       rintro e w1 ⟨rfl,⟨s3,hr,hd⟩,hb,hz⟩
       have HR:=hide hr
       have HD2:=hide hd
       have HB2:=hide hb
       have HZ2:=hide hz
       clear hr hd hb hz
       go_wp2
       refine ⟨?_,?_⟩
       ·obtain ⟨g1,g2,g3⟩:=unhide ST2 s3 (unhide HR)
        exact ⟨l + k,s3,by rw [show (a:Int) - ((l + k:Nat):Int) = (a:Int) - (l:Int) - (k:Int) by omega],g1,unhide HLK,by rw [(unhide HR).ng];exact unhide HNG,⟨g2,g3⟩,unhide HD2,((unhide HBL).drew.drew).trans (unhide HB2),Nat.le_trans (unhide HSZ) (unhide HZ2)⟩
       ·simp only [intOf]
        have:=unhide HL11
        omega
      ·have iq:(9:Int) ≤ (q:Int):=by omega
       have hk':k = 27:=by rw [hk];exact ptab_far (by omega)
       have CT:=hide (fun w' (hd:Dec w' b s2) (hlc:LC w' b) => by have:=unhide CS w' hd hlc;rw [show (k:Int) = 27 by omega] at this;exact this)
       have HK:=hide hk'
       clear htab hSt hlt hng hdp hDec hBel hsz hq hk hD0 hgo hl11 hl28 hk1 hk27 hq330
       clear hq0 hk' CS
       go_wp2_with fail
       refine wp_region_noPanic ?_
       refine wp_region_held (S:=fun w' => w'.cell? ⟨b,801,none⟩ = some (.int .i64 (-(q:Int))) ∧ w'.cell? ⟨11,0,none⟩ = some (.slice (some ⟨tb,o,none⟩) 9 cap)) mixedD ?_
       have hS0:(fun w':World => w'.cell? ⟨b,801,none⟩ = some (.int .i64 (-(q:Int))) ∧ w'.cell? ⟨11,0,none⟩ = some (.slice (some ⟨tb,o,none⟩) 9 cap)) wr.drew:=⟨c1,t0⟩
       refine rgn.tl (i:=0) (v:=?v57) rfl (by kernel_rfl) (fun _ _ _ h => h) (by rfl) ?hy57 hS0 ?_
       case hy57 => (intro w' hw';obtain ⟨q0,q1⟩:=hw';go_simp;try with_reducible rfl)
       simp only [zA,zB,zC,Act.put,zD,zE,zF]
       refine rgn.tl (i:=1) (v:=?v58) rfl (by kernel_rfl) (fun _ _ _ h => h) (by rfl) ?hy58 hS0 ?_
       case hy58 => (intro w' hw';obtain ⟨q0,q1⟩:=hw';go_simp;try with_reducible rfl)
       simp only [zA,zB,zC,Act.put,zD,zE,zF]
       refine rgn.tl (i:=2) (v:=?v59) rfl (by kernel_rfl) (fun _ _ _ h => h) (by rfl) ?hy59 hS0 ?_
       case hy59 => (intro w' hw';obtain ⟨q0,q1⟩:=hw';go_simp;try with_reducible rfl)
       simp only [zA,zB,zC,Act.put,zD,zE,zF]
       refine rgn.tl (i:=3) (v:=?v60) rfl (by kernel_rfl) (fun _ _ _ h => h) (by rfl) ?hy60 hS0 ?_
       case hy60 => (intro w' hw';obtain ⟨q0,q1⟩:=hw';go_simp;try with_reducible rfl)
       simp only [zA,zB,zC,Act.put,zD,zE,zF]
       refine rgn.tl (i:=4) (v:=?v61) rfl (by kernel_rfl) (fun _ _ _ h => h) (by rfl) ?hy61 hS0 ?_
       case hy61 => (intro w' hw';obtain ⟨q0,q1⟩:=hw';go_simp;try with_reducible rfl)
       simp only [zA,zB,zC,Act.put,zD,zE,zF]
       refine rgn.tl (i:=5) (v:=?v62) rfl (by kernel_rfl) (fun _ _ _ h => h) (by rfl) ?hy62 hS0 ?_
       case hy62 => (intro w' hw';obtain ⟨q0,q1⟩:=hw';go_simp;try with_reducible rfl)
       simp only [zA,zB,zC,Act.put,zD,zE,zF]
       refine rgn.tl (i:=6) (v:=?v63) rfl (by kernel_rfl) (fun _ _ _ h => h) (by rfl) ?hy63 hS0 ?_
       case hy63 => (intro w' hw';obtain ⟨q0,q1⟩:=hw';go_simp;try with_reducible rfl)
       simp only [zA,zB,zC,Act.put,zD,zE,zF]
       refine rgn.tl (i:=7) (v:=?v64) rfl (by kernel_rfl) (fun _ _ _ h => h) (by rfl) ?hy64 hS0 ?_
       case hy64 => (intro w' hw';have hdq:decide ((9:Int) ≤ (q:Int)) = true:=decide_eq_true (by omega);go_simp;try with_reducible rfl)
       simp only [zA,zB,zC,Act.put,zD,zE,zF]
       refine wpAnyH_done (by kernel_rfl) ?_ _;refine NoPanic.normal ?_
       clear hS0
       go_wp2_with fail
       refine (unhide CT _ (unhide HDC).drew ((unhide HLC).below ((unhide HBL).drew) (unhide HSZ))).mono ?_
       rintro e w1 ⟨rfl,⟨s3,hr,hd⟩,hb,hz⟩
       have HR:=hide hr
       have HD2:=hide hd
       have HB2:=hide hb
       have HZ2:=hide hz
       clear hr hd hb hz
       go_wp2
       refine ⟨?_,?_⟩
       ·obtain ⟨g1,g2,g3⟩:=unhide ST2 s3 (unhide HR)
        exact ⟨l + k,s3,by rw [show (a:Int) - ((l + k:Nat):Int) = (a:Int) - (l:Int) - 27 by have:=unhide HK;omega],g1,unhide HLK,by rw [(unhide HR).ng];exact unhide HNG,⟨g2,g3⟩,unhide HD2,((unhide HBL).drew).trans (unhide HB2),Nat.le_trans (unhide HSZ) (unhide HZ2)⟩
       ·simp only [intOf]
        have:=unhide HK
        have:=unhide HL11
        omega
    ·obtain ⟨hq0,hd53⟩:q = 0 ∧ 53 ≤ D0:=by
      rcases Nat.eq_zero_or_pos q with g | g
      ·exact ⟨g,by
        rcases Nat.lt_or_ge D0 53 with r | r
        ·exact absurd (fun _ => r) hgo
        ·exact r⟩
      ·exact absurd (fun r => absurd r (by omega)) hgo
     have hdp0:s2.dp = 0:=by rw [hq,hq0];rfl
     have hhalf:Y1 ≤ X * 2 ^ l * 2:=hSt.half (by omega) (by
      rw [pow_T8 (c:=0) (by omega),Nat.pow_zero,Nat.mul_one]
      exact (lead_five hSt.std).2 (by rw [← hD0];exact hd53))
     have HHALF:=hide hhalf
     rw [hq0] at c1
     have c1:wr.cell? ⟨b,801,none⟩ = some (.int .i64 0):=c1
     obtain ⟨hfg,fi0,fi1,fi2⟩:=(unhide HFI).below hBel
     have hd53':¬ (D0:Int) < 53:=by omega
     have HDP0:=hide hdp0
     clear kq kq2 kx kx7 kx8 CS htab t0
     by_cases hsub:l ≤ a + 1021
     ·obtain ⟨K,hK⟩:∃ K:Nat,K + l = a + 1021:=⟨a + 1021 - l,by omega⟩
      have hKb:K ≤ 2100:=by omega
      have ke1:IntKind.i64.wrap ((a:Int) - (l:Int) - 1) = (K:Int) - 1022:=by rw [IntKind.wrap_i64];omega
      have hnsub:¬ (K:Int) - 1022 < -1022:=by omega
      have EN:=hide (end_norm (a:=a) (l:=l) (K:=K) (unhide HY0) (by rw [← unhide HY1];exact hlt) (by rw [← unhide HY1];exact hhalf) hK)
      rw [← unhide HY1] at EN
      have HN54:=hide (unhide HNORM l hlt hsub)
      clear hSt hlt hng hdp hDec hBel hsz hq hk hD0 hgo hl11 hl28 hk1 hk27 hq330 hq0 hd53 hdp0 hhalf hsub hd5
      have kf:IntKind.i64.wrap ((K:Int) - 1022 - -1023) = (K:Int) + 1:=by rw [IntKind.wrap_i64];omega
      have kf2:IntKind.i64.wrap ((K:Int) - 1022 + 1023) = (K:Int) + 1:=by rw [IntKind.wrap_i64];omega
      have kk1:IntKind.i64.wrap 2048 = 2048:=by rw [IntKind.wrap_i64];rfl
      have kk2:IntKind.i64.wrap 2047 = 2047:=by rw [IntKind.wrap_i64];rfl
      have kk3:IntKind.i64.wrap 1024 = 1024:=by rw [IntKind.wrap_i64];rfl
      go_wp2_with fail
      by_cases hov:2046 ≤ K
      ·have iov:(2047:Int) ≤ (K:Int) + 1:=by omega
       refine wp_region_noPanic ?_
       refine wp_region_held (S:=fun w' => w'.cell? ⟨9,0,none⟩ = some (.int .u64 52) ∧ w'.cell? ⟨9,1,none⟩ = some (.int .u64 11) ∧ w'.cell? ⟨9,2,none⟩ = some (.int .i64 (-1023))) mixedD ?_
       have hS0:(fun w':World => w'.cell? ⟨9,0,none⟩ = some (.int .u64 52) ∧ w'.cell? ⟨9,1,none⟩ = some (.int .u64 11) ∧ w'.cell? ⟨9,2,none⟩ = some (.int .i64 (-1023))) wr.drew:=⟨fi0,fi1,fi2⟩
       refine rgn.tl (i:=0) (v:=?v65) rfl (by kernel_rfl) (fun _ _ _ h => h) (by rfl) ?hy65 hS0 ?_
       case hy65 => (intro w' hw';obtain ⟨q0,q1,q2⟩:=hw';go_simp;try with_reducible rfl)
       simp only [zA,zB,zC,Act.put,zD,zE,zF]
       refine rgn.tl (i:=1) (v:=?v66) rfl (by kernel_rfl) (fun _ _ _ h => h) (by rfl) ?hy66 hS0 ?_
       case hy66 => (intro w' hw';obtain ⟨q0,q1,q2⟩:=hw';go_simp;try with_reducible rfl)
       simp only [zA,zB,zC,Act.put,zD,zE,zF]
       refine rgn.tl (i:=2) (v:=?v67) rfl (by kernel_rfl) (fun _ _ _ h => h) (by rfl) ?hy67 hS0 ?_
       case hy67 => (intro w' hw';obtain ⟨q0,q1,q2⟩:=hw';go_simp;try with_reducible rfl)
       simp only [zA,zB,zC,Act.put,zD,zE,zF]
       refine rgn.tl (i:=3) (v:=?v68) rfl (by kernel_rfl) (fun _ _ _ h => h) (by rfl) ?hy68 hS0 ?_
       case hy68 => (intro w' hw';obtain ⟨q0,q1,q2⟩:=hw';go_simp;try with_reducible rfl)
       simp only [zA,zB,zC,Act.put,zD,zE,zF]
       refine rgn.tl (i:=4) (v:=?v69) rfl (by kernel_rfl) (fun _ _ _ h => h) (by rfl) ?hy69 hS0 ?_
       case hy69 => (intro w' hw';obtain ⟨q0,q1,q2⟩:=hw';go_simp;try with_reducible rfl)
       simp only [zA,zB,zC,Act.put,zD,zE,zF]
       refine rgn.tl (i:=5) (v:=?v70) rfl (by kernel_rfl) (fun _ _ _ h => h) (by rfl) ?hy70 hS0 ?_
       case hy70 => (intro w' hw';obtain ⟨q0,q1,q2⟩:=hw';go_simp;try with_reducible rfl)
       simp only [zA,zB,zC,Act.put,zD,zE,zF]
       refine rgn.tl (i:=6) (v:=?v71) rfl (by kernel_rfl) (fun _ _ _ h => h) (by rfl) ?hy71 hS0 ?_
       case hy71 => (intro w' hw';obtain ⟨q0,q1,q2⟩:=hw';go_simp;try with_reducible rfl)
       simp only [zA,zB,zC,Act.put,zD,zE,zF]
       refine rgn.tl (i:=7) (v:=?v72) rfl (by kernel_rfl) (fun _ _ _ h => h) (by rfl) ?hy72 hS0 ?_
       case hy72 => (intro w' hw';obtain ⟨q0,q1,q2⟩:=hw';go_simp;try with_reducible rfl)
       simp only [zA,zB,zC,Act.put,zD,zE,zF]
       refine rgn.tl (i:=8) (v:=?v73) rfl (by kernel_rfl) (fun _ _ _ h => h) (by rfl) ?hy73 hS0 ?_
       case hy73 => (intro w' hw';obtain ⟨q0,q1,q2⟩:=hw';go_simp;try with_reducible rfl)
       simp only [zA,zB,zC,Act.put,zD,zE,zF]
       refine rgn.tl (i:=9) (v:=?v74) rfl (by kernel_rfl) (fun _ _ _ h => h) (by rfl) ?hy74 hS0 ?_
       case hy74 => (intro w' hw';obtain ⟨q0,q1,q2⟩:=hw';go_simp;try with_reducible rfl)
       simp only [zA,zB,zC,Act.put,zD,zE,zF]
       refine rgn.tl (i:=10) (v:=?v75) rfl (by kernel_rfl) (fun _ _ _ h => h) (by rfl) ?hy75 hS0 ?_
       case hy75 => (intro w' hw';obtain ⟨q0,q1,q2⟩:=hw';go_simp;try with_reducible rfl)
       simp only [zA,zB,zC,Act.put,zD,zE,zF]
       refine rgn.tl (i:=11) (v:=?v76) rfl (by kernel_rfl) (fun _ _ _ h => h) (by rfl) ?hy76 hS0 ?_
       case hy76 => (intro w' hw';obtain ⟨q0,q1,q2⟩:=hw';go_simp;try with_reducible rfl)
       simp only [zA,zB,zC,Act.put,zD,zE,zF]
       refine rgn.tl (i:=12) (v:=?v77) rfl (by kernel_rfl) (fun _ _ _ h => h) (by rfl) ?hy77 hS0 ?_
       case hy77 => (intro w' hw';obtain ⟨q0,q1,q2⟩:=hw';go_simp;try with_reducible rfl)
       simp only [zA,zB,zC,Act.put,zD,zE,zF]
       refine wpAnyH_done (by kernel_rfl) ?_ _;refine NoPanic.normal ?_
       clear hS0
       go_wp2_with fail
       go_step3
       repeat rw [then_goto]
       refine jump_1 ?_
       have c4:=(unhide HDC).cng
       rw [unhide HNG] at c4
       refine wp_at_eq (w':=wr.drew) rfl ?_
       obtain ⟨wd,hwd⟩:∃ wz,wz = wr.drew:=⟨_,rfl⟩
       rw [← hwd]
       have fi0:wd.cell? ⟨9,0,none⟩ = some (.int .u64 52):=by rw [hwd];exact fi0
       have fi1:wd.cell? ⟨9,1,none⟩ = some (.int .u64 11):=by rw [hwd];exact fi1
       have fi2:wd.cell? ⟨9,2,none⟩ = some (.int .i64 (-1023)):=by rw [hwd];exact fi2
       have c4:wd.cell? ⟨b,802,none⟩ = some (.bool s.ng):=by rw [hwd];exact c4
       have HBd:=hide (show Below b w wd by rw [hwd];exact (unhide HBL).drew)
       have hlwd:b < wd.heap.size:=by have:=(unhide HBd).size;have:=(unhide HH).lt;omega
       clear hwd
       go_wp2_with fail
       refine wp_region_noPanic ?_
       refine wp_region_held (S:=fun w' => w'.cell? ⟨9,0,none⟩ = some (.int .u64 52) ∧ w'.cell? ⟨9,1,none⟩ = some (.int .u64 11) ∧ w'.cell? ⟨9,2,none⟩ = some (.int .i64 (-1023))) mixedD ?_
       have hS0:(fun w':World => w'.cell? ⟨9,0,none⟩ = some (.int .u64 52) ∧ w'.cell? ⟨9,1,none⟩ = some (.int .u64 11) ∧ w'.cell? ⟨9,2,none⟩ = some (.int .i64 (-1023))) wd.drew:=⟨fi0,fi1,fi2⟩
       refine rgn.tl (i:=0) (v:=?v78) rfl (by kernel_rfl) (fun _ _ _ h => h) (by rfl) ?hy78 hS0 ?_
       case hy78 => (intro w' hw';obtain ⟨q0,q1,q2⟩:=hw';go_simp;try with_reducible rfl)
       simp only [zA,zB,zC,Act.put,zD,zE,zF]
       refine rgn.tl (i:=1) (v:=?v79) rfl (by kernel_rfl) (fun _ _ _ h => h) (by rfl) ?hy79 hS0 ?_
       case hy79 => (intro w' hw';obtain ⟨q0,q1,q2⟩:=hw';go_simp;try with_reducible rfl)
       simp only [zA,zB,zC,Act.put,zD,zE,zF]
       refine rgn.tl (i:=2) (v:=?v80) rfl (by kernel_rfl) (fun _ _ _ h => h) (by rfl) ?hy80 hS0 ?_
       case hy80 => (intro w' hw';obtain ⟨q0,q1,q2⟩:=hw';go_simp;try with_reducible rfl)
       simp only [zA,zB,zC,Act.put,zD,zE,zF]
       refine rgn.tl (i:=3) (v:=?v81) rfl (by kernel_rfl) (fun _ _ _ h => h) (by rfl) ?hy81 hS0 ?_
       case hy81 => (intro w' hw';obtain ⟨q0,q1,q2⟩:=hw';go_simp;try with_reducible rfl)
       simp only [zA,zB,zC,Act.put,zD,zE,zF]
       refine rgn.tl (i:=4) (v:=?v82) rfl (by kernel_rfl) (fun _ _ _ h => h) (by rfl) ?hy82 hS0 ?_
       case hy82 => (intro w' hw';obtain ⟨q0,q1,q2⟩:=hw';go_simp;try with_reducible rfl)
       simp only [zA,zB,zC,Act.put,zD,zE,zF]
       refine rgn.tl (i:=5) (v:=?v83) rfl (by kernel_rfl) (fun _ _ _ h => h) (by rfl) ?hy83 hS0 ?_
       case hy83 => (intro w' hw';obtain ⟨q0,q1,q2⟩:=hw';go_simp;try with_reducible rfl)
       simp only [zA,zB,zC,Act.put,zD,zE,zF]
       refine rgn.tl (i:=6) (v:=?v84) rfl (by kernel_rfl) (fun _ _ _ h => h) (by rfl) ?hy84 hS0 ?_
       case hy84 => (intro w' hw';obtain ⟨q0,q1,q2⟩:=hw';go_simp;try with_reducible rfl)
       simp only [zA,zB,zC,Act.put,zD,zE,zF]
       refine rgn.tl (i:=7) (v:=?v85) rfl (by kernel_rfl) (fun _ _ _ h => h) (by rfl) ?hy85 hS0 ?_
       case hy85 => (intro w' hw';obtain ⟨q0,q1,q2⟩:=hw';go_simp;try with_reducible rfl)
       simp only [zA,zB,zC,Act.put,zD,zE,zF]
       refine rgn.tl (i:=8) (v:=?v86) rfl (by kernel_rfl) (fun _ _ _ h => h) (by rfl) ?hy86 hS0 ?_
       case hy86 => (intro w' hw';obtain ⟨q0,q1,q2⟩:=hw';go_simp;try with_reducible rfl)
       simp only [zA,zB,zC,Act.put,zD,zE,zF]
       refine rgn.tl (i:=9) (v:=?v87) rfl (by kernel_rfl) (fun _ _ _ h => h) (by rfl) ?hy87 hS0 ?_
       case hy87 => (intro w' hw';obtain ⟨q0,q1,q2⟩:=hw';go_simp;try with_reducible rfl)
       simp only [zA,zB,zC,Act.put,zD,zE,zF]
       refine rgn.tl (i:=10) (v:=?v88) rfl (by kernel_rfl) (fun _ _ _ h => h) (by rfl) ?hy88 hS0 ?_
       case hy88 => (intro w' hw';obtain ⟨q0,q1,q2⟩:=hw';go_simp;try with_reducible rfl)
       simp only [zA,zB,zC,Act.put,zD,zE,zF]
       refine rgn.tl (i:=11) (v:=?v89) rfl (by kernel_rfl) (fun _ _ _ h => h) (by rfl) ?hy89 hS0 ?_
       case hy89 => (intro w' hw';obtain ⟨q0,q1,q2⟩:=hw';go_simp;try with_reducible rfl)
       simp only [zA,zB,zC,Act.put,zD,zE,zF]
       refine wpAnyH_done (by kernel_rfl) ?_ _;refine NoPanic.normal ?_
       clear hS0
       go_wp2_with fail
       refine wp_at_eq (w':=wd.drew) rfl ?_
       obtain ⟨we,hwd⟩:∃ wz,wz = wd.drew:=⟨_,rfl⟩
       rw [← hwd]
       have fi0:we.cell? ⟨9,0,none⟩ = some (.int .u64 52):=by rw [hwd];exact fi0
       have fi1:we.cell? ⟨9,1,none⟩ = some (.int .u64 11):=by rw [hwd];exact fi1
       have fi2:we.cell? ⟨9,2,none⟩ = some (.int .i64 (-1023)):=by rw [hwd];exact fi2
       have c4:we.cell? ⟨b,802,none⟩ = some (.bool s.ng):=by rw [hwd];exact c4
       have HBe:=hide (show Below b w we by rw [hwd];exact (unhide HBd).drew)
       have hlwe:b < we.heap.size:=by have:=(unhide HBe).size;have:=(unhide HH).lt;omega
       clear hwd
       go_step3
       have ku1:IntKind.u64.wrap 4503599627370496 = 4503599627370496:=by rw [IntKind.wrap_u64];rfl
       have ku2:IntKind.u64.wrap 9223372036854775808 = 9223372036854775808:=by rw [IntKind.wrap_u64];rfl
       have ko1:bits .and .u64 0 4503599627370495 = 0:=by decide
       have ko2:bits .and .i64 2047 2047 = 2047:=by decide
       have ko3:IntKind.u64.wrap 2047 = 2047:=by rw [IntKind.wrap_u64];rfl
       have ko4:IntKind.u64.wrap 9218868437227405312 = 9218868437227405312:=by rw [IntKind.wrap_u64];rfl
       have ko5:bits .or .u64 0 9218868437227405312 = 9218868437227405312:=by decide
       have ko6:bits .or .u64 9218868437227405312 9223372036854775808 = 18442240474082181120:=by decide
       have HFIN:=hide (fin_o (unhide EN).1 (by have:=(unhide EN).2.1;have e52:b52 = 4503599627370496:=rfl;rw [e52] at this;omega))
       go_wp2_with fail
       refine wp_region_noPanic ?_
       refine wp_region_held (S:=fun w' => w'.cell? ⟨9,0,none⟩ = some (.int .u64 52) ∧ w'.cell? ⟨9,1,none⟩ = some (.int .u64 11) ∧ w'.cell? ⟨9,2,none⟩ = some (.int .i64 (-1023))) mixedD ?_
       have hS0:(fun w':World => w'.cell? ⟨9,0,none⟩ = some (.int .u64 52) ∧ w'.cell? ⟨9,1,none⟩ = some (.int .u64 11) ∧ w'.cell? ⟨9,2,none⟩ = some (.int .i64 (-1023))) we.drew:=⟨fi0,fi1,fi2⟩
       refine rgn.tl (i:=0) (v:=?v90) rfl (by kernel_rfl) (fun _ _ _ h => h) (by rfl) ?hy90 hS0 ?_
       case hy90 => (intro w' hw';obtain ⟨q0,q1,q2⟩:=hw';go_simp;try with_reducible rfl)
       simp only [zA,zB,zC,Act.put,zD,zE,zF]
       refine rgn.tl (i:=1) (v:=?v91) rfl (by kernel_rfl) (fun _ _ _ h => h) (by rfl) ?hy91 hS0 ?_
       case hy91 => (intro w' hw';obtain ⟨q0,q1,q2⟩:=hw';go_simp;try with_reducible rfl)
       simp only [zA,zB,zC,Act.put,zD,zE,zF]
       refine rgn.tl (i:=2) (v:=?v92) rfl (by kernel_rfl) (fun _ _ _ h => h) (by rfl) ?hy92 hS0 ?_
       case hy92 => (intro w' hw';obtain ⟨q0,q1,q2⟩:=hw';go_simp;try with_reducible rfl)
       simp only [zA,zB,zC,Act.put,zD,zE,zF]
       refine rgn.tl (i:=3) (v:=?v93) rfl (by kernel_rfl) (fun _ _ _ h => h) (by rfl) ?hy93 hS0 ?_
       case hy93 => (intro w' hw';obtain ⟨q0,q1,q2⟩:=hw';go_simp;try with_reducible rfl)
       simp only [zA,zB,zC,Act.put,zD,zE,zF]
       refine rgn.tl (i:=4) (v:=?v94) rfl (by kernel_rfl) (fun _ _ _ h => h) (by rfl) ?hy94 hS0 ?_
       case hy94 => (intro w' hw';obtain ⟨q0,q1,q2⟩:=hw';go_simp;try with_reducible rfl)
       simp only [zA,zB,zC,Act.put,zD,zE,zF]
       refine rgn.tl (i:=5) (v:=?v95) rfl (by kernel_rfl) (fun _ _ _ h => h) (by rfl) ?hy95 hS0 ?_
       case hy95 => (intro w' hw';obtain ⟨q0,q1,q2⟩:=hw';go_simp;try with_reducible rfl)
       simp only [zA,zB,zC,Act.put,zD,zE,zF]
       refine rgn.tl (i:=6) (v:=?v96) rfl (by kernel_rfl) (fun _ _ _ h => h) (by rfl) ?hy96 hS0 ?_
       case hy96 => (intro w' hw';obtain ⟨q0,q1,q2⟩:=hw';go_simp;try with_reducible rfl)
       simp only [zA,zB,zC,Act.put,zD,zE,zF]
       refine rgn.tl (i:=7) (v:=?v97) rfl (by kernel_rfl) (fun _ _ _ h => h) (by rfl) ?hy97 hS0 ?_
       case hy97 => (intro w' hw';obtain ⟨q0,q1,q2⟩:=hw';go_simp;try with_reducible rfl)
       simp only [zA,zB,zC,Act.put,zD,zE,zF]
       refine rgn.tl (i:=8) (v:=?v98) rfl (by kernel_rfl) (fun _ _ _ h => h) (by rfl) ?hy98 hS0 ?_
       case hy98 => (intro w' hw';obtain ⟨q0,q1,q2⟩:=hw';go_simp;try with_reducible rfl)
       simp only [zA,zB,zC,Act.put,zD,zE,zF]
       refine rgn.tl (i:=9) (v:=?v99) rfl (by kernel_rfl) (fun _ _ _ h => h) (by rfl) ?hy99 hS0 ?_
       case hy99 => (intro w' hw';obtain ⟨q0,q1,q2⟩:=hw';go_simp;try with_reducible rfl)
       simp only [zA,zB,zC,Act.put,zD,zE,zF]
       refine rgn.tl (i:=10) (v:=?v100) rfl (by kernel_rfl) (fun _ _ _ h => h) (by rfl) ?hy100 hS0 ?_
       case hy100 => (intro w' hw';obtain ⟨q0,q1,q2⟩:=hw';go_simp;try with_reducible rfl)
       simp only [zA,zB,zC,Act.put,zD,zE,zF]
       refine rgn.tl (i:=11) (v:=?v101) rfl (by kernel_rfl) (fun _ _ _ h => h) (by rfl) ?hy101 hS0 ?_
       case hy101 => (intro w' hw';obtain ⟨q0,q1,q2⟩:=hw';go_simp;try with_reducible rfl)
       simp only [zA,zB,zC,Act.put,zD,zE,zF]
       refine rgn.tl (i:=12) (v:=?v102) rfl (by kernel_rfl) (fun _ _ _ h => h) (by rfl) ?hy102 hS0 ?_
       case hy102 => (intro w' hw';obtain ⟨q0,q1,q2⟩:=hw';go_simp;try with_reducible rfl)
       simp only [zA,zB,zC,Act.put,zD,zE,zF]
       refine rgn.tl (i:=13) (v:=?v103) rfl (by kernel_rfl) (fun _ _ _ h => h) (by rfl) ?hy103 hS0 ?_
       case hy103 => (intro w' hw';obtain ⟨q0,q1,q2⟩:=hw';go_simp;try with_reducible rfl)
       simp only [zA,zB,zC,Act.put,zD,zE,zF]
       refine rgn.tl (i:=14) (v:=?v104) rfl (by kernel_rfl) (fun _ _ _ h => h) (by rfl) ?hy104 hS0 ?_
       case hy104 => (intro w' hw';obtain ⟨q0,q1,q2⟩:=hw';go_simp;try with_reducible rfl)
       simp only [zA,zB,zC,Act.put,zD,zE,zF]
       refine rgn.tl (i:=15) (v:=?v105) rfl (by kernel_rfl) (fun _ _ _ h => h) (by rfl) ?hy105 hS0 ?_
       case hy105 => (intro w' hw';obtain ⟨q0,q1,q2⟩:=hw';go_simp;try with_reducible rfl)
       simp only [zA,zB,zC,Act.put,zD,zE,zF]
       refine rgn.tl (i:=16) (v:=?v106) rfl (by kernel_rfl) (fun _ _ _ h => h) (by rfl) ?hy106 hS0 ?_
       case hy106 => (intro w' hw';obtain ⟨q0,q1,q2⟩:=hw';go_simp;try with_reducible rfl)
       simp only [zA,zB,zC,Act.put,zD,zE,zF]
       refine rgn.tl (i:=17) (v:=?v107) rfl (by kernel_rfl) (fun _ _ _ h => h) (by rfl) ?hy107 hS0 ?_
       case hy107 => (intro w' hw';obtain ⟨q0,q1,q2⟩:=hw';go_simp;try with_reducible rfl)
       simp only [zA,zB,zC,Act.put,zD,zE,zF]
       refine rgn.tl (i:=18) (v:=?v108) rfl (by kernel_rfl) (fun _ _ _ h => h) (by rfl) ?hy108 hS0 ?_
       case hy108 => (intro w' hw';obtain ⟨q0,q1,q2⟩:=hw';go_simp;try with_reducible rfl)
       simp only [zA,zB,zC,Act.put,zD,zE,zF]
       refine rgn.tl (i:=19) (v:=?v109) rfl (by kernel_rfl) (fun _ _ _ h => h) (by rfl) ?hy109 hS0 ?_
       case hy109 => (intro w' hw';obtain ⟨q0,q1,q2⟩:=hw';go_simp;try with_reducible rfl)
       simp only [zA,zB,zC,Act.put,zD,zE,zF]
       refine rgn.tl (i:=20) (v:=?v110) rfl (by kernel_rfl) (fun _ _ _ h => h) (by rfl) ?hy110 hS0 ?_
       case hy110 => (intro w' hw';obtain ⟨q0,q1,q2⟩:=hw';go_simp;try with_reducible rfl)
       simp only [zA,zB,zC,Act.put,zD,zE,zF]
       refine rgn.tl (i:=21) (v:=?v111) rfl (by kernel_rfl) (fun _ _ _ h => h) (by rfl) ?hy111 hS0 ?_
       case hy111 => (intro w' hw';obtain ⟨q0,q1,q2⟩:=hw';go_simp;try with_reducible rfl)
       simp only [zA,zB,zC,Act.put,zD,zE,zF]
       refine wpAnyH_done (by kernel_rfl) ?_ _;refine NoPanic.normal ?_
       clear hS0
       cases hng:s.ng
       ·rw [hng] at c4
        go_wp2
        simp only [Exit.noGoto_ret]
        go_ret2
        refine ⟨?_,(unhide HBe).drew⟩
        obtain ⟨V,v1,v2⟩:=unhide HFIN
        have:=fb_inf (ng:=s.ng) v1 v2
        rw [hng] at this ⊢
        exact this
       ·rw [hng] at c4
        go_wp2_with fail
        refine wp_region_noPanic ?_
        refine wp_region_held (S:=fun w' => w'.cell? ⟨9,0,none⟩ = some (.int .u64 52) ∧ w'.cell? ⟨9,1,none⟩ = some (.int .u64 11) ∧ w'.cell? ⟨9,2,none⟩ = some (.int .i64 (-1023))) mixedD ?_
        have hS0:(fun w':World => w'.cell? ⟨9,0,none⟩ = some (.int .u64 52) ∧ w'.cell? ⟨9,1,none⟩ = some (.int .u64 11) ∧ w'.cell? ⟨9,2,none⟩ = some (.int .i64 (-1023))) we.drew.drew:=⟨fi0,fi1,fi2⟩
        refine rgn.tl (i:=0) (v:=?v112) rfl (by kernel_rfl) (fun _ _ _ h => h) (by rfl) ?hy112 hS0 ?_
        case hy112 => (intro w' hw';obtain ⟨q0,q1,q2⟩:=hw';go_simp;try with_reducible rfl)
        simp only [zA,zB,zC,Act.put,zD,zE,zF]
        refine rgn.tl (i:=1) (v:=?v113) rfl (by kernel_rfl) (fun _ _ _ h => h) (by rfl) ?hy113 hS0 ?_
        case hy113 => (intro w' hw';obtain ⟨q0,q1,q2⟩:=hw';go_simp;try with_reducible rfl)
        simp only [zA,zB,zC,Act.put,zD,zE,zF]
        refine rgn.tl (i:=2) (v:=?v114) rfl (by kernel_rfl) (fun _ _ _ h => h) (by rfl) ?hy114 hS0 ?_
        case hy114 => (intro w' hw';obtain ⟨q0,q1,q2⟩:=hw';go_simp;try with_reducible rfl)
        simp only [zA,zB,zC,Act.put,zD,zE,zF]
        refine rgn.tl (i:=3) (v:=?v115) rfl (by kernel_rfl) (fun _ _ _ h => h) (by rfl) ?hy115 hS0 ?_
        case hy115 => (intro w' hw';obtain ⟨q0,q1,q2⟩:=hw';go_simp;try with_reducible rfl)
        simp only [zA,zB,zC,Act.put,zD,zE,zF]
        refine rgn.tl (i:=4) (v:=?v116) rfl (by kernel_rfl) (fun _ _ _ h => h) (by rfl) ?hy116 hS0 ?_
        case hy116 => (intro w' hw';obtain ⟨q0,q1,q2⟩:=hw';go_simp;try with_reducible rfl)
        simp only [zA,zB,zC,Act.put,zD,zE,zF]
        refine rgn.tl (i:=5) (v:=?v117) rfl (by kernel_rfl) (fun _ _ _ h => h) (by rfl) ?hy117 hS0 ?_
        case hy117 => (intro w' hw';obtain ⟨q0,q1,q2⟩:=hw';go_simp;try with_reducible rfl)
        simp only [zA,zB,zC,Act.put,zD,zE,zF]
        refine rgn.tl (i:=6) (v:=?v118) rfl (by kernel_rfl) (fun _ _ _ h => h) (by rfl) ?hy118 hS0 ?_
        case hy118 => (intro w' hw';obtain ⟨q0,q1,q2⟩:=hw';go_simp;try with_reducible rfl)
        simp only [zA,zB,zC,Act.put,zD,zE,zF]
        refine rgn.tl (i:=7) (v:=?v119) rfl (by kernel_rfl) (fun _ _ _ h => h) (by rfl) ?hy119 hS0 ?_
        case hy119 => (intro w' hw';obtain ⟨q0,q1,q2⟩:=hw';go_simp;try with_reducible rfl)
        simp only [zA,zB,zC,Act.put,zD,zE,zF]
        refine rgn.tl (i:=8) (v:=?v120) rfl (by kernel_rfl) (fun _ _ _ h => h) (by rfl) ?hy120 hS0 ?_
        case hy120 => (intro w' hw';obtain ⟨q0,q1,q2⟩:=hw';go_simp;try with_reducible rfl)
        simp only [zA,zB,zC,Act.put,zD,zE,zF]
        refine rgn.tl (i:=9) (v:=?v121) rfl (by kernel_rfl) (fun _ _ _ h => h) (by rfl) ?hy121 hS0 ?_
        case hy121 => (intro w' hw';obtain ⟨q0,q1,q2⟩:=hw';go_simp;try with_reducible rfl)
        simp only [zA,zB,zC,Act.put,zD,zE,zF]
        refine rgn.tl (i:=10) (v:=?v122) rfl (by kernel_rfl) (fun _ _ _ h => h) (by rfl) ?hy122 hS0 ?_
        case hy122 => (intro w' hw';obtain ⟨q0,q1,q2⟩:=hw';go_simp;try with_reducible rfl)
        simp only [zA,zB,zC,Act.put,zD,zE,zF]
        refine rgn.tl (i:=11) (v:=?v123) rfl (by kernel_rfl) (fun _ _ _ h => h) (by rfl) ?hy123 hS0 ?_
        case hy123 => (intro w' hw';obtain ⟨q0,q1,q2⟩:=hw';go_simp;try with_reducible rfl)
        simp only [zA,zB,zC,Act.put,zD,zE,zF]
        refine rgn.tl (i:=12) (v:=?v124) rfl (by kernel_rfl) (fun _ _ _ h => h) (by rfl) ?hy124 hS0 ?_
        case hy124 => (intro w' hw';obtain ⟨q0,q1,q2⟩:=hw';go_simp;try with_reducible rfl)
        simp only [zA,zB,zC,Act.put,zD,zE,zF]
        refine wpAnyH_done (by kernel_rfl) ?_ _;refine NoPanic.normal ?_
        clear hS0
        go_wp2
        simp only [Exit.noGoto_ret]
        go_ret2
        refine ⟨?_,(unhide HBe).drew.drew⟩
        obtain ⟨V,v1,v2⟩:=unhide HFIN
        have:=fb_inf (ng:=s.ng) v1 v2
        rw [hng] at this ⊢
        exact this
      ·have iov:¬ (2047:Int) ≤ (K:Int) + 1:=by omega
       refine wp_region_noPanic ?_
       refine wp_region_held (S:=fun w' => w'.cell? ⟨9,0,none⟩ = some (.int .u64 52) ∧ w'.cell? ⟨9,1,none⟩ = some (.int .u64 11) ∧ w'.cell? ⟨9,2,none⟩ = some (.int .i64 (-1023))) mixedD ?_
       have hS0:(fun w':World => w'.cell? ⟨9,0,none⟩ = some (.int .u64 52) ∧ w'.cell? ⟨9,1,none⟩ = some (.int .u64 11) ∧ w'.cell? ⟨9,2,none⟩ = some (.int .i64 (-1023))) wr.drew:=⟨fi0,fi1,fi2⟩
       refine rgn.tl (i:=0) (v:=?v125) rfl (by kernel_rfl) (fun _ _ _ h => h) (by rfl) ?hy125 hS0 ?_
       case hy125 => (intro w' hw';obtain ⟨q0,q1,q2⟩:=hw';go_simp;try with_reducible rfl)
       simp only [zA,zB,zC,Act.put,zD,zE,zF]
       refine rgn.tl (i:=1) (v:=?v126) rfl (by kernel_rfl) (fun _ _ _ h => h) (by rfl) ?hy126 hS0 ?_
       case hy126 => (intro w' hw';obtain ⟨q0,q1,q2⟩:=hw';go_simp;try with_reducible rfl)
       simp only [zA,zB,zC,Act.put,zD,zE,zF]
       refine rgn.tl (i:=2) (v:=?v127) rfl (by kernel_rfl) (fun _ _ _ h => h) (by rfl) ?hy127 hS0 ?_
       case hy127 => (intro w' hw';obtain ⟨q0,q1,q2⟩:=hw';go_simp;try with_reducible rfl)
       simp only [zA,zB,zC,Act.put,zD,zE,zF]
       refine rgn.tl (i:=3) (v:=?v128) rfl (by kernel_rfl) (fun _ _ _ h => h) (by rfl) ?hy128 hS0 ?_
       case hy128 => (intro w' hw';obtain ⟨q0,q1,q2⟩:=hw';go_simp;try with_reducible rfl)
       simp only [zA,zB,zC,Act.put,zD,zE,zF]
       refine rgn.tl (i:=4) (v:=?v129) rfl (by kernel_rfl) (fun _ _ _ h => h) (by rfl) ?hy129 hS0 ?_
       case hy129 => (intro w' hw';obtain ⟨q0,q1,q2⟩:=hw';go_simp;try with_reducible rfl)
       simp only [zA,zB,zC,Act.put,zD,zE,zF]
       refine rgn.tl (i:=5) (v:=?v130) rfl (by kernel_rfl) (fun _ _ _ h => h) (by rfl) ?hy130 hS0 ?_
       case hy130 => (intro w' hw';obtain ⟨q0,q1,q2⟩:=hw';go_simp;try with_reducible rfl)
       simp only [zA,zB,zC,Act.put,zD,zE,zF]
       refine rgn.tl (i:=6) (v:=?v131) rfl (by kernel_rfl) (fun _ _ _ h => h) (by rfl) ?hy131 hS0 ?_
       case hy131 => (intro w' hw';obtain ⟨q0,q1,q2⟩:=hw';go_simp;try with_reducible rfl)
       simp only [zA,zB,zC,Act.put,zD,zE,zF]
       refine rgn.tl (i:=7) (v:=?v132) rfl (by kernel_rfl) (fun _ _ _ h => h) (by rfl) ?hy132 hS0 ?_
       case hy132 => (intro w' hw';obtain ⟨q0,q1,q2⟩:=hw';go_simp;try with_reducible rfl)
       simp only [zA,zB,zC,Act.put,zD,zE,zF]
       refine rgn.tl (i:=8) (v:=?v133) rfl (by kernel_rfl) (fun _ _ _ h => h) (by rfl) ?hy133 hS0 ?_
       case hy133 => (intro w' hw';obtain ⟨q0,q1,q2⟩:=hw';go_simp;try with_reducible rfl)
       simp only [zA,zB,zC,Act.put,zD,zE,zF]
       refine rgn.tl (i:=9) (v:=?v134) rfl (by kernel_rfl) (fun _ _ _ h => h) (by rfl) ?hy134 hS0 ?_
       case hy134 => (intro w' hw';obtain ⟨q0,q1,q2⟩:=hw';go_simp;try with_reducible rfl)
       simp only [zA,zB,zC,Act.put,zD,zE,zF]
       refine rgn.tl (i:=10) (v:=?v135) rfl (by kernel_rfl) (fun _ _ _ h => h) (by rfl) ?hy135 hS0 ?_
       case hy135 => (intro w' hw';obtain ⟨q0,q1,q2⟩:=hw';go_simp;try with_reducible rfl)
       simp only [zA,zB,zC,Act.put,zD,zE,zF]
       refine rgn.tl (i:=11) (v:=?v136) rfl (by kernel_rfl) (fun _ _ _ h => h) (by rfl) ?hy136 hS0 ?_
       case hy136 => (intro w' hw';obtain ⟨q0,q1,q2⟩:=hw';go_simp;try with_reducible rfl)
       simp only [zA,zB,zC,Act.put,zD,zE,zF]
       refine rgn.tl (i:=12) (v:=?v137) rfl (by kernel_rfl) (fun _ _ _ h => h) (by rfl) ?hy137 hS0 ?_
       case hy137 => (intro w' hw';obtain ⟨q0,q1,q2⟩:=hw';go_simp;try with_reducible rfl)
       simp only [zA,zB,zC,Act.put,zD,zE,zF]
       refine wpAnyH_done (by kernel_rfl) ?_ _;refine NoPanic.normal ?_
       clear hS0
       have CS:=hide (shiftL_ok b 53 s2 wr.drew (unhide HDC).drew (unhide HST2).std (by decide) (by decide) (by rw [unhide HDP0];decide) ((unhide HLC).below (unhide HBL).drew (unhide HSZ)))
       go_wp2_with fail
       refine (unhide CS).mono ?_
       rintro e w1 ⟨rfl,⟨s3,hr,hd⟩,hb,hz⟩
       have hs3:St (X * 2 ^ l * 2 ^ 53) Y1 s3 (E - l - 53):=by
        obtain ⟨d,d1,d2,-,-⟩:=hr.ex
        refine St.left ?_ hr (by have:=unhide HDP0;omega)
        rw [show E - l - 53 + 53 = E - l by have:=unhide HN54;omega]
        exact unhide HST2
       have hdp3:=hs3.dp16 (by
        have h1:=Nat.mul_lt_mul_of_pos_right (unhide HLT) (show 0 < 2 ^ 53 by decide)
        have h2:Y1 * 2 ^ 53 ≤ 10 ^ 16 * Y1:=by rw [Nat.mul_comm];exact Nat.mul_le_mul_right _ (by decide)
        omega)
       have hM0:dvN s3 s3.dp.toNat + (rup s3 s3.dp).toNat = rn (X * 2 ^ l * 2 ^ 53) Y1:=by
        rw [rup_rnD hs3.std.ok hr.tr0 hs3.std.nd (by omega)]
        exact rn_same hs3.y0 (hs3.gr.mono (by have:=unhide HN54;omega)) hs3.ex
       have RI:=hide (rint_ok b s3 w1 hd hs3.std.nd (by omega) (by obtain ⟨d,d1,d2,-,-⟩:=hr.ex;have:=unhide HDP0;omega) hs3.std.ok)
       rw [hM0] at RI
       obtain ⟨fi0,fi1,fi2⟩:=((unhide HFI).below ((unhide HBL).drew.trans hb)).2
       have HNG3:=hide (show s3.ng = s.ng by rw [hr.ng];exact unhide HNG)
       have hl3:=hd.lt
       have HD3:=hide hd
       have HB3:=hide ((unhide HBL).drew.trans hb)
       clear hr hd hb hz hs3 hdp3 hM0
       obtain ⟨M,hM⟩:∃ M,M = rn (X * 2 ^ l * 2 ^ 53) Y1:=⟨_,rfl⟩
       rw [← hM] at RI EN
       obtain ⟨hM52,hM53⟩:=(unhide EN).2
       have e52:b52 = 4503599627370496:=rfl
       have e53:b53 = 9007199254740992:=rfl
       rw [e52] at hM52
       rw [e53] at hM53
       have HMe:=hide hM
       clear e52 e53 hM
       go_wp2_with fail
       refine (unhide RI).mono ?_
       rintro e w2 ⟨rfl,hb⟩
       have hb2:=(unhide HB3).trans (hb.mono (Nat.le_of_lt hl3))
       obtain ⟨fi0,fi1,fi2⟩:=((unhide HFI).below hb2).2
       have HB4:=hide hb2
       have c4:=((unhide HD3).below hb).cng
       have hl4:b < w2.heap.size:=by have:=hb.size;omega
       rw [unhide HNG3] at c4
       clear hb hb2
       by_cases hM3:M = 9007199254740992
       ·subst hM3
        have ec:((9007199254740992:Nat):Int) = 9007199254740992:=rfl
        rw [ec]
        have ke:IntKind.i64.wrap ((K:Int) - 1022 + 1) = (K:Int) - 1021:=by rw [IntKind.wrap_i64];omega
        have kf3:IntKind.i64.wrap ((K:Int) - 1021 - -1023) = (K:Int) + 2:=by rw [IntKind.wrap_i64];omega
        have kf4:IntKind.i64.wrap ((K:Int) - 1021 + 1023) = (K:Int) + 2:=by rw [IntKind.wrap_i64];omega
        clear kf kf2
        go_wp2_with fail
        by_cases hov2:2045 ≤ K
        ·have iov2:(2047:Int) ≤ (K:Int) + 2:=by omega
         refine wp_region_noPanic ?_
         refine wp_region_held (S:=fun w' => w'.cell? ⟨9,0,none⟩ = some (.int .u64 52) ∧ w'.cell? ⟨9,1,none⟩ = some (.int .u64 11) ∧ w'.cell? ⟨9,2,none⟩ = some (.int .i64 (-1023))) mixedD ?_
         have hS0:(fun w':World => w'.cell? ⟨9,0,none⟩ = some (.int .u64 52) ∧ w'.cell? ⟨9,1,none⟩ = some (.int .u64 11) ∧ w'.cell? ⟨9,2,none⟩ = some (.int .i64 (-1023))) w2.drew:=⟨fi0,fi1,fi2⟩
         refine rgn.tl (i:=0) (v:=?v138) rfl (by kernel_rfl) (fun _ _ _ h => h) (by rfl) ?hy138 hS0 ?_
         case hy138 => (intro w' hw';obtain ⟨q0,q1,q2⟩:=hw';go_simp;try with_reducible rfl)
         simp only [zA,zB,zC,Act.put,zD,zE,zF]
         refine rgn.tl (i:=1) (v:=?v139) rfl (by kernel_rfl) (fun _ _ _ h => h) (by rfl) ?hy139 hS0 ?_
         case hy139 => (intro w' hw';obtain ⟨q0,q1,q2⟩:=hw';go_simp;try with_reducible rfl)
         simp only [zA,zB,zC,Act.put,zD,zE,zF]
         refine rgn.tl (i:=2) (v:=?v140) rfl (by kernel_rfl) (fun _ _ _ h => h) (by rfl) ?hy140 hS0 ?_
         case hy140 => (intro w' hw';obtain ⟨q0,q1,q2⟩:=hw';go_simp;try with_reducible rfl)
         simp only [zA,zB,zC,Act.put,zD,zE,zF]
         refine rgn.tl (i:=3) (v:=?v141) rfl (by kernel_rfl) (fun _ _ _ h => h) (by rfl) ?hy141 hS0 ?_
         case hy141 => (intro w' hw';obtain ⟨q0,q1,q2⟩:=hw';go_simp;try with_reducible rfl)
         simp only [zA,zB,zC,Act.put,zD,zE,zF]
         refine rgn.tl (i:=4) (v:=?v142) rfl (by kernel_rfl) (fun _ _ _ h => h) (by rfl) ?hy142 hS0 ?_
         case hy142 => (intro w' hw';obtain ⟨q0,q1,q2⟩:=hw';go_simp;try with_reducible rfl)
         simp only [zA,zB,zC,Act.put,zD,zE,zF]
         refine rgn.tl (i:=5) (v:=?v143) rfl (by kernel_rfl) (fun _ _ _ h => h) (by rfl) ?hy143 hS0 ?_
         case hy143 => (intro w' hw';obtain ⟨q0,q1,q2⟩:=hw';go_simp;try with_reducible rfl)
         simp only [zA,zB,zC,Act.put,zD,zE,zF]
         refine rgn.tl (i:=6) (v:=?v144) rfl (by kernel_rfl) (fun _ _ _ h => h) (by rfl) ?hy144 hS0 ?_
         case hy144 => (intro w' hw';obtain ⟨q0,q1,q2⟩:=hw';go_simp;try with_reducible rfl)
         simp only [zA,zB,zC,Act.put,zD,zE,zF]
         refine rgn.tl (i:=7) (v:=?v145) rfl (by kernel_rfl) (fun _ _ _ h => h) (by rfl) ?hy145 hS0 ?_
         case hy145 => (intro w' hw';obtain ⟨q0,q1,q2⟩:=hw';go_simp;try with_reducible rfl)
         simp only [zA,zB,zC,Act.put,zD,zE,zF]
         refine rgn.tl (i:=8) (v:=?v146) rfl (by kernel_rfl) (fun _ _ _ h => h) (by rfl) ?hy146 hS0 ?_
         case hy146 => (intro w' hw';obtain ⟨q0,q1,q2⟩:=hw';go_simp;try with_reducible rfl)
         simp only [zA,zB,zC,Act.put,zD,zE,zF]
         refine rgn.tl (i:=9) (v:=?v147) rfl (by kernel_rfl) (fun _ _ _ h => h) (by rfl) ?hy147 hS0 ?_
         case hy147 => (intro w' hw';obtain ⟨q0,q1,q2⟩:=hw';go_simp;try with_reducible rfl)
         simp only [zA,zB,zC,Act.put,zD,zE,zF]
         refine rgn.tl (i:=10) (v:=?v148) rfl (by kernel_rfl) (fun _ _ _ h => h) (by rfl) ?hy148 hS0 ?_
         case hy148 => (intro w' hw';obtain ⟨q0,q1,q2⟩:=hw';go_simp;try with_reducible rfl)
         simp only [zA,zB,zC,Act.put,zD,zE,zF]
         refine rgn.tl (i:=11) (v:=?v149) rfl (by kernel_rfl) (fun _ _ _ h => h) (by rfl) ?hy149 hS0 ?_
         case hy149 => (intro w' hw';obtain ⟨q0,q1,q2⟩:=hw';go_simp;try with_reducible rfl)
         simp only [zA,zB,zC,Act.put,zD,zE,zF]
         refine rgn.tl (i:=12) (v:=?v150) rfl (by kernel_rfl) (fun _ _ _ h => h) (by rfl) ?hy150 hS0 ?_
         case hy150 => (intro w' hw';obtain ⟨q0,q1,q2⟩:=hw';go_simp;try with_reducible rfl)
         simp only [zA,zB,zC,Act.put,zD,zE,zF]
         refine wpAnyH_done (by kernel_rfl) ?_ _;refine NoPanic.normal ?_
         clear hS0
         go_wp2_with fail
         go_step3
         repeat rw [then_goto]
         refine jump_1 ?_
         refine wp_at_eq (w':=w2.drew) rfl ?_
         obtain ⟨wd,hwd⟩:∃ wz,wz = w2.drew:=⟨_,rfl⟩
         rw [← hwd]
         have fi0:wd.cell? ⟨9,0,none⟩ = some (.int .u64 52):=by rw [hwd];exact fi0
         have fi1:wd.cell? ⟨9,1,none⟩ = some (.int .u64 11):=by rw [hwd];exact fi1
         have fi2:wd.cell? ⟨9,2,none⟩ = some (.int .i64 (-1023)):=by rw [hwd];exact fi2
         have c4:wd.cell? ⟨b,802,none⟩ = some (.bool s.ng):=by rw [hwd];exact c4
         have HBd:=hide (show Below b w wd by rw [hwd];exact (unhide HB4).drew)
         have hlwd:b < wd.heap.size:=by have:=(unhide HBd).size;have:=(unhide HH).lt;omega
         clear hwd
         go_wp2_with fail
         refine wp_region_noPanic ?_
         refine wp_region_held (S:=fun w' => w'.cell? ⟨9,0,none⟩ = some (.int .u64 52) ∧ w'.cell? ⟨9,1,none⟩ = some (.int .u64 11) ∧ w'.cell? ⟨9,2,none⟩ = some (.int .i64 (-1023))) mixedD ?_
         have hS0:(fun w':World => w'.cell? ⟨9,0,none⟩ = some (.int .u64 52) ∧ w'.cell? ⟨9,1,none⟩ = some (.int .u64 11) ∧ w'.cell? ⟨9,2,none⟩ = some (.int .i64 (-1023))) wd.drew:=⟨fi0,fi1,fi2⟩
         refine rgn.tl (i:=0) (v:=?v151) rfl (by kernel_rfl) (fun _ _ _ h => h) (by rfl) ?hy151 hS0 ?_
         case hy151 => (intro w' hw';obtain ⟨q0,q1,q2⟩:=hw';go_simp;try with_reducible rfl)
         simp only [zA,zB,zC,Act.put,zD,zE,zF]
         refine rgn.tl (i:=1) (v:=?v152) rfl (by kernel_rfl) (fun _ _ _ h => h) (by rfl) ?hy152 hS0 ?_
         case hy152 => (intro w' hw';obtain ⟨q0,q1,q2⟩:=hw';go_simp;try with_reducible rfl)
         simp only [zA,zB,zC,Act.put,zD,zE,zF]
         refine rgn.tl (i:=2) (v:=?v153) rfl (by kernel_rfl) (fun _ _ _ h => h) (by rfl) ?hy153 hS0 ?_
         case hy153 => (intro w' hw';obtain ⟨q0,q1,q2⟩:=hw';go_simp;try with_reducible rfl)
         simp only [zA,zB,zC,Act.put,zD,zE,zF]
         refine rgn.tl (i:=3) (v:=?v154) rfl (by kernel_rfl) (fun _ _ _ h => h) (by rfl) ?hy154 hS0 ?_
         case hy154 => (intro w' hw';obtain ⟨q0,q1,q2⟩:=hw';go_simp;try with_reducible rfl)
         simp only [zA,zB,zC,Act.put,zD,zE,zF]
         refine rgn.tl (i:=4) (v:=?v155) rfl (by kernel_rfl) (fun _ _ _ h => h) (by rfl) ?hy155 hS0 ?_
         case hy155 => (intro w' hw';obtain ⟨q0,q1,q2⟩:=hw';go_simp;try with_reducible rfl)
         simp only [zA,zB,zC,Act.put,zD,zE,zF]
         refine rgn.tl (i:=5) (v:=?v156) rfl (by kernel_rfl) (fun _ _ _ h => h) (by rfl) ?hy156 hS0 ?_
         case hy156 => (intro w' hw';obtain ⟨q0,q1,q2⟩:=hw';go_simp;try with_reducible rfl)
         simp only [zA,zB,zC,Act.put,zD,zE,zF]
         refine rgn.tl (i:=6) (v:=?v157) rfl (by kernel_rfl) (fun _ _ _ h => h) (by rfl) ?hy157 hS0 ?_
         case hy157 => (intro w' hw';obtain ⟨q0,q1,q2⟩:=hw';go_simp;try with_reducible rfl)
         simp only [zA,zB,zC,Act.put,zD,zE,zF]
         refine rgn.tl (i:=7) (v:=?v158) rfl (by kernel_rfl) (fun _ _ _ h => h) (by rfl) ?hy158 hS0 ?_
         case hy158 => (intro w' hw';obtain ⟨q0,q1,q2⟩:=hw';go_simp;try with_reducible rfl)
         simp only [zA,zB,zC,Act.put,zD,zE,zF]
         refine rgn.tl (i:=8) (v:=?v159) rfl (by kernel_rfl) (fun _ _ _ h => h) (by rfl) ?hy159 hS0 ?_
         case hy159 => (intro w' hw';obtain ⟨q0,q1,q2⟩:=hw';go_simp;try with_reducible rfl)
         simp only [zA,zB,zC,Act.put,zD,zE,zF]
         refine rgn.tl (i:=9) (v:=?v160) rfl (by kernel_rfl) (fun _ _ _ h => h) (by rfl) ?hy160 hS0 ?_
         case hy160 => (intro w' hw';obtain ⟨q0,q1,q2⟩:=hw';go_simp;try with_reducible rfl)
         simp only [zA,zB,zC,Act.put,zD,zE,zF]
         refine rgn.tl (i:=10) (v:=?v161) rfl (by kernel_rfl) (fun _ _ _ h => h) (by rfl) ?hy161 hS0 ?_
         case hy161 => (intro w' hw';obtain ⟨q0,q1,q2⟩:=hw';go_simp;try with_reducible rfl)
         simp only [zA,zB,zC,Act.put,zD,zE,zF]
         refine rgn.tl (i:=11) (v:=?v162) rfl (by kernel_rfl) (fun _ _ _ h => h) (by rfl) ?hy162 hS0 ?_
         case hy162 => (intro w' hw';obtain ⟨q0,q1,q2⟩:=hw';go_simp;try with_reducible rfl)
         simp only [zA,zB,zC,Act.put,zD,zE,zF]
         refine wpAnyH_done (by kernel_rfl) ?_ _;refine NoPanic.normal ?_
         clear hS0
         go_wp2_with fail
         refine wp_at_eq (w':=wd.drew) rfl ?_
         obtain ⟨we,hwd⟩:∃ wz,wz = wd.drew:=⟨_,rfl⟩
         rw [← hwd]
         have fi0:we.cell? ⟨9,0,none⟩ = some (.int .u64 52):=by rw [hwd];exact fi0
         have fi1:we.cell? ⟨9,1,none⟩ = some (.int .u64 11):=by rw [hwd];exact fi1
         have fi2:we.cell? ⟨9,2,none⟩ = some (.int .i64 (-1023)):=by rw [hwd];exact fi2
         have c4:we.cell? ⟨b,802,none⟩ = some (.bool s.ng):=by rw [hwd];exact c4
         have HBe:=hide (show Below b w we by rw [hwd];exact (unhide HBd).drew)
         have hlwe:b < we.heap.size:=by have:=(unhide HBe).size;have:=(unhide HH).lt;omega
         clear hwd
         go_step3
         have ku1:IntKind.u64.wrap 4503599627370496 = 4503599627370496:=by rw [IntKind.wrap_u64];rfl
         have ku2:IntKind.u64.wrap 9223372036854775808 = 9223372036854775808:=by rw [IntKind.wrap_u64];rfl
         have ko1:bits .and .u64 0 4503599627370495 = 0:=by decide
         have ko2:bits .and .i64 2047 2047 = 2047:=by decide
         have ko3:IntKind.u64.wrap 2047 = 2047:=by rw [IntKind.wrap_u64];rfl
         have ko4:IntKind.u64.wrap 9218868437227405312 = 9218868437227405312:=by rw [IntKind.wrap_u64];rfl
         have ko5:bits .or .u64 0 9218868437227405312 = 9218868437227405312:=by decide
         have ko6:bits .or .u64 9218868437227405312 9223372036854775808 = 18442240474082181120:=by decide
         have HFIN:=hide (fin_o (unhide EN).1 (by omega))
         go_wp2_with fail
         refine wp_region_noPanic ?_
         refine wp_region_held (S:=fun w' => w'.cell? ⟨9,0,none⟩ = some (.int .u64 52) ∧ w'.cell? ⟨9,1,none⟩ = some (.int .u64 11) ∧ w'.cell? ⟨9,2,none⟩ = some (.int .i64 (-1023))) mixedD ?_
         have hS0:(fun w':World => w'.cell? ⟨9,0,none⟩ = some (.int .u64 52) ∧ w'.cell? ⟨9,1,none⟩ = some (.int .u64 11) ∧ w'.cell? ⟨9,2,none⟩ = some (.int .i64 (-1023))) we.drew:=⟨fi0,fi1,fi2⟩
         refine rgn.tl (i:=0) (v:=?v163) rfl (by kernel_rfl) (fun _ _ _ h => h) (by rfl) ?hy163 hS0 ?_
         case hy163 => (intro w' hw';obtain ⟨q0,q1,q2⟩:=hw';go_simp;try with_reducible rfl)
         simp only [zA,zB,zC,Act.put,zD,zE,zF]
         refine rgn.tl (i:=1) (v:=?v164) rfl (by kernel_rfl) (fun _ _ _ h => h) (by rfl) ?hy164 hS0 ?_
         case hy164 => (intro w' hw';obtain ⟨q0,q1,q2⟩:=hw';go_simp;try with_reducible rfl)
         simp only [zA,zB,zC,Act.put,zD,zE,zF]
         refine rgn.tl (i:=2) (v:=?v165) rfl (by kernel_rfl) (fun _ _ _ h => h) (by rfl) ?hy165 hS0 ?_
         case hy165 => (intro w' hw';obtain ⟨q0,q1,q2⟩:=hw';go_simp;try with_reducible rfl)
         simp only [zA,zB,zC,Act.put,zD,zE,zF]
         refine rgn.tl (i:=3) (v:=?v166) rfl (by kernel_rfl) (fun _ _ _ h => h) (by rfl) ?hy166 hS0 ?_
         case hy166 => (intro w' hw';obtain ⟨q0,q1,q2⟩:=hw';go_simp;try with_reducible rfl)
         simp only [zA,zB,zC,Act.put,zD,zE,zF]
         refine rgn.tl (i:=4) (v:=?v167) rfl (by kernel_rfl) (fun _ _ _ h => h) (by rfl) ?hy167 hS0 ?_
         case hy167 => (intro w' hw';obtain ⟨q0,q1,q2⟩:=hw';go_simp;try with_reducible rfl)
         simp only [zA,zB,zC,Act.put,zD,zE,zF]
         refine rgn.tl (i:=5) (v:=?v168) rfl (by kernel_rfl) (fun _ _ _ h => h) (by rfl) ?hy168 hS0 ?_
         case hy168 => (intro w' hw';obtain ⟨q0,q1,q2⟩:=hw';go_simp;try with_reducible rfl)
         simp only [zA,zB,zC,Act.put,zD,zE,zF]
         refine rgn.tl (i:=6) (v:=?v169) rfl (by kernel_rfl) (fun _ _ _ h => h) (by rfl) ?hy169 hS0 ?_
         case hy169 => (intro w' hw';obtain ⟨q0,q1,q2⟩:=hw';go_simp;try with_reducible rfl)
         simp only [zA,zB,zC,Act.put,zD,zE,zF]
         refine rgn.tl (i:=7) (v:=?v170) rfl (by kernel_rfl) (fun _ _ _ h => h) (by rfl) ?hy170 hS0 ?_
         case hy170 => (intro w' hw';obtain ⟨q0,q1,q2⟩:=hw';go_simp;try with_reducible rfl)
         simp only [zA,zB,zC,Act.put,zD,zE,zF]
         refine rgn.tl (i:=8) (v:=?v171) rfl (by kernel_rfl) (fun _ _ _ h => h) (by rfl) ?hy171 hS0 ?_
         case hy171 => (intro w' hw';obtain ⟨q0,q1,q2⟩:=hw';go_simp;try with_reducible rfl)
         simp only [zA,zB,zC,Act.put,zD,zE,zF]
         refine rgn.tl (i:=9) (v:=?v172) rfl (by kernel_rfl) (fun _ _ _ h => h) (by rfl) ?hy172 hS0 ?_
         case hy172 => (intro w' hw';obtain ⟨q0,q1,q2⟩:=hw';go_simp;try with_reducible rfl)
         simp only [zA,zB,zC,Act.put,zD,zE,zF]
         refine rgn.tl (i:=10) (v:=?v173) rfl (by kernel_rfl) (fun _ _ _ h => h) (by rfl) ?hy173 hS0 ?_
         case hy173 => (intro w' hw';obtain ⟨q0,q1,q2⟩:=hw';go_simp;try with_reducible rfl)
         simp only [zA,zB,zC,Act.put,zD,zE,zF]
         refine rgn.tl (i:=11) (v:=?v174) rfl (by kernel_rfl) (fun _ _ _ h => h) (by rfl) ?hy174 hS0 ?_
         case hy174 => (intro w' hw';obtain ⟨q0,q1,q2⟩:=hw';go_simp;try with_reducible rfl)
         simp only [zA,zB,zC,Act.put,zD,zE,zF]
         refine rgn.tl (i:=12) (v:=?v175) rfl (by kernel_rfl) (fun _ _ _ h => h) (by rfl) ?hy175 hS0 ?_
         case hy175 => (intro w' hw';obtain ⟨q0,q1,q2⟩:=hw';go_simp;try with_reducible rfl)
         simp only [zA,zB,zC,Act.put,zD,zE,zF]
         refine rgn.tl (i:=13) (v:=?v176) rfl (by kernel_rfl) (fun _ _ _ h => h) (by rfl) ?hy176 hS0 ?_
         case hy176 => (intro w' hw';obtain ⟨q0,q1,q2⟩:=hw';go_simp;try with_reducible rfl)
         simp only [zA,zB,zC,Act.put,zD,zE,zF]
         refine rgn.tl (i:=14) (v:=?v177) rfl (by kernel_rfl) (fun _ _ _ h => h) (by rfl) ?hy177 hS0 ?_
         case hy177 => (intro w' hw';obtain ⟨q0,q1,q2⟩:=hw';go_simp;try with_reducible rfl)
         simp only [zA,zB,zC,Act.put,zD,zE,zF]
         refine rgn.tl (i:=15) (v:=?v178) rfl (by kernel_rfl) (fun _ _ _ h => h) (by rfl) ?hy178 hS0 ?_
         case hy178 => (intro w' hw';obtain ⟨q0,q1,q2⟩:=hw';go_simp;try with_reducible rfl)
         simp only [zA,zB,zC,Act.put,zD,zE,zF]
         refine rgn.tl (i:=16) (v:=?v179) rfl (by kernel_rfl) (fun _ _ _ h => h) (by rfl) ?hy179 hS0 ?_
         case hy179 => (intro w' hw';obtain ⟨q0,q1,q2⟩:=hw';go_simp;try with_reducible rfl)
         simp only [zA,zB,zC,Act.put,zD,zE,zF]
         refine rgn.tl (i:=17) (v:=?v180) rfl (by kernel_rfl) (fun _ _ _ h => h) (by rfl) ?hy180 hS0 ?_
         case hy180 => (intro w' hw';obtain ⟨q0,q1,q2⟩:=hw';go_simp;try with_reducible rfl)
         simp only [zA,zB,zC,Act.put,zD,zE,zF]
         refine rgn.tl (i:=18) (v:=?v181) rfl (by kernel_rfl) (fun _ _ _ h => h) (by rfl) ?hy181 hS0 ?_
         case hy181 => (intro w' hw';obtain ⟨q0,q1,q2⟩:=hw';go_simp;try with_reducible rfl)
         simp only [zA,zB,zC,Act.put,zD,zE,zF]
         refine rgn.tl (i:=19) (v:=?v182) rfl (by kernel_rfl) (fun _ _ _ h => h) (by rfl) ?hy182 hS0 ?_
         case hy182 => (intro w' hw';obtain ⟨q0,q1,q2⟩:=hw';go_simp;try with_reducible rfl)
         simp only [zA,zB,zC,Act.put,zD,zE,zF]
         refine rgn.tl (i:=20) (v:=?v183) rfl (by kernel_rfl) (fun _ _ _ h => h) (by rfl) ?hy183 hS0 ?_
         case hy183 => (intro w' hw';obtain ⟨q0,q1,q2⟩:=hw';go_simp;try with_reducible rfl)
         simp only [zA,zB,zC,Act.put,zD,zE,zF]
         refine rgn.tl (i:=21) (v:=?v184) rfl (by kernel_rfl) (fun _ _ _ h => h) (by rfl) ?hy184 hS0 ?_
         case hy184 => (intro w' hw';obtain ⟨q0,q1,q2⟩:=hw';go_simp;try with_reducible rfl)
         simp only [zA,zB,zC,Act.put,zD,zE,zF]
         refine wpAnyH_done (by kernel_rfl) ?_ _;refine NoPanic.normal ?_
         clear hS0
         cases hng:s.ng
         ·rw [hng] at c4
          go_wp2
          simp only [Exit.noGoto_ret]
          go_ret2
          refine ⟨?_,(unhide HBe).drew⟩
          obtain ⟨V,v1,v2⟩:=unhide HFIN
          have:=fb_inf (ng:=s.ng) v1 v2
          rw [hng] at this ⊢
          exact this
         ·rw [hng] at c4
          go_wp2_with fail
          refine wp_region_noPanic ?_
          refine wp_region_held (S:=fun w' => w'.cell? ⟨9,0,none⟩ = some (.int .u64 52) ∧ w'.cell? ⟨9,1,none⟩ = some (.int .u64 11) ∧ w'.cell? ⟨9,2,none⟩ = some (.int .i64 (-1023))) mixedD ?_
          have hS0:(fun w':World => w'.cell? ⟨9,0,none⟩ = some (.int .u64 52) ∧ w'.cell? ⟨9,1,none⟩ = some (.int .u64 11) ∧ w'.cell? ⟨9,2,none⟩ = some (.int .i64 (-1023))) we.drew.drew:=⟨fi0,fi1,fi2⟩
          refine rgn.tl (i:=0) (v:=?v185) rfl (by kernel_rfl) (fun _ _ _ h => h) (by rfl) ?hy185 hS0 ?_
          case hy185 => (intro w' hw';obtain ⟨q0,q1,q2⟩:=hw';go_simp;try with_reducible rfl)
          simp only [zA,zB,zC,Act.put,zD,zE,zF]
          refine rgn.tl (i:=1) (v:=?v186) rfl (by kernel_rfl) (fun _ _ _ h => h) (by rfl) ?hy186 hS0 ?_
          case hy186 => (intro w' hw';obtain ⟨q0,q1,q2⟩:=hw';go_simp;try with_reducible rfl)
          simp only [zA,zB,zC,Act.put,zD,zE,zF]
          refine rgn.tl (i:=2) (v:=?v187) rfl (by kernel_rfl) (fun _ _ _ h => h) (by rfl) ?hy187 hS0 ?_
          case hy187 => (intro w' hw';obtain ⟨q0,q1,q2⟩:=hw';go_simp;try with_reducible rfl)
          simp only [zA,zB,zC,Act.put,zD,zE,zF]
          refine rgn.tl (i:=3) (v:=?v188) rfl (by kernel_rfl) (fun _ _ _ h => h) (by rfl) ?hy188 hS0 ?_
          case hy188 => (intro w' hw';obtain ⟨q0,q1,q2⟩:=hw';go_simp;try with_reducible rfl)
          simp only [zA,zB,zC,Act.put,zD,zE,zF]
          refine rgn.tl (i:=4) (v:=?v189) rfl (by kernel_rfl) (fun _ _ _ h => h) (by rfl) ?hy189 hS0 ?_
          case hy189 => (intro w' hw';obtain ⟨q0,q1,q2⟩:=hw';go_simp;try with_reducible rfl)
          simp only [zA,zB,zC,Act.put,zD,zE,zF]
          refine rgn.tl (i:=5) (v:=?v190) rfl (by kernel_rfl) (fun _ _ _ h => h) (by rfl) ?hy190 hS0 ?_
          case hy190 => (intro w' hw';obtain ⟨q0,q1,q2⟩:=hw';go_simp;try with_reducible rfl)
          simp only [zA,zB,zC,Act.put,zD,zE,zF]
          refine rgn.tl (i:=6) (v:=?v191) rfl (by kernel_rfl) (fun _ _ _ h => h) (by rfl) ?hy191 hS0 ?_
          case hy191 => (intro w' hw';obtain ⟨q0,q1,q2⟩:=hw';go_simp;try with_reducible rfl)
          simp only [zA,zB,zC,Act.put,zD,zE,zF]
          refine rgn.tl (i:=7) (v:=?v192) rfl (by kernel_rfl) (fun _ _ _ h => h) (by rfl) ?hy192 hS0 ?_
          case hy192 => (intro w' hw';obtain ⟨q0,q1,q2⟩:=hw';go_simp;try with_reducible rfl)
          simp only [zA,zB,zC,Act.put,zD,zE,zF]
          refine rgn.tl (i:=8) (v:=?v193) rfl (by kernel_rfl) (fun _ _ _ h => h) (by rfl) ?hy193 hS0 ?_
          case hy193 => (intro w' hw';obtain ⟨q0,q1,q2⟩:=hw';go_simp;try with_reducible rfl)
          simp only [zA,zB,zC,Act.put,zD,zE,zF]
          refine rgn.tl (i:=9) (v:=?v194) rfl (by kernel_rfl) (fun _ _ _ h => h) (by rfl) ?hy194 hS0 ?_
          case hy194 => (intro w' hw';obtain ⟨q0,q1,q2⟩:=hw';go_simp;try with_reducible rfl)
          simp only [zA,zB,zC,Act.put,zD,zE,zF]
          refine rgn.tl (i:=10) (v:=?v195) rfl (by kernel_rfl) (fun _ _ _ h => h) (by rfl) ?hy195 hS0 ?_
          case hy195 => (intro w' hw';obtain ⟨q0,q1,q2⟩:=hw';go_simp;try with_reducible rfl)
          simp only [zA,zB,zC,Act.put,zD,zE,zF]
          refine rgn.tl (i:=11) (v:=?v196) rfl (by kernel_rfl) (fun _ _ _ h => h) (by rfl) ?hy196 hS0 ?_
          case hy196 => (intro w' hw';obtain ⟨q0,q1,q2⟩:=hw';go_simp;try with_reducible rfl)
          simp only [zA,zB,zC,Act.put,zD,zE,zF]
          refine rgn.tl (i:=12) (v:=?v197) rfl (by kernel_rfl) (fun _ _ _ h => h) (by rfl) ?hy197 hS0 ?_
          case hy197 => (intro w' hw';obtain ⟨q0,q1,q2⟩:=hw';go_simp;try with_reducible rfl)
          simp only [zA,zB,zC,Act.put,zD,zE,zF]
          refine wpAnyH_done (by kernel_rfl) ?_ _;refine NoPanic.normal ?_
          clear hS0
          go_wp2
          simp only [Exit.noGoto_ret]
          go_ret2
          refine ⟨?_,(unhide HBe).drew.drew⟩
          obtain ⟨V,v1,v2⟩:=unhide HFIN
          have:=fb_inf (ng:=s.ng) v1 v2
          rw [hng] at this ⊢
          exact this
        ·have iov2:¬ (2047:Int) ≤ (K:Int) + 2:=by omega
         have iand:bits .and .u64 4503599627370496 4503599627370496 = 4503599627370496:=by decide
         refine wp_region_noPanic ?_
         refine wp_region_held (S:=fun w' => w'.cell? ⟨9,0,none⟩ = some (.int .u64 52) ∧ w'.cell? ⟨9,1,none⟩ = some (.int .u64 11) ∧ w'.cell? ⟨9,2,none⟩ = some (.int .i64 (-1023))) mixedD ?_
         have hS0:(fun w':World => w'.cell? ⟨9,0,none⟩ = some (.int .u64 52) ∧ w'.cell? ⟨9,1,none⟩ = some (.int .u64 11) ∧ w'.cell? ⟨9,2,none⟩ = some (.int .i64 (-1023))) w2.drew:=⟨fi0,fi1,fi2⟩
         refine rgn.tl (i:=0) (v:=?v198) rfl (by kernel_rfl) (fun _ _ _ h => h) (by rfl) ?hy198 hS0 ?_
         case hy198 => (intro w' hw';obtain ⟨q0,q1,q2⟩:=hw';go_simp;try with_reducible rfl)
         simp only [zA,zB,zC,Act.put,zD,zE,zF]
         refine rgn.tl (i:=1) (v:=?v199) rfl (by kernel_rfl) (fun _ _ _ h => h) (by rfl) ?hy199 hS0 ?_
         case hy199 => (intro w' hw';obtain ⟨q0,q1,q2⟩:=hw';go_simp;try with_reducible rfl)
         simp only [zA,zB,zC,Act.put,zD,zE,zF]
         refine rgn.tl (i:=2) (v:=?v200) rfl (by kernel_rfl) (fun _ _ _ h => h) (by rfl) ?hy200 hS0 ?_
         case hy200 => (intro w' hw';obtain ⟨q0,q1,q2⟩:=hw';go_simp;try with_reducible rfl)
         simp only [zA,zB,zC,Act.put,zD,zE,zF]
         refine rgn.tl (i:=3) (v:=?v201) rfl (by kernel_rfl) (fun _ _ _ h => h) (by rfl) ?hy201 hS0 ?_
         case hy201 => (intro w' hw';obtain ⟨q0,q1,q2⟩:=hw';go_simp;try with_reducible rfl)
         simp only [zA,zB,zC,Act.put,zD,zE,zF]
         refine rgn.tl (i:=4) (v:=?v202) rfl (by kernel_rfl) (fun _ _ _ h => h) (by rfl) ?hy202 hS0 ?_
         case hy202 => (intro w' hw';obtain ⟨q0,q1,q2⟩:=hw';go_simp;try with_reducible rfl)
         simp only [zA,zB,zC,Act.put,zD,zE,zF]
         refine rgn.tl (i:=5) (v:=?v203) rfl (by kernel_rfl) (fun _ _ _ h => h) (by rfl) ?hy203 hS0 ?_
         case hy203 => (intro w' hw';obtain ⟨q0,q1,q2⟩:=hw';go_simp;try with_reducible rfl)
         simp only [zA,zB,zC,Act.put,zD,zE,zF]
         refine rgn.tl (i:=6) (v:=?v204) rfl (by kernel_rfl) (fun _ _ _ h => h) (by rfl) ?hy204 hS0 ?_
         case hy204 => (intro w' hw';obtain ⟨q0,q1,q2⟩:=hw';go_simp;try with_reducible rfl)
         simp only [zA,zB,zC,Act.put,zD,zE,zF]
         refine rgn.tl (i:=7) (v:=?v205) rfl (by kernel_rfl) (fun _ _ _ h => h) (by rfl) ?hy205 hS0 ?_
         case hy205 => (intro w' hw';obtain ⟨q0,q1,q2⟩:=hw';go_simp;try with_reducible rfl)
         simp only [zA,zB,zC,Act.put,zD,zE,zF]
         refine rgn.tl (i:=8) (v:=?v206) rfl (by kernel_rfl) (fun _ _ _ h => h) (by rfl) ?hy206 hS0 ?_
         case hy206 => (intro w' hw';obtain ⟨q0,q1,q2⟩:=hw';go_simp;try with_reducible rfl)
         simp only [zA,zB,zC,Act.put,zD,zE,zF]
         refine rgn.tl (i:=9) (v:=?v207) rfl (by kernel_rfl) (fun _ _ _ h => h) (by rfl) ?hy207 hS0 ?_
         case hy207 => (intro w' hw';obtain ⟨q0,q1,q2⟩:=hw';go_simp;try with_reducible rfl)
         simp only [zA,zB,zC,Act.put,zD,zE,zF]
         refine rgn.tl (i:=10) (v:=?v208) rfl (by kernel_rfl) (fun _ _ _ h => h) (by rfl) ?hy208 hS0 ?_
         case hy208 => (intro w' hw';obtain ⟨q0,q1,q2⟩:=hw';go_simp;try with_reducible rfl)
         simp only [zA,zB,zC,Act.put,zD,zE,zF]
         refine rgn.tl (i:=11) (v:=?v209) rfl (by kernel_rfl) (fun _ _ _ h => h) (by rfl) ?hy209 hS0 ?_
         case hy209 => (intro w' hw';obtain ⟨q0,q1,q2⟩:=hw';go_simp;try with_reducible rfl)
         simp only [zA,zB,zC,Act.put,zD,zE,zF]
         refine rgn.tl (i:=12) (v:=?v210) rfl (by kernel_rfl) (fun _ _ _ h => h) (by rfl) ?hy210 hS0 ?_
         case hy210 => (intro w' hw';obtain ⟨q0,q1,q2⟩:=hw';go_simp;try with_reducible rfl)
         simp only [zA,zB,zC,Act.put,zD,zE,zF]
         refine wpAnyH_done (by kernel_rfl) ?_ _;refine NoPanic.normal ?_
         clear hS0
         obtain ⟨ef,hef⟩:∃ ef:Nat,ef = K + 2:=⟨_,rfl⟩
         have ke2:IntKind.i64.wrap ((K:Int) - 1021 - -1023) = (ef:Int):=by rw [kf3];omega
         have ke3:IntKind.i64.wrap ((K:Int) - 1021 + 1023) = (ef:Int):=by rw [kf4];omega
         clear kf3 kf4
         go_wp2_with fail
         go_step3
         repeat rw [then_goto]
         refine jump_0 ?_
         refine wp_at_eq (w':=w2.drew) rfl ?_
         obtain ⟨wd,hwd⟩:∃ wz,wz = w2.drew:=⟨_,rfl⟩
         rw [← hwd]
         have fi0:wd.cell? ⟨9,0,none⟩ = some (.int .u64 52):=by rw [hwd];exact fi0
         have fi1:wd.cell? ⟨9,1,none⟩ = some (.int .u64 11):=by rw [hwd];exact fi1
         have fi2:wd.cell? ⟨9,2,none⟩ = some (.int .i64 (-1023)):=by rw [hwd];exact fi2
         have c4:wd.cell? ⟨b,802,none⟩ = some (.bool s.ng):=by rw [hwd];exact c4
         have HBd:=hide (show Below b w wd by rw [hwd];exact (unhide HB4).drew)
         have hlwd:b < wd.heap.size:=by have:=(unhide HBd).size;have:=(unhide HH).lt;omega
         clear hwd
         have ku1:IntKind.u64.wrap 4503599627370496 = 4503599627370496:=by rw [IntKind.wrap_u64];rfl
         have ku2:IntKind.u64.wrap 9223372036854775808 = 9223372036854775808:=by rw [IntKind.wrap_u64];rfl
         have kt1:bits .and .u64 4503599627370496 4503599627370495 = 0:=by decide
         have kt3:=and_ef ef (by omega)
         have kt4:IntKind.u64.wrap (ef:Int) = (ef:Int):=by rw [IntKind.wrap_u64];omega
         have kt5:IntKind.u64.wrap ((ef:Int) * 4503599627370496) = (ef:Int) * 4503599627370496:=by rw [IntKind.wrap_u64];omega
         have kt6:=or_e 0 ef (by decide) (by omega)
         obtain ⟨R,hR⟩:∃ R,R = 0 + ef * 4503599627370496:=⟨_,rfl⟩
         have hRb:R < 9223372036854775808:=by omega
         rw [← hR] at kt6
         have kt6:bits .or .u64 0 ((ef:Int) * 4503599627370496) = (R:Int):=kt6
         have kt7:=or_s R hRb
         have HFIN:=hide (fin_n (R:=R) (unhide EN).1 (by omega) (by omega))
         have HEF:=hide hef
         clear hef hR hRb
         go_wp2_with fail
         refine wp_region_noPanic ?_
         refine wp_region_held (S:=fun w' => w'.cell? ⟨9,0,none⟩ = some (.int .u64 52) ∧ w'.cell? ⟨9,1,none⟩ = some (.int .u64 11) ∧ w'.cell? ⟨9,2,none⟩ = some (.int .i64 (-1023))) mixedD ?_
         have hS0:(fun w':World => w'.cell? ⟨9,0,none⟩ = some (.int .u64 52) ∧ w'.cell? ⟨9,1,none⟩ = some (.int .u64 11) ∧ w'.cell? ⟨9,2,none⟩ = some (.int .i64 (-1023))) wd.drew:=⟨fi0,fi1,fi2⟩
         refine rgn.tl (i:=0) (v:=?v211) rfl (by kernel_rfl) (fun _ _ _ h => h) (by rfl) ?hy211 hS0 ?_
         case hy211 => (intro w' hw';obtain ⟨q0,q1,q2⟩:=hw';go_simp;try with_reducible rfl)
         simp only [zA,zB,zC,Act.put,zD,zE,zF]
         refine rgn.tl (i:=1) (v:=?v212) rfl (by kernel_rfl) (fun _ _ _ h => h) (by rfl) ?hy212 hS0 ?_
         case hy212 => (intro w' hw';obtain ⟨q0,q1,q2⟩:=hw';go_simp;try with_reducible rfl)
         simp only [zA,zB,zC,Act.put,zD,zE,zF]
         refine rgn.tl (i:=2) (v:=?v213) rfl (by kernel_rfl) (fun _ _ _ h => h) (by rfl) ?hy213 hS0 ?_
         case hy213 => (intro w' hw';obtain ⟨q0,q1,q2⟩:=hw';go_simp;try with_reducible rfl)
         simp only [zA,zB,zC,Act.put,zD,zE,zF]
         refine rgn.tl (i:=3) (v:=?v214) rfl (by kernel_rfl) (fun _ _ _ h => h) (by rfl) ?hy214 hS0 ?_
         case hy214 => (intro w' hw';obtain ⟨q0,q1,q2⟩:=hw';go_simp;try with_reducible rfl)
         simp only [zA,zB,zC,Act.put,zD,zE,zF]
         refine rgn.tl (i:=4) (v:=?v215) rfl (by kernel_rfl) (fun _ _ _ h => h) (by rfl) ?hy215 hS0 ?_
         case hy215 => (intro w' hw';obtain ⟨q0,q1,q2⟩:=hw';go_simp;try with_reducible rfl)
         simp only [zA,zB,zC,Act.put,zD,zE,zF]
         refine rgn.tl (i:=5) (v:=?v216) rfl (by kernel_rfl) (fun _ _ _ h => h) (by rfl) ?hy216 hS0 ?_
         case hy216 => (intro w' hw';obtain ⟨q0,q1,q2⟩:=hw';go_simp;try with_reducible rfl)
         simp only [zA,zB,zC,Act.put,zD,zE,zF]
         refine rgn.tl (i:=6) (v:=?v217) rfl (by kernel_rfl) (fun _ _ _ h => h) (by rfl) ?hy217 hS0 ?_
         case hy217 => (intro w' hw';obtain ⟨q0,q1,q2⟩:=hw';go_simp;try with_reducible rfl)
         simp only [zA,zB,zC,Act.put,zD,zE,zF]
         refine rgn.tl (i:=7) (v:=?v218) rfl (by kernel_rfl) (fun _ _ _ h => h) (by rfl) ?hy218 hS0 ?_
         case hy218 => (intro w' hw';obtain ⟨q0,q1,q2⟩:=hw';go_simp;try with_reducible rfl)
         simp only [zA,zB,zC,Act.put,zD,zE,zF]
         refine rgn.tl (i:=8) (v:=?v219) rfl (by kernel_rfl) (fun _ _ _ h => h) (by rfl) ?hy219 hS0 ?_
         case hy219 => (intro w' hw';obtain ⟨q0,q1,q2⟩:=hw';go_simp;try with_reducible rfl)
         simp only [zA,zB,zC,Act.put,zD,zE,zF]
         refine rgn.tl (i:=9) (v:=?v220) rfl (by kernel_rfl) (fun _ _ _ h => h) (by rfl) ?hy220 hS0 ?_
         case hy220 => (intro w' hw';obtain ⟨q0,q1,q2⟩:=hw';go_simp;try with_reducible rfl)
         simp only [zA,zB,zC,Act.put,zD,zE,zF]
         refine rgn.tl (i:=10) (v:=?v221) rfl (by kernel_rfl) (fun _ _ _ h => h) (by rfl) ?hy221 hS0 ?_
         case hy221 => (intro w' hw';obtain ⟨q0,q1,q2⟩:=hw';go_simp;try with_reducible rfl)
         simp only [zA,zB,zC,Act.put,zD,zE,zF]
         refine rgn.tl (i:=11) (v:=?v222) rfl (by kernel_rfl) (fun _ _ _ h => h) (by rfl) ?hy222 hS0 ?_
         case hy222 => (intro w' hw';obtain ⟨q0,q1,q2⟩:=hw';go_simp;try with_reducible rfl)
         simp only [zA,zB,zC,Act.put,zD,zE,zF]
         refine rgn.tl (i:=12) (v:=?v223) rfl (by kernel_rfl) (fun _ _ _ h => h) (by rfl) ?hy223 hS0 ?_
         case hy223 => (intro w' hw';obtain ⟨q0,q1,q2⟩:=hw';go_simp;try with_reducible rfl)
         simp only [zA,zB,zC,Act.put,zD,zE,zF]
         refine rgn.tl (i:=13) (v:=?v224) rfl (by kernel_rfl) (fun _ _ _ h => h) (by rfl) ?hy224 hS0 ?_
         case hy224 => (intro w' hw';obtain ⟨q0,q1,q2⟩:=hw';go_simp;try with_reducible rfl)
         simp only [zA,zB,zC,Act.put,zD,zE,zF]
         refine rgn.tl (i:=14) (v:=?v225) rfl (by kernel_rfl) (fun _ _ _ h => h) (by rfl) ?hy225 hS0 ?_
         case hy225 => (intro w' hw';obtain ⟨q0,q1,q2⟩:=hw';go_simp;try with_reducible rfl)
         simp only [zA,zB,zC,Act.put,zD,zE,zF]
         refine rgn.tl (i:=15) (v:=?v226) rfl (by kernel_rfl) (fun _ _ _ h => h) (by rfl) ?hy226 hS0 ?_
         case hy226 => (intro w' hw';obtain ⟨q0,q1,q2⟩:=hw';go_simp;try with_reducible rfl)
         simp only [zA,zB,zC,Act.put,zD,zE,zF]
         refine rgn.tl (i:=16) (v:=?v227) rfl (by kernel_rfl) (fun _ _ _ h => h) (by rfl) ?hy227 hS0 ?_
         case hy227 => (intro w' hw';obtain ⟨q0,q1,q2⟩:=hw';go_simp;try with_reducible rfl)
         simp only [zA,zB,zC,Act.put,zD,zE,zF]
         refine rgn.tl (i:=17) (v:=?v228) rfl (by kernel_rfl) (fun _ _ _ h => h) (by rfl) ?hy228 hS0 ?_
         case hy228 => (intro w' hw';obtain ⟨q0,q1,q2⟩:=hw';go_simp;try with_reducible rfl)
         simp only [zA,zB,zC,Act.put,zD,zE,zF]
         refine rgn.tl (i:=18) (v:=?v229) rfl (by kernel_rfl) (fun _ _ _ h => h) (by rfl) ?hy229 hS0 ?_
         case hy229 => (intro w' hw';obtain ⟨q0,q1,q2⟩:=hw';go_simp;try with_reducible rfl)
         simp only [zA,zB,zC,Act.put,zD,zE,zF]
         refine rgn.tl (i:=19) (v:=?v230) rfl (by kernel_rfl) (fun _ _ _ h => h) (by rfl) ?hy230 hS0 ?_
         case hy230 => (intro w' hw';obtain ⟨q0,q1,q2⟩:=hw';go_simp;try with_reducible rfl)
         simp only [zA,zB,zC,Act.put,zD,zE,zF]
         refine rgn.tl (i:=20) (v:=?v231) rfl (by kernel_rfl) (fun _ _ _ h => h) (by rfl) ?hy231 hS0 ?_
         case hy231 => (intro w' hw';obtain ⟨q0,q1,q2⟩:=hw';go_simp;try with_reducible rfl)
         simp only [zA,zB,zC,Act.put,zD,zE,zF]
         refine rgn.tl (i:=21) (v:=?v232) rfl (by kernel_rfl) (fun _ _ _ h => h) (by rfl) ?hy232 hS0 ?_
         case hy232 => (intro w' hw';obtain ⟨q0,q1,q2⟩:=hw';go_simp;try with_reducible rfl)
         simp only [zA,zB,zC,Act.put,zD,zE,zF]
         refine wpAnyH_done (by kernel_rfl) ?_ _;refine NoPanic.normal ?_
         clear hS0
         cases hng:s.ng
         ·rw [hng] at c4
          go_wp2
          simp only [Exit.noGoto_ret]
          go_ret2
          refine ⟨?_,(unhide HBd).drew⟩
          have:=fb_fin (ng:=s.ng) (unhide HFIN).1 (unhide HFIN).2
          rw [hng] at this ⊢
          simpa using this
         ·rw [hng] at c4
          go_wp2_with fail
          refine wp_region_noPanic ?_
          refine wp_region_held (S:=fun w' => w'.cell? ⟨9,0,none⟩ = some (.int .u64 52) ∧ w'.cell? ⟨9,1,none⟩ = some (.int .u64 11) ∧ w'.cell? ⟨9,2,none⟩ = some (.int .i64 (-1023))) mixedD ?_
          have hS0:(fun w':World => w'.cell? ⟨9,0,none⟩ = some (.int .u64 52) ∧ w'.cell? ⟨9,1,none⟩ = some (.int .u64 11) ∧ w'.cell? ⟨9,2,none⟩ = some (.int .i64 (-1023))) wd.drew.drew:=⟨fi0,fi1,fi2⟩
          refine rgn.tl (i:=0) (v:=?v233) rfl (by kernel_rfl) (fun _ _ _ h => h) (by rfl) ?hy233 hS0 ?_
          case hy233 => (intro w' hw';obtain ⟨q0,q1,q2⟩:=hw';go_simp;try with_reducible rfl)
          simp only [zA,zB,zC,Act.put,zD,zE,zF]
          refine rgn.tl (i:=1) (v:=?v234) rfl (by kernel_rfl) (fun _ _ _ h => h) (by rfl) ?hy234 hS0 ?_
          case hy234 => (intro w' hw';obtain ⟨q0,q1,q2⟩:=hw';go_simp;try with_reducible rfl)
          simp only [zA,zB,zC,Act.put,zD,zE,zF]
          refine rgn.tl (i:=2) (v:=?v235) rfl (by kernel_rfl) (fun _ _ _ h => h) (by rfl) ?hy235 hS0 ?_
          case hy235 => (intro w' hw';obtain ⟨q0,q1,q2⟩:=hw';go_simp;try with_reducible rfl)
          simp only [zA,zB,zC,Act.put,zD,zE,zF]
          refine rgn.tl (i:=3) (v:=?v236) rfl (by kernel_rfl) (fun _ _ _ h => h) (by rfl) ?hy236 hS0 ?_
          case hy236 => (intro w' hw';obtain ⟨q0,q1,q2⟩:=hw';go_simp;try with_reducible rfl)
          simp only [zA,zB,zC,Act.put,zD,zE,zF]
          refine rgn.tl (i:=4) (v:=?v237) rfl (by kernel_rfl) (fun _ _ _ h => h) (by rfl) ?hy237 hS0 ?_
          case hy237 => (intro w' hw';obtain ⟨q0,q1,q2⟩:=hw';go_simp;try with_reducible rfl)
          simp only [zA,zB,zC,Act.put,zD,zE,zF]
          refine rgn.tl (i:=5) (v:=?v238) rfl (by kernel_rfl) (fun _ _ _ h => h) (by rfl) ?hy238 hS0 ?_
          case hy238 => (intro w' hw';obtain ⟨q0,q1,q2⟩:=hw';go_simp;try with_reducible rfl)
          simp only [zA,zB,zC,Act.put,zD,zE,zF]
          refine rgn.tl (i:=6) (v:=?v239) rfl (by kernel_rfl) (fun _ _ _ h => h) (by rfl) ?hy239 hS0 ?_
          case hy239 => (intro w' hw';obtain ⟨q0,q1,q2⟩:=hw';go_simp;try with_reducible rfl)
          simp only [zA,zB,zC,Act.put,zD,zE,zF]
          refine rgn.tl (i:=7) (v:=?v240) rfl (by kernel_rfl) (fun _ _ _ h => h) (by rfl) ?hy240 hS0 ?_
          case hy240 => (intro w' hw';obtain ⟨q0,q1,q2⟩:=hw';go_simp;try with_reducible rfl)
          simp only [zA,zB,zC,Act.put,zD,zE,zF]
          refine rgn.tl (i:=8) (v:=?v241) rfl (by kernel_rfl) (fun _ _ _ h => h) (by rfl) ?hy241 hS0 ?_
          case hy241 => (intro w' hw';obtain ⟨q0,q1,q2⟩:=hw';go_simp;try with_reducible rfl)
          simp only [zA,zB,zC,Act.put,zD,zE,zF]
          refine rgn.tl (i:=9) (v:=?v242) rfl (by kernel_rfl) (fun _ _ _ h => h) (by rfl) ?hy242 hS0 ?_
          case hy242 => (intro w' hw';obtain ⟨q0,q1,q2⟩:=hw';go_simp;try with_reducible rfl)
          simp only [zA,zB,zC,Act.put,zD,zE,zF]
          refine rgn.tl (i:=10) (v:=?v243) rfl (by kernel_rfl) (fun _ _ _ h => h) (by rfl) ?hy243 hS0 ?_
          case hy243 => (intro w' hw';obtain ⟨q0,q1,q2⟩:=hw';go_simp;try with_reducible rfl)
          simp only [zA,zB,zC,Act.put,zD,zE,zF]
          refine rgn.tl (i:=11) (v:=?v244) rfl (by kernel_rfl) (fun _ _ _ h => h) (by rfl) ?hy244 hS0 ?_
          case hy244 => (intro w' hw';obtain ⟨q0,q1,q2⟩:=hw';go_simp;try with_reducible rfl)
          simp only [zA,zB,zC,Act.put,zD,zE,zF]
          refine rgn.tl (i:=12) (v:=?v245) rfl (by kernel_rfl) (fun _ _ _ h => h) (by rfl) ?hy245 hS0 ?_
          case hy245 => (intro w' hw';obtain ⟨q0,q1,q2⟩:=hw';go_simp;try with_reducible rfl)
          simp only [zA,zB,zC,Act.put,zD,zE,zF]
          refine wpAnyH_done (by kernel_rfl) ?_ _;refine NoPanic.normal ?_
          clear hS0
          go_wp2
          simp only [Exit.noGoto_ret]
          go_ret2
          refine ⟨?_,(unhide HBd).drew.drew⟩
          have:=fb_fin (ng:=s.ng) (unhide HFIN).1 (unhide HFIN).2
          rw [hng] at this ⊢
          simpa using this
       ·have iM3:((M:Int) == 9007199254740992) = false:=by rw [beq_eq_false_iff_ne];omega
        have iand:bits .and .u64 (M:Int) 4503599627370496 = 4503599627370496:=by
         have:=fto.and52 0 M (Or.inl rfl) (by omega)
         rw [Nat.zero_add,if_neg (by omega)] at this
         exact this
        obtain ⟨ef,hef⟩:∃ ef:Nat,ef = K + 1:=⟨_,rfl⟩
        have ke2:IntKind.i64.wrap ((K:Int) - 1022 - -1023) = (ef:Int):=by rw [kf];omega
        have ke3:IntKind.i64.wrap ((K:Int) - 1022 + 1023) = (ef:Int):=by rw [kf2];omega
        clear kf kf2
        go_wp2_with fail
        go_step3
        repeat rw [then_goto]
        refine jump_0 ?_
        have ku1:IntKind.u64.wrap 4503599627370496 = 4503599627370496:=by rw [IntKind.wrap_u64];rfl
        have ku2:IntKind.u64.wrap 9223372036854775808 = 9223372036854775808:=by rw [IntKind.wrap_u64];rfl
        have kt0:M < 18446744073709551616:=by omega
        have kt1:=and_m52 (M) kt0
        obtain ⟨r,hr⟩:∃ r,r = (M) % 4503599627370496:=⟨_,rfl⟩
        have hr52:r < 4503599627370496:=by omega
        rw [← hr] at kt1
        have kt3:=and_ef ef (by omega)
        have kt4:IntKind.u64.wrap (ef:Int) = (ef:Int):=by rw [IntKind.wrap_u64];omega
        have kt5:IntKind.u64.wrap ((ef:Int) * 4503599627370496) = (ef:Int) * 4503599627370496:=by rw [IntKind.wrap_u64];omega
        have kt6:=or_e r ef hr52 (by omega)
        obtain ⟨R,hR⟩:∃ R,R = r + ef * 4503599627370496:=⟨_,rfl⟩
        have hRb:R < 9223372036854775808:=by omega
        rw [← hR] at kt6
        have kt7:=or_s R hRb
        have HFIN:=hide (fin_n (R:=R) (unhide EN).1 (by omega) (by omega))
        have HEF:=hide hef
        clear hef hr hR hr52 hRb kt0
        go_wp2_with fail
        refine wp_region_noPanic ?_
        refine wp_region_held (S:=fun w' => w'.cell? ⟨9,0,none⟩ = some (.int .u64 52) ∧ w'.cell? ⟨9,1,none⟩ = some (.int .u64 11) ∧ w'.cell? ⟨9,2,none⟩ = some (.int .i64 (-1023))) mixedD ?_
        have hS0:(fun w':World => w'.cell? ⟨9,0,none⟩ = some (.int .u64 52) ∧ w'.cell? ⟨9,1,none⟩ = some (.int .u64 11) ∧ w'.cell? ⟨9,2,none⟩ = some (.int .i64 (-1023))) w2.drew:=⟨fi0,fi1,fi2⟩
        refine rgn.tl (i:=0) (v:=?v246) rfl (by kernel_rfl) (fun _ _ _ h => h) (by rfl) ?hy246 hS0 ?_
        case hy246 => (intro w' hw';obtain ⟨q0,q1,q2⟩:=hw';go_simp;try with_reducible rfl)
        simp only [zA,zB,zC,Act.put,zD,zE,zF]
        refine rgn.tl (i:=1) (v:=?v247) rfl (by kernel_rfl) (fun _ _ _ h => h) (by rfl) ?hy247 hS0 ?_
        case hy247 => (intro w' hw';obtain ⟨q0,q1,q2⟩:=hw';go_simp;try with_reducible rfl)
        simp only [zA,zB,zC,Act.put,zD,zE,zF]
        refine rgn.tl (i:=2) (v:=?v248) rfl (by kernel_rfl) (fun _ _ _ h => h) (by rfl) ?hy248 hS0 ?_
        case hy248 => (intro w' hw';obtain ⟨q0,q1,q2⟩:=hw';go_simp;try with_reducible rfl)
        simp only [zA,zB,zC,Act.put,zD,zE,zF]
        refine rgn.tl (i:=3) (v:=?v249) rfl (by kernel_rfl) (fun _ _ _ h => h) (by rfl) ?hy249 hS0 ?_
        case hy249 => (intro w' hw';obtain ⟨q0,q1,q2⟩:=hw';go_simp;try with_reducible rfl)
        simp only [zA,zB,zC,Act.put,zD,zE,zF]
        refine rgn.tl (i:=4) (v:=?v250) rfl (by kernel_rfl) (fun _ _ _ h => h) (by rfl) ?hy250 hS0 ?_
        case hy250 => (intro w' hw';obtain ⟨q0,q1,q2⟩:=hw';go_simp;try with_reducible rfl)
        simp only [zA,zB,zC,Act.put,zD,zE,zF]
        refine rgn.tl (i:=5) (v:=?v251) rfl (by kernel_rfl) (fun _ _ _ h => h) (by rfl) ?hy251 hS0 ?_
        case hy251 => (intro w' hw';obtain ⟨q0,q1,q2⟩:=hw';go_simp;try with_reducible rfl)
        simp only [zA,zB,zC,Act.put,zD,zE,zF]
        refine rgn.tl (i:=6) (v:=?v252) rfl (by kernel_rfl) (fun _ _ _ h => h) (by rfl) ?hy252 hS0 ?_
        case hy252 => (intro w' hw';obtain ⟨q0,q1,q2⟩:=hw';go_simp;try with_reducible rfl)
        simp only [zA,zB,zC,Act.put,zD,zE,zF]
        refine rgn.tl (i:=7) (v:=?v253) rfl (by kernel_rfl) (fun _ _ _ h => h) (by rfl) ?hy253 hS0 ?_
        case hy253 => (intro w' hw';obtain ⟨q0,q1,q2⟩:=hw';go_simp;try with_reducible rfl)
        simp only [zA,zB,zC,Act.put,zD,zE,zF]
        refine rgn.tl (i:=8) (v:=?v254) rfl (by kernel_rfl) (fun _ _ _ h => h) (by rfl) ?hy254 hS0 ?_
        case hy254 => (intro w' hw';obtain ⟨q0,q1,q2⟩:=hw';go_simp;try with_reducible rfl)
        simp only [zA,zB,zC,Act.put,zD,zE,zF]
        refine rgn.tl (i:=9) (v:=?v255) rfl (by kernel_rfl) (fun _ _ _ h => h) (by rfl) ?hy255 hS0 ?_
        case hy255 => (intro w' hw';obtain ⟨q0,q1,q2⟩:=hw';go_simp;try with_reducible rfl)
        simp only [zA,zB,zC,Act.put,zD,zE,zF]
        refine rgn.tl (i:=10) (v:=?v256) rfl (by kernel_rfl) (fun _ _ _ h => h) (by rfl) ?hy256 hS0 ?_
        case hy256 => (intro w' hw';obtain ⟨q0,q1,q2⟩:=hw';go_simp;try with_reducible rfl)
        simp only [zA,zB,zC,Act.put,zD,zE,zF]
        refine rgn.tl (i:=11) (v:=?v257) rfl (by kernel_rfl) (fun _ _ _ h => h) (by rfl) ?hy257 hS0 ?_
        case hy257 => (intro w' hw';obtain ⟨q0,q1,q2⟩:=hw';go_simp;try with_reducible rfl)
        simp only [zA,zB,zC,Act.put,zD,zE,zF]
        refine rgn.tl (i:=12) (v:=?v258) rfl (by kernel_rfl) (fun _ _ _ h => h) (by rfl) ?hy258 hS0 ?_
        case hy258 => (intro w' hw';obtain ⟨q0,q1,q2⟩:=hw';go_simp;try with_reducible rfl)
        simp only [zA,zB,zC,Act.put,zD,zE,zF]
        refine rgn.tl (i:=13) (v:=?v259) rfl (by kernel_rfl) (fun _ _ _ h => h) (by rfl) ?hy259 hS0 ?_
        case hy259 => (intro w' hw';obtain ⟨q0,q1,q2⟩:=hw';go_simp;try with_reducible rfl)
        simp only [zA,zB,zC,Act.put,zD,zE,zF]
        refine rgn.tl (i:=14) (v:=?v260) rfl (by kernel_rfl) (fun _ _ _ h => h) (by rfl) ?hy260 hS0 ?_
        case hy260 => (intro w' hw';obtain ⟨q0,q1,q2⟩:=hw';go_simp;try with_reducible rfl)
        simp only [zA,zB,zC,Act.put,zD,zE,zF]
        refine rgn.tl (i:=15) (v:=?v261) rfl (by kernel_rfl) (fun _ _ _ h => h) (by rfl) ?hy261 hS0 ?_
        case hy261 => (intro w' hw';obtain ⟨q0,q1,q2⟩:=hw';go_simp;try with_reducible rfl)
        simp only [zA,zB,zC,Act.put,zD,zE,zF]
        refine rgn.tl (i:=16) (v:=?v262) rfl (by kernel_rfl) (fun _ _ _ h => h) (by rfl) ?hy262 hS0 ?_
        case hy262 => (intro w' hw';obtain ⟨q0,q1,q2⟩:=hw';go_simp;try with_reducible rfl)
        simp only [zA,zB,zC,Act.put,zD,zE,zF]
        refine rgn.tl (i:=17) (v:=?v263) rfl (by kernel_rfl) (fun _ _ _ h => h) (by rfl) ?hy263 hS0 ?_
        case hy263 => (intro w' hw';obtain ⟨q0,q1,q2⟩:=hw';go_simp;try with_reducible rfl)
        simp only [zA,zB,zC,Act.put,zD,zE,zF]
        refine rgn.tl (i:=18) (v:=?v264) rfl (by kernel_rfl) (fun _ _ _ h => h) (by rfl) ?hy264 hS0 ?_
        case hy264 => (intro w' hw';obtain ⟨q0,q1,q2⟩:=hw';go_simp;try with_reducible rfl)
        simp only [zA,zB,zC,Act.put,zD,zE,zF]
        refine rgn.tl (i:=19) (v:=?v265) rfl (by kernel_rfl) (fun _ _ _ h => h) (by rfl) ?hy265 hS0 ?_
        case hy265 => (intro w' hw';obtain ⟨q0,q1,q2⟩:=hw';go_simp;try with_reducible rfl)
        simp only [zA,zB,zC,Act.put,zD,zE,zF]
        refine rgn.tl (i:=20) (v:=?v266) rfl (by kernel_rfl) (fun _ _ _ h => h) (by rfl) ?hy266 hS0 ?_
        case hy266 => (intro w' hw';obtain ⟨q0,q1,q2⟩:=hw';go_simp;try with_reducible rfl)
        simp only [zA,zB,zC,Act.put,zD,zE,zF]
        refine rgn.tl (i:=21) (v:=?v267) rfl (by kernel_rfl) (fun _ _ _ h => h) (by rfl) ?hy267 hS0 ?_
        case hy267 => (intro w' hw';obtain ⟨q0,q1,q2⟩:=hw';go_simp;try with_reducible rfl)
        simp only [zA,zB,zC,Act.put,zD,zE,zF]
        refine wpAnyH_done (by kernel_rfl) ?_ _;refine NoPanic.normal ?_
        clear hS0
        cases hng:s.ng
        ·rw [hng] at c4
         go_wp2
         simp only [Exit.noGoto_ret]
         go_ret2
         refine ⟨?_,(unhide HB4).drew⟩
         have:=fb_fin (ng:=s.ng) (unhide HFIN).1 (unhide HFIN).2
         rw [hng] at this ⊢
         simpa using this
        ·rw [hng] at c4
         go_wp2_with fail
         refine wp_region_noPanic ?_
         refine wp_region_held (S:=fun w' => w'.cell? ⟨9,0,none⟩ = some (.int .u64 52) ∧ w'.cell? ⟨9,1,none⟩ = some (.int .u64 11) ∧ w'.cell? ⟨9,2,none⟩ = some (.int .i64 (-1023))) mixedD ?_
         have hS0:(fun w':World => w'.cell? ⟨9,0,none⟩ = some (.int .u64 52) ∧ w'.cell? ⟨9,1,none⟩ = some (.int .u64 11) ∧ w'.cell? ⟨9,2,none⟩ = some (.int .i64 (-1023))) w2.drew.drew:=⟨fi0,fi1,fi2⟩
         refine rgn.tl (i:=0) (v:=?v268) rfl (by kernel_rfl) (fun _ _ _ h => h) (by rfl) ?hy268 hS0 ?_
         case hy268 => (intro w' hw';obtain ⟨q0,q1,q2⟩:=hw';go_simp;try with_reducible rfl)
         simp only [zA,zB,zC,Act.put,zD,zE,zF]
         refine rgn.tl (i:=1) (v:=?v269) rfl (by kernel_rfl) (fun _ _ _ h => h) (by rfl) ?hy269 hS0 ?_
         case hy269 => (intro w' hw';obtain ⟨q0,q1,q2⟩:=hw';go_simp;try with_reducible rfl)
         simp only [zA,zB,zC,Act.put,zD,zE,zF]
         refine rgn.tl (i:=2) (v:=?v270) rfl (by kernel_rfl) (fun _ _ _ h => h) (by rfl) ?hy270 hS0 ?_
         case hy270 => (intro w' hw';obtain ⟨q0,q1,q2⟩:=hw';go_simp;try with_reducible rfl)
         simp only [zA,zB,zC,Act.put,zD,zE,zF]
         refine rgn.tl (i:=3) (v:=?v271) rfl (by kernel_rfl) (fun _ _ _ h => h) (by rfl) ?hy271 hS0 ?_
         case hy271 => (intro w' hw';obtain ⟨q0,q1,q2⟩:=hw';go_simp;try with_reducible rfl)
         simp only [zA,zB,zC,Act.put,zD,zE,zF]
         refine rgn.tl (i:=4) (v:=?v272) rfl (by kernel_rfl) (fun _ _ _ h => h) (by rfl) ?hy272 hS0 ?_
         case hy272 => (intro w' hw';obtain ⟨q0,q1,q2⟩:=hw';go_simp;try with_reducible rfl)
         simp only [zA,zB,zC,Act.put,zD,zE,zF]
         refine rgn.tl (i:=5) (v:=?v273) rfl (by kernel_rfl) (fun _ _ _ h => h) (by rfl) ?hy273 hS0 ?_
         case hy273 => (intro w' hw';obtain ⟨q0,q1,q2⟩:=hw';go_simp;try with_reducible rfl)
         simp only [zA,zB,zC,Act.put,zD,zE,zF]
         refine rgn.tl (i:=6) (v:=?v274) rfl (by kernel_rfl) (fun _ _ _ h => h) (by rfl) ?hy274 hS0 ?_
         case hy274 => (intro w' hw';obtain ⟨q0,q1,q2⟩:=hw';go_simp;try with_reducible rfl)
         simp only [zA,zB,zC,Act.put,zD,zE,zF]
         refine rgn.tl (i:=7) (v:=?v275) rfl (by kernel_rfl) (fun _ _ _ h => h) (by rfl) ?hy275 hS0 ?_
         case hy275 => (intro w' hw';obtain ⟨q0,q1,q2⟩:=hw';go_simp;try with_reducible rfl)
         simp only [zA,zB,zC,Act.put,zD,zE,zF]
         refine rgn.tl (i:=8) (v:=?v276) rfl (by kernel_rfl) (fun _ _ _ h => h) (by rfl) ?hy276 hS0 ?_
         case hy276 => (intro w' hw';obtain ⟨q0,q1,q2⟩:=hw';go_simp;try with_reducible rfl)
         simp only [zA,zB,zC,Act.put,zD,zE,zF]
         refine rgn.tl (i:=9) (v:=?v277) rfl (by kernel_rfl) (fun _ _ _ h => h) (by rfl) ?hy277 hS0 ?_
         case hy277 => (intro w' hw';obtain ⟨q0,q1,q2⟩:=hw';go_simp;try with_reducible rfl)
         simp only [zA,zB,zC,Act.put,zD,zE,zF]
         refine rgn.tl (i:=10) (v:=?v278) rfl (by kernel_rfl) (fun _ _ _ h => h) (by rfl) ?hy278 hS0 ?_
         case hy278 => (intro w' hw';obtain ⟨q0,q1,q2⟩:=hw';go_simp;try with_reducible rfl)
         simp only [zA,zB,zC,Act.put,zD,zE,zF]
         refine rgn.tl (i:=11) (v:=?v279) rfl (by kernel_rfl) (fun _ _ _ h => h) (by rfl) ?hy279 hS0 ?_
         case hy279 => (intro w' hw';obtain ⟨q0,q1,q2⟩:=hw';go_simp;try with_reducible rfl)
         simp only [zA,zB,zC,Act.put,zD,zE,zF]
         refine rgn.tl (i:=12) (v:=?v280) rfl (by kernel_rfl) (fun _ _ _ h => h) (by rfl) ?hy280 hS0 ?_
         case hy280 => (intro w' hw';obtain ⟨q0,q1,q2⟩:=hw';go_simp;try with_reducible rfl)
         simp only [zA,zB,zC,Act.put,zD,zE,zF]
         refine wpAnyH_done (by kernel_rfl) ?_ _;refine NoPanic.normal ?_
         clear hS0
         go_wp2
         simp only [Exit.noGoto_ret]
         go_ret2
         refine ⟨?_,(unhide HB4).drew.drew⟩
         have:=fb_fin (ng:=s.ng) (unhide HFIN).1 (unhide HFIN).2
         rw [hng] at this ⊢
         simpa using this
     ·obtain ⟨n0,hn0'⟩:∃ n0:Nat,l = a + n0 + 1021:=⟨l - a - 1021,by omega⟩
      have hn1:1 ≤ n0:=by omega
      have hn81:n0 ≤ 81:=by omega
      obtain ⟨ha0,hE11⟩:=unhide HSUB l hlt (by omega)
      have ke1:IntKind.i64.wrap ((a:Int) - (l:Int) - 1) = -1022 - (n0:Int):=by rw [IntKind.wrap_i64];omega
      have hsb:-1022 - (n0:Int) < -1022:=by omega
      have kb1:IntKind.i64.wrap (-1022 - (-1022 - (n0:Int))) = (n0:Int):=by rw [IntKind.wrap_i64];omega
      have kb2:IntKind.i64.wrap (-(n0:Int)) = -(n0:Int):=by rw [IntKind.wrap_i64];omega
      have kb3:IntKind.i64.wrap (-1022 - (n0:Int) + (n0:Int)) = -1022:=by rw [IntKind.wrap_i64];omega
      have kb4:IntKind.i64.wrap (-1022) = -1022:=by rw [IntKind.wrap_i64];rfl
      have kk1:IntKind.i64.wrap 2048 = 2048:=by rw [IntKind.wrap_i64];rfl
      have kk2:IntKind.i64.wrap 2047 = 2047:=by rw [IntKind.wrap_i64];rfl
      have kk3:IntKind.i64.wrap 1 = 1:=by rw [IntKind.wrap_i64];rfl
      have ES:=hide (end_sub (a:=a) (l:=l) (n:=n0) (unhide HY0) (by rw [← unhide HY1];exact hlt) hn1 (by omega))
      rw [← unhide HY1] at ES
      have CR:=hide (show ∀ w':World,Dec w' b s2 → Calls Tryz.prog 208 #[.pointer (some ⟨b,0,none⟩),.int .i64 (-(n0:Int))] w' fun e w'' => e = .returned (.tuple #[]) ∧ (∃ s3,St (X * 2 ^ l) (Y1 * 2 ^ n0) s3 54 ∧ s3.ng = s2.ng ∧ (-400 ≤ s3.dp ∧ s3.dp ≤ 0) ∧ Dec w'' b s3) ∧ Below b w' w'' ∧ w'.heap.size ≤ w''.heap.size from fun w' hd => by
       by_cases h60:n0 ≤ 60
       ·refine (shiftR_ok b n0 s2 w' hd hSt.std hn1 h60 (by omega)).mono ?_
        rintro e w'' ⟨rfl,⟨s3,hr,hd3⟩,hb,hz⟩
        have hf:=hr.few60 hSt.std h60
        exact ⟨rfl,⟨s3,hSt.right hr (by omega) (by omega),hr.ng,by omega,hd3⟩,hb,hz⟩
       ·refine (shiftR2_ok b n0 s2 w' hd hSt.std (by omega) (by omega) (by omega)).mono ?_
        rintro e w'' ⟨rfl,⟨s1,s3,hr1,hr,hd3⟩,hb,hz⟩
        have hf1:=hr1.few60 hSt.std (by omega)
        have hf:=hr.few60 hr1.std (by omega)
        have g1:=hSt.right (E':=min (E - l + 60) 800) hr1 (by omega) (by omega)
        have g2:=g1.right (E':=54) hr (by omega) (by omega)
        rw [Nat.mul_assoc,← Nat.pow_add,show 60 + (n0 - 60) = n0 by omega] at g2
        exact ⟨rfl,⟨s3,g2,by rw [hr.ng,hr1.ng],by omega,hd3⟩,hb,hz⟩)
      clear hSt hlt hng hdp hDec hBel hsz hq hk hD0 hgo hl11 hl28 hk1 hk27 hq330 hq0 hd53 hdp0 hhalf hsub hd5 hn0' hn81 ha0 hE11
      go_wp2_with fail
      refine (unhide CR _ (unhide HDC)).mono ?_
      rintro e w0 ⟨rfl,⟨s3,h3,hg3,hdp3,hd3⟩,hb0,hz0⟩
      obtain ⟨fi0,fi1,fi2⟩:=((unhide HFI).below ((unhide HBL).trans hb0)).2
      have CS:=hide (shiftL_ok b 53 s3 w0.drew hd3.drew h3.std (by decide) (by decide) (by omega) ((unhide HLC).below ((unhide HBL).trans hb0).drew (Nat.le_trans (unhide HSZ) hz0)))
      have H3:=hide h3
      have HDP3:=hide hdp3
      have HG3:=hide (show s3.ng = s.ng by rw [hg3];exact unhide HNG)
      have HB0:=hide ((unhide HBL).trans hb0)
      have hl0:=hd3.lt
      clear h3 hg3 hdp3 hd3 hb0 hz0
      go_wp2_with fail
      refine wp_region_noPanic ?_
      refine wp_region_held (S:=fun w' => w'.cell? ⟨9,0,none⟩ = some (.int .u64 52) ∧ w'.cell? ⟨9,1,none⟩ = some (.int .u64 11) ∧ w'.cell? ⟨9,2,none⟩ = some (.int .i64 (-1023))) mixedD ?_
      have hS0:(fun w':World => w'.cell? ⟨9,0,none⟩ = some (.int .u64 52) ∧ w'.cell? ⟨9,1,none⟩ = some (.int .u64 11) ∧ w'.cell? ⟨9,2,none⟩ = some (.int .i64 (-1023))) w0.drew:=⟨fi0,fi1,fi2⟩
      refine rgn.tl (i:=0) (v:=?v281) rfl (by kernel_rfl) (fun _ _ _ h => h) (by rfl) ?hy281 hS0 ?_
      case hy281 => (intro w' hw';obtain ⟨q0,q1,q2⟩:=hw';go_simp;try with_reducible rfl)
      simp only [zA,zB,zC,Act.put,zD,zE,zF]
      refine rgn.tl (i:=1) (v:=?v282) rfl (by kernel_rfl) (fun _ _ _ h => h) (by rfl) ?hy282 hS0 ?_
      case hy282 => (intro w' hw';obtain ⟨q0,q1,q2⟩:=hw';go_simp;try with_reducible rfl)
      simp only [zA,zB,zC,Act.put,zD,zE,zF]
      refine rgn.tl (i:=2) (v:=?v283) rfl (by kernel_rfl) (fun _ _ _ h => h) (by rfl) ?hy283 hS0 ?_
      case hy283 => (intro w' hw';obtain ⟨q0,q1,q2⟩:=hw';go_simp;try with_reducible rfl)
      simp only [zA,zB,zC,Act.put,zD,zE,zF]
      refine rgn.tl (i:=3) (v:=?v284) rfl (by kernel_rfl) (fun _ _ _ h => h) (by rfl) ?hy284 hS0 ?_
      case hy284 => (intro w' hw';obtain ⟨q0,q1,q2⟩:=hw';go_simp;try with_reducible rfl)
      simp only [zA,zB,zC,Act.put,zD,zE,zF]
      refine rgn.tl (i:=4) (v:=?v285) rfl (by kernel_rfl) (fun _ _ _ h => h) (by rfl) ?hy285 hS0 ?_
      case hy285 => (intro w' hw';obtain ⟨q0,q1,q2⟩:=hw';go_simp;try with_reducible rfl)
      simp only [zA,zB,zC,Act.put,zD,zE,zF]
      refine rgn.tl (i:=5) (v:=?v286) rfl (by kernel_rfl) (fun _ _ _ h => h) (by rfl) ?hy286 hS0 ?_
      case hy286 => (intro w' hw';obtain ⟨q0,q1,q2⟩:=hw';go_simp;try with_reducible rfl)
      simp only [zA,zB,zC,Act.put,zD,zE,zF]
      refine rgn.tl (i:=6) (v:=?v287) rfl (by kernel_rfl) (fun _ _ _ h => h) (by rfl) ?hy287 hS0 ?_
      case hy287 => (intro w' hw';obtain ⟨q0,q1,q2⟩:=hw';go_simp;try with_reducible rfl)
      simp only [zA,zB,zC,Act.put,zD,zE,zF]
      refine rgn.tl (i:=7) (v:=?v288) rfl (by kernel_rfl) (fun _ _ _ h => h) (by rfl) ?hy288 hS0 ?_
      case hy288 => (intro w' hw';obtain ⟨q0,q1,q2⟩:=hw';go_simp;try with_reducible rfl)
      simp only [zA,zB,zC,Act.put,zD,zE,zF]
      refine rgn.tl (i:=8) (v:=?v289) rfl (by kernel_rfl) (fun _ _ _ h => h) (by rfl) ?hy289 hS0 ?_
      case hy289 => (intro w' hw';obtain ⟨q0,q1,q2⟩:=hw';go_simp;try with_reducible rfl)
      simp only [zA,zB,zC,Act.put,zD,zE,zF]
      refine rgn.tl (i:=9) (v:=?v290) rfl (by kernel_rfl) (fun _ _ _ h => h) (by rfl) ?hy290 hS0 ?_
      case hy290 => (intro w' hw';obtain ⟨q0,q1,q2⟩:=hw';go_simp;try with_reducible rfl)
      simp only [zA,zB,zC,Act.put,zD,zE,zF]
      refine rgn.tl (i:=10) (v:=?v291) rfl (by kernel_rfl) (fun _ _ _ h => h) (by rfl) ?hy291 hS0 ?_
      case hy291 => (intro w' hw';obtain ⟨q0,q1,q2⟩:=hw';go_simp;try with_reducible rfl)
      simp only [zA,zB,zC,Act.put,zD,zE,zF]
      refine rgn.tl (i:=11) (v:=?v292) rfl (by kernel_rfl) (fun _ _ _ h => h) (by rfl) ?hy292 hS0 ?_
      case hy292 => (intro w' hw';obtain ⟨q0,q1,q2⟩:=hw';go_simp;try with_reducible rfl)
      simp only [zA,zB,zC,Act.put,zD,zE,zF]
      refine rgn.tl (i:=12) (v:=?v293) rfl (by kernel_rfl) (fun _ _ _ h => h) (by rfl) ?hy293 hS0 ?_
      case hy293 => (intro w' hw';obtain ⟨q0,q1,q2⟩:=hw';go_simp;try with_reducible rfl)
      simp only [zA,zB,zC,Act.put,zD,zE,zF]
      refine wpAnyH_done (by kernel_rfl) ?_ _;refine NoPanic.normal ?_
      clear hS0
      go_wp2_with fail
      refine (unhide CS).mono ?_
      rintro e w1 ⟨rfl,⟨s4,hr,hd⟩,hb,hz⟩
      have hs4:St (X * 2 ^ l * 2 ^ 53) (Y1 * 2 ^ n0) s4 1:=by
       obtain ⟨d,d1,d2,-,-⟩:=hr.ex
       exact St.left (unhide H3) hr (by have:=unhide HDP3;omega)
      have hdp4:=hs4.dp16 (by
       have h1:=Nat.mul_lt_mul_of_pos_right (unhide HLT) (show 0 < 2 ^ 53 by decide)
       have h2:Y1 * 2 ^ 53 ≤ 10 ^ 16 * Y1:=by rw [Nat.mul_comm];exact Nat.mul_le_mul_right _ (by decide)
       have h3:10 ^ 16 * Y1 ≤ 10 ^ 16 * (Y1 * 2 ^ n0):=Nat.mul_le_mul_left _ (Nat.le_mul_of_pos_right _ (Nat.two_pow_pos _))
       omega)
      have hM0:dvN s4 s4.dp.toNat + (rup s4 s4.dp).toNat = rn (X * 2 ^ l * 2 ^ 53) (Y1 * 2 ^ n0):=by
       rw [rup_rnD hs4.std.ok hr.tr0 hs4.std.nd (by omega)]
       exact rn_same hs4.y0 hs4.gr hs4.ex
      have RI:=hide (rint_ok b s4 w1 hd hs4.std.nd (by omega) (by obtain ⟨d,d1,d2,-,-⟩:=hr.ex;have:=unhide HDP3;omega) hs4.std.ok)
      rw [hM0] at RI
      obtain ⟨fi0,fi1,fi2⟩:=((unhide HFI).below ((unhide HB0).drew.trans hb)).2
      have HNG3:=hide (show s4.ng = s.ng by rw [hr.ng];exact unhide HG3)
      have hl3:=hd.lt
      have HD3:=hide hd
      have HB3:=hide ((unhide HB0).drew.trans hb)
      clear hr hd hb hz hs4 hdp4 hM0
      obtain ⟨M,hM⟩:∃ M,M = rn (X * 2 ^ l * 2 ^ 53) (Y1 * 2 ^ n0):=⟨_,rfl⟩
      rw [← hM] at RI ES
      have hM52:=(unhide ES).2
      have e52:b52 = 4503599627370496:=rfl
      rw [e52] at hM52
      have HMe:=hide hM
      clear e52 hM
      go_wp2_with fail
      refine (unhide RI).mono ?_
      rintro e w2 ⟨rfl,hb⟩
      have hb2:=(unhide HB3).trans (hb.mono (Nat.le_of_lt hl3))
      obtain ⟨fi0,fi1,fi2⟩:=((unhide HFI).below hb2).2
      have HB4:=hide hb2
      have c4:=((unhide HD3).below hb).cng
      have hl4:b < w2.heap.size:=by have:=hb.size;omega
      rw [unhide HNG3] at c4
      clear hb hb2
      have iM3:((M:Int) == 9007199254740992) = false:=by rw [beq_eq_false_iff_ne];omega
      by_cases hM2:M = 4503599627370496
      ·subst hM2
       have ec:((4503599627370496:Nat):Int) = 4503599627370496:=rfl
       rw [ec]
       have iand:bits .and .u64 4503599627370496 4503599627370496 = 4503599627370496:=by decide
       obtain ⟨ef,hef⟩:∃ ef:Nat,ef = 1:=⟨_,rfl⟩
       have ke2:IntKind.i64.wrap 1 = (ef:Int):=by rw [kk3];omega
       clear kk3
       go_wp2_with fail
       go_step3
       repeat rw [then_goto]
       refine jump_0 ?_
       have ku1:IntKind.u64.wrap 4503599627370496 = 4503599627370496:=by rw [IntKind.wrap_u64];rfl
       have ku2:IntKind.u64.wrap 9223372036854775808 = 9223372036854775808:=by rw [IntKind.wrap_u64];rfl
       have kt1:bits .and .u64 4503599627370496 4503599627370495 = 0:=by decide
       have kt3:=and_ef ef (by omega)
       have kt4:IntKind.u64.wrap (ef:Int) = (ef:Int):=by rw [IntKind.wrap_u64];omega
       have kt5:IntKind.u64.wrap ((ef:Int) * 4503599627370496) = (ef:Int) * 4503599627370496:=by rw [IntKind.wrap_u64];omega
       have kt6:=or_e 0 ef (by decide) (by omega)
       obtain ⟨R,hR⟩:∃ R,R = 0 + ef * 4503599627370496:=⟨_,rfl⟩
       have hRb:R < 9223372036854775808:=by omega
       rw [← hR] at kt6
       have kt6:bits .or .u64 0 ((ef:Int) * 4503599627370496) = (R:Int):=kt6
       have kt7:=or_s R hRb
       have HFIN:=hide (fin_s (R:=R) (unhide ES).1 (by omega) (by omega))
       have HEF:=hide hef
       clear hef hR hRb
       go_wp2_with fail
       refine wp_region_noPanic ?_
       refine wp_region_held (S:=fun w' => w'.cell? ⟨9,0,none⟩ = some (.int .u64 52) ∧ w'.cell? ⟨9,1,none⟩ = some (.int .u64 11) ∧ w'.cell? ⟨9,2,none⟩ = some (.int .i64 (-1023))) mixedD ?_
       have hS0:(fun w':World => w'.cell? ⟨9,0,none⟩ = some (.int .u64 52) ∧ w'.cell? ⟨9,1,none⟩ = some (.int .u64 11) ∧ w'.cell? ⟨9,2,none⟩ = some (.int .i64 (-1023))) w2.drew:=⟨fi0,fi1,fi2⟩
       refine rgn.tl (i:=0) (v:=?v294) rfl (by kernel_rfl) (fun _ _ _ h => h) (by rfl) ?hy294 hS0 ?_
       case hy294 => (intro w' hw';obtain ⟨q0,q1,q2⟩:=hw';go_simp;try with_reducible rfl)
       simp only [zA,zB,zC,Act.put,zD,zE,zF]
       refine rgn.tl (i:=1) (v:=?v295) rfl (by kernel_rfl) (fun _ _ _ h => h) (by rfl) ?hy295 hS0 ?_
       case hy295 => (intro w' hw';obtain ⟨q0,q1,q2⟩:=hw';go_simp;try with_reducible rfl)
       simp only [zA,zB,zC,Act.put,zD,zE,zF]
       refine rgn.tl (i:=2) (v:=?v296) rfl (by kernel_rfl) (fun _ _ _ h => h) (by rfl) ?hy296 hS0 ?_
       case hy296 => (intro w' hw';obtain ⟨q0,q1,q2⟩:=hw';go_simp;try with_reducible rfl)
       simp only [zA,zB,zC,Act.put,zD,zE,zF]
       refine rgn.tl (i:=3) (v:=?v297) rfl (by kernel_rfl) (fun _ _ _ h => h) (by rfl) ?hy297 hS0 ?_
       case hy297 => (intro w' hw';obtain ⟨q0,q1,q2⟩:=hw';go_simp;try with_reducible rfl)
       simp only [zA,zB,zC,Act.put,zD,zE,zF]
       refine rgn.tl (i:=4) (v:=?v298) rfl (by kernel_rfl) (fun _ _ _ h => h) (by rfl) ?hy298 hS0 ?_
       case hy298 => (intro w' hw';obtain ⟨q0,q1,q2⟩:=hw';go_simp;try with_reducible rfl)
       simp only [zA,zB,zC,Act.put,zD,zE,zF]
       refine rgn.tl (i:=5) (v:=?v299) rfl (by kernel_rfl) (fun _ _ _ h => h) (by rfl) ?hy299 hS0 ?_
       case hy299 => (intro w' hw';obtain ⟨q0,q1,q2⟩:=hw';go_simp;try with_reducible rfl)
       simp only [zA,zB,zC,Act.put,zD,zE,zF]
       refine rgn.tl (i:=6) (v:=?v300) rfl (by kernel_rfl) (fun _ _ _ h => h) (by rfl) ?hy300 hS0 ?_
       case hy300 => (intro w' hw';obtain ⟨q0,q1,q2⟩:=hw';go_simp;try with_reducible rfl)
       simp only [zA,zB,zC,Act.put,zD,zE,zF]
       refine rgn.tl (i:=7) (v:=?v301) rfl (by kernel_rfl) (fun _ _ _ h => h) (by rfl) ?hy301 hS0 ?_
       case hy301 => (intro w' hw';obtain ⟨q0,q1,q2⟩:=hw';go_simp;try with_reducible rfl)
       simp only [zA,zB,zC,Act.put,zD,zE,zF]
       refine rgn.tl (i:=8) (v:=?v302) rfl (by kernel_rfl) (fun _ _ _ h => h) (by rfl) ?hy302 hS0 ?_
       case hy302 => (intro w' hw';obtain ⟨q0,q1,q2⟩:=hw';go_simp;try with_reducible rfl)
       simp only [zA,zB,zC,Act.put,zD,zE,zF]
       refine rgn.tl (i:=9) (v:=?v303) rfl (by kernel_rfl) (fun _ _ _ h => h) (by rfl) ?hy303 hS0 ?_
       case hy303 => (intro w' hw';obtain ⟨q0,q1,q2⟩:=hw';go_simp;try with_reducible rfl)
       simp only [zA,zB,zC,Act.put,zD,zE,zF]
       refine rgn.tl (i:=10) (v:=?v304) rfl (by kernel_rfl) (fun _ _ _ h => h) (by rfl) ?hy304 hS0 ?_
       case hy304 => (intro w' hw';obtain ⟨q0,q1,q2⟩:=hw';go_simp;try with_reducible rfl)
       simp only [zA,zB,zC,Act.put,zD,zE,zF]
       refine rgn.tl (i:=11) (v:=?v305) rfl (by kernel_rfl) (fun _ _ _ h => h) (by rfl) ?hy305 hS0 ?_
       case hy305 => (intro w' hw';obtain ⟨q0,q1,q2⟩:=hw';go_simp;try with_reducible rfl)
       simp only [zA,zB,zC,Act.put,zD,zE,zF]
       refine rgn.tl (i:=12) (v:=?v306) rfl (by kernel_rfl) (fun _ _ _ h => h) (by rfl) ?hy306 hS0 ?_
       case hy306 => (intro w' hw';obtain ⟨q0,q1,q2⟩:=hw';go_simp;try with_reducible rfl)
       simp only [zA,zB,zC,Act.put,zD,zE,zF]
       refine rgn.tl (i:=13) (v:=?v307) rfl (by kernel_rfl) (fun _ _ _ h => h) (by rfl) ?hy307 hS0 ?_
       case hy307 => (intro w' hw';obtain ⟨q0,q1,q2⟩:=hw';go_simp;try with_reducible rfl)
       simp only [zA,zB,zC,Act.put,zD,zE,zF]
       refine rgn.tl (i:=14) (v:=?v308) rfl (by kernel_rfl) (fun _ _ _ h => h) (by rfl) ?hy308 hS0 ?_
       case hy308 => (intro w' hw';obtain ⟨q0,q1,q2⟩:=hw';go_simp;try with_reducible rfl)
       simp only [zA,zB,zC,Act.put,zD,zE,zF]
       refine rgn.tl (i:=15) (v:=?v309) rfl (by kernel_rfl) (fun _ _ _ h => h) (by rfl) ?hy309 hS0 ?_
       case hy309 => (intro w' hw';obtain ⟨q0,q1,q2⟩:=hw';go_simp;try with_reducible rfl)
       simp only [zA,zB,zC,Act.put,zD,zE,zF]
       refine rgn.tl (i:=16) (v:=?v310) rfl (by kernel_rfl) (fun _ _ _ h => h) (by rfl) ?hy310 hS0 ?_
       case hy310 => (intro w' hw';obtain ⟨q0,q1,q2⟩:=hw';go_simp;try with_reducible rfl)
       simp only [zA,zB,zC,Act.put,zD,zE,zF]
       refine rgn.tl (i:=17) (v:=?v311) rfl (by kernel_rfl) (fun _ _ _ h => h) (by rfl) ?hy311 hS0 ?_
       case hy311 => (intro w' hw';obtain ⟨q0,q1,q2⟩:=hw';go_simp;try with_reducible rfl)
       simp only [zA,zB,zC,Act.put,zD,zE,zF]
       refine rgn.tl (i:=18) (v:=?v312) rfl (by kernel_rfl) (fun _ _ _ h => h) (by rfl) ?hy312 hS0 ?_
       case hy312 => (intro w' hw';obtain ⟨q0,q1,q2⟩:=hw';go_simp;try with_reducible rfl)
       simp only [zA,zB,zC,Act.put,zD,zE,zF]
       refine rgn.tl (i:=19) (v:=?v313) rfl (by kernel_rfl) (fun _ _ _ h => h) (by rfl) ?hy313 hS0 ?_
       case hy313 => (intro w' hw';obtain ⟨q0,q1,q2⟩:=hw';go_simp;try with_reducible rfl)
       simp only [zA,zB,zC,Act.put,zD,zE,zF]
       refine rgn.tl (i:=20) (v:=?v314) rfl (by kernel_rfl) (fun _ _ _ h => h) (by rfl) ?hy314 hS0 ?_
       case hy314 => (intro w' hw';obtain ⟨q0,q1,q2⟩:=hw';go_simp;try with_reducible rfl)
       simp only [zA,zB,zC,Act.put,zD,zE,zF]
       refine rgn.tl (i:=21) (v:=?v315) rfl (by kernel_rfl) (fun _ _ _ h => h) (by rfl) ?hy315 hS0 ?_
       case hy315 => (intro w' hw';obtain ⟨q0,q1,q2⟩:=hw';go_simp;try with_reducible rfl)
       simp only [zA,zB,zC,Act.put,zD,zE,zF]
       refine wpAnyH_done (by kernel_rfl) ?_ _;refine NoPanic.normal ?_
       clear hS0
       cases hng:s.ng
       ·rw [hng] at c4
        go_wp2
        simp only [Exit.noGoto_ret]
        go_ret2
        refine ⟨?_,(unhide HB4).drew⟩
        have:=fb_fin (ng:=s.ng) (unhide HFIN).1 (unhide HFIN).2
        rw [hng] at this ⊢
        simpa using this
       ·rw [hng] at c4
        go_wp2_with fail
        refine wp_region_noPanic ?_
        refine wp_region_held (S:=fun w' => w'.cell? ⟨9,0,none⟩ = some (.int .u64 52) ∧ w'.cell? ⟨9,1,none⟩ = some (.int .u64 11) ∧ w'.cell? ⟨9,2,none⟩ = some (.int .i64 (-1023))) mixedD ?_
        have hS0:(fun w':World => w'.cell? ⟨9,0,none⟩ = some (.int .u64 52) ∧ w'.cell? ⟨9,1,none⟩ = some (.int .u64 11) ∧ w'.cell? ⟨9,2,none⟩ = some (.int .i64 (-1023))) w2.drew.drew:=⟨fi0,fi1,fi2⟩
        refine rgn.tl (i:=0) (v:=?v316) rfl (by kernel_rfl) (fun _ _ _ h => h) (by rfl) ?hy316 hS0 ?_
        case hy316 => (intro w' hw';obtain ⟨q0,q1,q2⟩:=hw';go_simp;try with_reducible rfl)
        simp only [zA,zB,zC,Act.put,zD,zE,zF]
        refine rgn.tl (i:=1) (v:=?v317) rfl (by kernel_rfl) (fun _ _ _ h => h) (by rfl) ?hy317 hS0 ?_
        case hy317 => (intro w' hw';obtain ⟨q0,q1,q2⟩:=hw';go_simp;try with_reducible rfl)
        simp only [zA,zB,zC,Act.put,zD,zE,zF]
        refine rgn.tl (i:=2) (v:=?v318) rfl (by kernel_rfl) (fun _ _ _ h => h) (by rfl) ?hy318 hS0 ?_
        case hy318 => (intro w' hw';obtain ⟨q0,q1,q2⟩:=hw';go_simp;try with_reducible rfl)
        simp only [zA,zB,zC,Act.put,zD,zE,zF]
        refine rgn.tl (i:=3) (v:=?v319) rfl (by kernel_rfl) (fun _ _ _ h => h) (by rfl) ?hy319 hS0 ?_
        case hy319 => (intro w' hw';obtain ⟨q0,q1,q2⟩:=hw';go_simp;try with_reducible rfl)
        simp only [zA,zB,zC,Act.put,zD,zE,zF]
        refine rgn.tl (i:=4) (v:=?v320) rfl (by kernel_rfl) (fun _ _ _ h => h) (by rfl) ?hy320 hS0 ?_
        case hy320 => (intro w' hw';obtain ⟨q0,q1,q2⟩:=hw';go_simp;try with_reducible rfl)
        simp only [zA,zB,zC,Act.put,zD,zE,zF]
        refine rgn.tl (i:=5) (v:=?v321) rfl (by kernel_rfl) (fun _ _ _ h => h) (by rfl) ?hy321 hS0 ?_
        case hy321 => (intro w' hw';obtain ⟨q0,q1,q2⟩:=hw';go_simp;try with_reducible rfl)
        simp only [zA,zB,zC,Act.put,zD,zE,zF]
        refine rgn.tl (i:=6) (v:=?v322) rfl (by kernel_rfl) (fun _ _ _ h => h) (by rfl) ?hy322 hS0 ?_
        case hy322 => (intro w' hw';obtain ⟨q0,q1,q2⟩:=hw';go_simp;try with_reducible rfl)
        simp only [zA,zB,zC,Act.put,zD,zE,zF]
        refine rgn.tl (i:=7) (v:=?v323) rfl (by kernel_rfl) (fun _ _ _ h => h) (by rfl) ?hy323 hS0 ?_
        case hy323 => (intro w' hw';obtain ⟨q0,q1,q2⟩:=hw';go_simp;try with_reducible rfl)
        simp only [zA,zB,zC,Act.put,zD,zE,zF]
        refine rgn.tl (i:=8) (v:=?v324) rfl (by kernel_rfl) (fun _ _ _ h => h) (by rfl) ?hy324 hS0 ?_
        case hy324 => (intro w' hw';obtain ⟨q0,q1,q2⟩:=hw';go_simp;try with_reducible rfl)
        simp only [zA,zB,zC,Act.put,zD,zE,zF]
        refine rgn.tl (i:=9) (v:=?v325) rfl (by kernel_rfl) (fun _ _ _ h => h) (by rfl) ?hy325 hS0 ?_
        case hy325 => (intro w' hw';obtain ⟨q0,q1,q2⟩:=hw';go_simp;try with_reducible rfl)
        simp only [zA,zB,zC,Act.put,zD,zE,zF]
        refine rgn.tl (i:=10) (v:=?v326) rfl (by kernel_rfl) (fun _ _ _ h => h) (by rfl) ?hy326 hS0 ?_
        case hy326 => (intro w' hw';obtain ⟨q0,q1,q2⟩:=hw';go_simp;try with_reducible rfl)
        simp only [zA,zB,zC,Act.put,zD,zE,zF]
        refine rgn.tl (i:=11) (v:=?v327) rfl (by kernel_rfl) (fun _ _ _ h => h) (by rfl) ?hy327 hS0 ?_
        case hy327 => (intro w' hw';obtain ⟨q0,q1,q2⟩:=hw';go_simp;try with_reducible rfl)
        simp only [zA,zB,zC,Act.put,zD,zE,zF]
        refine rgn.tl (i:=12) (v:=?v328) rfl (by kernel_rfl) (fun _ _ _ h => h) (by rfl) ?hy328 hS0 ?_
        case hy328 => (intro w' hw';obtain ⟨q0,q1,q2⟩:=hw';go_simp;try with_reducible rfl)
        simp only [zA,zB,zC,Act.put,zD,zE,zF]
        refine wpAnyH_done (by kernel_rfl) ?_ _;refine NoPanic.normal ?_
        clear hS0
        go_wp2
        simp only [Exit.noGoto_ret]
        go_ret2
        refine ⟨?_,(unhide HB4).drew.drew⟩
        have:=fb_fin (ng:=s.ng) (unhide HFIN).1 (unhide HFIN).2
        rw [hng] at this ⊢
        simpa using this
      ·have iand:bits .and .u64 (M:Int) 4503599627370496 = 0:=by
        have:=fto.and52 0 M (Or.inl rfl) (by omega)
        rw [Nat.zero_add,if_pos (by omega)] at this
        exact this
       obtain ⟨ef,hef⟩:∃ ef:Nat,ef = 0:=⟨_,rfl⟩
       have ke2:IntKind.i64.wrap 0 = (ef:Int):=by rw [IntKind.wrap_i64];omega
       go_wp2_with fail
       go_step3
       repeat rw [then_goto]
       refine jump_0 ?_
       have ku1:IntKind.u64.wrap 4503599627370496 = 4503599627370496:=by rw [IntKind.wrap_u64];rfl
       have ku2:IntKind.u64.wrap 9223372036854775808 = 9223372036854775808:=by rw [IntKind.wrap_u64];rfl
       have kt0:M < 18446744073709551616:=by omega
       have kt1:=and_m52 (M) kt0
       obtain ⟨r,hr⟩:∃ r,r = (M) % 4503599627370496:=⟨_,rfl⟩
       have hr52:r < 4503599627370496:=by omega
       rw [← hr] at kt1
       have kt3:=and_ef ef (by omega)
       have kt4:IntKind.u64.wrap (ef:Int) = (ef:Int):=by rw [IntKind.wrap_u64];omega
       have kt5:IntKind.u64.wrap ((ef:Int) * 4503599627370496) = (ef:Int) * 4503599627370496:=by rw [IntKind.wrap_u64];omega
       have kt6:=or_e r ef hr52 (by omega)
       obtain ⟨R,hR⟩:∃ R,R = r + ef * 4503599627370496:=⟨_,rfl⟩
       have hRb:R < 9223372036854775808:=by omega
       rw [← hR] at kt6
       have kt7:=or_s R hRb
       have HFIN:=hide (fin_s (R:=R) (unhide ES).1 (by omega) (by omega))
       have HEF:=hide hef
       clear hef hr hR hr52 hRb kt0
       go_wp2_with fail
       refine wp_region_noPanic ?_
       refine wp_region_held (S:=fun w' => w'.cell? ⟨9,0,none⟩ = some (.int .u64 52) ∧ w'.cell? ⟨9,1,none⟩ = some (.int .u64 11) ∧ w'.cell? ⟨9,2,none⟩ = some (.int .i64 (-1023))) mixedD ?_
       have hS0:(fun w':World => w'.cell? ⟨9,0,none⟩ = some (.int .u64 52) ∧ w'.cell? ⟨9,1,none⟩ = some (.int .u64 11) ∧ w'.cell? ⟨9,2,none⟩ = some (.int .i64 (-1023))) w2.drew:=⟨fi0,fi1,fi2⟩
       refine rgn.tl (i:=0) (v:=?v329) rfl (by kernel_rfl) (fun _ _ _ h => h) (by rfl) ?hy329 hS0 ?_
       case hy329 => (intro w' hw';obtain ⟨q0,q1,q2⟩:=hw';go_simp;try with_reducible rfl)
       simp only [zA,zB,zC,Act.put,zD,zE,zF]
       refine rgn.tl (i:=1) (v:=?v330) rfl (by kernel_rfl) (fun _ _ _ h => h) (by rfl) ?hy330 hS0 ?_
       case hy330 => (intro w' hw';obtain ⟨q0,q1,q2⟩:=hw';go_simp;try with_reducible rfl)
       simp only [zA,zB,zC,Act.put,zD,zE,zF]
       refine rgn.tl (i:=2) (v:=?v331) rfl (by kernel_rfl) (fun _ _ _ h => h) (by rfl) ?hy331 hS0 ?_
       case hy331 => (intro w' hw';obtain ⟨q0,q1,q2⟩:=hw';go_simp;try with_reducible rfl)
       simp only [zA,zB,zC,Act.put,zD,zE,zF]
       refine rgn.tl (i:=3) (v:=?v332) rfl (by kernel_rfl) (fun _ _ _ h => h) (by rfl) ?hy332 hS0 ?_
       case hy332 => (intro w' hw';obtain ⟨q0,q1,q2⟩:=hw';go_simp;try with_reducible rfl)
       simp only [zA,zB,zC,Act.put,zD,zE,zF]
       refine rgn.tl (i:=4) (v:=?v333) rfl (by kernel_rfl) (fun _ _ _ h => h) (by rfl) ?hy333 hS0 ?_
       case hy333 => (intro w' hw';obtain ⟨q0,q1,q2⟩:=hw';go_simp;try with_reducible rfl)
       simp only [zA,zB,zC,Act.put,zD,zE,zF]
       refine rgn.tl (i:=5) (v:=?v334) rfl (by kernel_rfl) (fun _ _ _ h => h) (by rfl) ?hy334 hS0 ?_
       case hy334 => (intro w' hw';obtain ⟨q0,q1,q2⟩:=hw';go_simp;try with_reducible rfl)
       simp only [zA,zB,zC,Act.put,zD,zE,zF]
       refine rgn.tl (i:=6) (v:=?v335) rfl (by kernel_rfl) (fun _ _ _ h => h) (by rfl) ?hy335 hS0 ?_
       case hy335 => (intro w' hw';obtain ⟨q0,q1,q2⟩:=hw';go_simp;try with_reducible rfl)
       simp only [zA,zB,zC,Act.put,zD,zE,zF]
       refine rgn.tl (i:=7) (v:=?v336) rfl (by kernel_rfl) (fun _ _ _ h => h) (by rfl) ?hy336 hS0 ?_
       case hy336 => (intro w' hw';obtain ⟨q0,q1,q2⟩:=hw';go_simp;try with_reducible rfl)
       simp only [zA,zB,zC,Act.put,zD,zE,zF]
       refine rgn.tl (i:=8) (v:=?v337) rfl (by kernel_rfl) (fun _ _ _ h => h) (by rfl) ?hy337 hS0 ?_
       case hy337 => (intro w' hw';obtain ⟨q0,q1,q2⟩:=hw';go_simp;try with_reducible rfl)
       simp only [zA,zB,zC,Act.put,zD,zE,zF]
       refine rgn.tl (i:=9) (v:=?v338) rfl (by kernel_rfl) (fun _ _ _ h => h) (by rfl) ?hy338 hS0 ?_
       case hy338 => (intro w' hw';obtain ⟨q0,q1,q2⟩:=hw';go_simp;try with_reducible rfl)
       simp only [zA,zB,zC,Act.put,zD,zE,zF]
       refine rgn.tl (i:=10) (v:=?v339) rfl (by kernel_rfl) (fun _ _ _ h => h) (by rfl) ?hy339 hS0 ?_
       case hy339 => (intro w' hw';obtain ⟨q0,q1,q2⟩:=hw';go_simp;try with_reducible rfl)
       simp only [zA,zB,zC,Act.put,zD,zE,zF]
       refine rgn.tl (i:=11) (v:=?v340) rfl (by kernel_rfl) (fun _ _ _ h => h) (by rfl) ?hy340 hS0 ?_
       case hy340 => (intro w' hw';obtain ⟨q0,q1,q2⟩:=hw';go_simp;try with_reducible rfl)
       simp only [zA,zB,zC,Act.put,zD,zE,zF]
       refine rgn.tl (i:=12) (v:=?v341) rfl (by kernel_rfl) (fun _ _ _ h => h) (by rfl) ?hy341 hS0 ?_
       case hy341 => (intro w' hw';obtain ⟨q0,q1,q2⟩:=hw';go_simp;try with_reducible rfl)
       simp only [zA,zB,zC,Act.put,zD,zE,zF]
       refine rgn.tl (i:=13) (v:=?v342) rfl (by kernel_rfl) (fun _ _ _ h => h) (by rfl) ?hy342 hS0 ?_
       case hy342 => (intro w' hw';obtain ⟨q0,q1,q2⟩:=hw';go_simp;try with_reducible rfl)
       simp only [zA,zB,zC,Act.put,zD,zE,zF]
       refine rgn.tl (i:=14) (v:=?v343) rfl (by kernel_rfl) (fun _ _ _ h => h) (by rfl) ?hy343 hS0 ?_
       case hy343 => (intro w' hw';obtain ⟨q0,q1,q2⟩:=hw';go_simp;try with_reducible rfl)
       simp only [zA,zB,zC,Act.put,zD,zE,zF]
       refine rgn.tl (i:=15) (v:=?v344) rfl (by kernel_rfl) (fun _ _ _ h => h) (by rfl) ?hy344 hS0 ?_
       case hy344 => (intro w' hw';obtain ⟨q0,q1,q2⟩:=hw';go_simp;try with_reducible rfl)
       simp only [zA,zB,zC,Act.put,zD,zE,zF]
       refine rgn.tl (i:=16) (v:=?v345) rfl (by kernel_rfl) (fun _ _ _ h => h) (by rfl) ?hy345 hS0 ?_
       case hy345 => (intro w' hw';obtain ⟨q0,q1,q2⟩:=hw';go_simp;try with_reducible rfl)
       simp only [zA,zB,zC,Act.put,zD,zE,zF]
       refine rgn.tl (i:=17) (v:=?v346) rfl (by kernel_rfl) (fun _ _ _ h => h) (by rfl) ?hy346 hS0 ?_
       case hy346 => (intro w' hw';obtain ⟨q0,q1,q2⟩:=hw';go_simp;try with_reducible rfl)
       simp only [zA,zB,zC,Act.put,zD,zE,zF]
       refine rgn.tl (i:=18) (v:=?v347) rfl (by kernel_rfl) (fun _ _ _ h => h) (by rfl) ?hy347 hS0 ?_
       case hy347 => (intro w' hw';obtain ⟨q0,q1,q2⟩:=hw';go_simp;try with_reducible rfl)
       simp only [zA,zB,zC,Act.put,zD,zE,zF]
       refine rgn.tl (i:=19) (v:=?v348) rfl (by kernel_rfl) (fun _ _ _ h => h) (by rfl) ?hy348 hS0 ?_
       case hy348 => (intro w' hw';obtain ⟨q0,q1,q2⟩:=hw';go_simp;try with_reducible rfl)
       simp only [zA,zB,zC,Act.put,zD,zE,zF]
       refine rgn.tl (i:=20) (v:=?v349) rfl (by kernel_rfl) (fun _ _ _ h => h) (by rfl) ?hy349 hS0 ?_
       case hy349 => (intro w' hw';obtain ⟨q0,q1,q2⟩:=hw';go_simp;try with_reducible rfl)
       simp only [zA,zB,zC,Act.put,zD,zE,zF]
       refine rgn.tl (i:=21) (v:=?v350) rfl (by kernel_rfl) (fun _ _ _ h => h) (by rfl) ?hy350 hS0 ?_
       case hy350 => (intro w' hw';obtain ⟨q0,q1,q2⟩:=hw';go_simp;try with_reducible rfl)
       simp only [zA,zB,zC,Act.put,zD,zE,zF]
       refine wpAnyH_done (by kernel_rfl) ?_ _;refine NoPanic.normal ?_
       clear hS0
       cases hng:s.ng
       ·rw [hng] at c4
        go_wp2
        simp only [Exit.noGoto_ret]
        go_ret2
        refine ⟨?_,(unhide HB4).drew⟩
        have:=fb_fin (ng:=s.ng) (unhide HFIN).1 (unhide HFIN).2
        rw [hng] at this ⊢
        simpa using this
       ·rw [hng] at c4
        go_wp2_with fail
        refine wp_region_noPanic ?_
        refine wp_region_held (S:=fun w' => w'.cell? ⟨9,0,none⟩ = some (.int .u64 52) ∧ w'.cell? ⟨9,1,none⟩ = some (.int .u64 11) ∧ w'.cell? ⟨9,2,none⟩ = some (.int .i64 (-1023))) mixedD ?_
        have hS0:(fun w':World => w'.cell? ⟨9,0,none⟩ = some (.int .u64 52) ∧ w'.cell? ⟨9,1,none⟩ = some (.int .u64 11) ∧ w'.cell? ⟨9,2,none⟩ = some (.int .i64 (-1023))) w2.drew.drew:=⟨fi0,fi1,fi2⟩
        refine rgn.tl (i:=0) (v:=?v351) rfl (by kernel_rfl) (fun _ _ _ h => h) (by rfl) ?hy351 hS0 ?_
        case hy351 => (intro w' hw';obtain ⟨q0,q1,q2⟩:=hw';go_simp;try with_reducible rfl)
        simp only [zA,zB,zC,Act.put,zD,zE,zF]
        refine rgn.tl (i:=1) (v:=?v352) rfl (by kernel_rfl) (fun _ _ _ h => h) (by rfl) ?hy352 hS0 ?_
        case hy352 => (intro w' hw';obtain ⟨q0,q1,q2⟩:=hw';go_simp;try with_reducible rfl)
        simp only [zA,zB,zC,Act.put,zD,zE,zF]
        refine rgn.tl (i:=2) (v:=?v353) rfl (by kernel_rfl) (fun _ _ _ h => h) (by rfl) ?hy353 hS0 ?_
        case hy353 => (intro w' hw';obtain ⟨q0,q1,q2⟩:=hw';go_simp;try with_reducible rfl)
        simp only [zA,zB,zC,Act.put,zD,zE,zF]
        refine rgn.tl (i:=3) (v:=?v354) rfl (by kernel_rfl) (fun _ _ _ h => h) (by rfl) ?hy354 hS0 ?_
        case hy354 => (intro w' hw';obtain ⟨q0,q1,q2⟩:=hw';go_simp;try with_reducible rfl)
        simp only [zA,zB,zC,Act.put,zD,zE,zF]
        refine rgn.tl (i:=4) (v:=?v355) rfl (by kernel_rfl) (fun _ _ _ h => h) (by rfl) ?hy355 hS0 ?_
        case hy355 => (intro w' hw';obtain ⟨q0,q1,q2⟩:=hw';go_simp;try with_reducible rfl)
        simp only [zA,zB,zC,Act.put,zD,zE,zF]
        refine rgn.tl (i:=5) (v:=?v356) rfl (by kernel_rfl) (fun _ _ _ h => h) (by rfl) ?hy356 hS0 ?_
        case hy356 => (intro w' hw';obtain ⟨q0,q1,q2⟩:=hw';go_simp;try with_reducible rfl)
        simp only [zA,zB,zC,Act.put,zD,zE,zF]
        refine rgn.tl (i:=6) (v:=?v357) rfl (by kernel_rfl) (fun _ _ _ h => h) (by rfl) ?hy357 hS0 ?_
        case hy357 => (intro w' hw';obtain ⟨q0,q1,q2⟩:=hw';go_simp;try with_reducible rfl)
        simp only [zA,zB,zC,Act.put,zD,zE,zF]
        refine rgn.tl (i:=7) (v:=?v358) rfl (by kernel_rfl) (fun _ _ _ h => h) (by rfl) ?hy358 hS0 ?_
        case hy358 => (intro w' hw';obtain ⟨q0,q1,q2⟩:=hw';go_simp;try with_reducible rfl)
        simp only [zA,zB,zC,Act.put,zD,zE,zF]
        refine rgn.tl (i:=8) (v:=?v359) rfl (by kernel_rfl) (fun _ _ _ h => h) (by rfl) ?hy359 hS0 ?_
        case hy359 => (intro w' hw';obtain ⟨q0,q1,q2⟩:=hw';go_simp;try with_reducible rfl)
        simp only [zA,zB,zC,Act.put,zD,zE,zF]
        refine rgn.tl (i:=9) (v:=?v360) rfl (by kernel_rfl) (fun _ _ _ h => h) (by rfl) ?hy360 hS0 ?_
        case hy360 => (intro w' hw';obtain ⟨q0,q1,q2⟩:=hw';go_simp;try with_reducible rfl)
        simp only [zA,zB,zC,Act.put,zD,zE,zF]
        refine rgn.tl (i:=10) (v:=?v361) rfl (by kernel_rfl) (fun _ _ _ h => h) (by rfl) ?hy361 hS0 ?_
        case hy361 => (intro w' hw';obtain ⟨q0,q1,q2⟩:=hw';go_simp;try with_reducible rfl)
        simp only [zA,zB,zC,Act.put,zD,zE,zF]
        refine rgn.tl (i:=11) (v:=?v362) rfl (by kernel_rfl) (fun _ _ _ h => h) (by rfl) ?hy362 hS0 ?_
        case hy362 => (intro w' hw';obtain ⟨q0,q1,q2⟩:=hw';go_simp;try with_reducible rfl)
        simp only [zA,zB,zC,Act.put,zD,zE,zF]
        refine rgn.tl (i:=12) (v:=?v363) rfl (by kernel_rfl) (fun _ _ _ h => h) (by rfl) ?hy363 hS0 ?_
        case hy363 => (intro w' hw';obtain ⟨q0,q1,q2⟩:=hw';go_simp;try with_reducible rfl)
        simp only [zA,zB,zC,Act.put,zD,zE,zF]
        refine wpAnyH_done (by kernel_rfl) ?_ _;refine NoPanic.normal ?_
        clear hS0
        go_wp2
        simp only [Exit.noGoto_ret]
        go_ret2
        refine ⟨?_,(unhide HB4).drew.drew⟩
        have:=fb_fin (ng:=s.ng) (unhide HFIN).1 (unhide HFIN).2
        rw [hng] at this ⊢
        simpa using this
end Go.Proofs.YtdogjghalplohaaGreatDoor.dcm
