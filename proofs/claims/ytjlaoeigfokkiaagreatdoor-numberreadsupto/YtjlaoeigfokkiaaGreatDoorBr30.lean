import Derived.Test.YtjlaoeigfokkiaaGreatDoorBr13
import Derived.Test.YtjlaoeigfokkiaaGreatDoorBr16
import Derived.Test.YtjlaoeigfokkiaaGreatDoorBr8
import Derived.Test.YtjlaoeigfokkiaaGreatDoorBr15
namespace Go.Proofs.YtjlaoeigfokkiaaGreatDoor.fto
open Go.ChangeShapes Go.WideShapes Go.ChangeAt Go.RowKit
open mem Go.Sort
open ints (hide unhide)
set_option linter.unusedVariables false
set_option linter.unusedSimpArgs false
theorem layB_size (D:ByteArray) (p:Int) (hD:D.size ≤ 100) (p0:-5000 ≤ p) (p1:p ≤ 5000):(layB D p).size ≤ 1000:=by
 unfold layB expB
 have:=itB_size (p - 1) (by omega) (by omega)
 have:=sz_ext D 0 1
 have:=sz_ext D 1 D.size
 have:=sz_ext D 0 p.toNat
 have:=sz_ext D p.toNat D.size
 have e1:(⟨#[46]⟩:ByteArray).size = 1:=rfl
 have e2:(⟨#[101]⟩:ByteArray).size = 1:=rfl
 have e3:(⟨#[48,46]⟩:ByteArray).size = 2:=rfl
 have e4:(⟨#[46,48]⟩:ByteArray).size = 2:=rfl
 repeat' split
 all_goals simp only [ByteArray.size_append,rpB_size,e1,e2,e3,e4]
 all_goals omega
def ftB (x d k:Nat) (q:Int):ByteArray:=sgB x ++ layB (strOfNums (dgs d k)) ((Lib.nDigits d:Int) + q)
set_option maxRecDepth 100000 in
theorem ftext_any (x:Nat) (h:x < 18446744073709551616) (hb:badF x = false) (h0:x % 9223372036854775808 ≠ 0):∃ d q,Chosen (x % 9223372036854775808) d q ∧ ∀ w,Fx w → Calls Tryz.prog 11 #[.float .f64 x] w fun e w' => ∃ k,Kept d k ∧ e = .returned (.string (ftB x d k q)) ∧ Below w.heap.size w w':=by
 have hr:x % 9223372036854775808 < infR:=by unfold badF at hb;have:=of_decide_eq_false hb;unfold infR;omega
 obtain ⟨d,q,hc,HS⟩:=shortest_any (x % 9223372036854775808) (by omega) hr
 refine ⟨d,q,hc,fun w hF => ?_⟩
 obtain ⟨-,d1,d2,q1,q2⟩:=hc.rng
 have n4:Lib.nDigits d ≤ 18:=nd_le d1 (Nat.lt_of_le_of_lt d2 (by decide))
 have n1:=(nd_pow d d1).2.2
 have hn:=nan_bad hb
 have NA:=hide (isNaN_any x w h)
 have IN:=hide (isInf_ok x w h hn)
 have SG:=hide (sign_ok x w h)
 have EQ:=eq_nought x h hb
 have AB:=hide (abs_ok x w h)
 rw [hn] at NA
 rw [hb] at IN
 rw [decide_eq_false h0] at EQ
 generalize x % 9223372036854775808 = r at *
 have SH:=hide (HS w hF)
 have HF:=hide hF
 have LY:=hide (fun (k:Nat) (W:World) (hk:Kept d k) (hW:Fx W) => lay_ok (strOfNums (dgs d k)) ((Lib.nDigits d:Int) + q) W hW (by rw [strOfNums_size,dgs_len];exact hk.1) (by rw [strOfNums_size,dgs_len];have:=hk.2.1;omega) (by omega) (by omega))
 have LS:=hide (fun (k:Nat) (hk:Kept d k) => layB_size (strOfNums (dgs d k)) ((Lib.nDigits d:Int) + q) (by rw [strOfNums_size,dgs_len];have:=hk.2.1;omega) (by omega) (by omega))
 have HT:=hide (fun k:Nat => show ftB x d k q = sgB x ++ layB (strOfNums (dgs d k)) ((Lib.nDigits d:Int) + q) from rfl)
 have HG:=hide (show sgB x = if 9223372036854775808 ≤ x then ⟨#[45]⟩ else ⟨#[]⟩ from rfl)
 obtain ⟨P,hP⟩:∃ P:Int,P = (Lib.nDigits d:Int) + q:=⟨_,rfl⟩
 rw [← hP] at SH LY LS HT
 clear hc HS hF d1 d2 n4 n1 hP q1 q2 hr
 by_cases hx:9223372036854775808 ≤ x
 ·rw [decide_eq_true hx] at SG
  rw [if_pos hx] at HG
  clear hx hb hn h h0
  go_enter Tryz.func11,Tryz.ntmps11
  go_wp2_with fail
  refine (unhide NA).mono ?_
  rintro e w1 ⟨rfl,hw⟩
  subst w1
  go_wp2_with fail
  refine (unhide IN).mono ?_
  rintro e w1 ⟨rfl,hw⟩
  subst w1
  go_wp2_with fail
  refine (unhide SG).mono ?_
  rintro e w1 ⟨rfl,hw⟩
  subst w1
  go_wp2_with fail
  refine (unhide AB).mono ?_
  rintro e w1 ⟨rfl,hw⟩
  subst w1
  go_wp2_with fail
  refine (unhide SH).mono ?_
  rintro e w1 ⟨k,hk,rfl,b1⟩
  have L:=hide (unhide LY k w1 hk ((unhide HF).below b1))
  have hl:=unhide LS k hk
  have R:=hide (⟨hk,b1⟩:Kept d k ∧ Below w.heap.size w w1)
  have HT':=hide (unhide HT k)
  rw [unhide HG] at HT'
  generalize layB (strOfNums (dgs d k)) P = T at *
  generalize strOfNums (dgs d k) = D at *
  clear hk b1 LY LS HT HG SH AB SG IN NA HF
  go_wp2_with fail
  refine (unhide L).mono ?_
  rintro e w2 ⟨rfl,b2⟩
  go_wp2
  go_ret
  refine ⟨k,(unhide R).1,?_,(unhide R).2.trans (b2.mono (unhide R).2.size)⟩
  rw [unhide HT']
  rfl
 ·rw [decide_eq_false hx] at SG
  rw [if_neg hx] at HG
  clear hx hb hn h h0
  go_enter Tryz.func11,Tryz.ntmps11
  go_wp2_with fail
  refine (unhide NA).mono ?_
  rintro e w1 ⟨rfl,hw⟩
  subst w1
  go_wp2_with fail
  refine (unhide IN).mono ?_
  rintro e w1 ⟨rfl,hw⟩
  subst w1
  go_wp2_with fail
  refine (unhide SG).mono ?_
  rintro e w1 ⟨rfl,hw⟩
  subst w1
  go_wp2_with fail
  refine (unhide AB).mono ?_
  rintro e w1 ⟨rfl,hw⟩
  subst w1
  go_wp2_with fail
  refine (unhide SH).mono ?_
  rintro e w1 ⟨k,hk,rfl,b1⟩
  have L:=hide (unhide LY k w1 hk ((unhide HF).below b1))
  have hl:=unhide LS k hk
  have R:=hide (⟨hk,b1⟩:Kept d k ∧ Below w.heap.size w w1)
  have HT':=hide (unhide HT k)
  rw [unhide HG] at HT'
  generalize layB (strOfNums (dgs d k)) P = T at *
  generalize strOfNums (dgs d k) = D at *
  clear hk b1 LY LS HT HG SH AB SG IN NA HF
  go_wp2_with fail
  refine (unhide L).mono ?_
  rintro e w2 ⟨rfl,b2⟩
  go_wp2
  go_ret
  refine ⟨k,(unhide R).1,?_,(unhide R).2.trans (b2.mono (unhide R).2.size)⟩
  rw [unhide HT']
  rfl
end Go.Proofs.YtjlaoeigfokkiaaGreatDoor.fto
namespace Go.Proofs.YtjlaoeigfokkiaaGreatDoor.fto
open Go.ChangeShapes Go.WideShapes Go.ChangeAt Go.RowKit
open mem Go.Sort
open ints (hide unhide)
set_option linter.unusedVariables false
theorem trm_of {l:List Int} (h:∀ r,l ≠ 48 :: r):trm l = l:=by
 unfold trm
 cases l with
 | nil => rfl
 | cons a r =>
  rw [List.dropWhile_cons,if_neg]
  simp
  exact fun e => h r (by rw [e])
theorem rpB_eq (n:Nat):rpB n = strOfNums (List.replicate n 48):=by
 have e:∀ n,Lib.repeatL [48] n = u8s (List.replicate n 48):=by
  intro n
  induction n with
  | zero => rfl
  | succ n ih => rw [Lib.repeatL,ih,List.replicate_succ];rfl
 unfold rpB
 rw [e]
 rfl
end Go.Proofs.YtjlaoeigfokkiaaGreatDoor.fto
namespace Go.Proofs.YtjlaoeigfokkiaaGreatDoor.fto
open Go.ChangeShapes Go.WideShapes Go.ChangeAt Go.RowKit
open mem Go.Sort
open ints (hide unhide)
set_option linter.unusedVariables false
def e125:Nat:=1028
def u125:Nat:=2 ^ e125
theorem m125:midR 4638496509959077888 = 17592186044416001 * u125 ∧ midR 4638496509959077887 = 17592186044415999 * u125 ∧ k74 = 70368744177664 * u125:=by decide +kernel
theorem cmp_u (x1 x2 y u:Nat) (hu:0 < u):((x1 * u < y * u ∨ (x1 * u = y * u ∧ 0 = 0)) ∧ (y * u < x2 * u ∨ (y * u = x2 * u ∧ 0 = 0))) ↔ x1 ≤ y ∧ y ≤ x2:=by
 rw [Nat.mul_lt_mul_right hu,Nat.mul_lt_mul_right hu,Nat.mul_right_cancel_iff hu,Nat.mul_right_cancel_iff hu]
 omega
theorem in125 (c E B:Nat):InR (c * E * k74) B 4638496509959077888 ↔ B * 17592186044415999 ≤ c * E * 140737488355328 ∧ c * E * 140737488355328 ≤ B * 17592186044416001:=by
 obtain ⟨h1,h2,h3⟩:=m125
 have hu:0 < u125:=Nat.two_pow_pos _
 have ha:4638496509959077888 - 1 = 4638496509959077887:=rfl
 have hb:4638496509959077888 % 2 = 0:=rfl
 unfold InR
 rw [ha,hb,h1,h2,h3]
 generalize u125 = u at *
 clear h1 h2 h3 ha hb
 have e1:2 * (c * E * (70368744177664 * u)) = c * E * 140737488355328 * u:=by
  generalize c * E = z
  rw [← Nat.mul_assoc z,← Nat.mul_assoc 2]
  congr 1
  omega
 have e2:∀ x,B * (x * u) = B * x * u:=fun x => (Nat.mul_assoc _ _ _).symm
 rw [e1,e2,e2]
 clear e1 e2
 exact cmp_u _ _ _ u hu
theorem ch_125 {d:Nat} {q:Int} (h:Chosen 4638496509959077888 d q):∃ j:Nat,j ≤ 20 ∧ d = 125 * 10 ^ j ∧ q = -(j:Int):=by
 obtain ⟨s,t,p,Xv,W,dmin,dmax,r,F,rfl,rfl⟩:=h
 have key:∀ c,0 < c → (10 ^ p.toNat * 17592186044415999 ≤ c * 10 ^ (-p).toNat * 140737488355328 ∧ c * 10 ^ (-p).toNat * 140737488355328 ≤ 10 ^ p.toNat * 17592186044416001 ↔ dmin ≤ c ∧ c ≤ dmax):=fun c hc => by
  rw [← in125];exact F.cin c hc
 have hd0:=F.d0
 have hne:=F.ne
 have hwd:=F.wd
 rcases Int.lt_or_le p 0 with hp | hp
 ·exfalso
  have h1:=(key dmin hd0).2 ⟨Nat.le_refl _,hne⟩
  obtain ⟨m,hm⟩:∃ m:Nat,(-p).toNat = m + 1:=⟨(-p).toNat - 1,by omega⟩
  rw [show p.toNat = 0 by omega,hm,Nat.pow_zero,Nat.pow_succ,← Nat.mul_assoc] at h1
  generalize dmin * 10 ^ m = z at h1
  clear key F hwd hne hd0
  omega
 ·rw [show (-p).toNat = 0 by omega] at key
  simp only [Nat.pow_zero,Nat.mul_one] at key
  rcases Nat.lt_or_ge p.toNat 15 with h15 | h15
  ·have hN:10 ^ p.toNat ≤ 10 ^ 14:=Nat.pow_le_pow_right (by decide) (by omega)
   have hN0:0 < 10 ^ p.toNat:=Nat.pow_pos (by decide)
   have h1:=(key dmin hd0).2 ⟨Nat.le_refl _,hne⟩
   have h2:=(key dmax (by omega)).2 ⟨hne,Nat.le_refl _⟩
   have e1:dmin = 125 * 10 ^ p.toNat:=by omega
   have e2:dmax = 125 * 10 ^ p.toNat:=by omega
   cases hpp:p.toNat with
   | zero =>
    rw [hpp,Nat.pow_zero] at e1 e2
    refine ⟨0,by omega,?_,?_⟩
    ·unfold chD;rw [e1,e2,if_neg (by decide),if_neg (by decide)]
    ·unfold chQ;rw [e1,e2,if_neg (by decide)];omega
   | succ m =>
    rw [hpp,Nat.pow_succ] at e1 e2
    have e3:dmax / 10 = 125 * 10 ^ m:=by omega
    have e4:dmin ≤ dmax / 10 * 10:=by omega
    refine ⟨m,by omega,?_,?_⟩
    ·unfold chD;rw [if_pos e4,e3]
    ·unfold chQ;rw [if_pos e4];omega
  ·exfalso
   have hN:10 ^ 15 ≤ 10 ^ p.toNat:=Nat.pow_le_pow_right (by decide) h15
   have h1:=(key (125 * 10 ^ p.toNat - 7) (by omega)).1 ⟨by omega,by omega⟩
   have h2:=(key (125 * 10 ^ p.toNat + 7) (by omega)).1 ⟨by omega,by omega⟩
   omega
end Go.Proofs.YtjlaoeigfokkiaaGreatDoor.fto
namespace Go.Proofs.YtjlaoeigfokkiaaGreatDoor.fto
open Go.ChangeShapes Go.WideShapes Go.ChangeAt Go.RowKit
open mem Go.Sort
open ints (hide unhide)
set_option linter.unusedVariables false
def RdF (x:Nat) (s:ByteArray):Prop:=∀ W,Fy W → Calls Tryz.prog 8 #[.string s] W fun e w' => e = .returned (.tuple #[.agg #[.int .i64 3,.int .i64 0,.float .f64 x],.int .i64 0]) ∧ Below W.heap.size W w'
theorem read_text (ng:Bool) (A F:List Int) (E:Option (Bool × List Int)) (a:Nat) (hA:Dg A) (hA0:A ≠ []) (hA1:∀ r,A = 48 :: r → r = []) (hF:Dg F) (hE:exO E) (hX:exS E) (lA:A.length ≤ 1000) (lF:F.length ≤ 1000) (hFE:¬ (F = [] ∧ E = none))
  (hne:trm (A ++ F) ≠ []) (h19:∀ z ∈ (trm (A ++ F)).drop 19,z = 48) (hR:Rd (dv (trm (A ++ F))) (pwr A F E - (trm (A ++ F)).length) a) (ha:0 < a) (hai:a < infR) :
  RdF (ng.toNat * 9223372036854775808 + a) (strOfNums (sgL ng ++ (A ++ (frL F ++ exL E)))):=by
 intro W hW
 have hai':a < 9218868437227405312:=hai
 have hn1:=Bool.toNat_le ng
 have lfr:(frL F).length ≤ F.length + 1:=by unfold frL;split <;> simp
 have lsg:(sgL ng).length = ng.toNat:=by cases ng <;> rfl
 have lex:(exL E).length ≤ 12:=by
  cases E with
  | none => simp [exL]
  | some q =>
   obtain ⟨g,X⟩:=q
   have:X.length ≤ 10:=hX
   cases g <;> simp [exL,sgL] <;> omega
 have lt:=trm_len (A ++ F)
 rw [List.length_append] at lt
 have hbt:Bt (sgL ng ++ (A ++ (frL F ++ exL E))):=by
  refine (sg_bt ng).app (hA.bt.app (Bt.app ?_ ?_))
  ·unfold frL
   split
   ·exact Bt.nil
   ·exact .cons (by omega) hF.bt
  ·cases E with
   | none => exact Bt.nil
   | some q => exact .cons (by omega) ((sg_bt q.1).app hE.1.bt)
 refine read_in _ _ W hW ?_ (by omega) ?_ ?_ (fun W' hW' => nearest_text ng A F E _ W' hW' hA hA0 hF hE hX (by omega) (by omega) (fun W2 hW2 => pf_text ng _ _ a (trm_dg (hA.app hF)) hne (fun r h => trm_head (A ++ F) 48 r h rfl) (by omega) h19 ?_ hR ha hai W2 hW2))
 ·rw [str_size];simp only [List.length_append];omega
 ·unfold badF
  rw [decide_eq_false_iff_not]
  rcases (show ng.toNat = 0 ∨ ng.toNat = 1 by omega) with h | h <;> rw [h] <;> omega
 ·rw [bytZ_str _ hbt,str_size]
  have:=pfx_text ng A F E hA hA0 hA1 hF hE
  rw [if_neg hFE] at this
  exact this
 ·unfold pwr;omega
end Go.Proofs.YtjlaoeigfokkiaaGreatDoor.fto
namespace Go.Proofs.YtjlaoeigfokkiaaGreatDoor.fto
open Go.ChangeShapes Go.WideShapes Go.ChangeAt Go.RowKit
open mem Go.Sort
open ints (hide unhide)
set_option linter.unusedVariables false
set_option linter.unusedSimpArgs false
set_option maxHeartbeats 1100000 in
set_option maxRecDepth 100000 in
theorem read_none (s:ByteArray) (en st:Nat) (fm:Int) (w:World) (hs:s.size ≤ 1100000) (hp:pfx (bytZ s) 0 = (en,st,fm)) (hen:en ≤ s.size) (hfm:0 ≤ fm ∧ fm ≤ 2) (hno:fm = 0 ∨ en ≠ s.size) :
  Calls Tryz.prog 8 #[.string s] w fun e w' => e = .returned (.tuple #[.agg #[.int .i64 0,.int .i64 0,.float .f64 0],.int .i64 20]) ∧ Below w.heap.size w w':=by
 have CB:=hide (conv_bytes s)
 have PR:=hide (fun a n c W (h:Row .u8 W a n c (bytZ s)) (hn:n ≤ 4611686018427387900) => prefix_in_b a n c (bytZ s) 0 W h hn (Nat.zero_le _))
 rw [hp] at PR
 obtain ⟨cap,W2,hcv,hrow,b2⟩:=conv_bytes s (w.alloc (.cells #[.int .i64 0,.int .i64 0,.float .f64 0] 27))
 have hz:(w.alloc (.cells #[.int .i64 0,.int .i64 0,.float .f64 0] 27)).heap.size = w.heap.size + 1:=by simp
 rw [hz] at hcv hrow b2
 have hb0:(w.alloc (.cells #[.int .i64 0,.int .i64 0,.float .f64 0] 27)).heap[w.heap.size]? = some (.cells #[.int .i64 0,.int .i64 0,.float .f64 0] 27 (0,0)):=heap_alloc_new w _
 have hb2:W2.heap[w.heap.size]? = some (.cells #[.int .i64 0,.int .i64 0,.float .f64 0] 27 (0,0)):=(b2.block w.heap.size (by omega)).trans hb0
 have bw2:Below w.heap.size w W2:=((Below.refl _ _).alloc (Nat.le_refl _) _).trans (b2.mono (by omega))
 have hz2:w.heap.size + 1 ≤ W2.heap.size:=by have:=b2.size;rw [hz] at this;exact this
 have P1:=hide (unhide PR _ _ _ W2 hrow (by omega))
 have HX:=hide (And.intro hb2 (And.intro bw2 hz2))
 clear hp CB PR b2 hb0 hb2 bw2 hz2 hrow
 go_enter Tryz.func8,Tryz.ntmps8
 go_wp2_with fail
 refine (unhide P1).mono ?_
 rintro e w1 ⟨rfl,b1⟩
 obtain ⟨x1,x2,x3⟩:=unhide HX
 have bw1:=x2.trans (b1.mono x2.size)
 have hb1:w1.heap[w.heap.size]? = some (.cells #[.int .i64 0,.int .i64 0,.float .f64 0] 27 (0,0)):=(b1.block w.heap.size (by omega)).trans x1
 have hz1:w.heap.size < w1.heap.size:=by have:=b1.size;omega
 have hth:=hide (thr_cells hb1 (o:=0) (n:=3) (by decide))
 have HB:=hide bw1
 clear b1 x1 x2 x3 bw1 hb1 hz1 HX P1 hcv
 by_cases h0:fm = 0
 ·subst h0
  go_wp2_with (first
   | refine wpList_store_mid (by rfl) 27 _ _ (by rfl) w.heap.size 0 #[.int .i64 0,.int .i64 0,.float .f64 0] (by rfl) (by rfl) (unhide hth) infoNum (one_c (cs:=[.int .i64 0,.int .i64 0,.float .f64 0]) (by rfl)) ?_)
  refine bodyPost_ret (rgn.result_row_tmp rfl _ _ w.heap.size 0 [.int .i64 0,.int .i64 0,.float .f64 0] _ rfl (World.rangeAt_setCells_same _ _ _ _ (unhide hth)) Tryz.underlying27 rfl infoNum) rfl ?_
  exact ⟨rfl,bel_setCells _ _ _ _ (unhide HB) (Nat.le_refl _)⟩
 ·have hne:en ≠ s.size:=by exact hno.resolve_left h0
  have e0:(fm == 0) = false:=by rw [beq_eq_false_iff_ne];exact h0
  have e1:((en:Int) != (s.size:Int)) = true:=by simp;omega
  go_wp2_with (first
   | refine wpList_store_mid (by rfl) 27 _ _ (by rfl) w.heap.size 0 #[.int .i64 0,.int .i64 0,.float .f64 0] (by rfl) (by rfl) (unhide hth) infoNum (one_c (cs:=[.int .i64 0,.int .i64 0,.float .f64 0]) (by rfl)) ?_)
  refine bodyPost_ret (rgn.result_row_tmp rfl _ _ w.heap.size 0 [.int .i64 0,.int .i64 0,.float .f64 0] _ rfl (World.rangeAt_setCells_same _ _ _ _ (unhide hth)) Tryz.underlying27 rfl infoNum) rfl ?_
  exact ⟨rfl,bel_setCells _ _ _ _ (unhide HB) (Nat.le_refl _)⟩
end Go.Proofs.YtjlaoeigfokkiaaGreatDoor.fto
