import Derived.Test.YtjlaoeigfokkiaaGreatDoorBr38
import Derived.Test.YtjlaoeigfokkiaaGreatDoorBr15
import Derived.Test.YtjlaoeigfokkiaaGreatDoorBr22
namespace Go.Proofs.YtjlaoeigfokkiaaGreatDoor.fto
open Go.ChangeShapes Go.WideShapes Go.ChangeAt Go.RowKit
open mem Go.Sort
open ints (hide unhide)
set_option linter.unusedVariables false
theorem pf_textA (ng:Bool) (D:List Int) (x:Int) (hD:Dg D) (hne:D ≠ []) (h0:∀ r,D ≠ 48 :: r) (hl:D.length ≤ 1100000) (hx:x.natAbs < 10000) :
  ∃ lo,Lo (dv D * 10 ^ (x - D.length).toNat * k74) (10 ^ (-(x - D.length)).toNat) lo ∧ ∀ W,dcm.Fz W →
   Calls Tryz.prog 43 #[.string (strOfNums (ntZ ng D x)),.int .i64 64] W fun e w' => (∃ er,e = .returned (.tuple #[.float .f64 (ng.toNat * 9223372036854775808 + dcm.cpR (roundR (dv D * 10 ^ (x - D.length).toNat * k74) (10 ^ (-(x - D.length)).toNat) lo)),er])) ∧ Below W.heap.size W w':=by
 have N:=ntx_of ng D x hD (by omega) h0 hx
 have hlp:0 < D.length:=List.length_pos_iff.2 hne
 have hv:mvs (strOfNums (ntZ ng D x)) (ng.toNat + 2) D.length = dv D:=by
  rw [ntx_mant ng D x hD _ (Nat.le_refl _),List.take_length]
 have he:x = (if (decide (x < 0)).toNat = 1 then - (mvs (strOfNums (ntZ ng D x)) (ng.toNat + 3 + D.length + (decide (x < 0)).toNat) (dz x.natAbs).length:Int) else (mvs (strOfNums (ntZ ng D x)) (ng.toNat + 3 + D.length + (decide (x < 0)).toNat) (dz x.natAbs).length:Int)):=by
  rw [ntx_exp ng D x hD]
  by_cases h:x < 0
  ·rw [decide_eq_true h];simp;omega
  ·rw [decide_eq_false h];simp;omega
 obtain ⟨lo,hlo⟩:=dcm.lo_some (dv D * 10 ^ (x - D.length).toNat * k74) (B:=10 ^ (-(x - D.length)).toNat) (Nat.pow_pos (by decide))
 refine ⟨lo,hlo,fun W hW => ?_⟩
 obtain ⟨lo2,hlo2,C⟩:=dcm.pf_all ng.toNat _ D.length _ _ x N (Bool.toNat_le _) hlp he W hW.fy hW.sl hW.ev
 rw [hv] at hlo2 C
 obtain rfl:=hlo.unique hlo2
 exact C
end Go.Proofs.YtjlaoeigfokkiaaGreatDoor.fto
namespace Go.Proofs.YtjlaoeigfokkiaaGreatDoor.fto
open Go.ChangeShapes Go.WideShapes Go.ChangeAt Go.RowKit
open mem Go.Sort
open ints (hide unhide)
set_option linter.unusedVariables false
set_option linter.unusedSimpArgs false
theorem nearest_textA (ng:Bool) (A F:List Int) (E:Option (Int × Option Bool × List Int)) (R:Nat) (w:World) (hW:dcm.Fz w) (hA:Dg A) (hA0:A ≠ []) (hF:Dg F) (hE:exP E) (lT:A.length + F.length + (exA E).length ≤ 1060000)
  (PF:∀ W,dcm.Fz W → Calls Tryz.prog 43 #[.string (strOfNums (ntZ ng (trm (A ++ F)) (pwrA A F E))),.int .i64 64] W fun e w' => (∃ er,e = .returned (.tuple #[.float .f64 R,er])) ∧ Below W.heap.size W w') :
  Calls Tryz.prog 20 #[.string (strOfNums (sgL ng ++ (A ++ (frL F ++ exA E))))] w fun e w' => e = .returned (.float .f64 R) ∧ Below w.heap.size w w':=by
 obtain ⟨n1,n2⟩:=dg_noE hA hF
 have hD:=hA.app hF
 have lT:=trm_len (A ++ F)
 rw [List.length_append] at lT
 have lfr:(frL F).length ≤ F.length + 1:=by unfold frL;split <;> simp
 have lsg:(sgL ng).length = ng.toNat:=by cases ng <;> rfl
 have lA:A.length ≤ 1060000:=by omega
 have lF:F.length ≤ 1060000:=by omega
 have lex:(exA E).length ≤ 1060000:=by omega
 have hxv:-2000000000000 ≤ exW E ∧ exW E ≤ 2000000000000:=by
  rcases E with _ | ⟨ec,o,X⟩
  ·simp [exW]
  ·unfold exW
   split <;> omega
 have hcut:Lib.cut (u8s (A ++ frL F)) [46] = (u8s A,u8s F,decide (F ≠ [])):=by
  have hn:(46:UInt8) ∉ u8s A:=dig_not hA (by decide)
  by_cases h0:F = []
  ·subst h0
   rw [show A ++ frL [] = A by simp [frL],cut_no 46 _ hn]
   rfl
  ·rw [show A ++ frL F = A ++ 46 :: F by simp [frL,h0],u8s_app]
   show Lib.cut (u8s A ++ 46 :: u8s F) [46] = _
   rw [cut_at 46 _ _ hn]
   simp [h0]
 refine nearest_in2 ng (decide (F ≠ [])) _ (strOfNums (A ++ (frL F ++ exA E))) (strOfNums (A ++ frL F)) (strOfNums A) (strOfNums F) (strOfNums (A ++ F)) (strOfNums (trm (A ++ F))) (strOfNums (ntZ ng (trm (A ++ F)) (pwrA A F E))) (itB (pwrA A F E)) (exW E) (pwrA A F E) R w hW ?_ ?_ ?_ ?_ ?_ ?_ ?_ ?_ hxv ?_ ?_ ?_ ?_ ?_ ?_ ?_ ?_ ?_ rfl ?_ PF
 ·rw [str_size];simp only [List.length_append];have:=Bool.toNat_le ng;omega
 ·rw [str_size,List.length_append];omega
 ·rw [str_size];omega
 ·rw [str_size];omega
 ·rw [str_size];omega
 ·rw [str_size];simp only [List.length_append];omega
 ·have:=itB_size (pwrA A F E) (by unfold pwrA;omega) (by unfold pwrA;omega);omega
 ·intro h;subst h;rw [str_size];simp [sgL]
 ·show Lib.hasPrefix (u8s (sgL ng ++ (A ++ (frL F ++ exA E)))) [45] = ng
  cases ng
  ·obtain ⟨a,A',rfl⟩:∃ a A',A = a :: A':=by
    cases A with
    | nil => exact absurd rfl hA0
    | cons a A' => exact ⟨a,A',rfl⟩
   have ha:=hA a (by simp)
   have e2:(UInt8.ofNat a.toNat).toNat = a.toNat:=UInt8.toNat_ofNat_of_lt' (by show _ < 256;omega)
   have:¬ UInt8.ofNat a.toNat = 45:=fun e => by rw [e] at e2;have:(45:UInt8).toNat = 45:=rfl;omega
   show ([45]:List UInt8).isPrefixOf (UInt8.ofNat a.toNat :: _) = false
   simp only [List.isPrefixOf]
   have h2:((45:UInt8) == UInt8.ofNat a.toNat) = false:=by rw [beq_eq_false_iff_ne];exact fun e => this e.symm
   rw [h2];rfl
  ·show ([45]:List UInt8).isPrefixOf (45 :: _) = true
   simp [List.isPrefixOf]
 ·exact ext_right (sgL ng) (A ++ (frL F ++ exA E)) lsg.symm (by rw [str_size])
 ·intro W
  cases E with
  | none =>
   rw [show A ++ (frL F ++ exA none) = A ++ frL F by simp [exA]]
   exact cutE_no (A ++ frL F) W n1 n2 (by rw [List.length_append];omega)
  | some q =>
   obtain ⟨ec,o,X⟩:=q
   rw [← List.append_assoc]
   exact cutE_any (A ++ frL F) X ec o W hE.1 n1 n2 (by rw [List.length_append];omega) hE.2.1 hE.2.2.1 hE.2.2.2
 ·show (⟨(Lib.cut (u8s (A ++ frL F)) [46]).1.toArray⟩:ByteArray) = _
  rw [hcut];rfl
 ·show (⟨(Lib.cut (u8s (A ++ frL F)) [46]).2.1.toArray⟩:ByteArray) = _
  rw [hcut];rfl
 ·show (Lib.cut (u8s (A ++ frL F)) [46]).2.2 = _
  rw [hcut]
 ·exact str_app A F
 ·show (⟨(Lib.trimLeftB (u8s (A ++ F)) 48).toArray⟩:ByteArray) = _
  rw [trimB_trm _ hD];rfl
 ·rw [str_size,str_size];rfl
 ·rw [itB_itZ]
  have e1:(if ng = true then (⟨#[45]⟩:ByteArray) else ⟨#[]⟩) = strOfNums (sgL ng):=by cases ng <;> rfl
  have e2:(⟨#[48,46]⟩:ByteArray) = strOfNums [48,46]:=rfl
  have e3:(⟨#[101]⟩:ByteArray) = strOfNums [101]:=rfl
  rw [e1,e2,e3,str_app,str_app,str_app,str_app]
  congr 1
  simp [ntZ]
end Go.Proofs.YtjlaoeigfokkiaaGreatDoor.fto
namespace Go.Proofs.YtjlaoeigfokkiaaGreatDoor.fto
open Go.ChangeShapes Go.WideShapes Go.ChangeAt Go.RowKit
open mem Go.Sort
open ints (hide unhide)
set_option linter.unusedVariables false
set_option linter.unusedSimpArgs false
def exX:Option (Int × Option Bool × List Int) → Int
 | none => 0
 | some (_,o,X) => if o = some true then -(dv X:Int) else (dv X:Int)
theorem dv_ge {D:List Int} (hD:Dg D) (hne:D ≠ []) (h0:∀ r,D ≠ 48 :: r):10 ^ (D.length - 1) ≤ dv D:=by
 cases D with
 | nil => exact absurd rfl hne
 | cons c r =>
  have hc:=hD c (by simp)
  have h48:c ≠ 48:=fun e => h0 r (by rw [e])
  rw [dv_cons,List.length_cons,Nat.add_sub_cancel]
  have:1 * 10 ^ r.length ≤ (c - 48).toNat * 10 ^ r.length:=Nat.mul_le_mul_right _ (by omega)
  omega
theorem val_high {N n lo:Nat} {q:Int} (hN:10 ^ (n - 1) ≤ N) (hn:1 ≤ n) (hq:311 ≤ q + n) (hlo:Lo (N * 10 ^ q.toNat * k74) (10 ^ (-q).toNat) lo):dcm.cpR (roundR (N * 10 ^ q.toNat * k74) (10 ^ (-q).toNat) lo) = infR:=by
 have h:=dcm.round_inf hlo (Nat.pow_pos (by decide)) (by
  refine Nat.le_trans (Nat.mul_le_mul_left _ dcm.inf_310) ?_
  rw [← Nat.mul_assoc]
  refine Nat.mul_le_mul_right _ ?_
  refine Nat.le_trans ?_ (Nat.mul_le_mul_right _ hN)
  rw [← Nat.pow_add,← Nat.pow_add]
  exact Nat.pow_le_pow_right (by decide) (by have:dcm.n31 = 310:=rfl;omega))
 unfold dcm.cpR
 rw [if_neg (by omega)]
theorem low_aux (N T Z:Nat) (h:N ≤ T):2 * (N * Z) ≤ T * (2 * (18446744073709551616 * Z)):=by
 have h1:N * Z ≤ T * Z:=Nat.mul_le_mul_right _ h
 have h2:T * (2 * (18446744073709551616 * Z)) = 2 * 18446744073709551616 * (T * Z):=by
  rw [Nat.mul_left_comm T,Nat.mul_left_comm T,← Nat.mul_assoc]
 rw [h2]
 omega
theorem val_low {N n lo:Nat} {q:Int} (hN:N < 10 ^ n) (hq:q + n ≤ -345) (hlo:Lo (N * 10 ^ q.toNat * k74) (10 ^ (-q).toNat) lo):dcm.cpR (roundR (N * 10 ^ q.toNat * k74) (10 ^ (-q).toNat) lo) = 0:=by
 have h:=dcm.round_none hlo (Nat.pow_pos (by decide)) (by
  rw [show q.toNat = 0 by omega,Nat.pow_zero,Nat.mul_one]
  have h1:10 ^ n * 10 ^ dcm.n345 ≤ 10 ^ (-q).toNat:=by
   rw [← Nat.pow_add]
   exact Nat.pow_le_pow_right (by decide) (by have:dcm.n345 = 345:=rfl;omega)
  refine Nat.lt_of_lt_of_le ?_ h1
  have h2:=dcm.low_345
  have h3:=low_aux N (10 ^ n) k74 (by omega)
  exact Nat.lt_of_le_of_lt h3 (Nat.mul_lt_mul_of_pos_left h2 (Nat.pow_pos (by decide))))
 rw [h]
 unfold dcm.cpR
 rw [if_pos (by decide)]
theorem ex_near {E:Option (Int × Option Bool × List Int)}:exW E = exX E ∨ (1099511627776 ≤ exX E ∧ exW E = 1099511627776) ∨ (exX E ≤ -1099511627776 ∧ exW E = -1099511627776):=by
 rcases E with _ | ⟨ec,o,X⟩
 ·exact Or.inl rfl
 ·have e1:exW (some (ec,o,X)) = if o = some true then -((min (dv X) 1099511627776:Nat):Int) else ((min (dv X) 1099511627776:Nat):Int):=rfl
  have e2:exX (some (ec,o,X)) = if o = some true then -(dv X:Int) else (dv X:Int):=rfl
  rw [e1,e2]
  by_cases h:o = some true
  ·rw [if_pos h,if_pos h];omega
  ·rw [if_neg h,if_neg h];omega
theorem nearest_full (ng:Bool) (A F:List Int) (E:Option (Int × Option Bool × List Int)) (w:World) (hW:dcm.Fz w) (hA:Dg A) (hA0:A ≠ []) (hF:Dg F) (hE:exP E) (lT:A.length + F.length + (exA E).length ≤ 1060000) :
  ∃ lo,Lo (dv (trm (A ++ F)) * 10 ^ (exX E - F.length).toNat * k74) (10 ^ (-(exX E - F.length)).toNat) lo ∧
   Calls Tryz.prog 20 #[.string (strOfNums (sgL ng ++ (A ++ (frL F ++ exA E))))] w fun e w' => e = .returned (.float .f64 (ng.toNat * 9223372036854775808 + dcm.cpR (roundR (dv (trm (A ++ F)) * 10 ^ (exX E - F.length).toNat * k74) (10 ^ (-(exX E - F.length)).toNat) lo))) ∧ Below w.heap.size w w':=by
 have hD:=trm_dg (hA.app hF)
 have hln:=trm_len (A ++ F)
 rw [List.length_append] at hln
 have hpb:(pwrA A F E).natAbs < 10000:=by unfold pwrA;omega
 obtain ⟨lo,hlo⟩:=dcm.lo_some (dv (trm (A ++ F)) * 10 ^ (exX E - F.length).toNat * k74) (B:=10 ^ (-(exX E - F.length)).toNat) (Nat.pow_pos (by decide))
 refine ⟨lo,hlo,?_⟩
 refine nearest_textA ng A F E _ w hW hA hA0 hF hE lT ?_
 by_cases hne:trm (A ++ F) = []
 ·intro W hW'
  have h0:dcm.cpR (roundR (dv (trm (A ++ F)) * 10 ^ (exX E - F.length).toNat * k74) (10 ^ (-(exX E - F.length)).toNat) lo) = 0:=by
   have h1:=dcm.round_none hlo (Nat.pow_pos (by decide)) (by
    rw [hne,show dv [] = 0 from rfl,Nat.zero_mul,Nat.zero_mul];exact Nat.pow_pos (by decide))
   rw [h1]
   unfold dcm.cpR
   rw [if_pos (by decide)]
  rw [h0,Nat.add_zero,hne]
  refine (pf_text0 ng _ hpb W hW'.fy).mono ?_
  rintro e w' ⟨h1,h2⟩
  exact ⟨⟨_,h1⟩,h2⟩
 ·have hh:∀ r,trm (A ++ F) ≠ 48 :: r:=fun r e => trm_head _ _ _ e rfl
  obtain ⟨lo2,hlo2,C⟩:=pf_textA ng (trm (A ++ F)) (pwrA A F E) hD hne hh (by omega) hpb
  have hN1:=dv_ge hD hne hh
  have hN2:=dv_lt (trm (A ++ F)) hD
  have hn1:1 ≤ (trm (A ++ F)).length:=List.length_pos_iff.2 hne
  intro W hW'
  have key:dcm.cpR (roundR (dv (trm (A ++ F)) * 10 ^ (pwrA A F E - (trm (A ++ F)).length).toNat * k74) (10 ^ (-(pwrA A F E - (trm (A ++ F)).length)).toNat) lo2) = dcm.cpR (roundR (dv (trm (A ++ F)) * 10 ^ (exX E - F.length).toNat * k74) (10 ^ (-(exX E - F.length)).toNat) lo):=by
   have hx:=ex_near (E:=E)
   obtain ⟨P,hP⟩:∃ P,P = pwrA A F E:=⟨_,rfl⟩
   have hP2:=hP
   unfold pwrA at hP2
   rw [← hP] at hlo2 ⊢
   by_cases hhi:400 < exX E - F.length + (trm (A ++ F)).length
   ·have hP4:P = 400:=by omega
    rw [val_high hN1 hn1 (by omega) hlo2,val_high hN1 hn1 (by omega) hlo]
   ·by_cases hl:exX E - F.length + (trm (A ++ F)).length < -400
    ·have hP4:P = -400:=by omega
     rw [val_low hN2 (by omega) hlo2,val_low hN2 (by omega) hlo]
    ·have e1:P - (trm (A ++ F)).length = exX E - F.length:=by omega
     rw [e1] at hlo2 ⊢
     rw [hlo.unique hlo2]
  rw [← key]
  exact C W hW'
end Go.Proofs.YtjlaoeigfokkiaaGreatDoor.fto
