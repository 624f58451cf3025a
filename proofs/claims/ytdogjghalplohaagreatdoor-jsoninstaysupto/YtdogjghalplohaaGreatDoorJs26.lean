import Derived.Test.YtdogjghalplohaaGreatDoorJs25
namespace Go.Proofs.YtdogjghalplohaaGreatDoor.dcm
open Go.ChangeShapes Go.WideShapes Go.ChangeAt Go.RowKit
open mem fto
set_option linter.unusedVariables false
set_option linter.unusedSimpArgs false
def tdec (s:ByteArray) (a m:Nat):Dcs:=⟨fun i => (bz s (a + i)).toNat,m,0,false,false⟩
theorem tdec_dv {s:ByteArray} {a m:Nat} (hd:∀ j,j < m → 48 ≤ bz s (a + j) ∧ bz s (a + j) ≤ 57):∀ j,j ≤ m → dvN (tdec s a m) j = mvs s a j
 | 0,_ => rfl
 | j + 1,h => by
  show dvN (tdec s a m) j * 10 + dgN (tdec s a m) j = mvs s a j * 10 + (bz s (a + j) - 48).toNat
  rw [tdec_dv hd j (by omega)]
  have:=hd j (by omega)
  unfold dgN
  rw [if_pos (show j < (tdec s a m).nd from by show j < m;omega)]
  show _ + ((bz s (a + j)).toNat - 48) = _
  omega
theorem tdec_ok {s:ByteArray} {a m:Nat} (hd:∀ j,j < m → 48 ≤ bz s (a + j) ∧ bz s (a + j) ≤ 57):DgOk (tdec s a m):=fun i hi => by
 have:=hd i hi
 show 48 ≤ (bz s (a + i)).toNat ∧ (bz s (a + i)).toNat ≤ 57
 omega
theorem tr8_small (s:ByteArray) (a:Nat):∀ j,j ≤ 800 → tr8 s a j = false:=by
 intro j
 induction j with
 | zero => intro _;rfl
 | succ j ih => intro hj;rw [tr8,ih (by omega),decide_eq_false (by omega)];rfl
theorem tr8_eq {s:ByteArray} {a m:Nat} (hd:∀ j,j < m → 48 ≤ bz s (a + j) ∧ bz s (a + j) ≤ 57):∀ i,800 + i ≤ m → tr8 s a (800 + i) = decide (mvs s a (800 + i) % 10 ^ i ≠ 0)
 | 0,_ => by rw [tr8_small s a 800 (by omega),Nat.pow_zero,Nat.mod_one];rfl
 | i + 1,h => by
  have ih:=tr8_eq hd i (by omega)
  have hb:=hd (800 + i) (by omega)
  rw [← Nat.add_assoc,tr8,ih,decide_eq_true (show 800 ≤ 800 + i by omega),Bool.true_and]
  show _ = decide ((mvs s a (800 + i) * 10 + (bz s (a + (800 + i)) - 48).toNat) % 10 ^ (i + 1) ≠ 0)
  obtain ⟨v,hv⟩:∃ v:Nat,bz s (a + (800 + i)) = ((v + 48:Nat):Int):=⟨(bz s (a + (800 + i)) - 48).toNat,by omega⟩
  have hv9:v ≤ 9:=by omega
  rw [hv]
  have ev:(((v + 48:Nat):Int) - 48).toNat = v:=by omega
  rw [ev]
  have e:=Nat.div_add_mod (mvs s a (800 + i)) (10 ^ i)
  have hr:=Nat.mod_lt (mvs s a (800 + i)) (show 0 < 10 ^ i from Nat.pow_pos (by decide))
  have e2:(mvs s a (800 + i) * 10 + v) % 10 ^ (i + 1) = mvs s a (800 + i) % 10 ^ i * 10 + v:=by
   rw [Nat.pow_succ]
   generalize mvs s a (800 + i) % 10 ^ i = r at *
   generalize mvs s a (800 + i) / 10 ^ i = q at *
   generalize 10 ^ i = T at *
   rw [← e]
   have:(T * q + r) * 10 + v = T * 10 * q + (r * 10 + v):=by rw [Nat.add_mul,Nat.mul_right_comm,Nat.add_assoc]
   rw [this,Nat.mul_add_mod,Nat.mod_eq_of_lt (by omega)]
  rw [e2]
  generalize mvs s a (800 + i) % 10 ^ i = r at *
  by_cases h1:r = 0 <;> by_cases h2:v = 0 <;> simp [h1,h2] <;> omega
theorem set_st {s:ByteArray} {a m:Nat} {s':Dcs} (hd:∀ j,j < m → 48 ≤ bz s (a + j) ∧ bz s (a + j) ≤ 57) (hf:bz s a ≠ 48) (hm:1 ≤ m) (h:SI s a s' m) (hp:s'.dp ≤ 310) :
  St (mvs s a m * 10 ^ (s'.dp - m).toNat) (10 ^ (-(s'.dp - m)).toNat) s' (800 - s'.dp).toNat:=by
 have hok:DgOk s':=fun i hi => by
  have hi':i < min m 800:=by rw [← h.nd];exact hi
  have h1:=h.dig i (by omega) (by omega)
  have h2:=hd i (by omega)
  omega
 have hw:∀ j,j ≤ min m 800 → dvN s' j = mvs s a j:=by
  intro j
  induction j with
  | zero => intro _;rfl
  | succ j ih =>
   intro hj
   show dvN s' j * 10 + dgN s' j = mvs s a j * 10 + (bz s (a + j) - 48).toNat
   rw [ih (by omega)]
   have h1:=h.dig j (by omega) (by omega)
   unfold dgN
   rw [if_pos (by rw [h.nd];omega)]
   omega
 have hn8:s'.nd ≤ 800:=by rw [h.nd];omega
 have hL:dvN s' 800 = mvs s a m * 10 ^ (800 - m) / 10 ^ (m - 800) ∧ s'.tr = decide (mvs s a m * 10 ^ (800 - m) % 10 ^ (m - 800) ≠ 0):=by
  rcases Nat.lt_or_ge 800 m with g | g
  ·rw [show 800 - m = 0 by omega,Nat.pow_zero,Nat.mul_one]
   constructor
   ·rw [hw 800 (by omega)]
    have:=dvN_div (tdec_ok hd) (k:=800) (j:=m) (by omega)
    rw [tdec_dv hd m (Nat.le_refl _),tdec_dv hd 800 (by omega)] at this
    exact this.symm
   ·rw [h.tr]
    have:=tr8_eq hd (m - 800) (by omega)
    rw [show 800 + (m - 800) = m by omega] at this
    exact this
  ·rw [show m - 800 = 0 by omega,Nat.pow_zero,Nat.div_one,Nat.mod_one]
   constructor
   ·have:=dvN_behind (s:=s') (k:=m) (by rw [h.nd];omega) (800 - m)
    rw [show m + (800 - m) = 800 by omega,hw m (by omega)] at this
    exact this
   ·rw [h.tr,tr8_small s a m g];rfl
 have hfr:49 ≤ bz s a:=by have:=hd 0 (by omega);rw [Nat.add_zero] at this;omega
 have hlead:T79 ≤ dvN s' 800:=by
  obtain ⟨r,er,hr⟩:=dvN_split hok 1 n79
  have er:dvN s' 800 = dvN s' 1 * T79 + r:=er
  have e1:=hw 1 (by omega)
  have e2:mvs s a 1 = (bz s a - 48).toNat:=by
   show 0 * 10 + (bz s (a + 0) - 48).toNat = _
   rw [Nat.add_zero];omega
  rw [er,e1,e2]
  have:1 * T79 ≤ (bz s a - 48).toNat * T79:=Nat.mul_le_mul_right _ (by omega)
  omega
 have hN:0 < mvs s a m:=mvs_pos s a hfr m (by omega)
 have hfrac:mvs s a m * 10 ^ (s'.dp - m).toNat * 10 ^ (800 - s'.dp).toNat = mvs s a m * 10 ^ (800 - m) * 10 ^ ((s'.dp - m).toNat + (800 - s'.dp).toNat - (800 - m)) ∧ (10:Nat) ^ (-(s'.dp - m)).toNat = 10 ^ (m - 800) * 10 ^ ((s'.dp - m).toNat + (800 - s'.dp).toNat - (800 - m)):=by
  constructor
  ·rw [Nat.mul_assoc,← Nat.pow_add,Nat.mul_assoc,← Nat.pow_add];congr 2;omega
  ·rw [← Nat.pow_add];congr 1;omega
 have hT:0 < 10 ^ ((s'.dp - m).toNat + (800 - s'.dp).toNat - (800 - m)):=Nat.pow_pos (by decide)
 have hY:0 < 10 ^ (-(s'.dp - m)).toNat:=Nat.pow_pos (by decide)
 have eL:dvN s' 800 = mvs s a m * 10 ^ (s'.dp - m).toNat * 10 ^ (800 - s'.dp).toNat / 10 ^ (-(s'.dp - m)).toNat:=by
  rw [hfrac.1,hfrac.2,Nat.mul_div_mul_right _ _ hT];exact hL.1
 have eT:s'.tr = decide (mvs s a m * 10 ^ (s'.dp - m).toNat * 10 ^ (800 - s'.dp).toNat % 10 ^ (-(s'.dp - m)).toNat ≠ 0):=by
  rw [hfrac.1,hfrac.2,Nat.mul_mod_mul_right,hL.2]
  apply decide_eq_decide.2
  rw [Ne,Ne,Nat.mul_eq_zero]
  constructor
  ·rintro q (q1 | q1)
   ·exact q q1
   ·omega
  ·intro q q1;exact q (Or.inl q1)
 refine ⟨⟨hok,hn8,hlead⟩,Nat.mul_pos hN (Nat.pow_pos (by decide)),hY,hp,?_,Nat.le_refl _,?_⟩
 ·rw [eL];exact Gr.start hY (Nat.le_refl _)
 ·rw [eL,eT];exact Ex.start hY
end Go.Proofs.YtdogjghalplohaaGreatDoor.dcm
