import Derived.Test.YtjlaoeigfokkiaaGreatDoorBr9
import Derived.Test.YtjlaoeigfokkiaaGreatDoorBr10
import Derived.Test.YtjlaoeigfokkiaaGreatDoorBr11
import Derived.Test.YtjlaoeigfokkiaaGreatDoorBr7
import Derived.Shelf.Strconv.ParseIntPublic10
import Derived.Shelf.Strings.Prefix
import Derived.Shelf.Strings.IndexAny
import Derived.Shelf.Strings.IndexAnyAll
import Derived.Test.YtjlaoeigfokkiaaGreatDoorProg
import Derived.Shelf.Strings.Trim
import Derived.Shelf.Strings.SlTrimAscii
namespace Go.Proofs.YtjlaoeigfokkiaaGreatDoor.fto
open Go.ChangeShapes Go.WideShapes Go.ChangeAt Go.RowKit
open mem Go.Sort
open ints (hide unhide)
set_option linter.unusedVariables false
def dz (u:Nat):List Int:=(Lib.decDigits u).map fun b => (b.toNat:Int)
theorem dz_small {u:Nat} (h:u < 10):dz u = [((48 + u:Nat):Int)]:=by
 unfold dz
 rw [Lib.decDigits,dif_pos h]
 simp only [List.map_cons,List.map_nil]
 rw [UInt8.toNat_ofNat_of_lt' (by show _ < 256;omega)]
theorem dz_big {u:Nat} (h:¬ u < 10):dz u = dz (u / 10) ++ [((48 + u % 10:Nat):Int)]:=by
 unfold dz
 conv => lhs;rw [Lib.decDigits,dif_neg h]
 simp only [List.map_append,List.map_cons,List.map_nil]
 rw [UInt8.toNat_ofNat_of_lt' (by show _ < 256;omega)]
theorem dz_dg:∀ u,Dg (dz u):=by
 intro u
 induction u using Nat.strongRecOn with
 | ind u ih =>
  by_cases h:u < 10
  ·rw [dz_small h]
   intro z hz
   simp at hz
   omega
  ·rw [dz_big h]
   refine (ih (u / 10) (by omega)).app ?_
   intro z hz
   simp at hz
   omega
theorem dz_val:∀ u,dv (dz u) = u:=by
 intro u
 induction u using Nat.strongRecOn with
 | ind u ih =>
  by_cases h:u < 10
  ·rw [dz_small h,dv_cons]
   simp [dv]
   omega
  ·rw [dz_big h,dv_app,ih (u / 10) (by omega),dv_cons]
   simp [dv]
   omega
theorem dz_ne (u:Nat):dz u ≠ []:=by
 by_cases h:u < 10
 ·rw [dz_small h];simp
 ·rw [dz_big h];simp
theorem dz_len (u:Nat) (h:u < 10000):(dz u).length ≤ 4:=by
 by_cases h1:u < 10
 ·rw [dz_small h1];simp
 rw [dz_big h1]
 by_cases h2:u / 10 < 10
 ·rw [dz_small h2];simp
 rw [dz_big h2]
 by_cases h3:u / 10 / 10 < 10
 ·rw [dz_small h3];simp
 rw [dz_big h3,dz_small (show u / 10 / 10 / 10 < 10 by omega)];simp
theorem dz_first:∀ (u:Nat) (r:List Int),dz u = 48 :: r → u = 0 ∧ r = []:=by
 intro u
 induction u using Nat.strongRecOn with
 | ind u ih =>
  intro r h
  by_cases h1:u < 10
  ·rw [dz_small h1] at h
   simp at h
   exact ⟨by omega,h.2⟩
  ·rw [dz_big h1] at h
   cases hz:dz (u / 10) with
   | nil => exact absurd hz (dz_ne _)
   | cons a l =>
    rw [hz,List.cons_append] at h
    have ha:a = 48:=by simp at h;exact h.1
    rw [ha] at hz
    have:=(ih (u / 10) (by omega) l hz).1
    omega
def itZ (x:Int):List Int:=sgL (decide (x < 0)) ++ dz x.natAbs
theorem u8_dz (u:Nat):u8s (dz u) = Lib.decDigits u:=by
 unfold u8s dz
 rw [List.map_map]
 conv => rhs;rw [← List.map_id (Lib.decDigits u)]
 apply List.map_congr_left
 intro b _
 simp
theorem itB_itZ (x:Int):itB x = strOfNums (itZ x):=by
 unfold itB itZ
 rw [str_u8s,u8s_app,u8_dz]
 unfold Lib.itoa
 by_cases h:x < 0
 ·rw [if_pos h,decide_eq_true h]
  rfl
 ·rw [if_neg h,decide_eq_false h,show x.toNat = x.natAbs by omega]
  rfl
def Bt (l:List Int):Prop:=∀ z ∈ l,0 ≤ z ∧ z ≤ 255
theorem Bt.app {a b:List Int} (ha:Bt a) (hb:Bt b):Bt (a ++ b):=fun z h => by
 rcases List.mem_append.1 h with h | h
 ·exact ha z h
 ·exact hb z h
theorem Bt.cons {a:Int} {b:List Int} (ha:0 ≤ a ∧ a ≤ 255) (hb:Bt b):Bt (a :: b):=fun z h => by
 rcases List.mem_cons.1 h with h | h
 ·exact h ▸ ha
 ·exact hb z h
theorem Bt.nil:Bt []:=fun _ h => by simp at h
theorem _root_.Go.Proofs.YtjlaoeigfokkiaaGreatDoor.mem.Dg.bt {l:List Int} (h:Dg l):Bt l:=fun z hz => by have:=h z hz;omega
theorem sg_bt (ng:Bool):Bt (sgL ng):=by cases ng <;> simp [sgL,Bt]
theorem itZ_bt (x:Int):Bt (itZ x):=(sg_bt _).app (dz_dg _).bt
theorem bz_str (zs:List Int) (h:Bt zs) (k:Nat):bz (strOfNums zs) k = zs.getD k 0:=by
 unfold bz
 have e:(strOfNums zs).data.toList.map (fun b => (b.toNat:Int)) = zs:=by
  show (List.map _ (zs.map fun n => UInt8.ofNat n.toNat).toArray.toList) = zs
  rw [List.toList_toArray,List.map_map]
  conv => rhs;rw [← List.map_id zs]
  apply List.map_congr_left
  intro z hz
  have:=h z hz
  simp
  omega
 rw [e]
theorem str_size (zs:List Int):(strOfNums zs).size = zs.length:=by
 show (zs.map fun n => UInt8.ofNat n.toNat).toArray.size = _
 simp
def ntZ (ng:Bool) (D:List Int) (x:Int):List Int:=sgL ng ++ 48 :: 46 :: (D ++ 101 :: itZ x)
theorem ntZ_bt (ng:Bool) (D:List Int) (x:Int) (hD:Dg D):Bt (ntZ ng D x):=
 (sg_bt ng).app (.cons (by omega) (.cons (by omega) (hD.bt.app (.cons (by omega) (itZ_bt x)))))
theorem getD_app (P R:List Int) (j:Nat):(P ++ R).getD (P.length + j) 0 = R.getD j 0:=by
 rw [List.getD_eq_getElem?_getD,List.getD_eq_getElem?_getD,List.getElem?_append_right (by omega),Nat.add_sub_cancel_left]
theorem dg_getD {l:List Int} (h:Dg l) {j:Nat} (hj:j < l.length):48 ≤ l.getD j 0 ∧ l.getD j 0 ≤ 57:=by
 refine h _ ?_
 rw [List.getD_eq_getElem?_getD,List.getElem?_eq_getElem hj]
 exact List.getElem_mem hj
theorem getD_left (P R:List Int) {j:Nat} (h:j < P.length):(P ++ R).getD j 0 = P.getD j 0:=by
 simp [List.getD,List.getElem?_append_left h]
theorem mvs_dv (zs:List Int) (hz:Bt zs) (P D R:List Int) (e:zs = P ++ (D ++ R)):∀ j,j ≤ D.length → mvs (strOfNums zs) P.length j = dv (D.take j):=by
 intro j
 induction j with
 | zero => intro _;simp [mvs,dv]
 | succ j ih =>
  intro hj
  rw [mvs,ih (by omega),bz_str zs hz,e,getD_app,getD_left _ _ (by omega)]
  have et:D.take (j + 1) = D.take j ++ [D.getD j 0]:=by
   rw [List.getD_eq_getElem?_getD,List.getElem?_eq_getElem (show j < D.length by omega),Option.getD_some,List.take_succ_eq_append_getElem (by omega)]
  rw [et,dv_app,dv_cons]
  simp [dv]
theorem trs_of (zs:List Int) (hz:Bt zs) (P D R:List Int) (e:zs = P ++ (D ++ R)) (h0:∀ z ∈ D.drop 19,z = 48):∀ j,j ≤ D.length → trs (strOfNums zs) P.length j = false:=by
 intro j
 induction j with
 | zero => intro _;rfl
 | succ j ih =>
  intro hj
  rw [trs,ih (by omega),Bool.false_or]
  by_cases h:19 ≤ j
  ·have:D.getD j 0 = 48:=by
    refine h0 _ ?_
    rw [List.getD_eq_getElem?_getD,List.getElem?_eq_getElem (show j < D.length by omega),Option.getD_some]
    rw [List.mem_iff_getElem]
    exact ⟨j - 19,by rw [List.length_drop];omega,by rw [List.getElem_drop];congr 1;omega⟩
   rw [bz_str zs hz,e,getD_app,getD_left _ _ (by omega),this]
   simp
  ·simp [h]
theorem ntx_of (ng:Bool) (D:List Int) (x:Int) (hD:Dg D) (hl:D.length ≤ 1100000) (h0:∀ r,D ≠ 48 :: r) (hx:x.natAbs < 10000) :
  Ntx (strOfNums (ntZ ng D x)) ng.toNat D.length (decide (x < 0)).toNat (dz x.natAbs).length:=by
 have hb:=ntZ_bt ng D x hD
 have hk:(sgL ng).length = ng.toNat:=by cases ng <;> rfl
 have hg:(sgL (decide (x < 0))).length = (decide (x < 0)).toNat:=by cases decide (x < 0) <;> rfl
 have hzp:0 < (dz x.natAbs).length:=List.length_pos_iff.2 (dz_ne _)
 obtain ⟨P2,hP2⟩:∃ P,P = sgL ng ++ [48,46]:=⟨_,rfl⟩
 have l2:P2.length = ng.toNat + 2:=by rw [hP2,List.length_append,hk];rfl
 have e2:ntZ ng D x = P2 ++ (D ++ 101 :: itZ x):=by rw [hP2];simp [ntZ]
 obtain ⟨P3,hP3⟩:∃ P,P = P2 ++ D:=⟨_,rfl⟩
 have l3:P3.length = ng.toNat + 2 + D.length:=by rw [hP3,List.length_append,l2]
 have e3:ntZ ng D x = P3 ++ 101 :: itZ x:=by rw [e2,hP3];simp
 obtain ⟨P4,hP4⟩:∃ P,P = P3 ++ [101]:=⟨_,rfl⟩
 have l4:P4.length = ng.toNat + 3 + D.length:=by rw [hP4,List.length_append,l3];simp;omega
 have e4:ntZ ng D x = P4 ++ (sgL (decide (x < 0)) ++ dz x.natAbs):=by rw [e3,hP4];simp [itZ]
 obtain ⟨P5,hP5⟩:∃ P,P = P4 ++ sgL (decide (x < 0)):=⟨_,rfl⟩
 have l5:P5.length = ng.toNat + 3 + D.length + (decide (x < 0)).toNat:=by rw [hP5,List.length_append,l4,hg]
 have e5:ntZ ng D x = P5 ++ dz x.natAbs:=by rw [e4,hP5];simp
 refine ⟨hl,hzp,dz_len _ hx,Bool.toNat_le _,?_,?_,?_,?_,?_,?_,?_,?_,?_⟩
 ·rw [str_size,e5,List.length_append,l5];omega
 ·intro h
  rw [bz_str _ hb]
  cases ng
  ·simp at h
  ·simp [ntZ,sgL]
 ·rw [bz_str _ hb,← hk]
  have:=getD_app (sgL ng) (48 :: 46 :: (D ++ 101 :: itZ x)) 0
  rw [Nat.add_zero] at this
  unfold ntZ
  rw [this];rfl
 ·rw [bz_str _ hb,← hk]
  have:=getD_app (sgL ng) (48 :: 46 :: (D ++ 101 :: itZ x)) 1
  unfold ntZ
  rw [this];rfl
 ·intro j hj
  rw [bz_str _ hb,e2,← l2,getD_app,getD_left _ _ hj]
  exact dg_getD hD hj
 ·intro hm
  rw [bz_str _ hb,e2,← l2]
  have:=getD_app P2 (D ++ 101 :: itZ x) 0
  rw [Nat.add_zero] at this
  rw [this]
  cases D with
  | nil => simp at hm
  | cons a r =>
   intro h
   simp at h
   exact h0 r (by rw [h])
 ·rw [bz_str _ hb,e3,← l3]
  have:=getD_app P3 (101 :: itZ x) 0
  rw [Nat.add_zero] at this
  rw [this];rfl
 ·intro h
  rw [bz_str _ hb,e4,← l4]
  have:=getD_app P4 (sgL (decide (x < 0)) ++ dz x.natAbs) 0
  rw [Nat.add_zero] at this
  rw [this]
  cases hd:decide (x < 0)
  ·rw [hd] at h;simp at h
  ·simp [sgL]
 ·intro j hj
  rw [bz_str _ hb,e5,← l5,getD_app]
  exact dg_getD (dz_dg _) hj
theorem ntx_mant (ng:Bool) (D:List Int) (x:Int) (hD:Dg D) (j:Nat) (hj:j ≤ D.length):mvs (strOfNums (ntZ ng D x)) (ng.toNat + 2) j = dv (D.take j):=by
 have hk:(sgL ng).length = ng.toNat:=by cases ng <;> rfl
 have:=mvs_dv (ntZ ng D x) (ntZ_bt ng D x hD) (sgL ng ++ [48,46]) D (101 :: itZ x) (by simp [ntZ]) j hj
 rw [List.length_append,hk] at this
 exact this
theorem ntx_trs (ng:Bool) (D:List Int) (x:Int) (hD:Dg D) (h0:∀ z ∈ D.drop 19,z = 48):trs (strOfNums (ntZ ng D x)) (ng.toNat + 2) D.length = false:=by
 have hk:(sgL ng).length = ng.toNat:=by cases ng <;> rfl
 have:=trs_of (ntZ ng D x) (ntZ_bt ng D x hD) (sgL ng ++ [48,46]) D (101 :: itZ x) (by simp [ntZ]) h0 D.length (Nat.le_refl _)
 rw [List.length_append,hk] at this
 exact this
theorem ntx_exp (ng:Bool) (D:List Int) (x:Int) (hD:Dg D):mvs (strOfNums (ntZ ng D x)) (ng.toNat + 3 + D.length + (decide (x < 0)).toNat) (dz x.natAbs).length = x.natAbs:=by
 have hk:(sgL ng).length = ng.toNat:=by cases ng <;> rfl
 have hg:(sgL (decide (x < 0))).length = (decide (x < 0)).toNat:=by cases decide (x < 0) <;> rfl
 have:=mvs_dv (ntZ ng D x) (ntZ_bt ng D x hD) (sgL ng ++ 48 :: 46 :: (D ++ 101 :: sgL (decide (x < 0)))) (dz x.natAbs) [] (by simp [ntZ,itZ]) (dz x.natAbs).length (Nat.le_refl _)
 rw [List.take_length,dz_val] at this
 refine Eq.trans ?_ this
 congr 1
 simp [hk,hg]
 omega
theorem inR_cross {P B P' B' a:Nat} (hB:0 < B) (hB':0 < B') (e:P * B' = P' * B) (h:InR P B a):InR P' B' a:=by
 have k1:∀ M,B * M < 2 * P ↔ B' * M < 2 * P':=fun M => by
  have a1:B * M < 2 * P ↔ B * M * B' < 2 * P * B':=(Nat.mul_lt_mul_right hB').symm
  have a2:B' * M < 2 * P' ↔ B' * M * B < 2 * P' * B:=(Nat.mul_lt_mul_right hB).symm
  rw [a1,a2,Nat.mul_assoc 2 P,Nat.mul_assoc 2 P',e,Nat.mul_right_comm B' M B,Nat.mul_comm B' B,Nat.mul_right_comm B M B']
 have k2:∀ M,B * M = 2 * P ↔ B' * M = 2 * P':=fun M => by
  have a1:B * M = 2 * P ↔ B * M * B' = 2 * P * B':=(Nat.mul_left_inj (Nat.ne_of_gt hB')).symm
  have a2:B' * M = 2 * P' ↔ B' * M * B = 2 * P' * B:=(Nat.mul_left_inj (Nat.ne_of_gt hB)).symm
  rw [a1,a2,Nat.mul_assoc 2 P,Nat.mul_assoc 2 P',e,Nat.mul_right_comm B' M B,Nat.mul_comm B' B,Nat.mul_right_comm B M B']
 have k3:∀ M,2 * P < B * M ↔ 2 * P' < B' * M:=fun M => by
  have a1:2 * P < B * M ↔ 2 * P * B' < B * M * B':=(Nat.mul_lt_mul_right hB').symm
  have a2:2 * P' < B' * M ↔ 2 * P' * B < B' * M * B:=(Nat.mul_lt_mul_right hB).symm
  rw [a1,a2,Nat.mul_assoc 2 P,Nat.mul_assoc 2 P',e,Nat.mul_right_comm B' M B,Nat.mul_comm B' B,Nat.mul_right_comm B M B']
 have k4:∀ M,2 * P = B * M ↔ 2 * P' = B' * M:=fun M => by
  rw [eq_comm,k2,eq_comm]
 unfold InR at *
 rw [← k1,← k2,← k3,← k4]
 exact h
theorem pow_cross (q:Int) (j:Nat):10 ^ j * 10 ^ q.toNat * 10 ^ (-(q + j)).toNat = 10 ^ (q + j).toNat * 10 ^ (-q).toNat:=by
 rw [← Nat.pow_add,← Nat.pow_add,← Nat.pow_add]
 congr 1
 omega
theorem rd_scale {d j a:Nat} {q:Int}:Rd (d * 10 ^ j) q a ↔ Rd d (q + j) a:=by
 have hB:∀ z:Int,0 < 10 ^ (-z).toNat:=fun z => Nat.pow_pos (by decide)
 have key:d * 10 ^ j * 10 ^ q.toNat * k74 * 10 ^ (-(q + j)).toNat = d * 10 ^ (q + j).toNat * k74 * 10 ^ (-q).toNat:=by
  have:=pow_cross q j
  generalize 10 ^ (-(q + (j:Int))).toNat = a1 at *
  generalize 10 ^ (q + (j:Int)).toNat = a2 at *
  generalize 10 ^ (-q).toNat = a3 at *
  generalize 10 ^ q.toNat = a4 at *
  generalize 10 ^ j = a5 at *
  generalize k74 = k at *
  rw [Nat.mul_right_comm _ k a1,Nat.mul_right_comm _ k a3,Nat.mul_assoc d a5 a4,Nat.mul_assoc d (a5 * a4),this,← Nat.mul_assoc]
 unfold Rd
 constructor
 ·exact inR_cross (hB _) (hB _) key
 ·exact inR_cross (hB _) (hB _) key.symm
theorem midR_mono {a b:Nat} (h:a ≤ b):midR a ≤ midR b:=by
 rw [midR_eq,midR_eq]
 exact Nat.add_le_add (vR_mono_le h) (vR_mono_le (by omega))
def e345:Nat:=345
def e310:Nat:=310
theorem big345:2 * (18446744073709551616 * k74) < 10 ^ e345:=by decide +kernel
theorem big310:midR 9218868437227405312 < 2 * (1 * 10 ^ e310 * k74):=by decide +kernel
theorem rd_rng {d a:Nat} {p:Int} (h:Rd d p a) (h1:1 ≤ d) (hd:d < 18446744073709551616) (ha:a < infR):-345 ≤ p ∧ p ≤ 310:=by
 obtain ⟨hlo,hhi⟩:=h
 have x1:e345 = 345:=rfl
 have x2:e310 = 310:=rfl
 constructor
 ·rcases Int.lt_or_le p (-345) with g | g
  ·exfalso
   have m0:1 ≤ midR (a - 1):=by unfold midR;have:=Nat.two_pow_pos (exR (a - 1));omega
   have a1:10 ^ (-p).toNat * 1 ≤ 10 ^ (-p).toNat * midR (a - 1):=Nat.mul_le_mul_left _ m0
   have a2:10 ^ (-p).toNat ≤ 2 * (d * 10 ^ p.toNat * k74):=by omega
   rw [show p.toNat = 0 by omega,Nat.pow_zero,Nat.mul_one] at a2
   have a3:10 ^ e345 ≤ 10 ^ (-p).toNat:=Nat.pow_le_pow_right (by decide) (by omega)
   have a4:d * k74 ≤ 18446744073709551616 * k74:=Nat.mul_le_mul_right _ (Nat.le_of_lt hd)
   exact absurd (Nat.le_trans a3 (Nat.le_trans a2 (Nat.mul_le_mul_left 2 a4))) (Nat.not_le_of_lt big345)
  ·exact g
 ·rcases Int.lt_or_le 310 p with g | g
  ·exfalso
   have a1:2 * (d * 10 ^ p.toNat * k74) ≤ 10 ^ (-p).toNat * midR a:=by omega
   rw [show (-p).toNat = 0 by omega,Nat.pow_zero,Nat.one_mul] at a1
   have a2:midR a ≤ midR 9218868437227405312:=midR_mono (Nat.le_of_lt ha)
   have a3:10 ^ e310 ≤ 10 ^ p.toNat:=Nat.pow_le_pow_right (by decide) (by omega)
   have a4:1 * 10 ^ e310 * k74 ≤ d * 10 ^ p.toNat * k74:=Nat.mul_le_mul_right _ (Nat.mul_le_mul h1 a3)
   exact absurd (Nat.le_trans (Nat.mul_le_mul_left 2 a4) (Nat.le_trans a1 a2)) (Nat.not_le_of_lt big310)
  ·exact g
end Go.Proofs.YtjlaoeigfokkiaaGreatDoor.fto
namespace Go.Proofs
open Go.Shelf
def Tryz.lays153_ren:Go.Shelf.Ren:=⟨fun | 153 => 63 | 152 => 94 | 226 => 95 | 227 => 66 | 228 => 96 | 137 => 119 | 119 => 120 | 224 => 121 | 225 => 122 | 217 => 123 | 266 => 144 | n => n,fun | 9 => 9 | 3 => 3 | 4 => 4 | 5 => 5 | 21 => 21 | 117 => 107 | 116 => 106 | 0 => 0 | 46 => 99 | 124 => 110 | n => n,fun | n => n⟩
theorem Tryz.lays153:Go.Proofs.Lays.n153 Tryz.prog Tryz.lays153_ren:={
  mixed:=by kernel_rfl
  f119:=Tryz.func120.trans (congrArg some (by kernel_rfl))
  f137:=Tryz.func119.trans (congrArg some (by kernel_rfl))
  f152:=Tryz.func94.trans (congrArg some (by kernel_rfl))
  f153:=Tryz.func63.trans (congrArg some (by kernel_rfl))
  f217:=Tryz.func123.trans (congrArg some (by kernel_rfl))
  f224:=Tryz.func121.trans (congrArg some (by kernel_rfl))
  f225:=Tryz.func122.trans (congrArg some (by kernel_rfl))
  f226:=Tryz.func95.trans (congrArg some (by kernel_rfl))
  f227:=Tryz.func66.trans (congrArg some (by kernel_rfl))
  f228:=Tryz.func96.trans (congrArg some (by kernel_rfl))
  f266:=Tryz.func144.trans (congrArg some (by kernel_rfl))
  t0:=Tryz.underlying0
  a0:=Tryz.isAgg0
  z0:=Tryz.sizeOf0
  v0:=Tryz.zeroValue0
  t3:=Tryz.underlying3
  a3:=Tryz.isAgg3
  z3:=Tryz.sizeOf3
  v3:=Tryz.zeroValue3
  t4:=Tryz.underlying4
  a4:=Tryz.isAgg4
  z4:=Tryz.sizeOf4
  v4:=Tryz.zeroValue4
  t5:=Tryz.underlying5
  a5:=Tryz.isAgg5
  z5:=Tryz.sizeOf5
  v5:=Tryz.zeroValue5
  t9:=Tryz.underlying9
  a9:=Tryz.isAgg9
  z9:=Tryz.sizeOf9
  v9:=Tryz.zeroValue9
  t21:=Tryz.underlying21
  a21:=Tryz.isAgg21
  z21:=Tryz.sizeOf21
  v21:=Tryz.zeroValue21
  t46:=Tryz.underlying99
  a46:=Tryz.isAgg99
  z46:=Tryz.sizeOf99
  v46:=Tryz.zeroValue99
  t116:=Tryz.underlying106
  a116:=Tryz.isAgg106
  z116:=Tryz.sizeOf106
  t117:=Tryz.underlying107
  a117:=Tryz.isAgg107
  z117:=Tryz.sizeOf107
  v117:=Tryz.zeroValue107
  t124:=Tryz.underlying110
  a124:=Tryz.isAgg110
  z124:=Tryz.sizeOf110
  v124:=Tryz.zeroValue110 }
open Go.RowKit Go.Lib in
theorem Tryz.strings_IndexAny_laid (s chars:ByteArray) (w:World) (hs:s.size < 4294967281) (hcs:chars.size < 4294967281) (has:∀ (j:Nat) b,s.data.toList[j]? = some b → b.toNat < 128) (hac:∀ (j:Nat) b,chars.data.toList[j]? = some b → b.toNat < 128) :
    Calls Tryz.prog 63 #[.string s,.string chars] w fun e w' => e = .returned (.int .i64 (Lib.indexAny s.data.toList chars.data.toList)) ∧ Below w.heap.size w w':=Any.strings_IndexAny_laid Tryz.lays153 (by kernel_rfl) s chars w hs hcs has hac
def Tryz.lays99_ren:Go.Shelf.Ren:=⟨fun | 99 => 39 | 206 => 62 | n => n,fun | 9 => 9 | 4 => 4 | 3 => 3 | n => n,fun | n => n⟩
theorem Tryz.lays99:Go.Proofs.Lays.n99 Tryz.prog Tryz.lays99_ren:={
  mixed:=by kernel_rfl
  f99:=Tryz.func39.trans (congrArg some (by kernel_rfl))
  f206:=Tryz.func62.trans (congrArg some (by kernel_rfl))
  t3:=Tryz.underlying3
  a3:=Tryz.isAgg3
  z3:=Tryz.sizeOf3
  v3:=Tryz.zeroValue3
  t4:=Tryz.underlying4
  a4:=Tryz.isAgg4
  z4:=Tryz.sizeOf4
  v4:=Tryz.zeroValue4
  t9:=Tryz.underlying9
  a9:=Tryz.isAgg9
  z9:=Tryz.sizeOf9
  v9:=Tryz.zeroValue9 }
open Go.RowKit Go.Lib in
theorem Tryz.strings_HasPrefix (s p:ByteArray) (w:World) :
    Calls Tryz.prog 39 #[.string s,.string p] w fun e w' => e = .returned (.bool (Lib.hasPrefix s.data.toList p.data.toList)) ∧ w' = w:=Any.strings_HasPrefix Tryz.lays99 s p w
def Tryz.laysC174_ren:Go.Shelf.Ren:=⟨fun | 174 => 19 | 247 => 37 | 245 => 38 | 287 => 57 | 279 => 58 | 280 => 59 | 281 => 60 | 282 => 61 | 321 => 89 | 322 => 90 | 316 => 91 | 171 => 93 | 205 => 92 | 243 => 118 | 246 => 56 | 283 => 85 | 284 => 86 | 285 => 87 | 286 => 88 | 129 => 114 | 317 => 113 | 318 => 115 | 319 => 116 | 320 => 117 | 337 => 142 | 338 => 143 | n => n,fun | 9 => 9 | 3 => 3 | 2 => 2 | 75 => 53 | 85 => 54 | 4 => 4 | 167 => 96 | 5 => 5 | 53 => 31 | 175 => 97 | 46 => 99 | 168 => 100 | 37 => 45 | 0 => 0 | 210 => 137 | 21 => 21 | 127 => 153 | 145 => 164 | 143 => 162 | 171 => 129 | 173 => 132 | 212 => 159 | 51 => 114 | 20 => 20 | 213 => 160 | 232 => 174 | 233 => 224 | 80 => 124 | n => n,fun | 15 => 1 | 16 => 2 | 17 => 3 | 18 => 10 | 19 => 11 | n => n⟩
theorem Tryz.laysC174:Go.Proofs.LaysC.n174 Tryz.prog Tryz.laysC174_ren:={
  mixed:=by kernel_rfl
  f129:=Tryz.func114.trans (congrArg some (by kernel_rfl))
  f171:=Tryz.func93.trans (congrArg some (by kernel_rfl))
  f174:=Tryz.func19.trans (congrArg some (by kernel_rfl))
  f205:=Tryz.func92.trans (congrArg some (by kernel_rfl))
  f243:=Tryz.func118.trans (congrArg some (by kernel_rfl))
  f245:=Tryz.func38.trans (congrArg some (by kernel_rfl))
  f246:=Tryz.func56.trans (congrArg some (by kernel_rfl))
  f247:=Tryz.func37.trans (congrArg some (by kernel_rfl))
  f279:=Tryz.func58.trans (congrArg some (by kernel_rfl))
  f280:=Tryz.func59.trans (congrArg some (by kernel_rfl))
  f281:=Tryz.func60.trans (congrArg some (by kernel_rfl))
  f282:=Tryz.func61.trans (congrArg some (by kernel_rfl))
  f283:=Tryz.func85.trans (congrArg some (by kernel_rfl))
  f284:=Tryz.func86.trans (congrArg some (by kernel_rfl))
  f285:=Tryz.func87.trans (congrArg some (by kernel_rfl))
  f286:=Tryz.func88.trans (congrArg some (by kernel_rfl))
  f287:=Tryz.func57.trans (congrArg some (by kernel_rfl))
  f316:=Tryz.func91.trans (congrArg some (by kernel_rfl))
  f317:=Tryz.func113.trans (congrArg some (by kernel_rfl))
  f318:=Tryz.func115.trans (congrArg some (by kernel_rfl))
  f319:=Tryz.func116.trans (congrArg some (by kernel_rfl))
  f320:=Tryz.func117.trans (congrArg some (by kernel_rfl))
  f321:=Tryz.func89.trans (congrArg some (by kernel_rfl))
  f322:=Tryz.func90.trans (congrArg some (by kernel_rfl))
  f337:=Tryz.func142.trans (congrArg some (by kernel_rfl))
  f338:=Tryz.func143.trans (congrArg some (by kernel_rfl))
  t0:=Tryz.underlying0
  a0:=Tryz.isAgg0
  z0:=Tryz.sizeOf0
  v0:=Tryz.zeroValue0
  t2:=Tryz.underlying2
  a2:=Tryz.isAgg2
  z2:=Tryz.sizeOf2
  v2:=Tryz.zeroValue2
  t3:=Tryz.underlying3
  a3:=Tryz.isAgg3
  z3:=Tryz.sizeOf3
  v3:=Tryz.zeroValue3
  t4:=Tryz.underlying4
  a4:=Tryz.isAgg4
  z4:=Tryz.sizeOf4
  v4:=Tryz.zeroValue4
  t5:=Tryz.underlying5
  a5:=Tryz.isAgg5
  z5:=Tryz.sizeOf5
  v5:=Tryz.zeroValue5
  t9:=Tryz.underlying9
  a9:=Tryz.isAgg9
  z9:=Tryz.sizeOf9
  v9:=Tryz.zeroValue9
  t20:=Tryz.underlying20
  a20:=Tryz.isAgg20
  z20:=Tryz.sizeOf20
  v20:=Tryz.zeroValue20
  t21:=Tryz.underlying21
  a21:=Tryz.isAgg21
  z21:=Tryz.sizeOf21
  v21:=Tryz.zeroValue21
  t37:=Tryz.underlying45
  a37:=Tryz.isAgg45
  z37:=Tryz.sizeOf45
  v37:=Tryz.zeroValue45
  t46:=Tryz.underlying99
  a46:=Tryz.isAgg99
  z46:=Tryz.sizeOf99
  v46:=Tryz.zeroValue99
  t51:=Tryz.underlying114
  a51:=Tryz.isAgg114
  z51:=Tryz.sizeOf114
  v51:=Tryz.zeroValue114
  t53:=Tryz.underlying31
  a53:=Tryz.isAgg31
  z53:=Tryz.sizeOf31
  v53:=Tryz.zeroValue31
  t75:=Tryz.underlying53
  a75:=Tryz.isAgg53
  z75:=Tryz.sizeOf53
  v75:=Tryz.zeroValue53
  t85:=Tryz.underlying54
  a85:=Tryz.isAgg54
  z85:=Tryz.sizeOf54
  v85:=Tryz.zeroValue54
  t127:=Tryz.underlying153
  a127:=Tryz.isAgg153
  z127:=Tryz.sizeOf153
  v127:=Tryz.zeroValue153
  t143:=Tryz.underlying162
  a143:=Tryz.isAgg162
  z143:=Tryz.sizeOf162
  v143:=Tryz.zeroValue162
  t145:=Tryz.underlying164
  a145:=Tryz.isAgg164
  z145:=Tryz.sizeOf164
  v145:=Tryz.zeroValue164
  t167:=Tryz.underlying96
  a167:=Tryz.isAgg96
  z167:=Tryz.sizeOf96
  v167:=Tryz.zeroValue96
  t168:=Tryz.underlying100
  a168:=Tryz.isAgg100
  z168:=Tryz.sizeOf100
  v168:=Tryz.zeroValue100
  t171:=Tryz.underlying129
  a171:=Tryz.isAgg129
  z171:=Tryz.sizeOf129
  v171:=Tryz.zeroValue129
  t173:=Tryz.underlying132
  a173:=Tryz.isAgg132
  z173:=Tryz.sizeOf132
  v173:=Tryz.zeroValue132
  t175:=Tryz.underlying97
  a175:=Tryz.isAgg97
  z175:=Tryz.sizeOf97
  v175:=Tryz.zeroValue97
  t210:=Tryz.underlying137
  a210:=Tryz.isAgg137
  z210:=Tryz.sizeOf137
  v210:=Tryz.zeroValue137
  t212:=Tryz.underlying159
  a212:=Tryz.isAgg159
  z212:=Tryz.sizeOf159
  v212:=Tryz.zeroValue159
  t213:=Tryz.underlying160
  a213:=Tryz.isAgg160
  z213:=Tryz.sizeOf160
  t232:=Tryz.underlying174
  a232:=Tryz.isAgg174
  z232:=Tryz.sizeOf174
  v232:=Tryz.zeroValue174
  t233:=Tryz.underlying224
  a233:=Tryz.isAgg224
  z233:=Tryz.sizeOf224
  v233:=Tryz.zeroValue224
  g15:=by kernel_rfl
  g16:=by kernel_rfl
  g17:=by kernel_rfl
  g18:=by kernel_rfl
  g19:=by kernel_rfl
  t80:=Tryz.underlying124
  a80:=Tryz.isAgg124
  z80:=Tryz.sizeOf124
  v80:=Tryz.zeroValue124
  i0:=by kernel_rfl
  i2:=by kernel_rfl
  i3:=by kernel_rfl
  i4:=by kernel_rfl
  i5:=by kernel_rfl
  i9:=by kernel_rfl
  i20:=by kernel_rfl
  i21:=by kernel_rfl
  i37:=by kernel_rfl
  i46:=by kernel_rfl
  i51:=by kernel_rfl
  i53:=by kernel_rfl
  i75:=by kernel_rfl
  i80:=by kernel_rfl
  i85:=by kernel_rfl
  i127:=by kernel_rfl
  i143:=by kernel_rfl
  i145:=by kernel_rfl
  i167:=by kernel_rfl
  i168:=by kernel_rfl
  i171:=by kernel_rfl
  i173:=by kernel_rfl
  i175:=by kernel_rfl
  i210:=by kernel_rfl
  i212:=by kernel_rfl
  i232:=by kernel_rfl
  i233:=by kernel_rfl
  m15:=by kernel_rfl
  m16:=by kernel_rfl
  m17:=by kernel_rfl
  m18:=by kernel_rfl
  m19:=by kernel_rfl
  c0:=by kernel_rfl
  c2:=by kernel_rfl
  c3:=by kernel_rfl
  c4:=by kernel_rfl
  c5:=by kernel_rfl
  c9:=by kernel_rfl
  c20:=by kernel_rfl
  c21:=by kernel_rfl
  c37:=by kernel_rfl
  c46:=by kernel_rfl
  c51:=by kernel_rfl
  c53:=by kernel_rfl
  c75:=by kernel_rfl
  c80:=by kernel_rfl
  c85:=by kernel_rfl
  c127:=by kernel_rfl
  c143:=by kernel_rfl
  c145:=by kernel_rfl
  c167:=by kernel_rfl
  c168:=by kernel_rfl
  c171:=by kernel_rfl
  c173:=by kernel_rfl
  c175:=by kernel_rfl
  c210:=by kernel_rfl
  c212:=by kernel_rfl
  c213:=by kernel_rfl
  c232:=by kernel_rfl
  c233:=by kernel_rfl }
open Go.RowKit in
theorem Tryz.strconv_ParseInt_10_at64_ok (s:ByteArray) (hmax:s.size ≤ 9223372036854775806) (v:Int) (h:Lib.parseIntB 64 s.data.toList = .ok v) (w:World) :
    Calls Tryz.prog 19 #[.string s,.int .i64 10,.int .i64 64] w fun e w' => e = .returned (.tuple #[.int .i64 v,.nilIface]) ∧ (w' = w ∨ ∃ t,w' = Lib.bytesWorld w 5 t):=Any.strconv_ParseInt_10_at64_ok Tryz.laysC174 s hmax v h w
end Go.Proofs
namespace Go.Proofs
open Go.Shelf
def Tryz.lays161_ren:Go.Shelf.Ren:=⟨fun | 161 => 42 | 231 => 65 | 227 => 66 | 233 => 67 | 235 => 68 | 228 => 96 | 197 => 81 | 151 => 98 | 260 => 110 | 152 => 94 | 137 => 119 | 119 => 120 | 224 => 121 | 225 => 122 | 217 => 123 | 266 => 144 | n => n,fun | 9 => 9 | 4 => 4 | 3 => 3 | 5 => 5 | 117 => 107 | 116 => 106 | 0 => 0 | 124 => 110 | 105 => 122 | 21 => 21 | 119 => 186 | 46 => 99 | 139 => 189 | 138 => 188 | n => n,fun | 3 => 6 | 4 => 7 | n => n⟩
theorem Tryz.lays161:Go.Proofs.Lays.n161 Tryz.prog Tryz.lays161_ren:={
  mixed:=by kernel_rfl
  f119:=Tryz.func120.trans (congrArg some (by kernel_rfl))
  f137:=Tryz.func119.trans (congrArg some (by kernel_rfl))
  f151:=Tryz.func98.trans (congrArg some (by kernel_rfl))
  f152:=Tryz.func94.trans (congrArg some (by kernel_rfl))
  f161:=Tryz.func42.trans (congrArg some (by kernel_rfl))
  f197:=Tryz.func81.trans (congrArg some (by kernel_rfl))
  f217:=Tryz.func123.trans (congrArg some (by kernel_rfl))
  f224:=Tryz.func121.trans (congrArg some (by kernel_rfl))
  f225:=Tryz.func122.trans (congrArg some (by kernel_rfl))
  f227:=Tryz.func66.trans (congrArg some (by kernel_rfl))
  f228:=Tryz.func96.trans (congrArg some (by kernel_rfl))
  f231:=Tryz.func65.trans (congrArg some (by kernel_rfl))
  f233:=Tryz.func67.trans (congrArg some (by kernel_rfl))
  f235:=Tryz.func68.trans (congrArg some (by kernel_rfl))
  f260:=Tryz.func110.trans (congrArg some (by kernel_rfl))
  f266:=Tryz.func144.trans (congrArg some (by kernel_rfl))
  t0:=Tryz.underlying0
  a0:=Tryz.isAgg0
  z0:=Tryz.sizeOf0
  v0:=Tryz.zeroValue0
  t3:=Tryz.underlying3
  a3:=Tryz.isAgg3
  z3:=Tryz.sizeOf3
  v3:=Tryz.zeroValue3
  t4:=Tryz.underlying4
  a4:=Tryz.isAgg4
  z4:=Tryz.sizeOf4
  v4:=Tryz.zeroValue4
  t5:=Tryz.underlying5
  a5:=Tryz.isAgg5
  z5:=Tryz.sizeOf5
  v5:=Tryz.zeroValue5
  t9:=Tryz.underlying9
  a9:=Tryz.isAgg9
  z9:=Tryz.sizeOf9
  v9:=Tryz.zeroValue9
  t21:=Tryz.underlying21
  a21:=Tryz.isAgg21
  z21:=Tryz.sizeOf21
  v21:=Tryz.zeroValue21
  t46:=Tryz.underlying99
  a46:=Tryz.isAgg99
  z46:=Tryz.sizeOf99
  v46:=Tryz.zeroValue99
  t105:=Tryz.underlying122
  a105:=Tryz.isAgg122
  z105:=Tryz.sizeOf122
  v105:=Tryz.zeroValue122
  t116:=Tryz.underlying106
  a116:=Tryz.isAgg106
  z116:=Tryz.sizeOf106
  t117:=Tryz.underlying107
  a117:=Tryz.isAgg107
  z117:=Tryz.sizeOf107
  v117:=Tryz.zeroValue107
  t119:=Tryz.underlying186
  a119:=Tryz.isAgg186
  z119:=Tryz.sizeOf186
  t124:=Tryz.underlying110
  a124:=Tryz.isAgg110
  z124:=Tryz.sizeOf110
  v124:=Tryz.zeroValue110
  t138:=Tryz.underlying188
  a138:=Tryz.isAgg188
  z138:=Tryz.sizeOf188
  v138:=Tryz.zeroValue188
  t139:=Tryz.underlying189
  a139:=Tryz.isAgg189
  z139:=Tryz.sizeOf189
  v139:=Tryz.zeroValue189
  g3:=by kernel_rfl
  g4:=by kernel_rfl }
open Go.RowKit in
theorem Tryz.strings_TrimLeft_one (s:ByteArray) (c:UInt8) (hc:c.toNat < 128) (w:World) :
    Calls Tryz.prog 42 #[.string s,.string ⟨#[c]⟩] w fun e w' => e = .returned (.string ⟨(Lib.trimLeftB s.data.toList c).toArray⟩) ∧ w' = w:=Any.strings_TrimLeft_one Tryz.lays161 s c hc w
open Go.RowKit Go.Lib in
theorem Tryz.strings_TrimLeft_laid (s cutset:ByteArray) (w:World) (hcs:cutset.size < 4294967281) (hascii:∀ (j:Nat) b,cutset.data.toList[j]? = some b → b.toNat < 128) :
    Calls Tryz.prog 42 #[.string s,.string cutset] w fun e w' => e = .returned (.string ⟨(Lib.trimLeftS s.data.toList cutset.data.toList).toArray⟩) ∧ Below w.heap.size w w':=Any.strings_TrimLeft_laid Tryz.lays161 (by kernel_rfl) s cutset w hcs hascii
end Go.Proofs
namespace Go.Proofs.YtjlaoeigfokkiaaGreatDoor.fto
open Go.ChangeShapes Go.WideShapes Go.ChangeAt Go.RowKit
open mem Go.Sort
open ints (hide unhide)
set_option linter.unusedVariables false
theorem u8s_mem {c:UInt8} {l:List Int} (hl:Bt l) (h:c ∈ u8s l):(c.toNat:Int) ∈ l:=by
 obtain ⟨z,hz,e⟩:=List.mem_map.1 h
 have:=hl z hz
 have e2:(UInt8.ofNat z.toNat).toNat = z.toNat:=UInt8.toNat_ofNat_of_lt' (by show _ < 256;omega)
 rw [← e,e2]
 rw [show ((z.toNat:Nat):Int) = z by omega]
 exact hz
theorem ia_no:∀ l:List UInt8,(101:UInt8) ∉ l → (69:UInt8) ∉ l → Lib.indexAny l [101,69] = -1
 | [],_,_ => rfl
 | b :: l,h1,h2 => by
  have b1:¬ (101:UInt8) = b:=fun e => h1 (by simp [e])
  have b2:¬ (69:UInt8) = b:=fun e => h2 (by simp [e])
  have ih:=ia_no l (fun e => h1 (List.mem_cons_of_mem _ e)) (fun e => h2 (List.mem_cons_of_mem _ e))
  unfold Lib.indexAny
  rw [if_neg,ih]
  ·simp
  ·simp
   exact ⟨fun e => b1 e.symm,fun e => b2 e.symm⟩
theorem ia_at (r:List UInt8):∀ l:List UInt8,(101:UInt8) ∉ l → (69:UInt8) ∉ l → Lib.indexAny (l ++ 101 :: r) [101,69] = l.length
 | [],_,_ => by simp [Lib.indexAny]
 | b :: l,h1,h2 => by
  have b1:¬ (101:UInt8) = b:=fun e => h1 (by simp [e])
  have b2:¬ (69:UInt8) = b:=fun e => h2 (by simp [e])
  have ih:=ia_at r l (fun e => h1 (List.mem_cons_of_mem _ e)) (fun e => h2 (List.mem_cons_of_mem _ e))
  rw [List.cons_append]
  unfold Lib.indexAny
  rw [if_neg,ih]
  ·rw [if_neg]
   ·simp
   ·simp
  ·simp
   exact ⟨fun e => b1 e.symm,fun e => b2 e.symm⟩
def NoE (l:List Int):Prop:=Bt l ∧ (101:Int) ∉ l ∧ (69:Int) ∉ l
theorem NoE.u8 {l:List Int} (h:NoE l):(101:UInt8) ∉ u8s l ∧ (69:UInt8) ∉ u8s l:=
 ⟨fun e => h.2.1 (by simpa using u8s_mem h.1 e),fun e => h.2.2 (by simpa using u8s_mem h.1 e)⟩
theorem ascii_u8s {l:List Int} (h:∀ z ∈ l,0 ≤ z ∧ z < 128):∀ (j:Nat) b,(u8s l)[j]? = some b → b.toNat < 128:=by
 intro j b hb
 have hm:=List.mem_of_getElem? hb
 obtain ⟨z,hz,e⟩:=List.mem_map.1 hm
 have:=h z hz
 have e2:(UInt8.ofNat z.toNat).toNat = z.toNat:=UInt8.toNat_ofNat_of_lt' (by show _ < 256;omega)
 rw [← e,e2]
 omega
theorem ext_left (A B:List Int):(strOfNums (A ++ B)).extract 0 A.length = strOfNums A:=by
 apply ByteArray.ext
 rw [ByteArray.data_extract]
 show ((u8s (A ++ B)).toArray.extract 0 A.length) = (u8s A).toArray
 rw [u8s_app]
 have:A.length = (u8s A).length:=by simp [u8s]
 rw [this]
 simp
theorem ext_right (A B:List Int) {k n:Nat} (hk:k = A.length) (hn:n = (A ++ B).length):(strOfNums (A ++ B)).extract k n = strOfNums B:=by
 apply ByteArray.ext
 rw [ByteArray.data_extract]
 show ((u8s (A ++ B)).toArray.extract k n) = (u8s B).toArray
 have h1:(u8s A).length = A.length:=by simp [u8s]
 have h2:(u8s (A ++ B)).length = n:=by rw [hn];simp [u8s]
 rw [u8s_app] at *
 rw [List.extract_toArray,← h2,hk,← h1]
 simp [List.extract]
theorem cutE_no (M:List Int) (w:World) (hM:NoE M) (ha:∀ z ∈ M,0 ≤ z ∧ z < 128) (hl:M.length ≤ 1100000) :
  Calls Tryz.prog 40 #[.string (strOfNums M)] w fun e w' => e = .returned (.tuple #[.string (strOfNums M),.int .i64 0]) ∧ Below w.heap.size w w':=by
 have IA:=Tryz.strings_IndexAny_laid (strOfNums M) ⟨#[101,69]⟩ w (by rw [str_size];omega) (by decide) (ascii_u8s ha) (ascii_of_all (by decide))
 have e:Lib.indexAny (strOfNums M).data.toList (⟨#[101,69]⟩:ByteArray).data.toList = -1:=ia_no (u8s M) hM.u8.1 hM.u8.2
 rw [e] at IA
 have HI:=hide IA
 clear IA e
 go_enter Tryz.func40,Tryz.ntmps40
 go_wp2_with fail
 refine (unhide HI).mono ?_
 rintro e w1 ⟨rfl,b1⟩
 have HB:=hide b1
 clear b1
 go_wp2
 go_ret2
 exact ⟨rfl,unhide HB⟩
theorem trimS_sg (g:Bool) (X:List Int) (hX:Dg X):Lib.trimLeftS (u8s (sgL g ++ X)) [43,45] = u8s X:=by
 have hh:∀ X:List Int,Dg X → (u8s X).dropWhile (fun b => [(43:UInt8),45].contains b) = u8s X:=by
  intro X hX
  cases X with
  | nil => rfl
  | cons x X =>
   have:=hX x (by simp)
   have e2:(UInt8.ofNat x.toNat).toNat = x.toNat:=UInt8.toNat_ofNat_of_lt' (by show _ < 256;omega)
   have n1:¬ UInt8.ofNat x.toNat = 43:=fun e => by rw [e] at e2;have:(43:UInt8).toNat = 43:=rfl;omega
   have n2:¬ UInt8.ofNat x.toNat = 45:=fun e => by rw [e] at e2;have:(45:UInt8).toNat = 45:=rfl;omega
   show List.dropWhile _ (UInt8.ofNat x.toNat :: u8s X) = UInt8.ofNat x.toNat :: u8s X
   rw [List.dropWhile_cons,if_neg]
   simp [n1,n2]
 unfold Lib.trimLeftS
 rw [u8s_app]
 cases g
 ·exact hh X hX
 ·show List.dropWhile _ ((45:UInt8) :: u8s X) = _
  rw [List.dropWhile_cons,if_pos (by decide)]
  exact hh X hX
set_option maxHeartbeats 1100000 in
set_option maxRecDepth 100000 in
theorem cutE_at (M X:List Int) (g:Bool) (w:World) (hM:NoE M) (ha:∀ z ∈ M,0 ≤ z ∧ z < 128) (hl:M.length ≤ 1100000) (hX:Dg X) (hX0:X ≠ []) (hXl:X.length ≤ 10) :
  Calls Tryz.prog 40 #[.string (strOfNums (M ++ 101 :: (sgL g ++ X)))] w fun e w' => e = .returned (.tuple #[.string (strOfNums M),.int .i64 (if g then -(dv X:Int) else (dv X:Int))]) ∧ Below w.heap.size w w':=by
 obtain ⟨s,hs⟩:∃ s,s = strOfNums (M ++ 101 :: (sgL g ++ X)):=⟨_,rfl⟩
 rw [← hs]
 obtain ⟨tx,htx⟩:∃ s,s = strOfNums (sgL g ++ X):=⟨_,rfl⟩
 obtain ⟨xs,hxs⟩:∃ s,s = strOfNums X:=⟨_,rfl⟩
 have hsz:s.size = M.length + 1 + (sgL g ++ X).length:=by rw [hs,str_size];simp;omega
 have hgl:(sgL g).length ≤ 1:=by cases g <;> simp [sgL]
 have hXp:0 < X.length:=List.length_pos_iff.2 hX0
 have hasc:∀ z ∈ M ++ 101 :: (sgL g ++ X),0 ≤ z ∧ z < 128:=fun z hz => by
  rcases List.mem_append.1 hz with h | h
  ·exact ha z h
  ·rcases List.mem_cons.1 h with h | h
   ·omega
   ·rcases List.mem_append.1 h with h | h
    ·cases g <;> simp [sgL] at h <;> omega
    ·have:=hX z h;omega
 have hasc2:∀ (j:Nat) b,s.data.toList[j]? = some b → b.toNat < 128:=by
  intro j b hb
  rw [hs] at hb
  exact ascii_u8s hasc j b hb
 have IA:=Tryz.strings_IndexAny_laid s ⟨#[101,69]⟩ w (by rw [hsz,List.length_append];omega) (by decide) hasc2 (ascii_of_all (by decide))
 clear hasc hasc2
 have e:Lib.indexAny s.data.toList (⟨#[101,69]⟩:ByteArray).data.toList = M.length:=by
  have:=ia_at (u8s (sgL g ++ X)) (u8s M) hM.u8.1 hM.u8.2
  rw [show (u8s M).length = M.length by simp [u8s]] at this
  rw [← this,hs]
  show Lib.indexAny (u8s (M ++ 101 :: (sgL g ++ X))) _ = _
  rw [u8s_app]
  rfl
 rw [e] at IA
 have TL:=fun W => Tryz.strings_TrimLeft_laid tx ⟨#[43,45]⟩ W (by decide) (ascii_of_all (by decide))
 have e2:(⟨(Lib.trimLeftS tx.data.toList (⟨#[43,45]⟩:ByteArray).data.toList).toArray⟩:ByteArray) = xs:=by
  rw [htx,hxs]
  show (⟨(Lib.trimLeftS (u8s (sgL g ++ X)) [43,45]).toArray⟩:ByteArray) = _
  rw [trimS_sg g X hX]
  rfl
 simp only [e2] at TL
 have HI:=hide IA
 have HT:=hide TL
 clear IA TL e e2
 obtain ⟨mk,hmk⟩:∃ mk:Nat,mk = M.length:=⟨_,rfl⟩
 rw [← hmk] at HI hsz hl
 have m1:¬ (mk:Int) < 0:=by omega
 have hxx:s.extract (mk + 1) s.size = tx:=by
  rw [hs,htx,hmk,show M ++ 101 :: (sgL g ++ X) = (M ++ [101]) ++ (sgL g ++ X) by simp,str_size]
  exact ext_right (M ++ [101]) (sgL g ++ X) (by simp) (by simp)
 have hmm:s.extract 0 mk = strOfNums M:=by
  rw [hs,hmk]
  exact ext_left M _
 have htz:tx.size = (sgL g ++ X).length:=by rw [htx,str_size]
 have htp:0 < tx.size:=by rw [htz,List.length_append];omega
 have ht0:bz tx 0 = if g then 45 else X.getD 0 0:=by
  rw [htx,bz_str _ ((sg_bt g).app hX.bt)]
  cases g <;> simp [sgL]
 obtain ⟨ms,hms⟩:∃ ms,ms = strOfNums M:=⟨_,rfl⟩
 rw [← hms] at hmm ⊢
 have hzi:(s.size:Int) = (mk:Int) + 1 + tx.size:=by rw [htz];omega
 have hsl:mk + 1 ≤ s.size:=by omega
 have hxz:xs.size = X.length:=by rw [hxs,str_size]
 have hxa:∀ j (hj:j < xs.size),((xs[j]'hj).toNat:Int) = X.getD j 0:=fun j hj => by
  rw [← bz_at]
  subst hxs
  exact bz_str X hX.bt j
 rw [bz_at tx 0 htp] at ht0
 clear hs htx hxs hmk hms hsz
 have HX:=hide hxa
 have HD:=hide hX
 clear hxa hX ha hM
 go_enter Tryz.func40,Tryz.ntmps40
 go_wp2_with fail
 refine (unhide HI).mono ?_
 rintro e w1 ⟨rfl,b1⟩
 have HB:=hide b1
 clear b1 HI
 go_wp2_with fail
 refine (unhide HT _).mono ?_
 rintro e w2 ⟨rfl,b2⟩
 have HB2:=hide ((unhide HB).trans (b2.mono (unhide HB).size))
 clear b2 HB HT
 go_wp2
 go_loopw [6,8] (fun n _ wr => ∃ pos:Nat,pos ≤ X.length ∧ wr = w2.iter xs pos ∧ n = .int .i64 (dv (X.take pos):Nat)) (fun _ _ wr => X.length - wr.iterPos w2.heap.size)
 case atStart => exact ⟨0,by omega,rfl,rfl⟩
 case round =>
  obtain ⟨pos,hpl,rfl,rfl⟩:=hrel
  by_cases hp:pos < X.length
  ·have hp':pos < xs.size:=by omega
   have hx1:=unhide HX pos hp'
   have hx2:=dg_getD (unhide HD) hp
   have hx3:=dv_lt (X.take pos) (fun z hz => unhide HD z (List.mem_of_mem_take hz))
   have hx4:dv (X.take (pos + 1)) = dv (X.take pos) * 10 + (X.getD pos 0 - 48).toNat:=by
    have et:X.take (pos + 1) = X.take pos ++ [X.getD pos 0]:=by
     rw [List.getD_eq_getElem?_getD,List.getElem?_eq_getElem hp,Option.getD_some,List.take_succ_eq_append_getElem hp]
    rw [et,dv_app,dv_cons]
    simp [dv]
   have hx5:dv (X.take pos) < 10000000000:=by
    have a1:10 ^ (X.take pos).length ≤ 10 ^ 10:=Nat.pow_le_pow_right (by decide) (by rw [List.length_take];omega)
    exact Nat.lt_of_lt_of_le hx3 (Nat.le_trans a1 (by decide))
   have hnx:∀ ty,(Instr.next (.pointer (some ⟨w2.heap.size,0,none⟩)) true ty).run Tryz.prog (w2.iter xs pos) = .ok (.tuple #[.bool true,.int .i64 pos,.int .i32 (X.getD pos 0)]) (w2.iter xs (pos + 1)):=fun ty => by
    have:=run_next_ascii (P:=Tryz.prog) w2 xs pos ty hp' (by omega)
    rw [hx1] at this
    exact this
   have HQ:=hide hx4
   clear hx1 hx3 hx4
   generalize X.getD pos 0 = c at *
   generalize dv (X.take pos) = v at *
   have hmn:min ((v:Int) * 10 + (c - 48)) 1099511627776 = (v:Int) * 10 + (c - 48):=by omega
   go_wp2
   go_roundw
   case rel => exact ⟨pos + 1,by omega,rfl,by rw [unhide HQ];go_num⟩
   case measure => simp;omega
  ·have e:pos = X.length:=by omega
   subst e
   rw [List.take_length]
   have hnx:∀ ty,(Instr.next (.pointer (some ⟨w2.heap.size,0,none⟩)) true ty).run Tryz.prog (w2.iter xs X.length) = .ok (.tuple #[.bool false]) (w2.iter xs X.length):=fun ty => run_next_end (P:=Tryz.prog) w2 xs X.length ty (by omega)
   have hvb:dv X < 10000000000:=by
    have a1:10 ^ X.length ≤ 10 ^ 10:=Nat.pow_le_pow_right (by decide) (by omega)
    exact Nat.lt_of_lt_of_le (dv_lt X (unhide HD)) (Nat.le_trans a1 (by decide))
   cases g
   ·have h0:48 ≤ ((tx[0]'htp).toNat:Int):=by rw [ht0];exact (dg_getD (unhide HD) hXp).1
    have h1:(((tx[0]'htp).toNat:Int) == 45) = false:=by rw [beq_eq_false_iff_ne];omega
    clear ht0
    go_wp2
    go_ret2
    exact ⟨rfl,(unhide HB2).alloc (unhide HB2).size _⟩
   ·have h1:(((tx[0]'htp).toNat:Int) == 45) = true:=by rw [ht0];rfl
    clear ht0
    go_wp2
    go_ret2
    exact ⟨rfl,(unhide HB2).alloc (unhide HB2).size _⟩
end Go.Proofs.YtjlaoeigfokkiaaGreatDoor.fto
