import Derived.Test.YtjlaoeigfokkiaaGreatDoorBr36
import Derived.Test.YtjlaoeigfokkiaaGreatDoorBr24
import Derived.OneCell
import Derived.Lib.ParseIntB
import Derived.Test.YtjlaoeigfokkiaaGreatDoorBr13
import Derived.Test.YtjlaoeigfokkiaaGreatDoorBr29
import Derived.Test.YtjlaoeigfokkiaaGreatDoorBr26
import GoSem.Op.String
namespace Go.Proofs.YtjlaoeigfokkiaaGreatDoor.fto
open Go.ChangeShapes Go.WideShapes Go.ChangeAt Go.RowKit
open mem
open ints (hide unhide)
set_option linter.unusedVariables false
set_option linter.unusedSimpArgs false
theorem round_alike {P B P' B' lo lo':Nat} (hB:0 < B) (hB':0 < B') (h:Lo P B lo) (h':Lo P' B' lo')
  (hlt:∀ r,B * midR r < 2 * P ↔ B' * midR r < 2 * P') (heq:∀ r,B * midR r = 2 * P ↔ B' * midR r = 2 * P'):roundR P B lo = roundR P' B' lo':=by
 have key:∀ a,InR P B a ↔ InR P' B' a:=by
  intro a
  have g1:=hlt (a - 1)
  have g2:=heq (a - 1)
  have g3:=hlt a
  have g4:=heq a
  unfold InR
  constructor
  ·rintro ⟨h1,h2⟩
   refine ⟨?_,?_⟩
   ·rcases h1 with c | ⟨c,e⟩
    ·exact Or.inl (g1.1 c)
    ·exact Or.inr ⟨g2.1 c,e⟩
   ·rcases h2 with c | ⟨c,e⟩
    ·left
     rcases Nat.lt_trichotomy (2 * P') (B' * midR a) with q | q | q
     ·exact q
     ·have:=g4.2 q.symm;omega
     ·have:=g3.2 q;omega
    ·exact Or.inr ⟨(g4.1 c.symm).symm,e⟩
  ·rintro ⟨h1,h2⟩
   refine ⟨?_,?_⟩
   ·rcases h1 with c | ⟨c,e⟩
    ·exact Or.inl (g1.2 c)
    ·exact Or.inr ⟨g2.2 c,e⟩
   ·rcases h2 with c | ⟨c,e⟩
    ·left
     rcases Nat.lt_trichotomy (2 * P) (B * midR a) with q | q | q
     ·exact q
     ·have:=g4.1 q.symm;omega
     ·have:=g3.1 q;omega
    ·exact Or.inr ⟨(g4.2 c.symm).symm,e⟩
 rcases Nat.eq_zero_or_pos (roundR P B lo) with z | z
 ·rcases Nat.eq_zero_or_pos (roundR P' B' lo') with z' | z'
  ·rw [z,z']
  ·have i1:=(key _).2 ((round_iff hB' z' h').1 rfl)
   have i2:=(round_iff hB z' h).2 i1
   omega
 ·have i1:=(key _).1 ((round_iff hB z h).1 rfl)
  have i2:=(round_iff hB' z h').2 i1
  omega
theorem round_eqv {P B P' B' lo lo':Nat} (hB:0 < B) (hB':0 < B') (h:Lo P B lo) (h':Lo P' B' lo') (e:P * B' = P' * B):roundR P B lo = roundR P' B' lo':=
 Nat.le_antisymm (dcm.round_mono hB hB' h h' (by omega)) (dcm.round_mono hB' hB h' h (by omega))
def n75:Nat:=1075
def n76:Nat:=768
def n79:Nat:=799
theorem n75_eq:n75 = 1075:=rfl
theorem n76_eq:n76 = 768:=rfl
theorem n79_eq:n79 = 799:=rfl
def t75:Nat:=2 ^ n75
theorem k74_t75:2 * k74 = t75:=by
 have h22:=e22_eq
 unfold t75 k74
 rw [show n75 = (52 + e22) + 1 by have:=n75_eq;omega,Nat.pow_succ,Nat.mul_comm]
theorem pow_76:2 ^ 54 * 5 ^ n75 ≤ 10 ^ n76:=by decide +kernel
theorem mid_form (r:Nat):∃ K E:Nat,(E = 0 ∨ K < 10 ^ n76) ∧ ∀ A D:Nat,(A * midR r < 2 * (D * k74) ↔ A * K < D * 10 ^ E) ∧ (A * midR r = 2 * (D * k74) ↔ A * K = D * 10 ^ E):=by
 obtain ⟨M,hM⟩:∃ M,M = 2 * mantR r + 1:=⟨_,rfl⟩
 obtain ⟨X,hX⟩:∃ X,X = exR r:=⟨_,rfl⟩
 have hml:=mantR_lt r
 have hmid:midR r = M * 2 ^ X:=by
  unfold midR vR
  rw [hM,hX,Nat.add_mul,Nat.one_mul,Nat.mul_assoc]
 have hD:∀ D,2 * (D * k74) = D * t75:=fun D => by rw [Nat.mul_left_comm,k74_t75]
 have h2X:0 < 2 ^ X:=Nat.two_pow_pos _
 rcases Nat.lt_or_ge X n75 with h | h
 ·obtain ⟨E,hE⟩:∃ E,n75 = X + E:=⟨n75 - X,by omega⟩
  have h5:0 < 5 ^ E:=Nat.pow_pos (by decide)
  refine ⟨M * 5 ^ E,E,Or.inr ?_,fun A D => ?_⟩
  ·have h1:M * 5 ^ E < 2 ^ 54 * 5 ^ E:=Nat.mul_lt_mul_of_pos_right (by omega) h5
   have h2:2 ^ 54 * 5 ^ E ≤ 2 ^ 54 * 5 ^ n75:=Nat.mul_le_mul_left _ (Nat.pow_le_pow_right (by decide) (by omega))
   exact Nat.lt_of_lt_of_le h1 (Nat.le_trans h2 pow_76)
  ·have e1:A * (M * 5 ^ E) * 2 ^ X = A * (M * 2 ^ X) * 5 ^ E:=by generalize 5 ^ E = a;generalize 2 ^ X = b;ac_rfl
   have e2:D * 10 ^ E * 2 ^ X = D * t75 * 5 ^ E:=by
    unfold t75
    rw [hE,Nat.pow_add,show (10:Nat) ^ E = 2 ^ E * 5 ^ E by rw [← Nat.mul_pow]]
    generalize 5 ^ E = a;generalize 2 ^ X = b;generalize 2 ^ E = c;ac_rfl
   rw [hmid,hD]
   constructor
   ·have q1:A * (M * 5 ^ E) * 2 ^ X < D * 10 ^ E * 2 ^ X ↔ A * (M * 5 ^ E) < D * 10 ^ E:=Nat.mul_lt_mul_right h2X
    rw [e1,e2] at q1
    have q2:A * (M * 2 ^ X) * 5 ^ E < D * t75 * 5 ^ E ↔ A * (M * 2 ^ X) < D * t75:=Nat.mul_lt_mul_right h5
    exact q2.symm.trans q1
   ·constructor
    ·intro h
     refine Nat.eq_of_mul_eq_mul_right h2X ?_
     rw [e1,e2,h]
    ·intro h
     refine Nat.eq_of_mul_eq_mul_right h5 ?_
     rw [← e1,← e2,h]
 ·obtain ⟨Y,hY⟩:∃ Y,X = n75 + Y:=⟨X - n75,by omega⟩
  have ht:0 < t75:=Nat.two_pow_pos _
  refine ⟨M * 2 ^ Y,0,Or.inl rfl,fun A D => ?_⟩
  have e1:A * (M * 2 ^ X) = A * (M * 2 ^ Y) * t75:=by
   unfold t75
   rw [hY,Nat.pow_add]
   generalize 2 ^ n75 = a;generalize 2 ^ Y = b;ac_rfl
  rw [hmid,hD,e1,Nat.pow_zero,Nat.mul_one]
  exact ⟨Nat.mul_lt_mul_right ht,⟨fun h => Nat.eq_of_mul_eq_mul_right ht h,fun h => by rw [h]⟩⟩
theorem cut_cmp {T r j n K E:Nat} (hr0:0 < r) (hr:r < 10 ^ j) (hT:10 ^ n79 ≤ T) (hK:E = 0 ∨ K < 10 ^ n76) :
  (10 ^ (j + n) * K < (T * 10 ^ j + r) * 10 ^ E ↔ 10 ^ (n + 1) * K < (10 * T + 1) * 10 ^ E) ∧ (10 ^ (j + n) * K = (T * 10 ^ j + r) * 10 ^ E ↔ 10 ^ (n + 1) * K = (10 * T + 1) * 10 ^ E):=by
 have n9:=n79_eq
 have n6:=n76_eq
 rcases Nat.lt_or_ge n E with h | h
 ·have hK':K < 10 ^ n76:=by rcases hK with g | g;omega;exact g
  have l1:10 ^ (j + n) * K < (T * 10 ^ j + r) * 10 ^ E:=by
   have a1:10 ^ (j + n) * K < 10 ^ (j + n) * 10 ^ n76:=Nat.mul_lt_mul_of_pos_left hK' (Nat.pow_pos (by decide))
   have a2:10 ^ (j + n) * 10 ^ n76 ≤ 10 ^ n79 * 10 ^ j * 10 ^ E:=by
    rw [← Nat.pow_add,← Nat.pow_add,← Nat.pow_add]
    exact Nat.pow_le_pow_right (by decide) (by omega)
   have a3:10 ^ n79 * 10 ^ j * 10 ^ E ≤ (T * 10 ^ j + r) * 10 ^ E:=Nat.mul_le_mul_right _ (Nat.le_trans (Nat.mul_le_mul_right _ hT) (Nat.le_add_right _ _))
   exact Nat.lt_of_lt_of_le a1 (Nat.le_trans a2 a3)
  have l2:10 ^ (n + 1) * K < (10 * T + 1) * 10 ^ E:=by
   have a1:10 ^ (n + 1) * K < 10 ^ (n + 1) * 10 ^ n76:=Nat.mul_lt_mul_of_pos_left hK' (Nat.pow_pos (by decide))
   have a2:10 ^ (n + 1) * 10 ^ n76 ≤ 10 ^ n79 * 10 ^ E:=by
    rw [← Nat.pow_add,← Nat.pow_add]
    exact Nat.pow_le_pow_right (by decide) (by omega)
   have a3:10 ^ n79 * 10 ^ E ≤ (10 * T + 1) * 10 ^ E:=Nat.mul_le_mul_right _ (by omega)
   exact Nat.lt_of_lt_of_le a1 (Nat.le_trans a2 a3)
  exact ⟨⟨fun _ => l2,fun _ => l1⟩,⟨fun e => by omega,fun e => by omega⟩⟩
 ·obtain ⟨m,rfl⟩:∃ m,n = E + m:=⟨n - E,by omega⟩
  obtain ⟨c,hc⟩:∃ c,c = 10 ^ m * K:=⟨_,rfl⟩
  have hE:0 < 10 ^ E:=Nat.pow_pos (by decide)
  have e1:10 ^ (j + (E + m)) * K = 10 ^ j * c * 10 ^ E:=by rw [hc,Nat.pow_add,Nat.pow_add];generalize 10 ^ j = x;generalize 10 ^ E = y;generalize 10 ^ m = z;ac_rfl
  have e2:10 ^ (E + m + 1) * K = 10 * c * 10 ^ E:=by rw [hc,Nat.pow_succ,Nat.pow_add];generalize 10 ^ E = y;generalize 10 ^ m = z;ac_rfl
  rw [e1,e2,Nat.mul_lt_mul_right hE,Nat.mul_lt_mul_right hE]
  have k1:10 ^ j * c < T * 10 ^ j + r ↔ c ≤ T:=by
   rw [Nat.mul_comm]
   constructor
   ·intro h
    rcases Nat.lt_or_ge T c with g | g
    ·have:(T + 1) * 10 ^ j ≤ c * 10 ^ j:=Nat.mul_le_mul_right _ g
     rw [Nat.add_mul,Nat.one_mul] at this
     omega
    ·exact g
   ·intro h
    have:c * 10 ^ j ≤ T * 10 ^ j:=Nat.mul_le_mul_right _ h
    omega
  refine ⟨by rw [k1];omega,⟨fun h => ?_,fun h => ?_⟩⟩
  ·exfalso
   have h2:=Nat.eq_of_mul_eq_mul_right hE h
   rw [Nat.mul_comm] at h2
   rcases Nat.lt_or_ge T c with g | g
   ·have:(T + 1) * 10 ^ j ≤ c * 10 ^ j:=Nat.mul_le_mul_right _ g
    rw [Nat.add_mul,Nat.one_mul] at this
    omega
   ·have:c * 10 ^ j ≤ T * 10 ^ j:=Nat.mul_le_mul_right _ g
    omega
  ·exfalso
   have h2:=Nat.eq_of_mul_eq_mul_right hE h
   omega
theorem cut_alike {T r j lo lo':Nat} {g:Int} (hg:g < 0) (hr0:0 < r) (hr:r < 10 ^ j) (hT:10 ^ n79 ≤ T)
  (h:Lo ((T * 10 ^ j + r) * 10 ^ (g - j).toNat * k74) (10 ^ (-(g - j)).toNat) lo) (h':Lo ((10 * T + 1) * 10 ^ (g - 1).toNat * k74) (10 ^ (-(g - 1)).toNat) lo') :
  roundR ((T * 10 ^ j + r) * 10 ^ (g - j).toNat * k74) (10 ^ (-(g - j)).toNat) lo = roundR ((10 * T + 1) * 10 ^ (g - 1).toNat * k74) (10 ^ (-(g - 1)).toNat) lo':=by
 obtain ⟨n,hn⟩:∃ n:Nat,g = -(n:Int):=⟨(-g).toNat,by omega⟩
 have e1:(g - j).toNat = 0:=by omega
 have e2:(g - 1).toNat = 0:=by omega
 have e3:(-(g - j)).toNat = j + n:=by omega
 have e4:(-(g - 1)).toNat = n + 1:=by omega
 rw [e1,e3,Nat.pow_zero,Nat.mul_one] at h ⊢
 rw [e2,e4,Nat.pow_zero,Nat.mul_one] at h' ⊢
 refine round_alike (Nat.pow_pos (by decide)) (Nat.pow_pos (by decide)) h h' (fun x => ?_) (fun x => ?_)
 ·obtain ⟨K,E,hK,hf⟩:=mid_form x
  rw [(hf _ _).1,(hf _ _).1]
  exact (cut_cmp hr0 hr hT hK).1
 ·obtain ⟨K,E,hK,hf⟩:=mid_form x
  rw [(hf _ _).2,(hf _ _).2]
  exact (cut_cmp hr0 hr hT hK).2
end Go.Proofs.YtjlaoeigfokkiaaGreatDoor.fto
namespace Go.Proofs.YtjlaoeigfokkiaaGreatDoor.fto
open Go.ChangeShapes Go.WideShapes Go.ChangeAt Go.RowKit
open mem Go.Sort
open ints (hide unhide)
set_option linter.unusedVariables false
set_option linter.unusedSimpArgs false
theorem or_hi (R:Nat) (h:R < 9223372036854775808):bits .or .u64 (R:Int) 9223372036854775808 = ((R + 9223372036854775808:Nat):Int):=by
 rw [Nat.add_comm]
 exact dcm.or_s R h
set_option maxHeartbeats 1000000 in
set_option maxRecDepth 100000 in
theorem bits_low (s S:ByteArray) (ng:Bool) (x:Int) (w:World) (hx:-4000000000000000000 ≤ x ∧ x ≤ 4000000000000000000) (hS:S.size ≤ 1100000)
  (hc:S = ⟨#[]⟩ ∨ (S.toList.isEmpty = false ∧ x + S.size < -330))
  (CT:Calls Tryz.prog 46 #[.string s] w fun e w' => e = .returned (.tuple #[.bool ng,.string S,.int .i64 x]) ∧ Below w.heap.size w w') :
  Calls Tryz.prog 24 #[.string s] w fun e w' => e = .returned (.tuple #[.int .u64 (ng.toNat * 9223372036854775808 + 0:Nat),.bool true]) ∧ Below w.heap.size w w':=by
 have HC:=hide CT
 have ho:=or_hi 0 (by decide)
 clear CT
 go_enter Tryz.func24,Tryz.ntmps24
 go_wp2_with fail
 refine (unhide HC).mono ?_
 rintro e w1 ⟨rfl,b1⟩
 have B1:=hide b1
 clear b1 HC
 rcases hc with rfl | ⟨h1,h2⟩
 ·cases ng
  ·go_wp2
   go_ret2
   exact ⟨rfl,unhide B1⟩
  ·go_wp2
   go_ret2
   exact ⟨rfl,unhide B1⟩
 ·cases ng
  ·go_wp2
   go_ret2
   exact ⟨rfl,unhide B1⟩
  ·go_wp2
   go_ret2
   exact ⟨rfl,unhide B1⟩
set_option maxHeartbeats 1000000 in
set_option maxRecDepth 100000 in
theorem bits_high (s S:ByteArray) (ng:Bool) (x:Int) (w:World) (hx:-4000000000000000000 ≤ x ∧ x ≤ 4000000000000000000) (hS:S.size ≤ 1100000)
  (h1:S.toList.isEmpty = false) (h2:330 < x + S.size)
  (CT:Calls Tryz.prog 46 #[.string s] w fun e w' => e = .returned (.tuple #[.bool ng,.string S,.int .i64 x]) ∧ Below w.heap.size w w') :
  Calls Tryz.prog 24 #[.string s] w fun e w' => e = .returned (.tuple #[.int .u64 (ng.toNat * 9223372036854775808 + 9218868437227405312:Nat),.bool false]) ∧ Below w.heap.size w w':=by
 have HC:=hide CT
 have ho:=or_hi 9218868437227405312 (by decide)
 have h3:¬ x + S.size < -330:=by omega
 clear CT
 go_enter Tryz.func24,Tryz.ntmps24
 go_wp2_with fail
 refine (unhide HC).mono ?_
 rintro e w1 ⟨rfl,b1⟩
 have B1:=hide b1
 clear b1 HC
 cases ng
 ·go_wp2
  go_ret2
  exact ⟨rfl,unhide B1⟩
 ·go_wp2
  go_ret2
  exact ⟨rfl,unhide B1⟩
set_option maxHeartbeats 1000000 in
set_option maxRecDepth 100000 in
theorem bits_mid (s S:ByteArray) (ng:Bool) (x:Int) (Rb T B:Nat) (w:World) (hx:-4000000000000000000 ≤ x ∧ x ≤ 4000000000000000000) (hS:S.size ≤ 1100000) (hRb:Rb ≤ 9218868437227405312)
  (h1:S.toList.isEmpty = false) (h2:¬ x + S.size < -330) (h3:¬ 330 < x + S.size)
  (CT:Calls Tryz.prog 46 #[.string s] w fun e w' => e = .returned (.tuple #[.bool ng,.string S,.int .i64 x]) ∧ Below w.heap.size w w')
  (DC:∀ W,Calls Tryz.prog 47 #[.string S,.int .i64 x] W fun e w' => ∃ aT nT cT aB nB cB,e = .returned (.agg #[.slice aT nT cT,.slice aB nB cB]) ∧ Big w' aT nT cT T ∧ nT ≤ 20000 ∧ Big w' aB nB cB B ∧ nB ≤ 20000 ∧ Below W.heap.size W w')
  (BT:∀ aT aB nT cT nB cB W,Big W aT nT cT T → Big W aB nB cB B → nT ≤ 20000 → nB ≤ 20000 → Calls Tryz.prog 48 #[.agg #[.slice aT nT cT,.slice aB nB cB]] W fun e w' => e = .returned (.tuple #[.int .u64 (Rb:Nat),.bool (decide (Rb < 9218868437227405312))]) ∧ Below W.heap.size W w') :
  Calls Tryz.prog 24 #[.string s] w fun e w' => e = .returned (.tuple #[.int .u64 (ng.toNat * 9223372036854775808 + Rb:Nat),.bool (decide (Rb < 9218868437227405312))]) ∧ Below w.heap.size w w':=by
 have HC:=hide CT
 have HD:=hide DC
 have HBT:=hide BT
 have ho:=or_hi Rb (by omega)
 obtain ⟨okb,hok⟩:∃ b,b = decide (Rb < 9218868437227405312):=⟨_,rfl⟩
 rw [← hok] at HBT ⊢
 have HRb:=hide hRb
 clear CT DC BT hok hRb
 go_enter Tryz.func24,Tryz.ntmps24
 go_wp2_with fail
 refine (unhide HC).mono ?_
 rintro e w1 ⟨rfl,b1⟩
 have B1:=hide b1
 clear b1 HC
 go_wp2_with fail
 refine (unhide HD w1).mono ?_
 rintro e w2 ⟨aT,nT,cT,aB,nB,cB,rfl,g1,l1,g2,l2,b2⟩
 have H3:=hide (unhide HBT aT aB nT cT nB cB w2 g1 g2 l1 l2)
 have B2:=hide ((unhide B1).trans (b2.mono (unhide B1).size))
 clear b2 g1 g2 l1 l2 HD HBT B1
 go_wp2_with fail
 refine (unhide H3).mono ?_
 rintro e w3 ⟨rfl,b3⟩
 have B3:=hide ((unhide B2).trans (b3.mono (unhide B2).size))
 clear b3 B2 H3
 cases ng
 ·go_wp2
  go_ret2
  exact ⟨by simp,unhide B3⟩
 ·go_wp2
  go_ret2
  exact ⟨by simp;omega,unhide B3⟩
end Go.Proofs.YtjlaoeigfokkiaaGreatDoor.fto
