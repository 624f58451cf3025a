import Derived.Test.YtjlaoeigfokkiaaGreatDoorBr17
namespace Go.Proofs.YtjlaoeigfokkiaaGreatDoor.dcm
set_option linter.unusedVariables false
set_option linter.unusedSimpArgs false
def lsF (F j:Nat):Nat:=F / 10 ^ j % 10
def lsN (M k j:Nat):Nat:=M % 10 ^ j * 2 ^ k / 10 ^ j
theorem lsN_lt (M k j:Nat):lsN M k j < 2 ^ k:=by
 have h1:=Nat.mod_lt M (show 0 < 10 ^ j from Nat.pow_pos (by decide))
 unfold lsN
 rw [Nat.div_lt_iff_lt_mul (Nat.pow_pos (by decide)),Nat.mul_comm (2 ^ k)]
 exact Nat.mul_lt_mul_of_pos_right h1 (Nat.two_pow_pos k)
theorem ls_step (M k j:Nat):(lsN M k j + M / 10 ^ j % 10 * 2 ^ k) / 10 = lsN M k (j + 1) ∧ (lsN M k j + M / 10 ^ j % 10 * 2 ^ k) % 10 = lsF (M * 2 ^ k) j:=by
 have hT:0 < 10 ^ j:=Nat.pow_pos (by decide)
 have e1:M % 10 ^ (j + 1) = M % 10 ^ j + 10 ^ j * (M / 10 ^ j % 10):=Nat.mod_pow_succ
 have eq:lsN M k j + M / 10 ^ j % 10 * 2 ^ k = M % 10 ^ (j + 1) * 2 ^ k / 10 ^ j:=by
  unfold lsN
  rw [e1,Nat.add_mul,Nat.mul_assoc,Nat.add_mul_div_left _ _ hT]
 rw [eq]
 constructor
 ·rw [Nat.div_div_eq_div_mul,← Nat.pow_succ];rfl
 ·unfold lsF
  have e2:=Nat.div_add_mod M (10 ^ (j + 1))
  have e3:M * 2 ^ k = M % 10 ^ (j + 1) * 2 ^ k + 10 ^ j * (M / 10 ^ (j + 1) * 2 ^ k * 10):=by
   have:10 ^ j * (M / 10 ^ (j + 1) * 2 ^ k * 10) = 10 ^ (j + 1) * (M / 10 ^ (j + 1)) * 2 ^ k:=by
    generalize M / 10 ^ (j + 1) = Q
    rw [Nat.pow_succ]
    simp only [Nat.mul_assoc,Nat.mul_left_comm,Nat.mul_comm]
   rw [this,← Nat.add_mul,Nat.add_comm,e2]
  rw [e3,Nat.add_mul_div_left _ _ hT,Nat.add_mul_mod_self_right]
theorem lsN_all {M k n:Nat} (h:M < 10 ^ n):lsN M k n = M * 2 ^ k / 10 ^ n:=by unfold lsN;rw [Nat.mod_eq_of_lt h]
theorem ls_more (F j:Nat):F / 10 ^ j / 10 = F / 10 ^ (j + 1):=by rw [Nat.div_div_eq_div_mul,← Nat.pow_succ]
def lsT (F Z:Nat):Nat → Bool
 | 0 => false
 | j + 1 => lsT F Z j || (decide (800 ≤ Z - 1 - j) && decide (lsF F j ≠ 0))
theorem lsF_zero {F:Nat}:∀ n,(∀ j,j < n → lsF F j = 0) ↔ F % 10 ^ n = 0
 | 0 => by simp [Nat.mod_one]
 | n + 1 => by
  rw [Nat.mod_pow_succ]
  have ih:=lsF_zero (F:=F) n
  have hT:0 < 10 ^ n:=Nat.pow_pos (by decide)
  constructor
  ·intro h
   rw [ih.1 fun j hj => h j (by omega)]
   have:=h n (by omega)
   unfold lsF at this
   rw [this];simp
  ·intro h j hj
   have h1:F % 10 ^ n = 0:=by omega
   have h2:10 ^ n * (F / 10 ^ n % 10) = 0:=by omega
   rcases Nat.lt_or_ge j n with g | g
   ·exact ih.2 h1 j g
   ·have:j = n:=by omega
    subst this
    rcases Nat.mul_eq_zero.1 h2 with h3 | h3
    ·omega
    ·exact h3
theorem lsT_iff {F Z:Nat}:∀ n,lsT F Z n = false ↔ ∀ j,j < n → 800 ≤ Z - 1 - j → lsF F j = 0
 | 0 => by simp [lsT]
 | n + 1 => by
  rw [lsT,Bool.or_eq_false_iff,lsT_iff n]
  constructor
  ·rintro ⟨h1,h2⟩ j hj h8
   rcases Nat.lt_or_ge j n with g | g
   ·exact h1 j g h8
   ·have:j = n:=by omega
    subst this
    simpa [h8] using h2
  ·intro h
   refine ⟨fun j hj h8 => h j (by omega) h8,?_⟩
   by_cases h8:800 ≤ Z - 1 - n
   ·simp [h n (by omega) h8]
   ·simp [h8]
structure LI (s s':Dcs) (F Z j:Nat):Prop where
 lo:∀ m,m < Z → Z ≤ m + j → m < 800 → s'.D m = 48 + lsF F (Z - 1 - m)
 hi:∀ m,m + j < Z → s'.D m = s.D m
 nd:s'.nd = s.nd
 dp:s'.dp = s.dp
 ng:s'.ng = s.ng
 tr:s'.tr = (s.tr || lsT F Z j)
theorem LI.end {s s' s3:Dcs} {k d m:Nat} (hs:Std s) (h:LI s s' (dvN s s.nd * 2 ^ k) (s.nd + d) (s.nd + d)) (hd:d ≤ k)
  (hlo:10 ^ (s.nd + d - 1) ≤ dvN s s.nd * 2 ^ k) (hhi:dvN s s.nd * 2 ^ k < 10 ^ (s.nd + d))
  (ht:Trm s'.D (min (s.nd + d) 800) m) (e3:s3 = { s' with nd:=m,dp:=if m = 0 then 0 else s'.dp + d }):LSh s s3 k:=by
 have hok:=hs.ok
 have hnd:=hs.nd
 have hpos:=hs.pos
 obtain ⟨F,eF⟩:∃ F,F = dvN s s.nd * 2 ^ k:=⟨_,rfl⟩
 obtain ⟨Z,eZ⟩:∃ Z,Z = s.nd + d:=⟨_,rfl⟩
 rw [← eF,← eZ] at h
 rw [← eF,← eZ] at hlo hhi
 rw [← eZ] at ht
 obtain ⟨s2,es2⟩:∃ s2:Dcs,s2 = { s' with nd:=min Z 800 }:=⟨_,rfl⟩
 have w2:∀ j,j ≤ min Z 800 → dvN s2 j = F / 10 ^ (Z - j):=by
  intro j
  induction j with
  | zero => intro _;exact (Nat.div_eq_of_lt hhi).symm
  | succ j ih =>
   intro hj
   show dvN s2 j * 10 + dgN s2 j = _
   rw [ih (by omega)]
   have:dgN s2 j = lsF F (Z - 1 - j):=by
    unfold dgN
    rw [es2]
    show (if j < min Z 800 then s'.D j - 48 else 0) = _
    rw [if_pos (by omega),h.lo j (by omega) (by omega) (by omega)]
    omega
   rw [this,show Z - j = (Z - 1 - j) + 1 by omega,← ls_more,show Z - (j + 1) = Z - 1 - j by omega]
   unfold lsF
   omega
 have eL:dvN s 800 = dvN s s.nd * 10 ^ (800 - s.nd):=by
  have:=dvN_behind (s:=s) (Nat.le_refl _) (800 - s.nd)
  rw [show s.nd + (800 - s.nd) = 800 by omega] at this
  exact this
 have eLF:dvN s 800 * 2 ^ k = F * 10 ^ (800 - s.nd):=by rw [eL,eF,Nat.mul_right_comm]
 have v2:dvN s2 800 = dvN s 800 * 2 ^ k / 10 ^ d:=by
  rw [eLF]
  rcases Nat.lt_or_ge Z 801 with g | g
  ·have e1:=dvN_behind (s:=s2) (k:=Z) (by rw [es2];show min Z 800 ≤ Z;omega) (800 - Z)
   rw [show Z + (800 - Z) = 800 by omega,w2 Z (by omega),Nat.sub_self,Nat.pow_zero,Nat.div_one] at e1
   rw [e1,show 800 - s.nd = (800 - Z) + d by omega,Nat.pow_add,← Nat.mul_assoc,Nat.mul_div_cancel _ (Nat.pow_pos (by decide))]
  ·rw [w2 800 (by omega),show d = (Z - 800) + (800 - s.nd) by omega,Nat.pow_add,Nat.mul_div_mul_right _ _ (Nat.pow_pos (by decide))]
 have r2:lsT F Z Z = decide (dvN s 800 * 2 ^ k % 10 ^ d ≠ 0):=by
  rw [eLF]
  have hiff:lsT F Z Z = false ↔ F * 10 ^ (800 - s.nd) % 10 ^ d = 0:=by
   rw [lsT_iff]
   rcases Nat.lt_or_ge Z 801 with g | g
   ·constructor
    ·intro _
     rw [show 800 - s.nd = (800 - Z) + d by omega,Nat.pow_add,← Nat.mul_assoc,Nat.mul_mod_left]
    ·intro _ j hj h8
     omega
   ·rw [show d = (Z - 800) + (800 - s.nd) by omega,Nat.pow_add,Nat.mul_mod_mul_right]
    constructor
    ·intro hh
     rw [(lsF_zero (Z - 800)).1 fun j hj => hh j (by omega) (by omega),Nat.zero_mul]
    ·intro hh j hj h8
     have:F % 10 ^ (Z - 800) = 0:=by
      rcases Nat.mul_eq_zero.1 hh with q | q
      ·exact q
      ·exact absurd q (Nat.ne_of_gt (Nat.pow_pos (by decide)))
     exact (lsF_zero (Z - 800)).2 this j (by omega)
  cases hc:lsT F Z Z with
  | false => simp [hiff.1 hc]
  | true =>
   have:¬ F * 10 ^ (800 - s.nd) % 10 ^ d = 0:=fun g => by
    have:=hiff.2 g
    rw [hc] at this;cases this
   simp [this]
 have lF:∀ j,lsF F j ≤ 9:=fun j => by unfold lsF;omega
 have ok2:DgOk s2:=fun j hj => by
  rw [es2] at hj ⊢
  have hj':j < min Z 800:=hj
  have:=lF (Z - 1 - j)
  show 48 ≤ s'.D j ∧ s'.D j ≤ 57
  rw [h.lo j (by omega) (by omega) (by omega)]
  omega
 have v3:∀ j,dvN s3 j = dvN s2 j:=dvN_trim (m:=m) (by rw [e3,es2]) (by rw [e3]) (by rw [es2];exact ht.le) (fun j h1 h2 => by rw [es2] at h2 ⊢;exact ht.noughts j h1 h2)
 have lead:T79 ≤ dvN s3 800:=by
  rw [v3,v2,eLF,Nat.le_div_iff_mul_le (Nat.pow_pos (by decide))]
  have:=Nat.mul_le_mul_right (10 ^ (800 - s.nd)) hlo
  rw [← Nat.pow_add,pow_T79 (show Z - 1 + (800 - s.nd) = 799 + d by omega)] at this
  exact this
 have m0:m ≠ 0:=by
  intro g
  have e1:=dvN_none (s:=s3) (by rw [e3];exact g) 800
  rw [e1] at lead
  exact absurd lead (Nat.not_le.2 T79_pos)
 have hm8:m ≤ 800:=Nat.le_trans ht.le (Nat.min_le_right _ _)
 refine ⟨⟨?_,?_,lead⟩,?_,by rw [e3];exact h.ng,d,hd,?_,?_,?_⟩
 ·intro j hj
  rw [e3] at hj ⊢
  have hj':j < m:=hj
  have:=ok2 j (by rw [es2];exact Nat.lt_of_lt_of_le hj' ht.le)
  rw [es2] at this
  exact this
 ·rw [e3];exact hm8
 ·intro hj
  rw [e3]
  exact ht.last (by omega)
 ·rw [e3]
  show (if m = 0 then 0 else s'.dp + (d:Int)) = _
  rw [if_neg m0,h.dp]
 ·rw [v3,v2]
 ·rw [e3]
  show s'.tr = _
  rw [h.tr,r2]
theorem dvN_dig {s:Dcs} (h:DgOk s) {j:Nat} (hj:j < s.nd):dvN s s.nd / 10 ^ j % 10 = s.D (s.nd - 1 - j) - 48:=by
 have e:=dvN_div h (k:=s.nd - j) (j:=s.nd) (by omega)
 rw [show s.nd - (s.nd - j) = j by omega] at e
 rw [e,show s.nd - j = (s.nd - 1 - j) + 1 by omega]
 show (dvN s (s.nd - 1 - j) * 10 + dgN s (s.nd - 1 - j)) % 10 = _
 have:=dgN_le h (s.nd - 1 - j)
 unfold dgN at this ⊢
 rw [if_pos (by omega)] at this ⊢
 omega
theorem ls_digits {s:Dcs} {k len:Nat} (hs:Std s) (h1:10 ^ (len - 1) ≤ 5 ^ k) (h2:5 ^ k < 10 ^ len) (hl:1 ≤ len) (hlk:len ≤ k) (hl8:len ≤ 800) :
  (5 ^ k ≤ dvN s len → 10 ^ (s.nd + (k + 1 - len) - 1) ≤ dvN s s.nd * 2 ^ k ∧ dvN s s.nd * 2 ^ k < 10 ^ (s.nd + (k + 1 - len))) ∧
  (dvN s len < 5 ^ k → 10 ^ (s.nd + (k - len) - 1) ≤ dvN s s.nd * 2 ^ k ∧ dvN s s.nd * 2 ^ k < 10 ^ (s.nd + (k - len))):=by
 have hok:=hs.ok
 have hnd:=hs.nd
 have hpos:=hs.pos
 have hM:dvN s s.nd < 10 ^ s.nd:=dvN_lt hok _
 have eL:dvN s 800 = dvN s s.nd * 10 ^ (800 - s.nd):=by
  have:=dvN_behind (s:=s) (Nat.le_refl _) (800 - s.nd)
  rw [show s.nd + (800 - s.nd) = 800 by omega] at this
  exact this
 have hM0:10 ^ (s.nd - 1) ≤ dvN s s.nd:=by
  have:=hs.lead
  rw [eL,T79_split (show (s.nd - 1) + (800 - s.nd) = 799 by omega)] at this
  exact Nat.le_of_mul_le_mul_right this (Nat.pow_pos (by decide))
 have hdv:=dvN_div hok (k:=len) (j:=800) hl8
 have t10:(10:Nat) ^ k = 5 ^ k * 2 ^ k:=by rw [← Nat.mul_pow]
 have h5:0 < 5 ^ k:=Nat.pow_pos (by decide)
 have h2k:0 < 2 ^ k:=Nat.two_pow_pos k
 have b1:2 ^ k ≤ 10 ^ (k + 1 - len):=by
  have:=Nat.mul_le_mul_right (2 ^ k) h1
  rw [← t10] at this
  rw [show k = (len - 1) + (k + 1 - len) by omega,Nat.pow_add 10] at this
  rw [← show k = (len - 1) + (k + 1 - len) by omega] at this
  exact Nat.le_of_mul_le_mul_left this (Nat.pow_pos (by decide))
 have b2:10 ^ (k - len) ≤ 2 ^ k:=by
  have:=Nat.mul_le_mul_right (2 ^ k) (Nat.le_of_lt h2)
  rw [← t10] at this
  rw [show (10:Nat) ^ k = 10 ^ len * 10 ^ (k - len) by rw [← Nat.pow_add];congr 1;omega] at this
  exact Nat.le_of_mul_le_mul_left this (Nat.pow_pos (by decide))
 have cutE:5 ^ k ≤ dvN s len ↔ 10 ^ (s.nd + (k - len)) ≤ dvN s s.nd * 2 ^ k:=by
  rw [← hdv,Nat.le_div_iff_mul_le (Nat.pow_pos (by decide)),eL]
  have q1:5 ^ k * 10 ^ (800 - len) ≤ dvN s s.nd * 10 ^ (800 - s.nd) ↔ 5 ^ k * 10 ^ (800 - len) * 2 ^ k ≤ dvN s s.nd * 10 ^ (800 - s.nd) * 2 ^ k:=(le_mul_iff h2k).symm
  rw [q1]
  have q2:5 ^ k * 10 ^ (800 - len) * 2 ^ k = 10 ^ (s.nd + (k - len)) * 10 ^ (800 - s.nd):=by
   rw [Nat.mul_right_comm,← t10,← Nat.pow_add,← Nat.pow_add];congr 1;omega
  have q3:dvN s s.nd * 10 ^ (800 - s.nd) * 2 ^ k = dvN s s.nd * 2 ^ k * 10 ^ (800 - s.nd):=Nat.mul_right_comm _ _ _
  rw [q2,q3,le_mul_iff (Nat.pow_pos (by decide))]
 constructor
 ·intro g
  constructor
  ·rw [show s.nd + (k + 1 - len) - 1 = s.nd + (k - len) by omega];exact cutE.1 g
  ·rw [Nat.pow_add]
   exact Nat.lt_of_lt_of_le (Nat.mul_lt_mul_of_pos_right hM h2k) (Nat.mul_le_mul_left _ b1)
 ·intro g
  constructor
  ·rw [show s.nd + (k - len) - 1 = (s.nd - 1) + (k - len) by omega,Nat.pow_add]
   exact Nat.mul_le_mul hM0 b2
  ·rcases Nat.lt_or_ge (dvN s s.nd * 2 ^ k) (10 ^ (s.nd + (k - len))) with q | q
   ·exact q
   ·have:=cutE.2 q;omega
def cdec (c:ByteArray):Dcs:=⟨fun i => if h:i < c.size then c[i].toNat else 0,c.size,0,false,false⟩
theorem plt_dec {s:Dcs} {c:ByteArray} (hs:DgOk s) (hc:DgOk (cdec c)) (hl:dvN (cdec c) c.size % 10 ≠ 0):∀ f i,f + i = c.size → dvN s i = dvN (cdec c) i → plt s c f i = decide (dvN s c.size < dvN (cdec c) c.size)
 | 0,i,e,h => by
  have:i = c.size:=by omega
  subst this
  rw [h]
  simp [plt]
 | f + 1,i,e,h => by
  have hi:i < c.size:=by omega
  have ed:(cdec c).D i = c[i].toNat:=by show (if h:i < c.size then c[i].toNat else 0) = _;rw [dif_pos hi]
  have hci:=hc i hi
  rw [ed] at hci
  have eg:dgN (cdec c) i = c[i].toNat - 48:=by
   unfold dgN
   rw [if_pos (show i < (cdec c).nd from hi),ed]
  have ec:dvN (cdec c) (i + 1) = dvN (cdec c) i * 10 + (c[i].toNat - 48):=by
   show dvN (cdec c) i * 10 + dgN (cdec c) i = _
   rw [eg]
  unfold plt
  rw [dif_pos hi]
  by_cases hn:s.nd ≤ i
  ·rw [if_pos hn]
   have e1:=dvN_behind hn (c.size - i)
   obtain ⟨r,er,hr⟩:=dvN_split hc i (c.size - i)
   rw [show i + (c.size - i) = c.size by omega] at e1 er
   have r0:r ≠ 0:=by
    intro g
    apply hl
    rw [er,g,Nat.add_zero,show c.size - i = (c.size - i - 1) + 1 by omega,Nat.pow_succ,← Nat.mul_assoc,Nat.mul_mod_left]
   rw [e1,er,h]
   exact (decide_eq_true (by omega)).symm
  ·rw [if_neg hn]
   have es:dvN s (i + 1) = dvN s i * 10 + (s.D i - 48):=by
    show dvN s i * 10 + dgN s i = _
    unfold dgN
    rw [if_pos (by omega)]
   have hsi:=hs i (by omega)
   by_cases he:s.D i = c[i].toNat
   ·rw [if_pos he]
    exact plt_dec hs hc hl f (i + 1) (by omega) (by rw [es,ec,h,he])
   ·rw [if_neg he]
    obtain ⟨r,er,hr⟩:=dvN_split hs (i + 1) (c.size - (i + 1))
    obtain ⟨t,et,ht⟩:=dvN_split hc (i + 1) (c.size - (i + 1))
    rw [show i + 1 + (c.size - (i + 1)) = c.size by omega] at er et
    rw [er,et]
    generalize 10 ^ (c.size - (i + 1)) = T at *
    apply decide_eq_decide.2
    constructor
    ·intro g
     have:(dvN s (i + 1) + 1) * T ≤ dvN (cdec c) (i + 1) * T:=Nat.mul_le_mul_right _ (by omega)
     rw [Nat.add_mul] at this
     omega
    ·intro g
     rcases Nat.lt_or_ge (s.D i) c[i].toNat with q | q
     ·exact q
     ·exfalso
      have:(dvN (cdec c) (i + 1) + 1) * T ≤ dvN s (i + 1) * T:=Nat.mul_le_mul_right _ (by omega)
      rw [Nat.add_mul] at this
      omega
end Go.Proofs.YtjlaoeigfokkiaaGreatDoor.dcm
