import Derived.Test.YtdogjghalplohaaGreatDoorJs22
namespace Go.Proofs.YtdogjghalplohaaGreatDoor.dcm
set_option linter.unusedVariables false
set_option linter.unusedSimpArgs false
def n8:Nat:=800
def n79:Nat:=799
def T8:Nat:=10 ^ n8
def T79:Nat:=10 ^ n79
theorem T79_pos:0 < T79:=Nat.pow_pos (by decide)
theorem T8_eq:T8 = 10 * T79:=by unfold T8 T79;rw [show n8 = n79 + 1 from rfl,Nat.pow_succ,Nat.mul_comm]
theorem pow_T8 {n c:Nat} (h:n = 800 + c):10 ^ n = T8 * 10 ^ c:=by
 have h:n = n8 + c:=h
 rw [h,Nat.pow_add];rfl
theorem pow_T79 {n c:Nat} (h:n = 799 + c):10 ^ n = T79 * 10 ^ c:=by
 have h:n = n79 + c:=h
 rw [h,Nat.pow_add];rfl
theorem pow_le_T79 {c:Nat} (h:c ≤ 799):10 ^ c ≤ T79:=Nat.pow_le_pow_right (by decide) (show c ≤ n79 from h)
theorem T79_split {a b:Nat} (h:a + b = 799):T79 = 10 ^ a * 10 ^ b:=by
 have h:n79 = a + b:=h.symm
 unfold T79
 rw [h,Nat.pow_add]
theorem dvN_lt8 {s:Dcs} (h:DgOk s):dvN s 800 < T8:=dvN_lt h n8
theorem dvN_split {s:Dcs} (h:DgOk s) (k:Nat):∀ j,∃ r,dvN s (k + j) = dvN s k * 10 ^ j + r ∧ r < 10 ^ j
 | 0 => ⟨0,by simp,by decide⟩
 | j + 1 => by
  obtain ⟨r,e,hr⟩:=dvN_split h k j
  have hd:=dgN_le h (k + j)
  refine ⟨r * 10 + dgN s (k + j),?_,?_⟩
  ·show dvN s (k + j) * 10 + dgN s (k + j) = _
   rw [e,Nat.add_mul,Nat.pow_succ,← Nat.mul_assoc,Nat.add_assoc]
  ·rw [Nat.pow_succ];omega
theorem dvN_behind {s:Dcs} {k:Nat} (hk:s.nd ≤ k):∀ j,dvN s (k + j) = dvN s k * 10 ^ j
 | 0 => by simp
 | j + 1 => by
  show dvN s (k + j) * 10 + dgN s (k + j) = _
  rw [dvN_behind hk j]
  unfold dgN
  rw [if_neg (by omega),Nat.add_zero,Nat.pow_succ,Nat.mul_assoc]
theorem dvN_none {s:Dcs} (h:s.nd = 0):∀ j,dvN s j = 0
 | 0 => rfl
 | j + 1 => by
  show dvN s j * 10 + dgN s j = 0
  rw [dvN_none h j]
  unfold dgN
  rw [if_neg (by omega)]
theorem dvN_div {s:Dcs} (h:DgOk s) {k j:Nat} (hk:k ≤ j):dvN s j / 10 ^ (j - k) = dvN s k:=by
 obtain ⟨i,rfl⟩:∃ i,j = k + i:=⟨j - k,by omega⟩
 obtain ⟨r,e,hr⟩:=dvN_split h k i
 rw [Nat.add_sub_cancel_left,e,Nat.mul_comm,Nat.mul_add_div (Nat.pow_pos (by decide)),Nat.div_eq_of_lt hr,Nat.add_zero]
def Tr0 (s:Dcs):Prop:=0 < s.nd → s.D (s.nd - 1) ≠ 48
theorem dvN_tail {s:Dcs} (h:DgOk s) (ht:Tr0 s) {k:Nat} (hk:k < s.nd) (hn:s.nd ≤ 800):dvN s 800 % 10 ^ (800 - k) ≠ 0:=by
 obtain ⟨m,hm⟩:∃ m,s.nd = m + 1:=⟨s.nd - 1,by omega⟩
 have h1:=dvN_behind (s:=s) (Nat.le_refl _) (800 - s.nd)
 rw [show s.nd + (800 - s.nd) = 800 by omega] at h1
 have hd:=h m (by omega)
 have h48:=ht (by omega)
 rw [hm,Nat.add_sub_cancel] at h48
 have e2:dvN s s.nd = dvN s m * 10 + (s.D m - 48):=by
  rw [hm];show dvN s m * 10 + dgN s m = _;unfold dgN;rw [if_pos (by omega)]
 intro h0
 have hdv:=Nat.dvd_of_mod_eq_zero h0
 rw [h1,show 800 - k = (s.nd - k) + (800 - s.nd) by omega,Nat.pow_add] at hdv
 have hdv2:=Nat.dvd_of_mul_dvd_mul_right (Nat.pow_pos (by decide)) hdv
 have:10 ∣ dvN s s.nd:=Nat.dvd_trans (by rw [show s.nd - k = (s.nd - k - 1) + 1 by omega,Nat.pow_succ];exact Nat.dvd_mul_left _ _) hdv2
 rw [e2] at this
 omega
theorem rup_rnD {s:Dcs} (h:DgOk s) (ht:Tr0 s) (hn:s.nd ≤ 800) (hp:s.dp ≤ 18) :
  dvN s s.dp.toNat + (rup s s.dp).toNat = rnD (dvN s 800) (10 ^ (800 - s.dp).toNat) s.tr:=by
 rcases Int.lt_or_le s.dp 0 with hneg | hpos
 ·have e0:s.dp.toNat = 0:=by omega
  have hr:rup s s.dp = false:=by unfold rup;rw [if_pos (Or.inl hneg)]
  rw [e0,hr]
  have hL:=dvN_lt8 h
  have hB:T8 * 10 ≤ 10 ^ (800 - s.dp).toNat:=by
   rw [pow_T8 (c:=(-s.dp).toNat) (by omega)]
   exact Nat.mul_le_mul_left _ (show 10 ^ 1 ≤ 10 ^ (-s.dp).toNat from Nat.pow_le_pow_right (by decide) (by omega))
  show 0 + 0 = _
  generalize dvN s 800 = L at *
  generalize 10 ^ (800 - s.dp).toNat = B at *
  generalize T8 = Z at *
  unfold rnD
  have q0:L / B = 0:=Nat.div_eq_of_lt (by omega)
  have r0:L % B = L:=Nat.mod_eq_of_lt (by omega)
  rw [q0,r0]
  have a1:¬ B < 2 * L:=by omega
  have a2:¬ B = 2 * L:=by omega
  simp [a1,a2]
 ·obtain ⟨k,hk⟩:∃ k:Nat,s.dp = (k:Int):=⟨s.dp.toNat,by omega⟩
  rw [hk]
  have hk18:k ≤ 18:=by omega
  rw [show ((k:Int)).toNat = k from rfl,show ((800:Int) - (k:Int)).toNat = 800 - k by omega]
  obtain ⟨r,er,hr⟩:=dvN_split h (k + 1) (799 - k)
  rw [show k + 1 + (799 - k) = 800 by omega] at er
  have hq:=dvN_div h (k:=k) (j:=800) (by omega)
  have e1:dvN s (k + 1) = dvN s k * 10 + dgN s k:=rfl
  have hC:(10:Nat) ^ (800 - k) = 10 * 10 ^ (799 - k):=by rw [show 800 - k = 799 - k + 1 by omega,Nat.pow_succ,Nat.mul_comm]
  have hCp:0 < 10 ^ (799 - k):=Nat.pow_pos (by decide)
  have em:dvN s 800 % 10 ^ (800 - k) = dgN s k * 10 ^ (799 - k) + r:=by
   have:=Nat.div_add_mod (dvN s 800) (10 ^ (800 - k))
   rw [hq] at this
   rw [er,e1,hC] at this ⊢
   generalize 10 ^ (799 - k) = C at *
   have e5:(dvN s k * 10 + dgN s k) * C = 10 * C * dvN s k + dgN s k * C:=by rw [Nat.add_mul,Nat.mul_assoc,Nat.mul_comm]
   omega
  have hd9:=dgN_le h k
  have r0:r = 0 ↔ s.nd ≤ k + 1:=by
   constructor
   ·intro g
    rcases Nat.lt_or_ge (k + 1) s.nd with q | q
    ·exfalso
     apply dvN_tail h ht q hn
     rw [er,g,Nat.add_zero,show 800 - (k + 1) = 799 - k by omega]
     exact Nat.mul_mod_left _ _
    ·exact q
   ·intro g
    have:=dvN_behind g (799 - k)
    rw [show k + 1 + (799 - k) = 800 by omega,er] at this
    omega
  unfold rnD
  rw [hq,em,hC]
  generalize 10 ^ (799 - k) = C at *
  congr 1
  congr 1
  by_cases h1:s.nd ≤ k
  ·have:rup s (k:Int) = false:=by unfold rup;rw [if_pos (Or.inr (by omega))]
   rw [this]
   have d0:dgN s k = 0:=by unfold dgN;rw [if_neg (by omega)]
   have:r = 0:=r0.2 (by omega)
   rw [d0,this]
   have a1:¬ 10 * C < 2 * (0 * C + 0):=by omega
   have a2:¬ 10 * C = 2 * (0 * C + 0):=by omega
   rw [decide_eq_false a1,decide_eq_false a2]
   rfl
  ·have hdk:=h k (by omega)
   have d0:dgN s k = s.D k - 48:=by unfold dgN;rw [if_pos (by omega)]
   have e2:rup s (k:Int) = (if s.D k = 53 ∧ k + 1 = s.nd then (if s.tr = true then true else decide (0 < k ∧ (s.D (k - 1) - 48) % 2 ≠ 0)) else decide (53 ≤ s.D k)):=by
    unfold rup
    rw [if_neg (by omega)]
    rfl
   rw [e2]
   by_cases h2:s.D k = 53 ∧ k + 1 = s.nd
   ·rw [if_pos h2,d0,h2.1,r0.2 (by omega)]
    have a1:¬ 10 * C < 2 * ((53 - 48) * C + 0):=by omega
    have a2:10 * C = 2 * ((53 - 48) * C + 0):=by omega
    rw [decide_eq_false a1,decide_eq_true a2,Bool.false_or,Bool.true_and]
    have par:(0 < k ∧ (s.D (k - 1) - 48) % 2 ≠ 0) ↔ dvN s k % 2 = 1:=by
     cases k with
     | zero => simp [dvN]
     | succ m =>
      have:dvN s (m + 1) = dvN s m * 10 + (s.D m - 48):=by show dvN s m * 10 + dgN s m = _;unfold dgN;rw [if_pos (by omega)]
      rw [this,Nat.add_sub_cancel]
      omega
    cases s.tr
    ·simp only [Bool.false_or,if_neg (show ¬ (false = true) by decide)]
     exact decide_eq_decide.2 par
    ·simp
   ·rw [if_neg h2,d0]
    rcases Nat.lt_or_ge (s.D k) 53 with g | g
    ·obtain ⟨v,hv⟩:∃ v,s.D k - 48 = v:=⟨_,rfl⟩
     have hv4:v ≤ 4:=by omega
     have:v * C ≤ 4 * C:=Nat.mul_le_mul_right _ hv4
     rw [hv]
     rw [decide_eq_false (by omega),decide_eq_false (by omega),decide_eq_false (by omega)]
     rfl
    ·obtain ⟨v,hv⟩:∃ v,s.D k - 48 = v:=⟨_,rfl⟩
     have hv5:5 ≤ v:=by omega
     have g5:10 * C < 2 * (v * C + r):=by
      rcases Nat.lt_or_ge 5 v with q | q
      ·have:6 * C ≤ v * C:=Nat.mul_le_mul_right _ q
       omega
      ·have e5:v = 5:=by omega
       have:r ≠ 0:=fun hr0 => h2 ⟨by omega,by have:=r0.1 hr0;omega⟩
       rw [e5]
       omega
     rw [hv,decide_eq_true (show 53 ≤ s.D k from g),decide_eq_true g5]
     rfl
structure Std (s:Dcs):Prop where
 ok:DgOk s
 nd:s.nd ≤ 800
 lead:T79 ≤ dvN s 800
theorem Std.pos {s:Dcs} (h:Std s):0 < s.nd:=by
 rcases Nat.eq_zero_or_pos s.nd with g | g
 ·exfalso
  have e:=dvN_none g 800
  have h1:=h.lead
  rw [e] at h1
  exact absurd h1 (Nat.not_le.2 T79_pos)
 ·exact g
structure LSh (s s':Dcs) (k:Nat):Prop where
 std:Std s'
 tr0:Tr0 s'
 ng:s'.ng = s.ng
 ex:∃ d:Nat,d ≤ k ∧ s'.dp = s.dp + d ∧ dvN s' 800 = dvN s 800 * 2 ^ k / 10 ^ d ∧ s'.tr = (s.tr || decide (dvN s 800 * 2 ^ k % 10 ^ d ≠ 0))
structure RSh (s s':Dcs) (k:Nat):Prop where
 std:Std s'
 tr0:Tr0 s'
 ng:s'.ng = s.ng
 ex:∃ j:Nat,s'.dp = s.dp - j ∧ dvN s' 800 = dvN s 800 * 10 ^ j / 2 ^ k ∧ s'.tr = (s.tr || decide (dvN s 800 * 10 ^ j % 2 ^ k ≠ 0))
structure St (X Y:Nat) (s:Dcs) (E:Nat):Prop where
 std:Std s
 x0:0 < X
 y0:0 < Y
 dp:s.dp ≤ 310
 gr:Gr X Y (dvN s 800) (800 - s.dp).toNat E
 ee:E ≤ (800 - s.dp).toNat
 ex:Ex X Y (dvN s 800) (800 - s.dp).toNat s.tr
theorem St.left {X Y E k:Nat} {s s':Dcs} (h:St X Y s (E + k)) (hs:LSh s s' k) (hp:s'.dp ≤ 310):St (X * 2 ^ k) Y s' E:=by
 obtain ⟨d,hd,e1,e2,e3⟩:=hs.ex
 have hee:=h.ee
 have hc:(800 - s'.dp).toNat = (800 - s.dp).toNat - d:=by omega
 have hdc:d ≤ (800 - s.dp).toNat:=by omega
 refine ⟨hs.std,Nat.mul_pos h.x0 (Nat.two_pow_pos _),h.y0,hp,?_,by omega,?_⟩
 ·rw [e2,hc];exact h.gr.left hdc (by omega)
 ·rw [e2,hc,e3];exact h.ex.left h.y0 hdc
theorem St.right {X Y E E' k:Nat} {s s':Dcs} (h:St X Y s E) (hs:RSh s s' k) (h1:E' ≤ E + k) (h2:E' ≤ (800 - s.dp).toNat):St X (Y * 2 ^ k) s' E':=by
 obtain ⟨j,e1,e2,e3⟩:=hs.ex
 have hdp:=h.dp
 have hc:(800 - s'.dp).toNat = (800 - s.dp).toNat + j:=by omega
 refine ⟨hs.std,h.x0,Nat.mul_pos h.y0 (Nat.two_pow_pos _),by omega,?_,by omega,?_⟩
 ·rw [e2,hc];exact h.gr.right k j h1 (by omega)
 ·rw [e2,hc,e3];exact h.ex.right k j h.y0
theorem St.least {X Y E q:Nat} {s:Dcs} (h:St X Y s E) (hq:s.dp = -(q:Int)):Y ≤ X * 10 ^ (q + 1):=by
 have h1:=Nat.le_trans (Nat.mul_le_mul_right Y h.std.lead) h.ex.le
 rw [pow_T79 (show (800 - s.dp).toNat = 799 + (q + 1) by omega)] at h1
 have hp:=T79_pos
 generalize T79 = C at h1 hp
 rw [Nat.mul_left_comm X] at h1
 exact Nat.le_of_mul_le_mul_left h1 hp
theorem St.one {X Y E:Nat} {s:Dcs} (h:St X Y s E) (hp:1 ≤ s.dp):Y ≤ X:=by
 have hc:(800 - s.dp).toNat ≤ 799:=by omega
 have h1:=Nat.le_trans (Nat.mul_le_mul_right Y (Nat.le_trans (pow_le_T79 hc) h.std.lead)) h.ex.le
 rw [Nat.mul_comm] at h1
 exact Nat.le_of_mul_le_mul_right h1 (Nat.pow_pos (by decide))
theorem St.low {X Y E:Nat} {s:Dcs} (h:St X Y s E) (hl:X < Y):s.dp ≤ 0:=by
 rcases Int.lt_or_le 0 s.dp with g | g
 ·have:=h.one (by omega);omega
 ·exact g
theorem St.below {X Y E n:Nat} {s:Dcs} (h:St X Y s E) (hn:n ≤ E) (hl:dvN s 800 * 2 ^ n < 10 ^ (800 - s.dp).toNat):X * 2 ^ n < Y:=by
 have:=(h.gr.mono hn) 1
 rw [Nat.one_mul,Nat.one_mul] at this
 rcases Nat.lt_or_ge (X * 2 ^ n) Y with g | g
 ·exact g
 ·have:=this.1 g;omega
theorem St.half {X Y E:Nat} {s:Dcs} (h:St X Y s E) (hn:1 ≤ E) (hl:10 ^ (800 - s.dp).toNat ≤ dvN s 800 * 2):Y ≤ X * 2:=by
 have:=(h.gr.mono hn) 1
 rw [Nat.one_mul,Nat.one_mul,Nat.pow_one] at this
 exact this.2 hl
theorem lead_five {s:Dcs} (h:Std s):(s.D 0 < 53 → dvN s 800 * 2 < T8) ∧ (53 ≤ s.D 0 → T8 ≤ dvN s 800 * 2):=by
 obtain ⟨r,er,hr⟩:=dvN_split h.ok 1 n79
 have e1:dvN s 1 = s.D 0 - 48:=by
  show 0 * 10 + dgN s 0 = _
  unfold dgN;rw [if_pos h.pos];omega
 have er:dvN s 800 = dvN s 1 * T79 + r:=er
 have hr:r < T79:=hr
 rw [e1] at er
 have h0:=h.ok 0 h.pos
 rw [er,T8_eq]
 generalize T79 = C at *
 obtain ⟨v,hv⟩:∃ v,s.D 0 - 48 = v:=⟨_,rfl⟩
 rw [hv]
 constructor
 ·intro g
  have:v * C ≤ 4 * C:=Nat.mul_le_mul_right _ (by omega)
  omega
 ·intro g
  have:5 * C ≤ v * C:=Nat.mul_le_mul_right _ (by omega)
  omega
def ptab (q:Nat):Nat:=if q = 0 then 1 else if q = 1 then 3 else if q = 2 then 6 else if q = 3 then 9 else if q = 4 then 13 else if q = 5 then 16 else if q = 6 then 19 else if q = 7 then 23 else if q = 8 then 26 else 27
theorem ptab_far {q:Nat} (g:9 ≤ q):ptab q = 27:=by unfold ptab;repeat' (rw [if_neg (by omega)])
theorem ptab_le (q:Nat):1 ≤ ptab q ∧ ptab q ≤ 27:=by
 rcases Nat.lt_or_ge q 9 with g | g
 ·have:∀ q,q < 9 → 1 ≤ ptab q ∧ ptab q ≤ 27:=by decide
  exact this q g
 ·rw [ptab_far g];decide
theorem ptab_ten {q:Nat} (h:1 ≤ q):2 ^ ptab q ≤ 10 ^ q:=by
 rcases Nat.lt_or_ge q 9 with g | g
 ·have:∀ q,q < 9 → 1 ≤ q → 2 ^ ptab q ≤ 10 ^ q:=by decide
  exact this q g h
 ·rw [ptab_far g]
  exact Nat.le_trans (by decide) (Nat.pow_le_pow_right (n:=10) (by decide) g)
theorem St.round2 {X Y E q:Nat} {s:Dcs} (h:St X Y s E) (hE:27 ≤ E) (hq:s.dp = -(q:Int)) (h5:q = 0 → s.D 0 < 53):X * 2 ^ ptab q < Y:=by
 refine h.below (Nat.le_trans (ptab_le q).2 hE) ?_
 rcases Nat.eq_zero_or_pos q with g | g
 ·have:=(lead_five h.std).1 (h5 g)
  rw [g,pow_T8 (show (800 - s.dp).toNat = 800 + 0 by omega),Nat.pow_zero,Nat.mul_one]
  exact this
 ·rw [pow_T8 (show (800 - s.dp).toNat = 800 + q by omega)]
  exact Nat.lt_of_lt_of_le (Nat.mul_lt_mul_of_pos_right (dvN_lt8 h.std.ok) (Nat.two_pow_pos _)) (Nat.mul_le_mul_left _ (ptab_ten g))
theorem RSh.few {s s':Dcs} {k:Nat} (h:RSh s s' k) (hs:Std s) (hk:k ≤ 27):s.dp - 9 ≤ s'.dp ∧ s'.dp ≤ s.dp:=by
 obtain ⟨j,e1,e2,e3⟩:=h.ex
 have:j ≤ 9:=by
  rcases Nat.lt_or_ge 9 j with g | g
  ·exfalso
   have a1:dvN s' 800 < T8:=dvN_lt8 h.std.ok
   have a2:T79 * 10 ^ 10 ≤ dvN s 800 * 10 ^ j:=Nat.mul_le_mul hs.lead (Nat.pow_le_pow_right (by decide) g)
   have a3:2 ^ k ≤ 2 ^ 27:=Nat.pow_le_pow_right (by decide) hk
   have a4:dvN s 800 * 10 ^ j < T8 * 2 ^ k:=by
    rw [e2] at a1
    exact (Nat.div_lt_iff_lt_mul (Nat.two_pow_pos _)).1 a1
   have a5:T8 * 2 ^ k ≤ T8 * 2 ^ 27:=Nat.mul_le_mul_left _ a3
   rw [T8_eq] at a4 a5
   have c0:0 < T79:=T79_pos
   generalize T79 = C at *
   omega
  ·exact g
 omega
end Go.Proofs.YtdogjghalplohaaGreatDoor.dcm
namespace Go.Proofs.YtdogjghalplohaaGreatDoor.dcm
set_option linter.unusedVariables false
set_option linter.unusedSimpArgs false
theorem dvN_same {s s':Dcs}:∀ (j:Nat),(∀ i,i < j → dgN s i = dgN s' i) → dvN s j = dvN s' j
 | 0,_ => rfl
 | j + 1,h => by
  show dvN s j * 10 + dgN s j = dvN s' j * 10 + dgN s' j
  rw [dvN_same j fun i hi => h i (by omega),h j (by omega)]
theorem dvN_trim {s s':Dcs} {m:Nat} (hD:s'.D = s.D) (hm:s'.nd = m) (hle:m ≤ s.nd) (h:∀ i,m ≤ i → i < s.nd → s.D i = 48) (j:Nat):dvN s' j = dvN s j:=
 dvN_same j fun i _ => by
  unfold dgN
  rw [hD,hm]
  by_cases h1:i < m
  ·rw [if_pos h1,if_pos (by omega)]
  ·rw [if_neg h1]
   split
   ·rw [h i (by omega) (by assumption)]
   ·rfl
def rsW (s:Dcs) (k r i:Nat):Nat:=dvN s (r + i) / (10 * 2 ^ k)
def rsN (s:Dcs) (k r i:Nat):Nat:=dvN s (r + i) % (10 * 2 ^ k)
def rsD (s:Dcs) (k r i:Nat):Nat:=rsN s k r i / 2 ^ k
def rsT (s:Dcs) (k r:Nat):Nat → Bool
 | 0 => false
 | i + 1 => rsT s k r i || (decide (800 ≤ i) && decide (rsD s k r i ≠ 0))
theorem rs_succ {s:Dcs} (h:DgOk s) (k r i:Nat):rsW s k r (i + 1) = rsW s k r i * 10 + rsD s k r i ∧ rsN s k r (i + 1) = rsN s k r i % 2 ^ k * 10 + dgN s (r + i):=by
 have hB:0 < 2 ^ k:=Nat.two_pow_pos k
 have hd:=dgN_le h (r + i)
 have e:=Nat.div_add_mod (dvN s (r + i)) (10 * 2 ^ k)
 have hn:rsN s k r i < 10 * 2 ^ k:=Nat.mod_lt _ (by omega)
 have e1:dvN s (r + i) = rsW s k r i * 10 * 2 ^ k + rsN s k r i:=by
  unfold rsW rsN
  rw [Nat.mul_assoc,Nat.mul_comm (_ / _)];exact e.symm
 have e2:=rs_step (d:=dgN s (r + i)) hB e1
 have e3:dvN s (r + (i + 1)) = dvN s (r + i) * 10 + dgN s (r + i):=rfl
 have hl:=rs_rest (n:=rsN s k r i) (d:=dgN s (r + i)) hB hd
 constructor
 ·unfold rsW rsD
  unfold rsW at e2
  rw [e3,e2,Nat.mul_assoc _ 10,Nat.mul_comm _ (10 * 2 ^ k),Nat.mul_add_div (by omega),Nat.div_eq_of_lt hl,Nat.add_zero]
 ·unfold rsN
  unfold rsN at e2 hl
  rw [e3,e2,Nat.mul_assoc _ 10,Nat.mul_comm _ (10 * 2 ^ k),Nat.mul_add_mod,Nat.mod_eq_of_lt hl]
theorem rsD_le (s:Dcs) (k r i:Nat):rsD s k r i ≤ 9:=rs_dig (Nat.two_pow_pos k) (Nat.mod_lt _ (Nat.mul_pos (by decide) (Nat.two_pow_pos k)))
theorem rsN_zero {s:Dcs} {k r:Nat} (h:dvN s r < 10 * 2 ^ k):rsN s k r 0 = dvN s r:=Nat.mod_eq_of_lt h
theorem rsW_zero {s:Dcs} {k r:Nat} (h:dvN s r < 10 * 2 ^ k):rsW s k r 0 = 0:=Nat.div_eq_of_lt h
theorem rsN_end {s:Dcs} (h:DgOk s) {k r i:Nat} (hn:s.nd ≤ r + i) (h0:rsN s k r i = 0):∀ j,rsN s k r (i + j) = 0
 | 0 => h0
 | j + 1 => by
  rw [← Nat.add_assoc,(rs_succ h k r (i + j)).2,rsN_end h hn h0 j]
  unfold dgN;rw [if_neg (by omega)];simp
theorem rsT_end {s:Dcs} {k r:Nat}:∀ i,rsT s k r i = false → ∀ m,800 ≤ m → m < i → rsD s k r m = 0
 | 0,_,m,_,hm => by omega
 | i + 1,h,m,h8,hm => by
  have h1:rsT s k r i = false ∧ (decide (800 ≤ i) && decide (rsD s k r i ≠ 0)) = false:=by
   simpa [rsT,Bool.or_eq_false_iff] using h
  rcases Nat.lt_or_ge m i with g | g
  ·exact rsT_end i h1.1 m h8 g
  ·have:m = i:=by omega
   subst this
   have:=h1.2
   simpa [h8] using this
theorem rsT_some {s:Dcs} {k r:Nat}:∀ i,rsT s k r i = true → ∃ m,800 ≤ m ∧ m < i ∧ rsD s k r m ≠ 0
 | 0,h => by simp [rsT] at h
 | i + 1,h => by
  rw [rsT,Bool.or_eq_true] at h
  rcases h with h | h
  ·obtain ⟨m,a,b,c⟩:=rsT_some i h
   exact ⟨m,a,by omega,c⟩
  ·simp at h
   exact ⟨i,h.1,by omega,h.2⟩
structure RI (s s':Dcs) (k r i:Nat):Prop where
 lo:∀ m,m < i → m < 800 → s'.D m = 48 + rsD s k r m
 hi:∀ m,i ≤ m → s'.D m = s.D m
 nd:s'.nd = s.nd
 dp:s'.dp = s.dp - ((r - 1:Nat):Int)
 ng:s'.ng = s.ng
 tr:s'.tr = (s.tr || rsT s k r i)
theorem RI.end {s s' s3:Dcs} {k r i m:Nat} (hs:Std s) (h:RI s s' k r i) (hr:1 ≤ r) (h0:rsN s k r i = 0) (hn:s.nd ≤ r + i) (hlo:2 ^ k ≤ dvN s r) (hhi:dvN s r < 10 * 2 ^ k)
  (ht:Trm s'.D (min i 800) m) (e3:s3 = { s' with nd:=m,dp:=if m = 0 then 0 else s'.dp }):RSh s s3 k:=by
 have hB:0 < 2 ^ k:=Nat.two_pow_pos k
 have hok:=hs.ok
 obtain ⟨s2,es2⟩:∃ s2:Dcs,s2 = { s' with nd:=min i 800 }:=⟨_,rfl⟩
 have w2:∀ j,j ≤ min i 800 → dvN s2 j = rsW s k r j:=by
  intro j
  induction j with
  | zero => intro _;exact (rsW_zero hhi).symm
  | succ j ih =>
   intro hj
   show dvN s2 j * 10 + dgN s2 j = _
   rw [ih (by omega),(rs_succ hok k r j).1]
   congr 1
   unfold dgN
   rw [es2]
   show (if j < min i 800 then s'.D j - 48 else 0) = _
   rw [if_pos (by omega),h.lo j (by omega) (by omega)]
   omega
 have x8:dvN s (r + 800) = dvN s 800 * 10 ^ r:=by
  rw [Nat.add_comm];exact dvN_behind hs.nd r
 have hten:(10:Nat) ^ r = 10 ^ (r - 1) * 10:=by rw [← Nat.pow_succ];congr 1;omega
 have hW8:rsW s k r 800 = dvN s 800 * 10 ^ (r - 1) / 2 ^ k:=by
  unfold rsW
  rw [x8,hten,← Nat.mul_assoc,Nat.mul_comm 10,Nat.mul_div_mul_right _ _ (by decide)]
 have hN8:rsN s k r 800 = dvN s 800 * 10 ^ (r - 1) % 2 ^ k * 10:=by
  unfold rsN
  rw [x8,hten,← Nat.mul_assoc,Nat.mul_comm 10,Nat.mul_mod_mul_right]
 have v2:dvN s2 800 = rsW s k r 800:=by
  rcases Nat.lt_or_ge i 800 with g | g
  ·have e1:=dvN_behind (s:=s2) (k:=i) (by rw [es2];show min i 800 ≤ i;omega) (800 - i)
   rw [show i + (800 - i) = 800 by omega,w2 i (by omega)] at e1
   rw [e1]
   have e2:dvN s (r + 800) = dvN s (r + i) * 10 ^ (800 - i):=by
    have:=dvN_behind hn (800 - i)
    rw [show r + i + (800 - i) = r + 800 by omega] at this
    exact this
   have e4:=Nat.div_add_mod (dvN s (r + i)) (10 * 2 ^ k)
   have e5:dvN s (r + i) % (10 * 2 ^ k) = 0:=h0
   unfold rsW
   rw [e2]
   rw [e5,Nat.add_zero] at e4
   obtain ⟨Q,hQ⟩:∃ Q,Q = dvN s (r + i) / (10 * 2 ^ k):=⟨_,rfl⟩
   rw [← hQ] at e4 ⊢
   rw [← e4,Nat.mul_assoc,Nat.mul_div_cancel_left _ (by omega)]
  ·exact w2 800 (by omega)
 have ok2:DgOk s2:=fun j hj => by
  rw [es2] at hj ⊢
  have hj':j < min i 800:=hj
  have:=rsD_le s k r j
  show 48 ≤ s'.D j ∧ s'.D j ≤ 57
  rw [h.lo j (by omega) (by omega)]
  omega
 have v3:∀ j,dvN s3 j = dvN s2 j:=dvN_trim (m:=m) (by rw [e3,es2]) (by rw [e3]) (by rw [es2];exact ht.le) (fun j h1 h2 => by rw [es2] at h2 ⊢;exact ht.noughts j h1 h2)
 have lead:T79 ≤ dvN s3 800:=by
  rw [v3,v2]
  unfold rsW
  rw [Nat.le_div_iff_mul_le (by omega)]
  obtain ⟨q,eq,_⟩:=dvN_split hok r n8
  have eq:dvN s (r + 800) = dvN s r * T8 + q:=eq
  rw [eq]
  have:2 ^ k * T8 ≤ dvN s r * T8:=Nat.mul_le_mul_right _ hlo
  have e9:T79 * (10 * 2 ^ k) = 2 ^ k * T8:=by rw [T8_eq,← Nat.mul_assoc,Nat.mul_comm T79 10,Nat.mul_comm]
  omega
 have m0:m ≠ 0:=by
  intro g
  have e1:=dvN_none (s:=s3) (by rw [e3];exact g) 800
  rw [e1] at lead
  exact absurd lead (Nat.not_le.2 T79_pos)
 have hm8:m ≤ 800:=Nat.le_trans ht.le (Nat.min_le_right _ _)
 refine ⟨⟨?_,?_,lead⟩,?_,by rw [e3];exact h.ng,r - 1,?_,?_,?_⟩
 ·intro j hj
  rw [e3] at hj ⊢
  have hj':j < m:=hj
  have:=ok2 j (by rw [es2];exact Nat.lt_of_lt_of_le hj' ht.le)
  rw [es2] at this
  exact this
 ·rw [e3];exact hm8
 ·intro hj
  rw [e3]
  exact ht.last (by omega)
 ·rw [e3]
  show (if m = 0 then 0 else s'.dp) = _
  rw [if_neg m0];exact h.dp
 ·rw [v3,v2,hW8]
 ·rw [e3]
  show s'.tr = _
  rw [h.tr]
  congr 1
  have hiff:rsT s k r i = false ↔ rsN s k r 800 = 0:=by
   constructor
   ·intro hf
    rcases Nat.lt_or_ge i 800 with g | g
    ·have:=rsN_end hok hn h0 (800 - i)
     rw [show i + (800 - i) = 800 by omega] at this
     exact this
    ·have hz:=rsT_end i hf
     have hw:∀ j,800 + j ≤ i → rsW s k r (800 + j) = rsW s k r 800 * 10 ^ j:=by
      intro j
      induction j with
      | zero => intro _;simp
      | succ j ih =>
       intro hj
       rw [← Nat.add_assoc,(rs_succ hok k r (800 + j)).1,ih (by omega),hz _ (by omega) (by omega),Nat.add_zero,Nat.pow_succ,Nat.mul_assoc]
     have e1:=hw (i - 800) (by omega)
     rw [show 800 + (i - 800) = i by omega] at e1
     have e2:=Nat.div_add_mod (dvN s (r + i)) (10 * 2 ^ k)
     have e2b:dvN s (r + i) % (10 * 2 ^ k) = 0:=h0
     have e3':dvN s (r + i) = dvN s (r + 800) * 10 ^ (i - 800):=by
      have:=dvN_behind (s:=s) (k:=r + 800) (by have:=hs.nd;omega) (i - 800)
      rw [show r + 800 + (i - 800) = r + i by omega] at this
      exact this
     rw [e2b,Nat.add_zero] at e2
     have e4:10 * 2 ^ k * rsW s k r i = dvN s (r + i):=e2
     rw [e1,e3',← Nat.mul_assoc] at e4
     have e5:=Nat.eq_of_mul_eq_mul_right (Nat.pow_pos (by decide)) e4
     unfold rsN
     rw [← e5]
     exact Nat.mul_mod_right _ _
   ·intro hz
    cases hc:rsT s k r i with
    | false => rfl
    | true =>
     exfalso
     obtain ⟨m',a,b,c⟩:=rsT_some i hc
     apply c
     have:=rsN_end hok (i:=800) (by have:=hs.nd;omega) hz (m' - 800)
     rw [show 800 + (m' - 800) = m' by omega] at this
     unfold rsD
     rw [this]
     simp
  rw [hN8] at hiff
  cases hc:rsT s k r i with
  | false =>
   have:=hiff.1 hc
   have:dvN s 800 * 10 ^ (r - 1) % 2 ^ k = 0:=by omega
   simp [this]
  | true =>
   have:¬ dvN s 800 * 10 ^ (r - 1) % 2 ^ k = 0:=fun g => by
    have:=hiff.2 (by rw [g])
    rw [hc] at this;cases this
   simp [this]
end Go.Proofs.YtdogjghalplohaaGreatDoor.dcm
namespace Go.Proofs.YtdogjghalplohaaGreatDoor.dcm
set_option linter.unusedVariables false
set_option linter.unusedSimpArgs false
def lsF (F j:Nat):Nat:=F / 10 ^ j % 10
def lsN (M k j:Nat):Nat:=M % 10 ^ j * 2 ^ k / 10 ^ j
theorem lsN_lt (M k j:Nat):lsN M k j < 2 ^ k:=by
 have h1:=Nat.mod_lt M (show 0 < 10 ^ j from Nat.pow_pos (by decide))
 unfold lsN
 rw [Nat.div_lt_iff_lt_mul (Nat.pow_pos (by decide)),Nat.mul_comm (2 ^ k)]
 exact Nat.mul_lt_mul_of_pos_right h1 (Nat.two_pow_pos k)
theorem ls_step (M k j:Nat):(lsN M k j + M / 10 ^ j % 10 * 2 ^ k) / 10 = lsN M k (j + 1) ∧ (lsN M k j + M / 10 ^ j % 10 * 2 ^ k) % 10 = lsF (M * 2 ^ k) j:=by
 have hT:0 < 10 ^ j:=Nat.pow_pos (by decide)
 have e1:M % 10 ^ (j + 1) = M % 10 ^ j + 10 ^ j * (M / 10 ^ j % 10):=Nat.mod_pow_succ
 have eq:lsN M k j + M / 10 ^ j % 10 * 2 ^ k = M % 10 ^ (j + 1) * 2 ^ k / 10 ^ j:=by
  unfold lsN
  rw [e1,Nat.add_mul,Nat.mul_assoc,Nat.add_mul_div_left _ _ hT]
 rw [eq]
 constructor
 ·rw [Nat.div_div_eq_div_mul,← Nat.pow_succ];rfl
 ·unfold lsF
  have e2:=Nat.div_add_mod M (10 ^ (j + 1))
  have e3:M * 2 ^ k = M % 10 ^ (j + 1) * 2 ^ k + 10 ^ j * (M / 10 ^ (j + 1) * 2 ^ k * 10):=by
   have:10 ^ j * (M / 10 ^ (j + 1) * 2 ^ k * 10) = 10 ^ (j + 1) * (M / 10 ^ (j + 1)) * 2 ^ k:=by
    generalize M / 10 ^ (j + 1) = Q
    rw [Nat.pow_succ]
    simp only [Nat.mul_assoc,Nat.mul_left_comm,Nat.mul_comm]
   rw [this,← Nat.add_mul,Nat.add_comm,e2]
  rw [e3,Nat.add_mul_div_left _ _ hT,Nat.add_mul_mod_self_right]
theorem lsN_all {M k n:Nat} (h:M < 10 ^ n):lsN M k n = M * 2 ^ k / 10 ^ n:=by unfold lsN;rw [Nat.mod_eq_of_lt h]
theorem ls_more (F j:Nat):F / 10 ^ j / 10 = F / 10 ^ (j + 1):=by rw [Nat.div_div_eq_div_mul,← Nat.pow_succ]
def lsT (F Z:Nat):Nat → Bool
 | 0 => false
 | j + 1 => lsT F Z j || (decide (800 ≤ Z - 1 - j) && decide (lsF F j ≠ 0))
theorem lsF_zero {F:Nat}:∀ n,(∀ j,j < n → lsF F j = 0) ↔ F % 10 ^ n = 0
 | 0 => by simp [Nat.mod_one]
 | n + 1 => by
  rw [Nat.mod_pow_succ]
  have ih:=lsF_zero (F:=F) n
  have hT:0 < 10 ^ n:=Nat.pow_pos (by decide)
  constructor
  ·intro h
   rw [ih.1 fun j hj => h j (by omega)]
   have:=h n (by omega)
   unfold lsF at this
   rw [this];simp
  ·intro h j hj
   have h1:F % 10 ^ n = 0:=by omega
   have h2:10 ^ n * (F / 10 ^ n % 10) = 0:=by omega
   rcases Nat.lt_or_ge j n with g | g
   ·exact ih.2 h1 j g
   ·have:j = n:=by omega
    subst this
    rcases Nat.mul_eq_zero.1 h2 with h3 | h3
    ·omega
    ·exact h3
theorem lsT_iff {F Z:Nat}:∀ n,lsT F Z n = false ↔ ∀ j,j < n → 800 ≤ Z - 1 - j → lsF F j = 0
 | 0 => by simp [lsT]
 | n + 1 => by
  rw [lsT,Bool.or_eq_false_iff,lsT_iff n]
  constructor
  ·rintro ⟨h1,h2⟩ j hj h8
   rcases Nat.lt_or_ge j n with g | g
   ·exact h1 j g h8
   ·have:j = n:=by omega
    subst this
    simpa [h8] using h2
  ·intro h
   refine ⟨fun j hj h8 => h j (by omega) h8,?_⟩
   by_cases h8:800 ≤ Z - 1 - n
   ·simp [h n (by omega) h8]
   ·simp [h8]
structure LI (s s':Dcs) (F Z j:Nat):Prop where
 lo:∀ m,m < Z → Z ≤ m + j → m < 800 → s'.D m = 48 + lsF F (Z - 1 - m)
 hi:∀ m,m + j < Z → s'.D m = s.D m
 nd:s'.nd = s.nd
 dp:s'.dp = s.dp
 ng:s'.ng = s.ng
 tr:s'.tr = (s.tr || lsT F Z j)
theorem LI.end {s s' s3:Dcs} {k d m:Nat} (hs:Std s) (h:LI s s' (dvN s s.nd * 2 ^ k) (s.nd + d) (s.nd + d)) (hd:d ≤ k)
  (hlo:10 ^ (s.nd + d - 1) ≤ dvN s s.nd * 2 ^ k) (hhi:dvN s s.nd * 2 ^ k < 10 ^ (s.nd + d))
  (ht:Trm s'.D (min (s.nd + d) 800) m) (e3:s3 = { s' with nd:=m,dp:=if m = 0 then 0 else s'.dp + d }):LSh s s3 k:=by
 have hok:=hs.ok
 have hnd:=hs.nd
 have hpos:=hs.pos
 obtain ⟨F,eF⟩:∃ F,F = dvN s s.nd * 2 ^ k:=⟨_,rfl⟩
 obtain ⟨Z,eZ⟩:∃ Z,Z = s.nd + d:=⟨_,rfl⟩
 rw [← eF,← eZ] at h
 rw [← eF,← eZ] at hlo hhi
 rw [← eZ] at ht
 obtain ⟨s2,es2⟩:∃ s2:Dcs,s2 = { s' with nd:=min Z 800 }:=⟨_,rfl⟩
 have w2:∀ j,j ≤ min Z 800 → dvN s2 j = F / 10 ^ (Z - j):=by
  intro j
  induction j with
  | zero => intro _;exact (Nat.div_eq_of_lt hhi).symm
  | succ j ih =>
   intro hj
   show dvN s2 j * 10 + dgN s2 j = _
   rw [ih (by omega)]
   have:dgN s2 j = lsF F (Z - 1 - j):=by
    unfold dgN
    rw [es2]
    show (if j < min Z 800 then s'.D j - 48 else 0) = _
    rw [if_pos (by omega),h.lo j (by omega) (by omega) (by omega)]
    omega
   rw [this,show Z - j = (Z - 1 - j) + 1 by omega,← ls_more,show Z - (j + 1) = Z - 1 - j by omega]
   unfold lsF
   omega
 have eL:dvN s 800 = dvN s s.nd * 10 ^ (800 - s.nd):=by
  have:=dvN_behind (s:=s) (Nat.le_refl _) (800 - s.nd)
  rw [show s.nd + (800 - s.nd) = 800 by omega] at this
  exact this
 have eLF:dvN s 800 * 2 ^ k = F * 10 ^ (800 - s.nd):=by rw [eL,eF,Nat.mul_right_comm]
 have v2:dvN s2 800 = dvN s 800 * 2 ^ k / 10 ^ d:=by
  rw [eLF]
  rcases Nat.lt_or_ge Z 801 with g | g
  ·have e1:=dvN_behind (s:=s2) (k:=Z) (by rw [es2];show min Z 800 ≤ Z;omega) (800 - Z)
   rw [show Z + (800 - Z) = 800 by omega,w2 Z (by omega),Nat.sub_self,Nat.pow_zero,Nat.div_one] at e1
   rw [e1,show 800 - s.nd = (800 - Z) + d by omega,Nat.pow_add,← Nat.mul_assoc,Nat.mul_div_cancel _ (Nat.pow_pos (by decide))]
  ·rw [w2 800 (by omega),show d = (Z - 800) + (800 - s.nd) by omega,Nat.pow_add,Nat.mul_div_mul_right _ _ (Nat.pow_pos (by decide))]
 have r2:lsT F Z Z = decide (dvN s 800 * 2 ^ k % 10 ^ d ≠ 0):=by
  rw [eLF]
  have hiff:lsT F Z Z = false ↔ F * 10 ^ (800 - s.nd) % 10 ^ d = 0:=by
   rw [lsT_iff]
   rcases Nat.lt_or_ge Z 801 with g | g
   ·constructor
    ·intro _
     rw [show 800 - s.nd = (800 - Z) + d by omega,Nat.pow_add,← Nat.mul_assoc,Nat.mul_mod_left]
    ·intro _ j hj h8
     omega
   ·rw [show d = (Z - 800) + (800 - s.nd) by omega,Nat.pow_add,Nat.mul_mod_mul_right]
    constructor
    ·intro hh
     rw [(lsF_zero (Z - 800)).1 fun j hj => hh j (by omega) (by omega),Nat.zero_mul]
    ·intro hh j hj h8
     have:F % 10 ^ (Z - 800) = 0:=by
      rcases Nat.mul_eq_zero.1 hh with q | q
      ·exact q
      ·exact absurd q (Nat.ne_of_gt (Nat.pow_pos (by decide)))
     exact (lsF_zero (Z - 800)).2 this j (by omega)
  cases hc:lsT F Z Z with
  | false => simp [hiff.1 hc]
  | true =>
   have:¬ F * 10 ^ (800 - s.nd) % 10 ^ d = 0:=fun g => by
    have:=hiff.2 g
    rw [hc] at this;cases this
   simp [this]
 have lF:∀ j,lsF F j ≤ 9:=fun j => by unfold lsF;omega
 have ok2:DgOk s2:=fun j hj => by
  rw [es2] at hj ⊢
  have hj':j < min Z 800:=hj
  have:=lF (Z - 1 - j)
  show 48 ≤ s'.D j ∧ s'.D j ≤ 57
  rw [h.lo j (by omega) (by omega) (by omega)]
  omega
 have v3:∀ j,dvN s3 j = dvN s2 j:=dvN_trim (m:=m) (by rw [e3,es2]) (by rw [e3]) (by rw [es2];exact ht.le) (fun j h1 h2 => by rw [es2] at h2 ⊢;exact ht.noughts j h1 h2)
 have lead:T79 ≤ dvN s3 800:=by
  rw [v3,v2,eLF,Nat.le_div_iff_mul_le (Nat.pow_pos (by decide))]
  have:=Nat.mul_le_mul_right (10 ^ (800 - s.nd)) hlo
  rw [← Nat.pow_add,pow_T79 (show Z - 1 + (800 - s.nd) = 799 + d by omega)] at this
  exact this
 have m0:m ≠ 0:=by
  intro g
  have e1:=dvN_none (s:=s3) (by rw [e3];exact g) 800
  rw [e1] at lead
  exact absurd lead (Nat.not_le.2 T79_pos)
 have hm8:m ≤ 800:=Nat.le_trans ht.le (Nat.min_le_right _ _)
 refine ⟨⟨?_,?_,lead⟩,?_,by rw [e3];exact h.ng,d,hd,?_,?_,?_⟩
 ·intro j hj
  rw [e3] at hj ⊢
  have hj':j < m:=hj
  have:=ok2 j (by rw [es2];exact Nat.lt_of_lt_of_le hj' ht.le)
  rw [es2] at this
  exact this
 ·rw [e3];exact hm8
 ·intro hj
  rw [e3]
  exact ht.last (by omega)
 ·rw [e3]
  show (if m = 0 then 0 else s'.dp + (d:Int)) = _
  rw [if_neg m0,h.dp]
 ·rw [v3,v2]
 ·rw [e3]
  show s'.tr = _
  rw [h.tr,r2]
theorem dvN_dig {s:Dcs} (h:DgOk s) {j:Nat} (hj:j < s.nd):dvN s s.nd / 10 ^ j % 10 = s.D (s.nd - 1 - j) - 48:=by
 have e:=dvN_div h (k:=s.nd - j) (j:=s.nd) (by omega)
 rw [show s.nd - (s.nd - j) = j by omega] at e
 rw [e,show s.nd - j = (s.nd - 1 - j) + 1 by omega]
 show (dvN s (s.nd - 1 - j) * 10 + dgN s (s.nd - 1 - j)) % 10 = _
 have:=dgN_le h (s.nd - 1 - j)
 unfold dgN at this ⊢
 rw [if_pos (by omega)] at this ⊢
 omega
theorem ls_digits {s:Dcs} {k len:Nat} (hs:Std s) (h1:10 ^ (len - 1) ≤ 5 ^ k) (h2:5 ^ k < 10 ^ len) (hl:1 ≤ len) (hlk:len ≤ k) (hl8:len ≤ 800) :
  (5 ^ k ≤ dvN s len → 10 ^ (s.nd + (k + 1 - len) - 1) ≤ dvN s s.nd * 2 ^ k ∧ dvN s s.nd * 2 ^ k < 10 ^ (s.nd + (k + 1 - len))) ∧
  (dvN s len < 5 ^ k → 10 ^ (s.nd + (k - len) - 1) ≤ dvN s s.nd * 2 ^ k ∧ dvN s s.nd * 2 ^ k < 10 ^ (s.nd + (k - len))):=by
 have hok:=hs.ok
 have hnd:=hs.nd
 have hpos:=hs.pos
 have hM:dvN s s.nd < 10 ^ s.nd:=dvN_lt hok _
 have eL:dvN s 800 = dvN s s.nd * 10 ^ (800 - s.nd):=by
  have:=dvN_behind (s:=s) (Nat.le_refl _) (800 - s.nd)
  rw [show s.nd + (800 - s.nd) = 800 by omega] at this
  exact this
 have hM0:10 ^ (s.nd - 1) ≤ dvN s s.nd:=by
  have:=hs.lead
  rw [eL,T79_split (show (s.nd - 1) + (800 - s.nd) = 799 by omega)] at this
  exact Nat.le_of_mul_le_mul_right this (Nat.pow_pos (by decide))
 have hdv:=dvN_div hok (k:=len) (j:=800) hl8
 have t10:(10:Nat) ^ k = 5 ^ k * 2 ^ k:=by rw [← Nat.mul_pow]
 have h5:0 < 5 ^ k:=Nat.pow_pos (by decide)
 have h2k:0 < 2 ^ k:=Nat.two_pow_pos k
 have b1:2 ^ k ≤ 10 ^ (k + 1 - len):=by
  have:=Nat.mul_le_mul_right (2 ^ k) h1
  rw [← t10] at this
  rw [show k = (len - 1) + (k + 1 - len) by omega,Nat.pow_add 10] at this
  rw [← show k = (len - 1) + (k + 1 - len) by omega] at this
  exact Nat.le_of_mul_le_mul_left this (Nat.pow_pos (by decide))
 have b2:10 ^ (k - len) ≤ 2 ^ k:=by
  have:=Nat.mul_le_mul_right (2 ^ k) (Nat.le_of_lt h2)
  rw [← t10] at this
  rw [show (10:Nat) ^ k = 10 ^ len * 10 ^ (k - len) by rw [← Nat.pow_add];congr 1;omega] at this
  exact Nat.le_of_mul_le_mul_left this (Nat.pow_pos (by decide))
 have cutE:5 ^ k ≤ dvN s len ↔ 10 ^ (s.nd + (k - len)) ≤ dvN s s.nd * 2 ^ k:=by
  rw [← hdv,Nat.le_div_iff_mul_le (Nat.pow_pos (by decide)),eL]
  have q1:5 ^ k * 10 ^ (800 - len) ≤ dvN s s.nd * 10 ^ (800 - s.nd) ↔ 5 ^ k * 10 ^ (800 - len) * 2 ^ k ≤ dvN s s.nd * 10 ^ (800 - s.nd) * 2 ^ k:=(le_mul_iff h2k).symm
  rw [q1]
  have q2:5 ^ k * 10 ^ (800 - len) * 2 ^ k = 10 ^ (s.nd + (k - len)) * 10 ^ (800 - s.nd):=by
   rw [Nat.mul_right_comm,← t10,← Nat.pow_add,← Nat.pow_add];congr 1;omega
  have q3:dvN s s.nd * 10 ^ (800 - s.nd) * 2 ^ k = dvN s s.nd * 2 ^ k * 10 ^ (800 - s.nd):=Nat.mul_right_comm _ _ _
  rw [q2,q3,le_mul_iff (Nat.pow_pos (by decide))]
 constructor
 ·intro g
  constructor
  ·rw [show s.nd + (k + 1 - len) - 1 = s.nd + (k - len) by omega];exact cutE.1 g
  ·rw [Nat.pow_add]
   exact Nat.lt_of_lt_of_le (Nat.mul_lt_mul_of_pos_right hM h2k) (Nat.mul_le_mul_left _ b1)
 ·intro g
  constructor
  ·rw [show s.nd + (k - len) - 1 = (s.nd - 1) + (k - len) by omega,Nat.pow_add]
   exact Nat.mul_le_mul hM0 b2
  ·rcases Nat.lt_or_ge (dvN s s.nd * 2 ^ k) (10 ^ (s.nd + (k - len))) with q | q
   ·exact q
   ·have:=cutE.2 q;omega
def cdec (c:ByteArray):Dcs:=⟨fun i => if h:i < c.size then c[i].toNat else 0,c.size,0,false,false⟩
theorem plt_dec {s:Dcs} {c:ByteArray} (hs:DgOk s) (hc:DgOk (cdec c)) (hl:dvN (cdec c) c.size % 10 ≠ 0):∀ f i,f + i = c.size → dvN s i = dvN (cdec c) i → plt s c f i = decide (dvN s c.size < dvN (cdec c) c.size)
 | 0,i,e,h => by
  have:i = c.size:=by omega
  subst this
  rw [h]
  simp [plt]
 | f + 1,i,e,h => by
  have hi:i < c.size:=by omega
  have ed:(cdec c).D i = c[i].toNat:=by show (if h:i < c.size then c[i].toNat else 0) = _;rw [dif_pos hi]
  have hci:=hc i hi
  rw [ed] at hci
  have eg:dgN (cdec c) i = c[i].toNat - 48:=by
   unfold dgN
   rw [if_pos (show i < (cdec c).nd from hi),ed]
  have ec:dvN (cdec c) (i + 1) = dvN (cdec c) i * 10 + (c[i].toNat - 48):=by
   show dvN (cdec c) i * 10 + dgN (cdec c) i = _
   rw [eg]
  unfold plt
  rw [dif_pos hi]
  by_cases hn:s.nd ≤ i
  ·rw [if_pos hn]
   have e1:=dvN_behind hn (c.size - i)
   obtain ⟨r,er,hr⟩:=dvN_split hc i (c.size - i)
   rw [show i + (c.size - i) = c.size by omega] at e1 er
   have r0:r ≠ 0:=by
    intro g
    apply hl
    rw [er,g,Nat.add_zero,show c.size - i = (c.size - i - 1) + 1 by omega,Nat.pow_succ,← Nat.mul_assoc,Nat.mul_mod_left]
   rw [e1,er,h]
   exact (decide_eq_true (by omega)).symm
  ·rw [if_neg hn]
   have es:dvN s (i + 1) = dvN s i * 10 + (s.D i - 48):=by
    show dvN s i * 10 + dgN s i = _
    unfold dgN
    rw [if_pos (by omega)]
   have hsi:=hs i (by omega)
   by_cases he:s.D i = c[i].toNat
   ·rw [if_pos he]
    exact plt_dec hs hc hl f (i + 1) (by omega) (by rw [es,ec,h,he])
   ·rw [if_neg he]
    obtain ⟨r,er,hr⟩:=dvN_split hs (i + 1) (c.size - (i + 1))
    obtain ⟨t,et,ht⟩:=dvN_split hc (i + 1) (c.size - (i + 1))
    rw [show i + 1 + (c.size - (i + 1)) = c.size by omega] at er et
    rw [er,et]
    generalize 10 ^ (c.size - (i + 1)) = T at *
    apply decide_eq_decide.2
    constructor
    ·intro g
     have:(dvN s (i + 1) + 1) * T ≤ dvN (cdec c) (i + 1) * T:=Nat.mul_le_mul_right _ (by omega)
     rw [Nat.add_mul] at this
     omega
    ·intro g
     rcases Nat.lt_or_ge (s.D i) c[i].toNat with q | q
     ·exact q
     ·exfalso
      have:(dvN (cdec c) (i + 1) + 1) * T ≤ dvN s (i + 1) * T:=Nat.mul_le_mul_right _ (by omega)
      rw [Nat.add_mul] at this
      omega
end Go.Proofs.YtdogjghalplohaaGreatDoor.dcm
