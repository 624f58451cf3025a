import Derived.Test.YtdogjghalplohaaGreatDoorJv34
import Derived.Test.YtdogjghalplohaaGreatDoorJv35
import Derived.Test.YtdogjghalplohaaGreatDoorJst10
import Derived.Test.YtdogjghalplohaaGreatDoorJst1
namespace Go.Proofs.YtdogjghalplohaaGreatDoor.jin
open mem
open vl (Vl Vls Fls)
open ints (hexV)
set_option linter.unusedVariables false
set_option linter.unusedSimpArgs false
def Cov (Z Y:List Int) (p:Nat):Prop:=p ≤ Z.length ∧ p ≤ Y.length ∧ Y.take p = Z.take p ∧ (Y.length = p ∨ (p < Z.length ∧ p < Y.length ∧ Y.getD p 0 = Z.getD p 0))
def Agr (Z Y:List Int) (p:Nat):Prop:=∀ p',p' ≤ p → Cov Z Y p'
section
variable {Z Y:List Int} {p q:Nat}
theorem Agr.mono (h:Agr Z Y p) (hq:q ≤ p):Agr Z Y q:=fun p' hp => h p' (by omega)
theorem Agr.get (h:Agr Z Y p) (hq:q < p):q < Y.length ∧ q < Z.length ∧ Y.getD q 0 = Z.getD q 0:=by
 obtain ⟨-,h2,-,-⟩:=h p (Nat.le_refl _)
 obtain ⟨-,-,-,h4⟩:=h q (by omega)
 rcases h4 with h4 | ⟨a,b,c⟩
 ·omega
 ·exact ⟨b,a,c⟩
theorem Agr.at_ (h:Agr Z Y p):Y.length = p ∨ (p < Z.length ∧ p < Y.length ∧ Y.getD p 0 = Z.getD p 0):=(h p (Nat.le_refl _)).2.2.2
theorem Agr.le (h:Agr Z Y p):p ≤ Z.length ∧ p ≤ Y.length:=⟨(h p (Nat.le_refl _)).1,(h p (Nat.le_refl _)).2.1⟩
theorem Agr.cut (h:Agr Z Y p):pcZ Y q p = pcZ Z q p:=by
 have h3:=(h p (Nat.le_refl _)).2.2.1
 unfold pcZ
 rw [← List.drop_take,← List.drop_take,h3]
def cdY (Y:List Int) (p:Nat) (k:Int):Int:=if Y.length = p then 50 else k
theorem cdY_50 (Y:List Int) (p:Nat):cdY Y p 50 = 50:=by unfold cdY;split <;> rfl
theorem blE_at {l:List Int} {q:Nat} (hq:q ≤ l.length) (h:blE l q = q) (hl:q < l.length):blB (l.getD q 0) = false:=by
 cases hb:blB (l.getD q 0)
 ·rfl
 ·have:=blE_step hl hb
  have:=blE_le (Z:=l) (p:=q + 1) (by omega)
  omega
theorem blE_agr:∀ (d q:Nat),blE Z q - q = d → q ≤ Z.length → Agr Z Y (blE Z q) → blE Y q = blE Z q
 | 0,q,hd,hq,h => by
  have hb:=blE_le hq
  have he:blE Z q = q:=by omega
  rw [he] at h ⊢
  rcases h.at_ with h1 | ⟨h1,h2,h3⟩
  ·exact blE_end (by omega)
  ·exact blE_no h2 (by rw [h3];exact blE_at hq he h1)
 | d + 1,q,hd,hq,h => by
  have hb:=blE_le hq
  obtain ⟨h1,h2,h3⟩:=h.get (q:=q) (by omega)
  have hbl:blB (Z.getD q 0) = true:=by
   cases hb:blB (Z.getD q 0)
   ·have:=blE_no h2 hb;omega
   ·rfl
  have e:=blE_step h2 hbl
  rw [blE_step h1 (by rw [h3];exact hbl),e]
  rw [e] at h hd
  exact blE_agr d (q + 1) (by omega) (by omega) h
theorem blE_agr' (hq:q ≤ Z.length) (h:Agr Z Y (blE Z q)):blE Y q = blE Z q:=blE_agr _ q rfl hq h
theorem plE_at {l:List Int} {q:Nat} (h:plE l q = q) (hl:q < l.length):stB (l.getD q 0) = false:=by
 cases hb:stB (l.getD q 0)
 ·rfl
 ·have:=plE_step hl hb
  have:=plE_le (Z:=l) (p:=q + 1) (by omega)
  omega
theorem plE_in {l:List Int}:∀ (d q i:Nat),i - q = d → q ≤ l.length → q ≤ i → i < plE l q → i < l.length ∧ stB (l.getD i 0) = true
 | 0,q,i,hd,hq,h1,h2 => by
  have hb:=plE_le hq
  obtain rfl:i = q:=by omega
  refine ⟨by omega,?_⟩
  cases hs:stB (l.getD i 0)
  ·have:=plE_no (by omega) hs;omega
  ·rfl
 | d + 1,q,i,hd,hq,h1,h2 => by
  have hb:=plE_le hq
  have hl:q < l.length:=by omega
  have hs:stB (l.getD q 0) = true:=by
   cases hs:stB (l.getD q 0)
   ·have:=plE_no hl hs;omega
   ·rfl
  rw [plE_step hl hs] at h2
  exact plE_in d (q + 1) i (by omega) (by omega) (by omega) h2
theorem plE_ge {l:List Int}:∀ (d q t:Nat),t - q = d → q ≤ t → (∀ i,q ≤ i → i < t → i < l.length ∧ stB (l.getD i 0) = true) → t ≤ plE l q
 | 0,q,t,hd,hq,h => by
  unfold plE
  omega
 | d + 1,q,t,hd,hq,h => by
  obtain ⟨h1,h2⟩:=h q (Nat.le_refl _) (by omega)
  rw [plE_step h1 h2]
  exact plE_ge d (q + 1) t (by omega) (by omega) (fun i h3 h4 => h i (by omega) h4)
theorem plE_agr (hq:q ≤ Z.length) (h:Agr Z Y (plE Z q)):plE Y q = plE Z q:=by
 have hb:=plE_le hq
 have hl:=h.le
 have h1:plE Z q ≤ plE Y q:=plE_ge _ q _ rfl hb.1 (fun i h1 h2 => by
  obtain ⟨a,b,c⟩:=h.get h2
  exact ⟨a,by rw [c];exact (plE_in _ q i rfl hq h1 h2).2⟩)
 have h2:=plE_le (Z:=Y) (p:=q) (by omega)
 rcases h.at_ with h3 | ⟨h3,h4,h5⟩
 ·omega
 ·rcases Nat.lt_or_ge (plE Z q) (plE Y q) with h6 | h6
  ·exfalso
   have h7:=(plE_in _ q (plE Z q) rfl (by omega) hb.1 h6).2
   rw [h5] at h7
   have h8:plE Z (plE Z q) = plE Z q:=by
    unfold plE
    rw [← List.drop_drop]
    have:List.takeWhile stB (List.drop (List.takeWhile stB (List.drop q Z)).length (List.drop q Z)) = []:=by
     have e:List.drop (List.takeWhile stB (List.drop q Z)).length (List.drop q Z) = List.dropWhile stB (List.drop q Z):=by
      conv => lhs;arg 2;rw [← List.takeWhile_append_dropWhile (p:=stB) (l:=List.drop q Z)]
      rw [List.drop_left' rfl]
     rw [e]
     cases hd:List.dropWhile stB (List.drop q Z) with
     | nil => rfl
     | cons a l =>
      have:=List.head?_dropWhile_not stB (List.drop q Z)
      rw [hd] at this
      have ha:stB a = false:=by simpa using this
      rw [List.takeWhile_cons,if_neg (by rw [ha];decide)]
    rw [this]
    rfl
   rw [plE_at h8 h3] at h7
   cases h7
  ·omega
theorem wdF_agr:∀ (l:List Int) (q:Nat),(∀ p',wdF Z l q = .ok p' → Agr Z Y p' → wdF Y l q = .ok p') ∧ (∀ p k,wdF Z l q = .error (p,k) → q ≤ p ∧ k = 50 ∧ (Agr Z Y p → wdF Y l q = .error (p,50)))
 | [],q => by
  simp only [wdF]
  exact ⟨fun p' h _ => h,fun p k h => by cases h⟩
 | z :: r,q => by
  obtain ⟨i1,i2⟩:=wdF_agr r (q + 1)
  simp only [wdF]
  refine ⟨fun p' h ha => ?_,fun p k h => ?_⟩
  ·split at h
   case isFalse => cases h
   rename_i g
   have hp:=wdF_pos (by omega) h
   obtain ⟨a,b,c⟩:=ha.get (q:=q) (by omega)
   rw [if_pos ⟨a,by rw [c];exact g.2⟩]
   exact i1 p' h ha
  ·split at h
   ·rename_i g
    obtain ⟨j1,j2,j3⟩:=i2 p k h
    refine ⟨by omega,j2,fun ha => ?_⟩
    obtain ⟨a,b,c⟩:=ha.get (q:=q) (by omega)
    rw [if_pos ⟨a,by rw [c];exact g.2⟩]
    exact j3 ha
   ·rename_i g
    injection h with h
    injection h with e1 e2
    subst e1
    refine ⟨Nat.le_refl _,e2.symm,fun ha => ?_⟩
    rw [if_neg]
    rintro ⟨g1,g2⟩
    rcases ha.at_ with h1 | ⟨h1,h2,h3⟩
    ·omega
    ·exact g ⟨h1,by rw [← h3];exact g2⟩
theorem digF_agr (s2:Bool) (q:Nat):∀ (k:Nat) (n:Int),k ≤ 4 → (∀ v,digF Z s2 q k n = .ok v → Agr Z Y (q + 4) → digF Y s2 q k n = .ok v) ∧ (∀ p e,digF Z s2 q k n = .error (p,e) → q + (4 - k) ≤ p ∧ e = 50 ∧ (Agr Z Y p → digF Y s2 q k n = .error (p,50)))
 | 0,n,_ => by
  simp only [digF]
  exact ⟨fun v h _ => h,fun p e h => by cases h⟩
 | k + 1,n,hk => by
  simp only [digF]
  refine ⟨fun v h ha => ?_,fun p e h => ?_⟩
  ·split at h
   case isFalse => cases h
   rename_i g
   obtain ⟨a,b,c⟩:=ha.get (q:=q + (3 - k)) (by omega)
   rw [if_pos a,c]
   split at h
   ·cases h
   rename_i g2
   rw [if_neg g2]
   exact (digF_agr s2 q k _ (by omega)).1 v h ha
  ·split at h
   ·rename_i g
    split at h
    ·rename_i g2
     injection h with h
     injection h with e1 e2
     subst e1
     refine ⟨by omega,e2.symm,fun ha => ?_⟩
     rcases ha.at_ with h1 | ⟨h1,h2,h3⟩
     ·rw [if_neg (by omega)]
     ·rw [if_pos h2,h3,if_pos g2]
    ·rename_i g2
     obtain ⟨j1,j2,j3⟩:=(digF_agr s2 q k _ (by omega)).2 p e h
     refine ⟨by omega,j2,fun ha => ?_⟩
     obtain ⟨a,b,c⟩:=ha.get (q:=q + (3 - k)) (by omega)
     rw [if_pos a,c,if_neg g2]
     exact j3 ha
   ·rename_i g
    injection h with h
    injection h with e1 e2
    subst e1
    refine ⟨by omega,e2.symm,fun ha => ?_⟩
    rcases ha.at_ with h1 | ⟨h1,h2,h3⟩
    ·rw [if_neg (by omega)]
    ·omega
theorem cdF_agr (q:Nat):(∀ r p',cdF Z q = .ok (r,p') → Agr Z Y p' → cdF Y q = .ok (r,p')) ∧ (∀ p e,cdF Z q = .error (p,e) → q ≤ p ∧ e = 50 ∧ (Agr Z Y p → cdF Y q = .error (p,50))):=by
 obtain ⟨i1,i2⟩:=digF_agr (Z:=Z) (Y:=Y) false q 4 0 (by omega)
 obtain ⟨j1,j2⟩:=digF_agr (Z:=Z) (Y:=Y) true (q + 6) 4 0 (by omega)
 refine ⟨fun r p' h ha => ?_,fun p e h => ?_⟩
 ·have hs:=cdF_sc h
  unfold cdF at h ⊢
  cases h1:digF Z false q 4 0 with
  | error b => rw [h1] at h;cases h
  | ok f =>
   rw [h1] at h
   rw [i1 f h1 (ha.mono hs.2.1)]
   simp only at h ⊢
   split at h
   ·rename_i g
    rw [if_pos g]
    exact h
   rename_i g
   rw [if_neg g]
   split at h
   case isFalse => cases h
   rename_i g4
   split at h
   case isFalse => cases h
   rename_i g5
   cases h2:digF Z true (q + 6) 4 0 with
   | error b => rw [h2] at h;cases h
   | ok s =>
    rw [h2] at h
    simp only at h
    have hp:p' = q + 10:=by injection h with h;injection h with e1 e2;exact e2.symm
    obtain ⟨a4,b4,c4⟩:=ha.get (q:=q + 4) (by omega)
    obtain ⟨a5,b5,c5⟩:=ha.get (q:=q + 5) (by omega)
    rw [if_pos ⟨a4,by rw [c4];exact g4.2⟩,if_pos ⟨a5,by rw [c5];exact g5.2⟩,j1 s h2 (ha.mono (by omega))]
    exact h
 ·unfold cdF at h ⊢
  cases h1:digF Z false q 4 0 with
  | error b =>
   obtain ⟨p1,e1⟩:=b
   rw [h1] at h
   simp only at h
   injection h with h
   injection h with e2 e3
   subst e2
   subst e3
   obtain ⟨k1,k2,k3⟩:=i2 _ _ h1
   exact ⟨by omega,k2,fun ha => by rw [k3 ha]⟩
  | ok f =>
   rw [h1] at h
   simp only at h
   split at h
   ·cases h
   rename_i g
   have get1:∀ t,q + 4 ≤ t → Agr Z Y t → digF Y false q 4 0 = .ok f:=fun t ht ha => i1 f h1 (ha.mono ht)
   split at h
   ·rename_i g4
    split at h
    ·rename_i g5
     cases h2:digF Z true (q + 6) 4 0 with
     | error b =>
      obtain ⟨p1,e1⟩:=b
      rw [h2] at h
      simp only at h
      injection h with h
      injection h with e2 e3
      subst e2
      subst e3
      obtain ⟨k1,k2,k3⟩:=j2 _ _ h2
      refine ⟨by omega,k2,fun ha => ?_⟩
      obtain ⟨a4,b4,c4⟩:=ha.get (q:=q + 4) (by omega)
      obtain ⟨a5,b5,c5⟩:=ha.get (q:=q + 5) (by omega)
      rw [get1 _ (by omega) ha]
      simp only
      rw [if_neg g,if_pos ⟨a4,by rw [c4];exact g4.2⟩,if_pos ⟨a5,by rw [c5];exact g5.2⟩,k3 ha]
     | ok s => rw [h2] at h;cases h
    ·rename_i g5
     injection h with h
     injection h with e2 e3
     subst e2
     refine ⟨by omega,e3.symm,fun ha => ?_⟩
     obtain ⟨a4,b4,c4⟩:=ha.get (q:=q + 4) (by omega)
     rw [get1 _ (by omega) ha]
     simp only
     rw [if_neg g,if_pos ⟨a4,by rw [c4];exact g4.2⟩,if_neg]
     rintro ⟨x1,x2⟩
     rcases ha.at_ with y1 | ⟨y1,y2,y3⟩
     ·omega
     ·exact g5 ⟨y1,by rw [← y3];exact x2⟩
   ·rename_i g4
    injection h with h
    injection h with e2 e3
    subst e2
    refine ⟨by omega,e3.symm,fun ha => ?_⟩
    rw [get1 _ (by omega) ha]
    simp only
    rw [if_neg g,if_neg]
    rintro ⟨x1,x2⟩
    rcases ha.at_ with y1 | ⟨y1,y2,y3⟩
    ·omega
    ·exact g4 ⟨y1,by rw [← y3];exact x2⟩
theorem esF_agr (q:Nat):(∀ r p',esF Z q = .ok (r,p') → Agr Z Y p' → esF Y q = .ok (r,p')) ∧ (∀ p e,esF Z q = .error (p,e) → q ≤ p ∧ e = 50 ∧ (Agr Z Y p → esF Y q = .error (p,50))):=by
 obtain ⟨i1,i2⟩:=cdF_agr (Z:=Z) (Y:=Y) (q + 1)
 refine ⟨fun r p' h ha => ?_,fun p e h => ?_⟩
 ·have hs:=esF_sc h
  obtain ⟨a,b,c⟩:=ha.get (q:=q) (by omega)
  unfold esF at h ⊢
  rw [if_pos a,c]
  rw [if_pos b] at h
  split at h
  ·rename_i g;rw [if_pos g];exact h
  rename_i g;rw [if_neg g]
  split at h
  ·rename_i g;rw [if_pos g];exact h
  rename_i g;rw [if_neg g]
  split at h
  ·rename_i g;rw [if_pos g];exact h
  rename_i g;rw [if_neg g]
  split at h
  ·rename_i g;rw [if_pos g];exact h
  rename_i g;rw [if_neg g]
  split at h
  ·rename_i g;rw [if_pos g];exact h
  rename_i g;rw [if_neg g]
  split at h
  ·rename_i g;rw [if_pos g];exact h
  rename_i g;rw [if_neg g]
  split at h
  ·rename_i g;rw [if_pos g];exact i1 r p' h ha
  ·cases h
 ·unfold esF at h ⊢
  split at h
  case isFalse =>
   rename_i g
   injection h with h
   injection h with e2 e3
   subst e2
   refine ⟨Nat.le_refl _,e3.symm,fun ha => ?_⟩
   rcases ha.at_ with y1 | ⟨y1,y2,y3⟩
   ·rw [if_neg (by omega)]
   ·omega
  rename_i g0
  split at h
  ·cases h
  rename_i g1
  split at h
  ·cases h
  rename_i g2
  split at h
  ·cases h
  rename_i g3
  split at h
  ·cases h
  rename_i g4
  split at h
  ·cases h
  rename_i g5
  split at h
  ·cases h
  rename_i g6
  split at h
  ·rename_i g7
   obtain ⟨k1,k2,k3⟩:=i2 p e h
   refine ⟨by omega,k2,fun ha => ?_⟩
   obtain ⟨a,b,c⟩:=ha.get (q:=q) (by omega)
   rw [if_pos a,c,if_neg g1,if_neg g2,if_neg g3,if_neg g4,if_neg g5,if_neg g6,if_pos g7]
   exact k3 ha
  ·rename_i g7
   injection h with h
   injection h with e2 e3
   subst e2
   refine ⟨Nat.le_refl _,e3.symm,fun ha => ?_⟩
   rcases ha.at_ with y1 | ⟨y1,y2,y3⟩
   ·rw [if_neg (by omega)]
   ·rw [if_pos y2,y3,if_neg g1,if_neg g2,if_neg g3,if_neg g4,if_neg g5,if_neg g6,if_neg g7]
end
end Go.Proofs.YtdogjghalplohaaGreatDoor.jin
