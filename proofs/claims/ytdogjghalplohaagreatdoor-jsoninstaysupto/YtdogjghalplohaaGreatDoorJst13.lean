import Derived.Test.YtdogjghalplohaaGreatDoorJv34
import Derived.Test.YtdogjghalplohaaGreatDoorJv35
import Derived.Test.YtdogjghalplohaaGreatDoorJst12
namespace Go.Proofs.YtdogjghalplohaaGreatDoor.jin
open mem
open vl (Vl Vls Fls)
open ints (hexV)
set_option linter.unusedVariables false
set_option linter.unusedSimpArgs false
section
variable {σ:Type} {Z Y:List Int}
structure StA (Z Y:List Int) (q0:Nat) (step step':σ → Nat → Except (Nat × Int) (σ × Nat)):Prop where
 ok:∀ st q st' q',q0 ≤ q → q ≤ Z.length → step st q = .ok (st',q') → q < q' ∧ q' ≤ Z.length ∧ (Agr Z Y q' → step' st q = .ok (st',q'))
 er:∀ st q p k,q0 ≤ q → q ≤ Z.length → step st q = .error (p,k) → k = 50 ∨ k = 71 → q ≤ p ∧ (Agr Z Y p → step' st q = .error (p,cdY Y p k))
theorem elF_agr {q0:Nat} {step step':σ → Nat → Except (Nat × Int) (σ × Nat)} {shut:Int} (H:StA Z Y q0 step step'):∀ (f f':Nat) (st:σ) (q:Nat),q0 ≤ q → q ≤ Z.length → Z.length < q + f → Y.length < q + f' →
  (∀ st' p',elF Z step shut f st q = .ok (st',p') → q ≤ p' ∧ p' < Z.length ∧ (Agr Z Y (p' + 1) → elF Y step' shut f' st q = .ok (st',p'))) ∧ (∀ p k,elF Z step shut f st q = .error (p,k) → k = 50 ∨ k = 71 → q ≤ p ∧ (Agr Z Y p → elF Y step' shut f' st q = .error (p,cdY Y p k)))
 | 0,f',st,q,h0,hq,hf,hf' => by omega
 | f + 1,f',st,q,h0,hq,hf,hf' => by
  rw [elF]
  cases h1:step st q with
  | error b =>
   obtain ⟨p1,k1⟩:=b
   simp only [exB]
   refine ⟨fun st' p' h => (by cases h),fun p k h hk => ?_⟩
   injection h with h
   injection h with x1 x2
   subst x1
   subst x2
   obtain ⟨j1,j2⟩:=H.er _ _ _ _ h0 hq h1 hk
   refine ⟨j1,fun ha => ?_⟩
   have hle:=ha.le
   obtain ⟨g,rfl⟩:∃ g,f' = g + 1:=⟨f' - 1,by omega⟩
   rw [elF,j2 ha]
   rfl
  | ok b =>
   obtain ⟨s1,q1⟩:=b
   obtain ⟨j1,j2,j3⟩:=H.ok _ _ _ _ h0 hq h1
   have hb:=blE_le j2
   simp only [exB]
   refine ⟨fun st' p' h => ?_,fun p k h hk => ?_⟩
   ·split at h
    case isFalse => cases h
    rename_i g1
    have hb2:=blE_le (Z:=Z) (p:=blE Z q1 + 1) (by omega)
    split at h
    ·rename_i g2
     obtain ⟨i1,-⟩:=elF_agr (shut:=shut) H f (f' - 1) s1 (blE Z (blE Z q1 + 1)) (by omega) hb2.2 (by omega) (by omega)
     obtain ⟨k1,k2,k3⟩:=i1 st' p' h
     refine ⟨by omega,k2,fun ha => ?_⟩
     have hle:=ha.le
     obtain ⟨g,rfl⟩:∃ g,f' = g + 1:=⟨f' - 1,by omega⟩
     have hk3:=k3 ha
     rw [Nat.add_sub_cancel] at hk3
     obtain ⟨a,b,c⟩:=ha.get (q:=blE Z q1) (by omega)
     rw [elF,j3 (ha.mono (by omega))]
     simp only [exB]
     rw [blE_agr' j2 (ha.mono (by omega)),if_pos a,c,if_pos g2,blE_agr' (by omega) (ha.mono (by omega))]
     exact hk3
    rename_i g2
    split at h
    case isFalse => cases h
    rename_i g3
    injection h with h
    injection h with x1 x2
    subst x1
    subst x2
    refine ⟨by omega,g1,fun ha => ?_⟩
    have hle:=ha.le
    obtain ⟨g,rfl⟩:∃ g,f' = g + 1:=⟨f' - 1,by omega⟩
    obtain ⟨a,b,c⟩:=ha.get (q:=blE Z q1) (by omega)
    rw [elF,j3 (ha.mono (by omega))]
    simp only [exB]
    rw [blE_agr' j2 (ha.mono (by omega)),if_pos a,c,if_neg g2,if_pos g3]
   ·have last:∀ (hp:p = blE Z q1) (hk:k = 50) (hno:blE Z q1 < Z.length → ¬ Z.getD (blE Z q1) 0 = 44 ∧ ¬ Z.getD (blE Z q1) 0 = shut),q ≤ p ∧ (Agr Z Y p → elF Y step' shut f' st q = .error (p,cdY Y p k)):=fun hp hk hno => by
     subst hp
     subst hk
     refine ⟨by omega,fun ha => ?_⟩
     have hle:=ha.le
     obtain ⟨g,rfl⟩:∃ g,f' = g + 1:=⟨f' - 1,by omega⟩
     rw [elF,j3 (ha.mono (by omega))]
     simp only [exB]
     rw [blE_agr' j2 ha,cdY_50]
     rcases ha.at_ with y1 | ⟨y1,y2,y3⟩
     ·rw [if_neg (by omega)]
     ·obtain ⟨n1,n2⟩:=hno y1
      rw [if_pos y2,y3,if_neg n1,if_neg n2]
    split at h
    ·rename_i g1
     have hb2:=blE_le (Z:=Z) (p:=blE Z q1 + 1) (by omega)
     split at h
     ·rename_i g2
      obtain ⟨-,i2⟩:=elF_agr (shut:=shut) H f (f' - 1) s1 (blE Z (blE Z q1 + 1)) (by omega) hb2.2 (by omega) (by omega)
      obtain ⟨k1,k2⟩:=i2 p k h hk
      refine ⟨by omega,fun ha => ?_⟩
      have hle:=ha.le
      obtain ⟨g,rfl⟩:∃ g,f' = g + 1:=⟨f' - 1,by omega⟩
      have hk2:=k2 ha
      rw [Nat.add_sub_cancel] at hk2
      obtain ⟨a,b,c⟩:=ha.get (q:=blE Z q1) (by omega)
      rw [elF,j3 (ha.mono (by omega))]
      simp only [exB]
      rw [blE_agr' j2 (ha.mono (by omega)),if_pos a,c,if_pos g2,blE_agr' (by omega) (ha.mono (by omega))]
      exact hk2
     rename_i g2
     split at h
     ·cases h
     rename_i g3
     injection h with h
     injection h with x1 x2
     exact last x1.symm x2.symm (fun _ => ⟨g2,g3⟩)
    ·rename_i g1
     injection h with h
     injection h with x1 x2
     exact last x1.symm x2.symm (fun h => absurd h g1)
theorem brF_agr {step step':σ → Nat → Except (Nat × Int) (σ × Nat)} {shut:Int} {room q:Nat} {st:σ} (hq:q < Z.length) (H:room ≠ 0 → StA Z Y (q + 1) step step') :
  (∀ st' p',brF Z step shut room q st = .ok (st',p') → q + 1 < p' ∧ p' ≤ Z.length ∧ (Agr Z Y p' → brF Y step' shut room q st = .ok (st',p'))) ∧ (∀ p k,brF Z step shut room q st = .error (p,k) → k = 50 ∨ k = 71 → q ≤ p ∧ (q < Y.length → Agr Z Y p → brF Y step' shut room q st = .error (p,cdY Y p k))):=by
 have hb:=blE_le (Z:=Z) (p:=q + 1) (by omega)
 refine ⟨fun st' p' h => ?_,fun p k h hk => ?_⟩
 ·unfold brF at h ⊢
  split at h
  ·cases h
  rename_i g0
  split at h
  case isFalse => cases h
  rename_i g1
  split at h
  ·rename_i g2
   injection h with h
   injection h with x1 x2
   subst x1
   subst x2
   refine ⟨by omega,by omega,fun ha => ?_⟩
   obtain ⟨a,b,c⟩:=ha.get (q:=blE Z (q + 1)) (by omega)
   rw [if_neg g0,blE_agr' (by omega) (ha.mono (by omega)),if_pos a,c,if_pos g2]
  ·rename_i g2
   obtain ⟨i1,-⟩:=elF_agr (shut:=shut) (H g0) (Z.length + 1) (Y.length + 1) st (blE Z (q + 1)) (by omega) hb.2 (by omega) (by omega)
   cases h1:elF Z step shut (Z.length + 1) st (blE Z (q + 1)) with
   | error b => rw [h1] at h;cases h
   | ok b =>
    obtain ⟨s1,p1⟩:=b
    rw [h1] at h
    simp only [exB] at h
    injection h with h
    injection h with x1 x2
    subst x1
    subst x2
    obtain ⟨k1,k2,k3⟩:=i1 _ _ h1
    refine ⟨by omega,by omega,fun ha => ?_⟩
    obtain ⟨a,b,c⟩:=ha.get (q:=blE Z (q + 1)) (by omega)
    rw [if_neg g0,blE_agr' (by omega) (ha.mono (by omega)),if_pos a,c,if_neg g2,k3 ha]
    rfl
 ·unfold brF at h ⊢
  split at h
  ·rename_i g0
   injection h with h
   injection h with x1 x2
   subst x1
   subst x2
   refine ⟨Nat.le_refl _,fun hY ha => ?_⟩
   rw [if_pos g0]
   unfold cdY
   rw [if_neg (by omega)]
  rename_i g0
  split at h
  ·rename_i g1
   split at h
   ·cases h
   rename_i g2
   obtain ⟨-,i2⟩:=elF_agr (shut:=shut) (H g0) (Z.length + 1) (Y.length + 1) st (blE Z (q + 1)) (by omega) hb.2 (by omega) (by omega)
   cases h1:elF Z step shut (Z.length + 1) st (blE Z (q + 1)) with
   | error b =>
    obtain ⟨p1,k1⟩:=b
    rw [h1] at h
    simp only [exB] at h
    injection h with h
    injection h with x1 x2
    subst x1
    subst x2
    obtain ⟨j1,j2⟩:=i2 _ _ h1 hk
    refine ⟨by omega,fun hY ha => ?_⟩
    have hle:=ha.le
    have hbY:=blE_agr' (Y:=Y) (q:=q + 1) (by omega) (ha.mono j1)
    rw [if_neg g0,hbY]
    rcases (ha.mono j1).at_ with y1 | ⟨y1,y2,y3⟩
    ·have hpe:p1 = blE Z (q + 1):=by omega
     rw [if_neg (by omega),hpe]
     unfold cdY
     rw [if_pos (by omega)]
    ·rw [if_pos y2,y3,if_neg g2,j2 ha]
     rfl
   | ok b => rw [h1] at h;cases h
  ·rename_i g1
   injection h with h
   injection h with x1 x2
   subst x1
   subst x2
   refine ⟨by omega,fun hY ha => ?_⟩
   have hbY:=blE_agr' (Y:=Y) (q:=q + 1) (by omega) ha
   rw [if_neg g0,hbY,cdY_50]
   rcases ha.at_ with y1 | ⟨y1,y2,y3⟩
   ·rw [if_neg (by omega)]
   ·omega
end
theorem stepL_agr {Z Y:List Int} {q0:Nat} {rd rd':Nat → Except (Nat × Int) (Vl × Nat)} (hok:∀ q v q',q0 ≤ q → q ≤ Z.length → rd q = .ok (v,q') → q < q' ∧ q' ≤ Z.length ∧ (Agr Z Y q' → rd' q = .ok (v,q')))
  (her:∀ q p k,q0 ≤ q → q ≤ Z.length → rd q = .error (p,k) → k = 50 ∨ k = 71 → q ≤ p ∧ (Agr Z Y p → rd' q = .error (p,cdY Y p k))):StA Z Y q0 (stepL rd) (stepL rd'):=by
 refine ⟨fun st q st' q' h0 hq h => ?_,fun st q p k h0 hq h hk => ?_⟩
 ·unfold stepL at h ⊢
  cases h1:rd q with
  | error b => rw [h1] at h;cases h
  | ok b =>
   obtain ⟨v,q1⟩:=b
   rw [h1] at h
   simp only [exB] at h
   injection h with h
   injection h with x1 x2
   subst x1
   subst x2
   obtain ⟨k1,k2,k3⟩:=hok _ _ _ h0 hq h1
   exact ⟨k1,k2,fun ha => by rw [k3 ha];rfl⟩
 ·unfold stepL at h ⊢
  cases h1:rd q with
  | error b =>
   obtain ⟨p1,k1⟩:=b
   rw [h1] at h
   simp only [exB] at h
   injection h with h
   injection h with x1 x2
   subst x1
   subst x2
   obtain ⟨j1,j2⟩:=her _ _ _ h0 hq h1 hk
   exact ⟨j1,fun ha => by rw [j2 ha];rfl⟩
  | ok b => rw [h1] at h;cases h
theorem stepO_agr {Z Y:List Int} (hZ:∀ z ∈ Z,0 ≤ z ∧ z ≤ 255) (hY:∀ z ∈ Y,0 ≤ z ∧ z ≤ 255) {q0:Nat} {rd rd':Nat → Except (Nat × Int) (Vl × Nat)} (hok:∀ q v q',q0 ≤ q → q ≤ Z.length → rd q = .ok (v,q') → q < q' ∧ q' ≤ Z.length ∧ (Agr Z Y q' → rd' q = .ok (v,q')))
  (her:∀ q p k,q0 ≤ q → q ≤ Z.length → rd q = .error (p,k) → k = 50 ∨ k = 71 → q ≤ p ∧ (Agr Z Y p → rd' q = .error (p,cdY Y p k))):StA Z Y q0 (stepO Z rd) (stepO Y rd'):=by
 refine ⟨fun st q st' q' h0 hq h => ?_,fun st q p k h0 hq h hk => ?_⟩
 ·obtain ⟨t1,-⟩:=txR_agr (q:=q) hZ hY hq
  unfold stepO at h ⊢
  cases h1:txR Z q with
  | error b => rw [h1] at h;cases h
  | ok b =>
   obtain ⟨s,qa⟩:=b
   have ht:=txR_len h1
   have hb:=blE_le (Z:=Z) (p:=qa) (by omega)
   rw [h1] at h
   simp only [exB] at h
   split at h
   ·cases h
   rename_i g1
   split at h
   case isFalse => cases h
   rename_i g2
   have hb2:=blE_le (Z:=Z) (p:=blE Z qa + 1) (by omega)
   cases h3:rd (blE Z (blE Z qa + 1)) with
   | error b => rw [h3] at h;cases h
   | ok b =>
    obtain ⟨v,q1⟩:=b
    rw [h3] at h
    simp only at h
    injection h with h
    injection h with x1 x2
    subst x1
    subst x2
    obtain ⟨k1,k2,k3⟩:=hok _ _ _ (by omega) hb2.2 h3
    refine ⟨by omega,k2,fun ha => ?_⟩
    obtain ⟨a,b,c⟩:=ha.get (q:=blE Z qa) (by omega)
    rw [t1 _ _ h1 (ha.mono (by omega))]
    simp only [exB]
    rw [if_neg g1,blE_agr' (by omega) (ha.mono (by omega)),if_pos ⟨a,by rw [c];exact g2.2⟩,blE_agr' (by omega) (ha.mono (by omega)),k3 ha]
 ·obtain ⟨t1,t2⟩:=txR_agr (q:=q) hZ hY hq
  unfold stepO at h ⊢
  cases h1:txR Z q with
  | error b =>
   obtain ⟨p1,k1⟩:=b
   rw [h1] at h
   simp only [exB] at h
   injection h with h
   injection h with x1 x2
   subst x1
   subst x2
   obtain ⟨j1,j2,j3⟩:=t2 _ _ h1
   exact ⟨j1,fun ha => by rw [j3 ha,j2,cdY_50];rfl⟩
  | ok b =>
   obtain ⟨s,qa⟩:=b
   have ht:=txR_len h1
   have hb:=blE_le (Z:=Z) (p:=qa) (by omega)
   rw [h1] at h
   simp only [exB] at h
   split at h
   ·injection h with h
    injection h with x1 x2
    omega
   rename_i g1
   split at h
   ·rename_i g2
    have hb2:=blE_le (Z:=Z) (p:=blE Z qa + 1) (by omega)
    cases h3:rd (blE Z (blE Z qa + 1)) with
    | error b =>
     obtain ⟨p1,k1⟩:=b
     rw [h3] at h
     simp only at h
     injection h with h
     injection h with x1 x2
     subst x1
     subst x2
     obtain ⟨j1,j2⟩:=her _ _ _ (by omega) hb2.2 h3 hk
     refine ⟨by omega,fun ha => ?_⟩
     obtain ⟨a,b,c⟩:=ha.get (q:=blE Z qa) (by omega)
     rw [t1 _ _ h1 (ha.mono (by omega))]
     simp only [exB]
     rw [if_neg g1,blE_agr' (by omega) (ha.mono (by omega)),if_pos ⟨a,by rw [c];exact g2.2⟩,blE_agr' (by omega) (ha.mono (by omega)),j2 ha]
    | ok b => rw [h3] at h;cases h
   ·rename_i g2
    injection h with h
    injection h with x1 x2
    subst x1
    subst x2
    refine ⟨by omega,fun ha => ?_⟩
    rw [t1 _ _ h1 (ha.mono (by omega))]
    simp only [exB]
    rw [if_neg g1,blE_agr' (by omega) ha,cdY_50,if_neg]
    rintro ⟨y1,y2⟩
    rcases ha.at_ with z1 | ⟨z1,z2,z3⟩
    ·omega
    ·exact g2 ⟨z1,by rw [← z3];exact y2⟩
theorem vrF_agr {Z Y:List Int} (hZ:∀ z ∈ Z,0 ≤ z ∧ z ≤ 255) (hY:∀ z ∈ Y,0 ≤ z ∧ z ≤ 255):∀ (f f' room q:Nat),q ≤ Z.length → Z.length < q + f → Y.length < q + f' →
  (∀ v p',vrF Z (nmO Z) f room q = .ok (v,p') → q < p' ∧ p' ≤ Z.length ∧ (Agr Z Y p' → vrF Y (nmO Y) f' room q = .ok (v,p'))) ∧ (∀ p k,vrF Z (nmO Z) f room q = .error (p,k) → k = 50 ∨ k = 71 → q ≤ p ∧ (Agr Z Y p → vrF Y (nmO Y) f' room q = .error (p,cdY Y p k)))
 | 0,f',room,q,hq,hf,hf' => by omega
 | f + 1,f',room,q,hq,hf,hf' => by
  have st:∀ q1,q + 1 ≤ q1 → q1 ≤ Z.length → (∀ v p',vrF Z (nmO Z) f (room - 1) q1 = .ok (v,p') → q1 < p' ∧ p' ≤ Z.length ∧ (Agr Z Y p' → vrF Y (nmO Y) (f' - 1) (room - 1) q1 = .ok (v,p'))) ∧ (∀ p k,vrF Z (nmO Z) f (room - 1) q1 = .error (p,k) → k = 50 ∨ k = 71 → q1 ≤ p ∧ (Agr Z Y p → vrF Y (nmO Y) (f' - 1) (room - 1) q1 = .error (p,cdY Y p k))):=fun q1 h1 h2 => vrF_agr hZ hY f (f' - 1) (room - 1) q1 h2 (by omega) (by omega)
  have SL:StA Z Y (q + 1) (stepL (vrF Z (nmO Z) f (room - 1))) (stepL (vrF Y (nmO Y) (f' - 1) (room - 1))):=stepL_agr (fun q1 v q' h0 h1 h => (st q1 h0 h1).1 v q' h) (fun q1 p k h0 h1 h hk => (st q1 h0 h1).2 p k h hk)
  have SO:StA Z Y (q + 1) (stepO Z (vrF Z (nmO Z) f (room - 1))) (stepO Y (vrF Y (nmO Y) (f' - 1) (room - 1))):=stepO_agr hZ hY (fun q1 v q' h0 h1 h => (st q1 h0 h1).1 v q' h) (fun q1 p k h0 h1 h hk => (st q1 h0 h1).2 p k h hk)
  refine ⟨fun v p' h => ?_,fun p k h hk => ?_⟩
  ·have hpos:=vrF_pos nmO_pos _ _ _ _ _ h
   refine ⟨hpos.1,hpos.2,fun ha => ?_⟩
   have hle:=ha.le
   obtain ⟨g,rfl⟩:∃ g,f' = g + 1:=⟨f' - 1,by omega⟩
   obtain ⟨a,b,c⟩:=ha.get (q:=q) hpos.1
   rw [Nat.add_sub_cancel] at SL SO
   rw [vrF] at h ⊢
   rw [if_pos b] at h
   rw [if_pos a]
   unfold dvF at h ⊢
   rw [c]
   have wd:∀ {v0:Vl} {l:List Int},wV v0 (wdF Z l q) = .ok (v,p') → wV v0 (wdF Y l q) = .ok (v,p'):=fun {v0 l} hw => by
    cases h1:wdF Z l q with
    | error b => rw [h1] at hw;cases hw
    | ok p1 =>
     rw [h1] at hw
     simp only [wV] at hw
     have hp:p1 = p':=by injection hw with hw;injection hw
     subst hp
     rw [(wdF_agr l q).1 _ h1 ha]
     exact hw
   split at h
   ·rename_i g1;rw [if_pos g1];exact wd h
   rename_i g1;rw [if_neg g1]
   split at h
   ·rename_i g1;rw [if_pos g1];exact wd h
   rename_i g2;rw [if_neg g2]
   split at h
   ·rename_i g1;rw [if_pos g1];exact wd h
   rename_i g3;rw [if_neg g3]
   split at h
   ·rename_i g4
    rw [if_pos g4]
    cases h1:txR Z q with
    | error b => rw [h1] at h;cases h
    | ok b =>
     obtain ⟨s,p1⟩:=b
     rw [h1] at h
     simp only [tV] at h
     have hp:p1 = p':=by injection h with h;injection h
     subst hp
     rw [(txR_agr hZ hY hq).1 _ _ h1 ha]
     exact h
   rename_i g4;rw [if_neg g4]
   split at h
   ·rename_i g5
    rw [if_pos g5]
    cases h1:brF Z (stepL (vrF Z (nmO Z) f (room - 1))) 93 room q [] with
    | error b => rw [h1] at h;cases h
    | ok b =>
     obtain ⟨L,p1⟩:=b
     rw [h1] at h
     simp only [exB] at h
     have hp:p1 = p':=by injection h with h;injection h
     subst hp
     rw [((brF_agr b (fun _ => SL)).1 _ _ h1).2.2 ha]
     exact h
   rename_i g5;rw [if_neg g5]
   split at h
   ·rename_i g6
    rw [if_pos g6]
    cases h1:brF Z (stepO Z (vrF Z (nmO Z) f (room - 1))) 125 room q [] with
    | error b => rw [h1] at h;cases h
    | ok b =>
     obtain ⟨L,p1⟩:=b
     rw [h1] at h
     simp only [exB] at h
     have hp:p1 = p':=by injection h with h;injection h
     subst hp
     rw [((brF_agr b (fun _ => SO)).1 _ _ h1).2.2 ha]
     exact h
   rename_i g6;rw [if_neg g6]
   exact (nmO_agr hq).1 _ _ h ha
  ·rw [vrF] at h
   split at h
   case isFalse =>
    rename_i g
    injection h with h
    injection h with x1 x2
    subst x1
    subst x2
    refine ⟨Nat.le_refl _,fun ha => ?_⟩
    have hle:=ha.le
    obtain ⟨g',rfl⟩:∃ g,f' = g + 1:=⟨f' - 1,by omega⟩
    rw [vrF,if_neg (by rcases ha.at_ with y1 | ⟨y1,y2,y3⟩ <;> omega),cdY_50]
   rename_i b
   have fin:q ≤ p → (q < Y.length → Y.getD q 0 = Z.getD q 0 → Agr Z Y p → dvF Y q (exB (fun L q' => .ok (listV L,q')) (brF Y (stepL (vrF Y (nmO Y) (f' - 1) (room - 1))) 93 room q [])) (exB (fun F q' => .ok (objV F,q')) (brF Y (stepO Y (vrF Y (nmO Y) (f' - 1) (room - 1))) 125 room q [])) (nmO Y q) = .error (p,cdY Y p k)) → q ≤ p ∧ (Agr Z Y p → vrF Y (nmO Y) f' room q = .error (p,cdY Y p k)):=fun hqp hd => by
    refine ⟨hqp,fun ha => ?_⟩
    have hle:=ha.le
    obtain ⟨g',rfl⟩:∃ g,f' = g + 1:=⟨f' - 1,by omega⟩
    rw [vrF]
    rcases (ha.mono hqp).at_ with y1 | ⟨y1,y2,y3⟩
    ·have hpq:p = q:=by omega
     rw [if_neg (by omega),hpq]
     unfold cdY
     rw [if_pos y1]
    ·rw [if_pos y2]
     exact hd y2 y3 ha
   unfold dvF at h
   have wd:∀ {v0:Vl} {l:List Int},wV v0 (wdF Z l q) = .error (p,k) → q ≤ p ∧ (Agr Z Y p → wV v0 (wdF Y l q) = .error (p,cdY Y p k)):=fun {v0 l} hw => by
    cases h1:wdF Z l q with
    | error b =>
     obtain ⟨p1,k1⟩:=b
     rw [h1] at hw
     simp only [wV] at hw
     injection hw with hw
     injection hw with x1 x2
     subst x1
     subst x2
     obtain ⟨j1,j2,j3⟩:=(wdF_agr l q).2 _ _ h1
     exact ⟨j1,fun ha => by rw [j3 ha,j2,cdY_50];rfl⟩
    | ok p1 => rw [h1] at hw;cases hw
   split at h
   ·rename_i g1
    exact fin (wd h).1 (fun _ c ha => by unfold dvF;rw [c,if_pos g1];exact (wd h).2 ha)
   rename_i g1
   split at h
   ·rename_i g2
    exact fin (wd h).1 (fun _ c ha => by unfold dvF;rw [c,if_neg g1,if_pos g2];exact (wd h).2 ha)
   rename_i g2
   split at h
   ·rename_i g3
    exact fin (wd h).1 (fun _ c ha => by unfold dvF;rw [c,if_neg g1,if_neg g2,if_pos g3];exact (wd h).2 ha)
   rename_i g3
   split at h
   ·rename_i g4
    cases h1:txR Z q with
    | error b' =>
     obtain ⟨p1,k1⟩:=b'
     rw [h1] at h
     simp only [tV] at h
     injection h with h
     injection h with x1 x2
     subst x1
     subst x2
     obtain ⟨j1,j2,j3⟩:=(txR_agr hZ hY hq).2 _ _ h1
     exact fin j1 (fun _ c ha => by unfold dvF;rw [c,if_neg g1,if_neg g2,if_neg g3,if_pos g4,j3 ha,j2,cdY_50];rfl)
    | ok b' => rw [h1] at h;cases h
   rename_i g4
   split at h
   ·rename_i g5
    cases h1:brF Z (stepL (vrF Z (nmO Z) f (room - 1))) 93 room q [] with
    | error b' =>
     obtain ⟨p1,k1⟩:=b'
     rw [h1] at h
     simp only [exB] at h
     injection h with h
     injection h with x1 x2
     subst x1
     subst x2
     obtain ⟨j1,j2⟩:=(brF_agr b (fun _ => SL)).2 _ _ h1 hk
     exact fin j1 (fun a c ha => by unfold dvF;rw [c,if_neg g1,if_neg g2,if_neg g3,if_neg g4,if_pos g5,j2 a ha];rfl)
    | ok b' => rw [h1] at h;cases h
   rename_i g5
   split at h
   ·rename_i g6
    cases h1:brF Z (stepO Z (vrF Z (nmO Z) f (room - 1))) 125 room q [] with
    | error b' =>
     obtain ⟨p1,k1⟩:=b'
     rw [h1] at h
     simp only [exB] at h
     injection h with h
     injection h with x1 x2
     subst x1
     subst x2
     obtain ⟨j1,j2⟩:=(brF_agr b (fun _ => SO)).2 _ _ h1 hk
     exact fin j1 (fun a c ha => by unfold dvF;rw [c,if_neg g1,if_neg g2,if_neg g3,if_neg g4,if_neg g5,if_pos g6,j2 a ha];rfl)
    | ok b' => rw [h1] at h;cases h
   rename_i g6
   obtain ⟨j1,j2⟩:=(nmO_agr hq).2 _ _ h hk
   exact fin j1 (fun a c ha => by unfold dvF;rw [c,if_neg g1,if_neg g2,if_neg g3,if_neg g4,if_neg g5,if_neg g6];exact j2 ha)
theorem RdO_agr {Z Y:List Int} (hZ:∀ z ∈ Z,0 ≤ z ∧ z ≤ 255) (hY:∀ z ∈ Y,0 ≤ z ∧ z ≤ 255) {depth:Int} {p:Nat} {k:Int} (h:RdO Z depth = .error (p,k)) (hk:k = 50 ∨ k = 71) (ha:Agr Z Y p) :
  RdO Y depth = .error (p,cdY Y p k) ∨ (Y.length = p ∧ ∃ v q,RdO Y depth = .ok (v,q)):=by
 have hb:=blE_le (Z:=Z) (p:=0) (Nat.zero_le _)
 unfold RdO rdF whF at h ⊢
 obtain ⟨i1,i2⟩:=vrF_agr hZ hY (Z.length + 1) (Y.length + 1) (roomD depth) (blE Z 0) hb.2 (by omega) (by omega)
 cases h1:vrF Z (nmO Z) (Z.length + 1) (roomD depth) (blE Z 0) with
 | error b =>
  obtain ⟨p1,k1⟩:=b
  rw [h1] at h
  simp only [exB] at h
  injection h with h
  injection h with x1 x2
  subst x1
  subst x2
  obtain ⟨j1,j2⟩:=i2 _ _ h1 hk
  left
  rw [blE_agr' (Nat.zero_le _) (ha.mono j1),j2 ha]
  rfl
 | ok b =>
  obtain ⟨v,p1⟩:=b
  obtain ⟨j1,j2,j3⟩:=i1 _ _ h1
  have hb1:=blE_le j2
  rw [h1] at h
  simp only [exB] at h
  split at h
  case isFalse => cases h
  rename_i g
  injection h with h
  injection h with x1 x2
  subst x1
  subst x2
  rw [blE_agr' (Nat.zero_le _) (ha.mono (by omega)),j3 (ha.mono hb1.1)]
  simp only [exB]
  rw [blE_agr' j2 ha]
  rcases ha.at_ with y1 | ⟨y1,y2,y3⟩
  ·right
   exact ⟨y1,v,blE Z p1,by rw [if_neg (by omega)]⟩
  ·left
   rw [if_pos y2,cdY_50]
end Go.Proofs.YtdogjghalplohaaGreatDoor.jin
