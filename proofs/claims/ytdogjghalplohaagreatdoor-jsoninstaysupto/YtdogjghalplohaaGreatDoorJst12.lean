import Derived.Test.YtdogjghalplohaaGreatDoorJv34
import Derived.Test.YtdogjghalplohaaGreatDoorJv35
import Derived.Test.YtdogjghalplohaaGreatDoorJst11
namespace Go.Proofs.YtdogjghalplohaaGreatDoor.jin
open mem
open vl (Vl Vls Fls)
open ints (hexV)
set_option linter.unusedVariables false
set_option linter.unusedSimpArgs false
section
variable {Z Y:List Int} {p q:Nat}
theorem pc_byt (hZ:∀ z ∈ Z,0 ≤ z ∧ z ≤ 255) (a b:Nat):bytesZ (strOfNums (pcZ Z a b)) = pcZ Z a b:=bytesZ_str _ (fun z hz => hZ z (List.mem_of_mem_drop (List.mem_of_mem_take hz)))
theorem pc_len {a b:Nat} (h1:a ≤ b) (h2:b ≤ Z.length):(pcZ Z a b).length = b - a:=by unfold pcZ;rw [List.length_take,List.length_drop];omega
theorem Agr.take1 (h:Agr Z Y p) (h1:p < Z.length) (h2:p < Y.length) (h3:Y.getD p 0 = Z.getD p 0):Y.take (p + 1) = Z.take (p + 1):=by
 have h4:=(h p (Nat.le_refl _)).2.2.1
 rw [List.take_add_one,List.take_add_one,h4,List.getElem?_eq_getElem h1,List.getElem?_eq_getElem h2]
 rw [List.getD_eq_getElem?_getD,List.getD_eq_getElem?_getD,List.getElem?_eq_getElem h1,List.getElem?_eq_getElem h2] at h3
 simp only [Option.getD_some] at h3
 rw [h3]
theorem plR_agr (hZ:∀ z ∈ Z,0 ≤ z ∧ z ≤ 255) (hY:∀ z ∈ Y,0 ≤ z ∧ z ≤ 255) (hq:q ≤ Z.length):(∀ s p',plR Z q = .ok (s,p') → Agr Z Y p' → plR Y q = .ok (s,p')) ∧ (∀ p k,plR Z q = .error (p,k) → q ≤ p ∧ k = 50 ∧ (Agr Z Y p → plR Y q = .error (p,50) ∨ ∃ s,plR Y q = .ok (s,p) ∧ Y.length = p)):=by
 have hb:=plE_le hq
 refine ⟨fun s p' h ha => ?_,fun p k h => ?_⟩
 ·obtain ⟨hp,-,-,-⟩:=plR_pos hq h
  rw [hp] at ha
  have e:=plE_agr hq ha
  unfold plR at h ⊢
  rw [e,ha.cut]
  exact h
 ·unfold plR at h
  split at h
  ·cases h
  rename_i hcl
  injection h with h
  injection h with e1 e2
  obtain ⟨x,hx⟩:∃ x,x = strOfNums (pcZ Z q (plE Z q)):=⟨_,rfl⟩
  rw [← hx] at hcl e1
  obtain ⟨g,hg⟩:∃ g,g = glS x:=⟨_,rfl⟩
  rw [← hg] at e1
  have hbx:bytesZ x = pcZ Z q (plE Z q):=by rw [hx];exact pc_byt hZ _ _
  have hxs:x.size = plE Z q - q:=by rw [← bytesZ_len,hbx,pc_len hb.1 hb.2]
  have hgl:=(glS_le x).2
  rw [← hg] at hgl
  refine ⟨by omega,e2.symm,fun ha => ?_⟩
  by_cases hge:g = plE Z q - q
  ·have hpe:p = plE Z q:=by omega
   rw [hpe] at ha ⊢
   left
   have e:=plE_agr hq ha
   unfold plR
   rw [e,ha.cut,← hx,if_neg hcl,← hg]
   congr 2
   omega
  ·have hgi:∀ i,q ≤ i → i < p → i < Y.length ∧ stB (Y.getD i 0) = true:=fun i h1 h2 => by
    obtain ⟨a,b,c⟩:=ha.get h2
    exact ⟨a,by rw [c];exact (plE_in _ q i rfl hq h1 (by omega)).2⟩
   have htk:∀ t,(pcZ Z q (plE Z q)).take t = pcZ Z q (min (q + t) (plE Z q)):=fun t => by
    unfold pcZ
    rw [List.take_take]
    congr 1
    omega
   rcases ha.at_ with h1 | ⟨h1,h2,h3⟩
   ·have hpl:plE Y q = p:=by
     have a:=plE_ge _ q p rfl (by omega) hgi
     have b:=plE_le (Z:=Y) (p:=q) (by omega)
     omega
    obtain ⟨x',hx'⟩:∃ x',x' = strOfNums (pcZ Y q p):=⟨_,rfl⟩
    have hb':bytesZ x' = (bytesZ x).take g:=by
     rw [hx',pc_byt hY,ha.cut,hbx,htk]
     congr 1
     omega
    cases hc':clS x' with
    | true =>
     right
     refine ⟨x',?_,h1⟩
     unfold plR
     rw [hpl,← hx',if_pos hc']
    | false =>
     left
     rcases gl_S1 hg.symm hb' with h | h
     ·rw [hc'] at h;cases h
     ·unfold plR
      rw [hpl,← hx',if_neg (by rw [hc'];decide),h,e1]
   ·left
    have hpl:p + 1 ≤ plE Y q:=plE_ge _ q (p + 1) rfl (by omega) (fun i hi1 hi2 => by
     by_cases hip:i = p
     ·subst hip
      exact ⟨h2,by rw [h3];exact (plE_in _ q i rfl hq (by omega) (by omega)).2⟩
     ·exact hgi i hi1 (by omega))
    have hlY:=plE_le (Z:=Y) (p:=q) (by omega)
    obtain ⟨x',hx'⟩:∃ x',x' = strOfNums (pcZ Y q (plE Y q)):=⟨_,rfl⟩
    have hbY:bytesZ x' = pcZ Y q (plE Y q):=by rw [hx'];exact pc_byt hY _ _
    have hsY:x'.size = plE Y q - q:=by rw [← bytesZ_len,hbY,pc_len hlY.1 hlY.2]
    have ht:=ha.take1 h1 h2 h3
    have hsame:(bytesZ x').take (g + 1) = (bytesZ x).take (g + 1):=by
     rw [hbx,hbY]
     unfold pcZ
     rw [List.take_take,List.take_take,show min (g + 1) (plE Y q - q) = p + 1 - q by omega,show min (g + 1) (plE Z q - q) = p + 1 - q by omega,← List.drop_take,← List.drop_take,ht]
    obtain ⟨c1,c2⟩:=gl_S2 hg.symm (by omega) (by omega) hsame
    unfold plR
    rw [← hx',if_neg (by rw [c1];decide),c2,e1]
theorem txG_agr (hZ:∀ z ∈ Z,0 ≤ z ∧ z ≤ 255) (hY:∀ z ∈ Y,0 ≤ z ∧ z ≤ 255):∀ (f f' q:Nat) (acc:List Int),q ≤ Z.length → Z.length < q + f → Y.length < q + f' →
  (∀ r p',txG Z f q acc = .ok (r,p') → q ≤ p' ∧ p' < Z.length ∧ (Agr Z Y (p' + 1) → txG Y f' q acc = .ok (r,p'))) ∧ (∀ p k,txG Z f q acc = .error (p,k) → q ≤ p ∧ k = 50 ∧ (Agr Z Y p → txG Y f' q acc = .error (p,50)))
 | 0,f',q,acc,hq,hf,hf' => by omega
 | f + 1,f',q,acc,hq,hf,hf' => by
  obtain ⟨pl1,pl2⟩:=plR_agr (q:=q) hZ hY hq
  cases h1:plR Z q with
  | error b =>
   obtain ⟨p1,e1⟩:=b
   rw [txG_err h1]
   refine ⟨fun r p' h => (by cases h),fun p k h => ?_⟩
   injection h with h
   injection h with x1 x2
   subst x1
   subst x2
   obtain ⟨j1,j2,j3⟩:=pl2 _ _ h1
   refine ⟨j1,j2,fun ha => ?_⟩
   have hle:=ha.le
   obtain ⟨g,rfl⟩:∃ g,f' = g + 1:=⟨f' - 1,by omega⟩
   rcases j3 ha with h | ⟨s,hs,hl⟩
   ·rw [txG_err h]
   ·rw [txG_ok hs,if_neg (by omega)]
  | ok b =>
   obtain ⟨s,p1⟩:=b
   have hp:=plR_pos hq h1
   rw [txG_ok h1]
   have go:∀ t,p1 ≤ t → Agr Z Y t → plR Y q = .ok (s,p1):=fun t ht ha => pl1 _ _ h1 (ha.mono ht)
   refine ⟨fun r p' h => ?_,fun p k h => ?_⟩
   ·split at h
    case isFalse => cases h
    rename_i g1
    split at h
    ·rename_i g2
     injection h with h
     injection h with x1 x2
     subst x2
     refine ⟨hp.2.1,g1,fun ha => ?_⟩
     have hle:=ha.le
     obtain ⟨g,rfl⟩:∃ g,f' = g + 1:=⟨f' - 1,by omega⟩
     obtain ⟨a,b,c⟩:=ha.get (q:=p1) (by omega)
     rw [txG_ok (go _ (by omega) ha),if_pos a,c,if_pos g2,x1]
    rename_i g2
    split at h
    case isFalse => cases h
    rename_i g3
    cases h2:esF Z (p1 + 1) with
    | error b => rw [h2] at h;cases h
    | ok b =>
     obtain ⟨r1,q1⟩:=b
     have hs:=esF_sc h2
     rw [h2] at h
     simp only [exB] at h
     obtain ⟨i1,-⟩:=txG_agr hZ hY f (f' - 1) q1 ((acc ++ bytesZ s) ++ putB r1) hs.2.2.2 (by omega) (by omega)
     obtain ⟨k1,k2,k3⟩:=i1 r p' h
     refine ⟨by omega,k2,fun ha => ?_⟩
     have hle:=ha.le
     obtain ⟨g,rfl⟩:∃ g,f' = g + 1:=⟨f' - 1,by omega⟩
     obtain ⟨a,b,c⟩:=ha.get (q:=p1) (by omega)
     rw [txG_ok (go _ (by omega) ha),if_pos a,c,if_neg g2,if_pos g3,(esF_agr (p1 + 1)).1 r1 q1 h2 (ha.mono (by omega))]
     simp only [exB]
     exact k3 ha
   ·split at h
    ·rename_i g1
     split at h
     ·cases h
     rename_i g2
     split at h
     ·rename_i g3
      cases h2:esF Z (p1 + 1) with
      | error b =>
       obtain ⟨p2,e2⟩:=b
       rw [h2] at h
       simp only [exB] at h
       injection h with h
       injection h with x1 x2
       subst x1
       subst x2
       obtain ⟨k1,k2,k3⟩:=(esF_agr (Z:=Z) (Y:=Y) (p1 + 1)).2 _ _ h2
       refine ⟨by omega,k2,fun ha => ?_⟩
       have hle:=ha.le
       obtain ⟨g,rfl⟩:∃ g,f' = g + 1:=⟨f' - 1,by omega⟩
       obtain ⟨a,b,c⟩:=ha.get (q:=p1) (by omega)
       rw [txG_ok (go _ (by omega) ha),if_pos a,c,if_neg g2,if_pos g3,k3 ha]
       rfl
      | ok b =>
       obtain ⟨r1,q1⟩:=b
       have hs:=esF_sc h2
       rw [h2] at h
       simp only [exB] at h
       obtain ⟨-,i2⟩:=txG_agr hZ hY f (f' - 1) q1 ((acc ++ bytesZ s) ++ putB r1) hs.2.2.2 (by omega) (by omega)
       obtain ⟨k1,k2,k3⟩:=i2 p k h
       refine ⟨by omega,k2,fun ha => ?_⟩
       have hle:=ha.le
       obtain ⟨g,rfl⟩:∃ g,f' = g + 1:=⟨f' - 1,by omega⟩
       obtain ⟨a,b,c⟩:=ha.get (q:=p1) (by omega)
       rw [txG_ok (go _ (by omega) ha),if_pos a,c,if_neg g2,if_pos g3,(esF_agr (p1 + 1)).1 r1 q1 h2 (ha.mono (by omega))]
       simp only [exB]
       exact k3 ha
     ·rename_i g3
      injection h with h
      injection h with x1 x2
      subst x1
      refine ⟨hp.2.1,x2.symm,fun ha => ?_⟩
      have hle:=ha.le
      obtain ⟨g,rfl⟩:∃ g,f' = g + 1:=⟨f' - 1,by omega⟩
      rw [txG_ok (go _ (Nat.le_refl _) ha)]
      rcases ha.at_ with y1 | ⟨y1,y2,y3⟩
      ·rw [if_neg (by omega)]
      ·rw [if_pos y2,y3,if_neg g2,if_neg g3]
    ·rename_i g1
     injection h with h
     injection h with x1 x2
     subst x1
     refine ⟨hp.2.1,x2.symm,fun ha => ?_⟩
     have hle:=ha.le
     obtain ⟨g,rfl⟩:∃ g,f' = g + 1:=⟨f' - 1,by omega⟩
     rw [txG_ok (go _ (Nat.le_refl _) ha)]
     rcases ha.at_ with y1 | ⟨y1,y2,y3⟩
     ·rw [if_neg (by omega)]
     ·omega
theorem txR_agr (hZ:∀ z ∈ Z,0 ≤ z ∧ z ≤ 255) (hY:∀ z ∈ Y,0 ≤ z ∧ z ≤ 255) (hq:q ≤ Z.length):(∀ s p',txR Z q = .ok (s,p') → Agr Z Y p' → txR Y q = .ok (s,p')) ∧ (∀ p k,txR Z q = .error (p,k) → q ≤ p ∧ k = 50 ∧ (Agr Z Y p → txR Y q = .error (p,50))):=by
 refine ⟨fun s p' h ha => ?_,fun p k h => ?_⟩
 ·unfold txR at h ⊢
  split at h
  case isFalse => cases h
  rename_i g
  obtain ⟨i1,-⟩:=txG_agr hZ hY (Z.length + 1) (Y.length + 1) (q + 1) [] (by omega) (by omega) (by omega)
  cases h1:txG Z (Z.length + 1) (q + 1) [] with
  | error b => rw [h1] at h;cases h
  | ok b =>
   obtain ⟨r,p1⟩:=b
   rw [h1] at h
   simp only [txE] at h
   injection h with h
   injection h with x1 x2
   subst x2
   obtain ⟨k1,k2,k3⟩:=i1 r p1 h1
   obtain ⟨a,b,c⟩:=ha.get (q:=q) (by omega)
   rw [if_pos ⟨a,by rw [c];exact g.2⟩,k3 ha]
   simp only [txE]
   rw [x1]
 ·unfold txR at h ⊢
  split at h
  ·rename_i g
   obtain ⟨-,i2⟩:=txG_agr hZ hY (Z.length + 1) (Y.length + 1) (q + 1) [] (by omega) (by omega) (by omega)
   cases h1:txG Z (Z.length + 1) (q + 1) [] with
   | error b =>
    obtain ⟨p1,e1⟩:=b
    rw [h1] at h
    simp only [txE] at h
    injection h with h
    injection h with x1 x2
    subst x1
    subst x2
    obtain ⟨k1,k2,k3⟩:=i2 p1 e1 h1
    refine ⟨by omega,k2,fun ha => ?_⟩
    obtain ⟨a,b,c⟩:=ha.get (q:=q) (by omega)
    rw [if_pos ⟨a,by rw [c];exact g.2⟩,k3 ha]
    rfl
   | ok b => rw [h1] at h;cases h
  ·rename_i g
   injection h with h
   injection h with x1 x2
   subst x1
   refine ⟨Nat.le_refl _,x2.symm,fun ha => ?_⟩
   rw [if_neg]
   rintro ⟨y1,y2⟩
   rcases ha.at_ with z1 | ⟨z1,z2,z3⟩
   ·omega
   ·exact g ⟨z1,by rw [← z3];exact y2⟩
theorem runF_ge:∀ (m k e:Nat) (st f:Int),m + k = Z.length → k ≤ (runF Z m st e f k).2.1
 | 0,k,e,st,f,h => by rw [runF];simp only;omega
 | m + 1,k,e,st,f,h => by
  rw [runF]
  split
  ·exact Nat.le_refl _
  split
  ·exact Nat.le_trans (Nat.le_succ k) (runF_ge m (k + 1) _ _ _ (by omega))
  ·exact Nat.le_trans (Nat.le_succ k) (runF_ge m (k + 1) _ _ _ (by omega))
theorem runF_agr:∀ (m m' k e:Nat) (st f:Int),m + k = Z.length → m' + k = Y.length → Agr Z Y (runF Z m st e f k).2.1 → runF Y m' st e f k = runF Z m st e f k
 | 0,m',k,e,st,f,h,h',ha => by
  rw [runF] at ha ⊢
  simp only at ha
  rcases ha.at_ with y1 | ⟨y1,y2,y3⟩
  ·obtain rfl:m' = 0:=by omega
   rw [runF,y1]
  ·omega
 | m + 1,m',k,e,st,f,h,h',ha => by
  rw [runF] at ha ⊢
  split at ha
  ·rename_i g
   rw [if_pos g]
   simp only at ha
   rcases ha.at_ with y1 | ⟨y1,y2,y3⟩
   ·obtain rfl:m' = 0:=by omega
    rw [runF,y1]
   ·obtain ⟨m2,rfl⟩:∃ m2,m' = m2 + 1:=⟨m' - 1,by omega⟩
    rw [runF,y3,if_pos g]
  ·rename_i g
   rw [if_neg g]
   split at ha
   ·rename_i g2
    rw [if_pos g2]
    have hge:=runF_ge (Z:=Z) m (k + 1) (k + 1) (stepZ st (Z.getD k 0)) (formZ (stepZ st (Z.getD k 0))) (by omega)
    obtain ⟨a,b,c⟩:=ha.get (q:=k) (by omega)
    obtain ⟨m2,rfl⟩:∃ m2,m' = m2 + 1:=⟨m' - 1,by omega⟩
    rw [runF,c,if_neg g,if_pos g2]
    exact runF_agr m m2 (k + 1) (k + 1) _ _ (by omega) (by omega) ha
   ·rename_i g2
    rw [if_neg g2]
    have hge:=runF_ge (Z:=Z) m (k + 1) e (stepZ st (Z.getD k 0)) f (by omega)
    obtain ⟨a,b,c⟩:=ha.get (q:=k) (by omega)
    obtain ⟨m2,rfl⟩:∃ m2,m' = m2 + 1:=⟨m' - 1,by omega⟩
    rw [runF,c,if_neg g,if_neg g2]
    exact runF_agr m m2 (k + 1) e _ _ (by omega) (by omega) ha
theorem pfx_agr (hq:q ≤ Z.length) (ha:Agr Z Y (pfx Z q).2.1):pfx Y q = pfx Z q:=by
 have hr:=pfx_run Z q hq
 unfold run at hr
 rw [← hr] at ha ⊢
 have hge:=runF_ge (Z:=Z) (Z.length - q) q q 0 0 (by omega)
 have hl:=ha.le
 have hrY:=pfx_run Y q (by omega)
 unfold run at hrY
 rw [← hrY]
 exact runF_agr _ _ q q 0 0 (by omega) (by omega) ha
theorem nmO_agr (hq:q ≤ Z.length):(∀ v p',nmO Z q = .ok (v,p') → Agr Z Y p' → nmO Y q = .ok (v,p')) ∧ (∀ p k,nmO Z q = .error (p,k) → k = 50 ∨ k = 71 → q ≤ p ∧ (Agr Z Y p → nmO Y q = .error (p,cdY Y p k))):=by
 obtain ⟨q1,q2,q3,-,-,-,-,-⟩:=pfx_ok Z q hq
 refine ⟨fun v p' h ha => ?_,fun p k h hk => ?_⟩
 ·have hp:=nmO_pos _ _ _ h
  have hl:=ha.le
  unfold nmO at h ⊢
  rw [if_pos hq] at h
  rw [if_pos (by omega)]
  unfold numR numF at h ⊢
  split at h
  ·cases h
  rename_i g1
  split at h
  case isFalse => cases h
  rename_i g2
  injection h with h
  injection h with x1 x2
  have es:(pfx Z q).2.1 = p':=by omega
  have e:=pfx_agr (Y:=Y) hq (by rw [es];exact ha)
  have ec:pcZ Y q (pfx Z q).1 = pcZ Z q (pfx Z q).1:=by rw [x2];exact ha.cut
  rw [e,ec,if_neg g1,if_pos g2,x1,x2]
 ·unfold nmO at h ⊢
  rw [if_pos hq] at h
  unfold numR numF at h ⊢
  split at h
  ·rename_i g1
   injection h with h
   injection h with x1 x2
   refine ⟨by omega,fun ha => ?_⟩
   have hl:=ha.le
   rw [← x1] at ha
   have e:=pfx_agr (Y:=Y) hq ha
   rw [if_pos (by omega),e,if_pos g1,x1,← x2,cdY_50]
  split at h
  ·cases h
  ·rename_i g1 g2
   injection h with h
   injection h with x1 x2
   obtain ⟨-,-,-,h4⟩:=nrO_rng (strOfNums (pcZ Z q (pfx Z q).1))
   omega
end
end Go.Proofs.YtdogjghalplohaaGreatDoor.jin
