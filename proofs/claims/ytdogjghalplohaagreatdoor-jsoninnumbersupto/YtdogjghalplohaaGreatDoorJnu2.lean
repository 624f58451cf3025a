import Derived.Test.YtdogjghalplohaaGreatDoorJs34
import Derived.Test.YtdogjghalplohaaGreatDoorJs35
import Derived.Test.YtdogjghalplohaaGreatDoorJnu1
namespace Go.Proofs.YtdogjghalplohaaGreatDoor.jin
open Go.ChangeShapes Go.WideShapes Go.ChangeAt Go.RowKit
open mem Go.Maps
open vl (Vl Vls Fls VlC VlsAt FlsAt Row8 Small SmallI SmallF)
open ints (hide unhide hexV)
open fto (bytZ NumT)
set_option linter.unusedVariables false
set_option linter.unusedSimpArgs false
def kdJ:Vl → Int
 | .mk kd _ _ _ _ _ _ _ => kd
theorem bytZ_len (s:ByteArray):(bytZ s).length = s.size:=by unfold fto.bytZ;rw [List.length_map,Array.length_toList];rfl
theorem numT_head {s:ByteArray} {ng:Bool} {A F:List Int} {E:Option (Int × Option Bool × List Int)} (h:NumT (bytZ s) ng A F E):0 < s.size ∧ ((bytZ s).getD 0 0 = 45 ∨ 48 ≤ (bytZ s).getD 0 0 ∧ (bytZ s).getD 0 0 ≤ 57):=by
 have e:=h.eq
 have hw:=h.wh
 rw [← bytZ_len,e]
 cases ng
 ·cases A with
  | nil => exact absurd rfl hw.ne
  | cons c A =>
   have:=hw.dg c (by simp)
   refine ⟨by simp [sgL],.inr ?_⟩
   simpa [sgL] using this
 ·refine ⟨by simp [sgL],.inl ?_⟩
  simp [sgL]
theorem dvF_num {Z:List Int} {q:Nat} {L O N:Except (Nat × Int) (Vl × Nat)} (h:Z.getD q 0 = 45 ∨ 48 ≤ Z.getD q 0 ∧ Z.getD q 0 ≤ 57):dvF Z q L O N = N:=by
 unfold dvF
 rw [if_neg (by omega),if_neg (by omega),if_neg (by omega),if_neg (by omega),if_neg (by omega),if_neg (by omega)]
theorem blB_num {z:Int} (h:z = 45 ∨ 48 ≤ z ∧ z ≤ 57):blB z = false:=by
 unfold blB
 simp
 omega
theorem num_whole {s:ByteArray} (hs:s.size ≤ 1050000) (h20:(nrO s).2.2.2 ≠ 20) (depth:Int):RdO (bytZ s) depth = if (nrO s).2.2.2 = 0 then .ok (numV (nrO s).1 (nrO s).2.1 (nrO s).2.2.1,s.size) else .error (0,(nrO s).2.2.2):=by
 have hr:=nrO_rd hs
 obtain ⟨ng,A,F,E,hT⟩:∃ ng A F E,NumT (bytZ s) ng A F E:=by
  generalize (nrO s).1 = k,(nrO s).2.1 = i,(nrO s).2.2.1 = f,(nrO s).2.2.2 = e at hr h20
  cases hr with
  | none h => exact absurd rfl h20
  | int ng A h hr => exact ⟨_,_,_,_,h⟩
  | flt ng A F E R h hn hR h1 => exact ⟨_,_,_,_,h⟩
  | big ng A F E h hn hR => exact ⟨_,_,_,_,h⟩
 obtain ⟨h0,hd⟩:=numT_head hT
 have hp:=hT.pfx
 have hl:=bytZ_len s
 have hb:blE (bytZ s) 0 = 0:=blE_no (by omega) (blB_num hd)
 have hst:strOfNums (pcZ (bytZ s) 0 s.size) = s:=by
  unfold pcZ
  rw [List.drop_zero,Nat.sub_zero,← hl,List.take_length,fto.str_bytZ]
 have hnm:nmO (bytZ s) 0 = if (nrO s).2.2.2 = 0 then .ok (numV (nrO s).1 (nrO s).2.1 (nrO s).2.2.1,s.size) else .error (0,(nrO s).2.2.2):=by
  unfold nmO numR
  rw [if_pos (Nat.zero_le _),hp]
  simp only
  rw [hst]
  unfold numF
  have hf:¬ ((if F = [] ∧ E = none then (1:Int) else 2) = 0 ∨ s.size < s.size):=by
   intro h
   rcases h with h | h
   ·split at h <;> cases h
   ·omega
  rw [if_neg hf]
 unfold RdO rdF whF
 rw [hb,vrF,if_pos (by omega),dvF_num hd,hnm]
 split
 ·simp only [exB]
  rw [blE_end (by omega),if_neg (by omega)]
 ·rfl
theorem blE_last {Z:List Int} {q:Nat} (hq:q < Z.length) (hl:blB (Z.getD (Z.length - 1) 0) = false):blE Z q < Z.length:=by
 rcases Nat.lt_or_ge (blE Z q) Z.length with h | h
 ·exact h
 ·exfalso
  unfold blE at h
  have h2:((Z.drop q).takeWhile blB).length = (Z.drop q).length:=by
   have:=(List.takeWhile_sublist blB (l:=Z.drop q)).length_le
   rw [List.length_drop] at this ⊢
   omega
  have h3:(Z.drop q).takeWhile blB = Z.drop q:=(List.takeWhile_sublist blB).eq_of_length h2
  have hm:Z.getD (Z.length - 1) 0 ∈ Z.drop q:=by
   have e:(Z.drop q)[Z.length - 1 - q]? = some (Z.getD (Z.length - 1) 0):=by
    rw [List.getElem?_drop,show q + (Z.length - 1 - q) = Z.length - 1 by omega,List.getD_eq_getElem?_getD,List.getElem?_eq_getElem (by omega)]
    rfl
   exact List.mem_of_getElem? e
  rw [← h3] at hm
  have:=List.all_eq_true.1 (List.all_takeWhile (p:=blB) (l:=Z.drop q)) _ hm
  rw [hl] at this
  cases this
theorem num_not {s:ByteArray} (hs:s.size ≤ 1050000) (h20:(nrO s).2.2.2 = 20) (hb0:s.size = 0 ∨ blB ((bytZ s).getD 0 0) = false) (hb1:s.size = 0 ∨ blB ((bytZ s).getD (s.size - 1) 0) = false) (depth:Int) (v:Vl) (q:Nat) (h:RdO (bytZ s) depth = .ok (v,q)):kdJ v ≠ 2 ∧ kdJ v ≠ 3:=by
 have hl:=bytZ_len s
 unfold RdO rdF whF at h
 cases h1:vrF (bytZ s) (nmO (bytZ s)) ((bytZ s).length + 1) (roomD depth) (blE (bytZ s) 0) with
 | error b => rw [h1] at h;cases h
 | ok b =>
  obtain ⟨u,p⟩:=b
  rw [h1] at h
  simp only [exB] at h
  split at h
  ·cases h
  rename_i g
  injection h with h
  injection h with e1 e2
  subst e1
  rw [vrF] at h1
  split at h1
  case isFalse => cases h1
  rename_i g0
  have h0:0 < s.size:=by have:=blE_le (Z:=bytZ s) (p:=0) (Nat.zero_le _);omega
  have hb:blE (bytZ s) 0 = 0:=blE_no (by omega) (hb0.resolve_left (by omega))
  rw [hb] at h1
  have wflat:∀ {v0:Vl} {l:List Int},(kdJ v0 ≠ 2 ∧ kdJ v0 ≠ 3) → wV v0 (wdF (bytZ s) l 0) = .ok (u,p) → kdJ u ≠ 2 ∧ kdJ u ≠ 3:=fun {v0 l} h0 hw => by
   cases h1:wdF (bytZ s) l 0 with
   | error b => rw [h1] at hw;cases hw
   | ok p1 =>
    rw [h1] at hw
    simp only [wV] at hw
    injection hw with hw
    injection hw with e1 e2
    rw [← e1]
    exact h0
  unfold dvF at h1
  split at h1
  ·exact wflat (by decide) h1
  split at h1
  ·exact wflat (by decide) h1
  split at h1
  ·exact wflat (by decide) h1
  split at h1
  ·cases h2:txR (bytZ s) 0 with
   | error b => rw [h2] at h1;cases h1
   | ok b =>
    rw [h2] at h1
    simp only [tV] at h1
    injection h1 with h1
    injection h1 with e1 e2
    rw [← e1]
    exact ⟨show (4:Int) ≠ 2 by decide,show (4:Int) ≠ 3 by decide⟩
  split at h1
  ·generalize brF (bytZ s) (stepL (vrF (bytZ s) (nmO (bytZ s)) (bytZ s).length (roomD depth - 1))) 93 (roomD depth) 0 [] = x at h1
   cases x with
   | error b => cases h1
   | ok b =>
    simp only [exB] at h1
    injection h1 with h1
    injection h1 with e1 e2
    rw [← e1]
    exact ⟨show (5:Int) ≠ 2 by decide,show (5:Int) ≠ 3 by decide⟩
  split at h1
  ·generalize brF (bytZ s) (stepO (bytZ s) (vrF (bytZ s) (nmO (bytZ s)) (bytZ s).length (roomD depth - 1))) 125 (roomD depth) 0 [] = x at h1
   cases x with
   | error b => cases h1
   | ok b =>
    simp only [exB] at h1
    injection h1 with h1
    injection h1 with e1 e2
    rw [← e1]
    exact ⟨show (6:Int) ≠ 2 by decide,show (6:Int) ≠ 3 by decide⟩
  ·exfalso
   unfold nmO at h1
   rw [if_pos (Nat.zero_le _)] at h1
   unfold numR numF at h1
   obtain ⟨q1,q2,q3,-,-,-,-,-⟩:=pfx_ok (bytZ s) 0 (Nat.zero_le _)
   split at h1
   ·cases h1
   rename_i gf
   split at h1
   case isFalse => cases h1
   rename_i g3
   injection h1 with h1
   injection h1 with e1 e2
   have hpl:p ≤ (bytZ s).length:=by omega
   have hpe:p = s.size:=by
    rcases Nat.lt_or_ge p (bytZ s).length with hlt | hge
    ·have:=blE_last hlt (by rw [hl];exact hb1.resolve_left (by omega))
     omega
    ·omega
   rw [e2,hpe] at g3
   have hst:strOfNums (pcZ (bytZ s) 0 s.size) = s:=by
    unfold pcZ
    rw [List.drop_zero,Nat.sub_zero,← hl,List.take_length,fto.str_bytZ]
   rw [hst,h20] at g3
   cases g3
end Go.Proofs.YtdogjghalplohaaGreatDoor.jin
