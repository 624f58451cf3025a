import Derived.Test.YtdogjghalplohaaGreatDoorJs34
import Derived.Test.YtdogjghalplohaaGreatDoorJs35
import Derived.Test.YtdogjghalplohaaGreatDoorJde2
namespace Go.Proofs.YtdogjghalplohaaGreatDoor.jin
open mem
open vl (Vl Vls Fls)
set_option linter.unusedVariables false
set_option linter.unusedSimpArgs false
def dpL:List Vl → Nat
 | [] => 0
 | v :: r => max (dp v) (dpL r)
def dpF:List (ByteArray × Vl) → Nat
 | [] => 0
 | p :: r => max (dp p.2) (dpF r)
theorem dpI_of:∀ L:List Vl,dpI (Vls.of L) = dpL L
 | [] => by simp only [Vls.of];unfold dpI dpL;rfl
 | v :: r => by simp only [Vls.of];unfold dpI dpL;rw [dpI_of r]
theorem dpM_of:∀ F:List (ByteArray × Vl),dpM (flsOf F) = dpF F
 | [] => by unfold flsOf dpM dpF;rfl
 | p :: r => by unfold flsOf dpM dpF;rw [dpM_of r]
theorem dpL_snoc:∀ (L:List Vl) (v:Vl),dpL (L ++ [v]) = max (dpL L) (dp v)
 | [],v => by simp [dpL]
 | u :: r,v => by rw [List.cons_append];unfold dpL;rw [dpL_snoc r v];omega
theorem dpF_snoc:∀ (F:List (ByteArray × Vl)) (p:ByteArray × Vl),dpF (F ++ [p]) = max (dpF F) (dp p.2)
 | [],p => by simp [dpF]
 | u :: r,p => by rw [List.cons_append];unfold dpF;rw [dpF_snoc r p];omega
theorem dp_list (L:List Vl):dp (listV L) = dpL L + 1:=by unfold listV dp;rw [if_pos rfl,dpI_of]
theorem dp_obj (F:List (ByteArray × Vl)):dp (objV F) = dpF F + 1:=by unfold objV dp;rw [if_neg (by decide),if_pos rfl,dpM_of]
section
variable {σ:Type} {Z:List Int}
theorem elF_inv {step:σ → Nat → Except (Nat × Int) (σ × Nat)} {shut:Int} (I:σ → Prop) (H:∀ st q st' q',I st → step st q = .ok (st',q') → I st'):∀ f st q st' q',I st → elF Z step shut f st q = .ok (st',q') → I st'
 | 0,st,q,st',q',hi,h => by rw [elF] at h;cases h
 | f + 1,st,q,st',q',hi,h => by
  rw [elF] at h
  cases h1:step st q with
  | error b => rw [h1] at h;cases h
  | ok b =>
   obtain ⟨s1,q1⟩:=b
   rw [h1] at h
   have i1:=H _ _ _ _ hi h1
   simp only [exB] at h
   split at h
   ·split at h
    ·exact elF_inv I H f _ _ _ _ i1 h
    ·split at h
     ·injection h with h
      injection h with e1 e2
      subst e1
      exact i1
     ·cases h
   ·cases h
theorem elF_two {step step':σ → Nat → Except (Nat × Int) (σ × Nat)} {shut:Int} (D:σ → Nat) (r:Nat) (G:Nat → Prop)
  (H:∀ st q st' q',step st q = .ok (st',q') → D st ≤ D st' ∧ (D st' ≤ r → step' st q = .ok (st',q')) ∧ (D st ≤ r → r < D st' → ∃ k,step' st q = .error (k,71) ∧ G k)) :
  ∀ f st q st' q',elF Z step shut f st q = .ok (st',q') → D st ≤ D st' ∧ (D st' ≤ r → elF Z step' shut f st q = .ok (st',q')) ∧ (D st ≤ r → r < D st' → ∃ k,elF Z step' shut f st q = .error (k,71) ∧ G k)
 | 0,st,q,st',q',h => by rw [elF] at h;cases h
 | f + 1,st,q,st',q',h => by
  rw [elF] at h
  cases h1:step st q with
  | error b => rw [h1] at h;cases h
  | ok b =>
   obtain ⟨s1,q1⟩:=b
   rw [h1] at h
   obtain ⟨a1,a2,a3⟩:=H _ _ _ _ h1
   simp only [exB] at h
   rw [elF]
   split at h
   case isFalse => cases h
   rename_i g1
   split at h
   ·rename_i g2
    obtain ⟨b1,b2,b3⟩:=elF_two D r G H f _ _ _ _ h
    refine ⟨by omega,fun hr => ?_,fun h0 hr => ?_⟩
    ·rw [a2 (by omega)]
     simp only [exB]
     rw [if_pos g1,if_pos g2]
     exact b2 hr
    ·by_cases hs:D s1 ≤ r
     ·rw [a2 hs]
      simp only [exB]
      rw [if_pos g1,if_pos g2]
      exact b3 hs hr
     ·obtain ⟨k,e1,e2⟩:=a3 h0 (by omega)
      exact ⟨k,by rw [e1];rfl,e2⟩
   ·rename_i g2
    split at h
    ·rename_i g3
     injection h with h
     injection h with e1 e2
     subst e1
     subst e2
     refine ⟨a1,fun hr => ?_,fun h0 hr => ?_⟩
     ·rw [a2 hr]
      simp only [exB]
      rw [if_pos g1,if_neg g2,if_pos g3]
     ·obtain ⟨k,e1,e2⟩:=a3 h0 hr
      exact ⟨k,by rw [e1];rfl,e2⟩
    ·cases h
theorem brF_two {step step':σ → Nat → Except (Nat × Int) (σ × Nat)} {shut:Int} (D:σ → Nat) (G:Nat → Prop) {room room' q:Nat} {st:σ} (h0:D st = 0) (hG:G q)
  (H:room' ≠ 0 → ∀ st q st' q',step st q = .ok (st',q') → D st ≤ D st' ∧ (D st' ≤ room' - 1 → step' st q = .ok (st',q')) ∧ (D st ≤ room' - 1 → room' - 1 < D st' → ∃ k,step' st q = .error (k,71) ∧ G k))
  (HI:room ≠ 0 → ∀ st q st' q',D st ≤ room - 1 → step st q = .ok (st',q') → D st' ≤ room - 1) {st':σ} {p:Nat} (h:brF Z step shut room q st = .ok (st',p)) :
  D st' + 1 ≤ room ∧ (D st' + 1 ≤ room' → brF Z step' shut room' q st = .ok (st',p)) ∧ (room' < D st' + 1 → ∃ k,brF Z step' shut room' q st = .error (k,71) ∧ G k):=by
 unfold brF at h ⊢
 split at h
 ·cases h
 rename_i g0
 split at h
 case isFalse => cases h
 rename_i g1
 split at h
 ·rename_i g2
  injection h with h
  injection h with e1 e2
  subst e1
  subst e2
  refine ⟨by omega,fun hr => ?_,fun hr => ?_⟩
  ·rw [if_neg (by omega),if_pos g1,if_pos g2]
  ·exact ⟨q,by rw [if_pos (by omega)],hG⟩
 ·rename_i g2
  cases h1:elF Z step shut (Z.length + 1) st (blE Z (q + 1)) with
  | error b => rw [h1] at h;cases h
  | ok b =>
   obtain ⟨s1,q1⟩:=b
   rw [h1] at h
   simp only [exB] at h
   injection h with h
   injection h with e1 e2
   subst e1
   subst e2
   have i1:=elF_inv (fun s => D s ≤ room - 1) (HI g0) _ _ _ _ _ (by omega) h1
   refine ⟨by omega,fun hr => ?_,fun hr => ?_⟩
   ·obtain ⟨-,b2,-⟩:=elF_two D (room' - 1) G (H (by omega)) _ _ _ _ _ h1
    rw [if_neg (by omega),if_pos g1,if_neg g2,b2 (by omega)]
    rfl
   ·by_cases hz:room' = 0
    ·exact ⟨q,by rw [if_pos hz],hG⟩
    ·obtain ⟨-,-,b3⟩:=elF_two D (room' - 1) G (H hz) _ _ _ _ _ h1
     obtain ⟨k,e1,e2⟩:=b3 (by omega) (by omega)
     exact ⟨k,by rw [if_neg hz,if_pos g1,if_neg g2,e1];rfl,e2⟩
end
end Go.Proofs.YtdogjghalplohaaGreatDoor.jin
