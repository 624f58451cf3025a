import Derived.Test.YtdogjghalplohaaGreatDoorJs34
import Derived.Test.YtdogjghalplohaaGreatDoorJs35
import Derived.Test.YtdogjghalplohaaGreatDoorJde4
import Derived.Test.YtdogjghalplohaaGreatDoorJde2
namespace Go.Proofs.YtdogjghalplohaaGreatDoor.jin
open mem
open vl (Vl Vls Fls)
set_option linter.unusedVariables false
set_option linter.unusedSimpArgs false
theorem rdF_two {Z:List Int} {nm:Nat → Except (Nat × Int) (Vl × Nat)} (hnm:∀ p v p',nm p = .ok (v,p') → dp v = 0) {room:Nat} {v:Vl} {p:Nat} (h:rdF Z nm room = .ok (v,p)):dp v ≤ room ∧ ∀ room',(dp v ≤ room' → rdF Z nm room' = .ok (v,p)) ∧ (room' < dp v → ∃ k,rdF Z nm room' = .error (k,71) ∧ Opn Z k):=by
 unfold rdF whF at h ⊢
 cases h1:vrF Z nm (Z.length + 1) room (blE Z 0) with
 | error b => rw [h1] at h;cases h
 | ok b =>
  obtain ⟨u,p1⟩:=b
  rw [h1] at h
  simp only [exB] at h
  split at h
  ·cases h
  rename_i g
  injection h with h
  injection h with e1 e2
  subst e1
  subst e2
  obtain ⟨c0,c⟩:=vrF_two hnm _ _ _ _ _ h1
  refine ⟨c0,fun room' => ⟨fun hr => ?_,fun hr => ?_⟩⟩
  ·rw [(c room').1 hr]
   simp only [exB]
   rw [if_neg g]
  ·obtain ⟨k,k1,k2⟩:=(c room').2 hr
   exact ⟨k,by rw [k1];rfl,k2⟩
end Go.Proofs.YtdogjghalplohaaGreatDoor.jin
