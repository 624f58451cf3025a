import Derived.Test.YtdogjghalplohaaGreatDoorJs34
import Derived.Test.YtdogjghalplohaaGreatDoorJs35
import Derived.Test.YtdogjghalplohaaGreatDoorJde3
namespace Go.Proofs.YtdogjghalplohaaGreatDoor.jin
open mem
open vl (Vl Vls Fls)
set_option linter.unusedVariables false
set_option linter.unusedSimpArgs false
theorem dp_nul:dp nulV = 0:=by unfold nulV dp;rfl
theorem dp_bool (b:Bool):dp (boolV b) = 0:=by unfold boolV dp;rfl
theorem dp_str (s:ByteArray):dp (strV s) = 0:=by unfold strV dp;rfl
theorem vrF_two {Z:List Int} {nm:Nat → Except (Nat × Int) (Vl × Nat)} (hnm:∀ p v p',nm p = .ok (v,p') → dp v = 0):∀ (f room q:Nat) (v:Vl) (p:Nat),vrF Z nm f room q = .ok (v,p) → dp v ≤ room ∧ ∀ room',(dp v ≤ room' → vrF Z nm f room' q = .ok (v,p)) ∧ (room' < dp v → ∃ k,vrF Z nm f room' q = .error (k,71) ∧ Opn Z k)
 | 0,room,q,v,p,h => by rw [vrF] at h;cases h
 | f + 1,room,q,v,p,h => by
  have ih:=fun room q v p => vrF_two (Z:=Z) hnm f room q v p
  have flat:∀ {X:Nat → Except (Nat × Int) (Vl × Nat)},dp v = 0 → (∀ r',X r' = .ok (v,p)) → dp v ≤ room ∧ ∀ room',(dp v ≤ room' → X room' = .ok (v,p)) ∧ (room' < dp v → ∃ k,X room' = .error (k,71) ∧ Opn Z k):=fun h0 hx => ⟨by omega,fun room' => ⟨fun _ => hx room',fun hr => by omega⟩⟩
  have wflat:∀ {v0:Vl} {l:List Int},dp v0 = 0 → wV v0 (wdF Z l q) = .ok (v,p) → dp v = 0:=fun {v0 l} h0 hw => by
   cases h1:wdF Z l q with
   | error b => rw [h1] at hw;cases hw
   | ok p1 =>
    rw [h1] at hw
    simp only [wV] at hw
    injection hw with hw
    injection hw with e1 e2
    rw [← e1]
    exact h0
  simp only [vrF] at h ⊢
  split at h
  case isFalse => cases h
  rename_i hq
  simp only [if_pos hq]
  unfold dvF at h ⊢
  split at h
  ·rename_i g1
   refine flat (wflat dp_nul h) (fun r' => ?_)
   rw [if_pos g1];exact h
  rename_i g1
  split at h
  ·rename_i g2
   refine flat (wflat (dp_bool _) h) (fun r' => ?_)
   rw [if_neg g1,if_pos g2];exact h
  rename_i g2
  split at h
  ·rename_i g3
   refine flat (wflat (dp_bool _) h) (fun r' => ?_)
   rw [if_neg g1,if_neg g2,if_pos g3];exact h
  rename_i g3
  split at h
  ·rename_i g4
   have h0:dp v = 0:=by
    cases h1:txR Z q with
    | error b => rw [h1] at h;cases h
    | ok b =>
     obtain ⟨s,p1⟩:=b
     rw [h1] at h
     simp only [tV] at h
     injection h with h
     injection h with e1 e2
     rw [← e1]
     exact dp_str s
   refine flat h0 (fun r' => ?_)
   rw [if_neg g1,if_neg g2,if_neg g3,if_pos g4];exact h
  rename_i g4
  split at h
  ·rename_i g5
   cases h1:brF Z (stepL (vrF Z nm f (room - 1))) 93 room q [] with
   | error b => rw [h1] at h;cases h
   | ok b =>
    obtain ⟨L,p1⟩:=b
    rw [h1] at h
    simp only [exB] at h
    injection h with h
    injection h with e1 e2
    subst e1
    subst e2
    have key:=fun room' => brF_two (step':=stepL (vrF Z nm f (room' - 1))) (room':=room') dpL (Opn Z) (by rfl) (show Opn Z q from ⟨hq,.inl g5⟩) (fun _ st q1 st' q' hs => by
     unfold stepL at hs ⊢
     cases h2:vrF Z nm f (room - 1) q1 with
     | error b => rw [h2] at hs;cases hs
     | ok b =>
      obtain ⟨u,q2⟩:=b
      rw [h2] at hs
      simp only [exB] at hs
      injection hs with hs
      injection hs with e1 e2
      subst e1
      subst e2
      obtain ⟨-,c⟩:=ih _ _ _ _ h2
      obtain ⟨c1,c2⟩:=c (room' - 1)
      rw [dpL_snoc]
      refine ⟨by omega,fun hr => by rw [c1 (by omega)];rfl,fun h0 hr => ?_⟩
      obtain ⟨k,k1,k2⟩:=c2 (by omega)
      exact ⟨k,by rw [k1];rfl,k2⟩) (fun _ st q1 st' q' h0 hs => by
     unfold stepL at hs
     cases h2:vrF Z nm f (room - 1) q1 with
     | error b => rw [h2] at hs;cases hs
     | ok b =>
      obtain ⟨u,q2⟩:=b
      rw [h2] at hs
      simp only [exB] at hs
      injection hs with hs
      injection hs with e1 e2
      subst e1
      obtain ⟨c0,-⟩:=ih _ _ _ _ h2
      rw [dpL_snoc]
      omega) h1
    rw [dp_list]
    refine ⟨(key 0).1,fun room' => ⟨fun hr => ?_,fun hr => ?_⟩⟩
    ·rw [if_neg g1,if_neg g2,if_neg g3,if_neg g4,if_pos g5,(key room').2.1 hr]
     rfl
    ·obtain ⟨k,k1,k2⟩:=(key room').2.2 hr
     exact ⟨k,by rw [if_neg g1,if_neg g2,if_neg g3,if_neg g4,if_pos g5,k1];rfl,k2⟩
  rename_i g5
  split at h
  ·rename_i g6
   cases h1:brF Z (stepO Z (vrF Z nm f (room - 1))) 125 room q [] with
   | error b => rw [h1] at h;cases h
   | ok b =>
    obtain ⟨L,p1⟩:=b
    rw [h1] at h
    simp only [exB] at h
    injection h with h
    injection h with e1 e2
    subst e1
    subst e2
    have stp:∀ (r:Nat) st q1 st' q',stepO Z (vrF Z nm f r) st q1 = .ok (st',q') → ∃ s qa u,txR Z q1 = .ok (s,qa) ∧ ¬ (st.map (·.1.data.toList)).contains s.data.toList = true ∧ (blE Z qa < Z.length ∧ Z.getD (blE Z qa) 0 = 58) ∧ vrF Z nm f r (blE Z (blE Z qa + 1)) = .ok (u,q') ∧ st' = st ++ [(s,u)]:=fun r st q1 st' q' hs => by
     unfold stepO at hs
     cases h2:txR Z q1 with
     | error b => rw [h2] at hs;cases hs
     | ok b =>
      obtain ⟨s,qa⟩:=b
      rw [h2] at hs
      simp only [exB] at hs
      split at hs
      ·cases hs
      rename_i gc
      split at hs
      case isFalse => cases hs
      rename_i gd
      cases h3:vrF Z nm f r (blE Z (blE Z qa + 1)) with
      | error b => rw [h3] at hs;cases hs
      | ok b =>
       obtain ⟨u,q2⟩:=b
       rw [h3] at hs
       simp only at hs
       injection hs with hs
       injection hs with e1 e2
       exact ⟨s,qa,u,rfl,gc,gd,by rw [← e2];exact h3,e1.symm⟩
    have key:=fun room' => brF_two (step':=stepO Z (vrF Z nm f (room' - 1))) (room':=room') dpF (Opn Z) (by rfl) (show Opn Z q from ⟨hq,.inr g6⟩) (fun _ st q1 st' q' hs => by
     obtain ⟨s,qa,u,t1,t2,t3,t4,rfl⟩:=stp _ _ _ _ _ hs
     obtain ⟨-,c⟩:=ih _ _ _ _ t4
     obtain ⟨c1,c2⟩:=c (room' - 1)
     rw [dpF_snoc]
     unfold stepO
     rw [t1]
     simp only [exB]
     refine ⟨by omega,fun hr => ?_,fun h0 hr => ?_⟩
     ·rw [if_neg t2,if_pos t3,c1 (by omega)]
     ·obtain ⟨k,k1,k2⟩:=c2 (by omega)
      exact ⟨k,by rw [if_neg t2,if_pos t3,k1],k2⟩) (fun _ st q1 st' q' h0 hs => by
     obtain ⟨s,qa,u,t1,t2,t3,t4,rfl⟩:=stp _ _ _ _ _ hs
     obtain ⟨c0,-⟩:=ih _ _ _ _ t4
     rw [dpF_snoc]
     simp only
     omega) h1
    rw [dp_obj]
    refine ⟨(key 0).1,fun room' => ⟨fun hr => ?_,fun hr => ?_⟩⟩
    ·rw [if_neg g1,if_neg g2,if_neg g3,if_neg g4,if_neg g5,if_pos g6,(key room').2.1 hr]
     rfl
    ·obtain ⟨k,k1,k2⟩:=(key room').2.2 hr
     exact ⟨k,by rw [if_neg g1,if_neg g2,if_neg g3,if_neg g4,if_neg g5,if_pos g6,k1];rfl,k2⟩
  rename_i g6
  refine flat (hnm _ _ _ h) (fun r' => ?_)
  rw [if_neg g1,if_neg g2,if_neg g3,if_neg g4,if_neg g5,if_neg g6];exact h
end Go.Proofs.YtdogjghalplohaaGreatDoor.jin
