import Derived.Test.YtdogjghalplohaaGreatDoorJs3
import Derived.Test.YtdogjghalplohaaGreatDoorRows
import Derived.WalkKit
import Derived.ProofKit
import Derived.OpenShut
import Derived.ShutString
import Derived.Below
import Derived.SizedLaws
import Derived.Deep.Strs
import Derived.Deep.MidRow
import Derived.Deep.WholeRow
import Derived.Lib.SliceRun
import Derived.Laws.OwnMore
import Derived.Outline
import Derived.Laws.Pointers
import Derived.Laws.Rows
import Derived.Deep.RegionHeld3
namespace Go.Proofs.YtdogjghalplohaaGreatDoor.jin
open Go.ChangeShapes Go.WideShapes Go.ChangeAt Go.RowKit
open mem
open ints (hide unhide hexV)
set_option linter.unusedVariables false
set_option linter.unusedSimpArgs false
section pure
variable {σ:Type}
def elF (Z:List Int) (step:σ → Nat → Except (Nat × Int) (σ × Nat)) (shut:Int):Nat → σ → Nat → Except (Nat × Int) (σ × Nat)
 | 0,_,q => .error (q,50)
 | f + 1,st,q => exB (fun st' q' => if blE Z q' < Z.length then (if Z.getD (blE Z q') 0 = 44 then elF Z step shut f st' (blE Z (blE Z q' + 1)) else if Z.getD (blE Z q') 0 = shut then .ok (st',blE Z q') else .error (blE Z q',50)) else .error (blE Z q',50)) (step st q)
def brF (Z:List Int) (step:σ → Nat → Except (Nat × Int) (σ × Nat)) (shut:Int) (room q:Nat) (st:σ):Except (Nat × Int) (σ × Nat):=
 if room = 0 then .error (q,71) else
 if blE Z (q + 1) < Z.length then (if Z.getD (blE Z (q + 1)) 0 = shut then .ok (st,blE Z (q + 1) + 1) else exB (fun st' p => .ok (st',p + 1)) (elF Z step shut (Z.length + 1) st (blE Z (q + 1)))) else .error (blE Z (q + 1),50)
end pure
section
variable {R:Nat} {a:Option Addr} {n c:Nat} {Z:List Int} {q room:Nat} {w:World}
def ElP {σ:Type} (R:Nat) (a:Option Addr) (n c:Nat) (Z:List Int) (room:Nat) (w0:World) (I:σ → Nat → World → Prop) (o:Except (Nat × Int) (σ × Nat)) (e:Ending) (w':World):Prop:=
 match o with
 | .ok (st,q) => e = .returned (.tuple #[]) ∧ Kp R w0 w' ∧ Rs R a n c Z q room w' ∧ I st q w'
 | .error (p,k) => e = .panicked (rfP p k) ∧ Kp R w0 w'
theorem ElP.ways {σ:Type} {w0:World} {I:σ → Nat → World → Prop} {o:Except (Nat × Int) (σ × Nat)} {e:Ending} {w':World} (h:ElP R a n c Z room w0 I o e w'):(∃ st q',o = .ok (st,q') ∧ e = .returned (.tuple #[]) ∧ Kp R w0 w' ∧ Rs R a n c Z q' room w' ∧ I st q' w') ∨ (∃ p k,o = .error (p,k) ∧ e = .panicked (rfP p k) ∧ Kp R w0 w'):=by
 cases o with
 | error b => obtain ⟨p,k⟩:=b;exact .inr ⟨p,k,rfl,h.1,h.2⟩
 | ok b => obtain ⟨v,q'⟩:=b;exact .inl ⟨v,q',rfl,h.1,h.2.1,h.2.2.1,h.2.2.2⟩
theorem ElP.err {σ:Type} {w0:World} {I:σ → Nat → World → Prop} {o:Except (Nat × Int) (σ × Nat)} {p:Nat} {k:Int} {w':World} (h:o = .error (p,k)) (hK:Kp R w0 w'):ElP R a n c Z room w0 I o (.panicked (rfP p k)) w':=by
 subst h
 exact ⟨rfl,hK⟩
theorem ElP.val {σ:Type} {w0:World} {I:σ → Nat → World → Prop} {o:Except (Nat × Int) (σ × Nat)} {st:σ} {q':Nat} {w':World} (h:o = .ok (st,q')) (hK:Kp R w0 w') (hR:Rs R a n c Z q' room w') (hI:I st q' w'):ElP R a n c Z room w0 I o (.returned (.tuple #[])) w':=by
 subst h
 exact ⟨rfl,hK,hR,hI⟩
set_option maxHeartbeats 4000000 in
set_option maxRecDepth 100000 in
theorem elements_ok {σ:Type} (w0:World) (I:σ → Nat → World → Prop) (hI:∀ st p p' u u',p ≤ p' → Kp R u u' → I st p u → I st p' u') (step:σ → Nat → Except (Nat × Int) (σ × Nat)) (hs:∀ st q st' q',step st q = .ok (st',q') → q < q' ∧ q' ≤ Z.length) (shut:Int) (fn:FuncId) (hen:∀ args w,(callFunc fn args).run Tryz.prog w = .ok (.enter fn args) w) (caps:Array Value) (q1:Nat)
  (hE:∀ st q u,q1 ≤ q → Kp R w0 u → Rs R a n c Z q room u → I st q u → Calls Tryz.prog fn caps u (ElP R a n c Z room w0 I (step st q)))
  (st:σ) (hq1:q1 ≤ q) (hK:Kp R w0 w) (hR:Rs R a n c Z q room w) (hst:I st q w) :
  Calls Tryz.prog 136 #[.pointer (some ⟨R,0,none⟩),.int .u8 shut,.func (.func fn) #[] caps] w (ElP R a n c Z room w0 I (elF Z step shut (Z.length + 1) st q)):=by
 have hl:=hR.len
 have hf:=hR.fits
 have hq:=hR.le
 obtain ⟨P,hP⟩:∃ P,P = ElP R a n c Z room w0 I (elF Z step shut (Z.length + 1) st q):=⟨_,rfl⟩
 rw [← hP]
 obtain ⟨T,hT⟩:∃ T,T = elF Z step shut (n + 1) st q:=⟨_,rfl⟩
 have HP:=hide (show P = ElP R a n c Z room w0 I T by rw [hP,hT,hl])
 have HT:=hide hT
 have HK:=hide hK
 have HR:=hide hR
 have HS:=hide hst
 have HE:=hide hE
 have HI:=hide hI
 have Hs:=hide hs
 clear hP hT hK hR hst hE hI hs
 go_enter Tryz.func136,Tryz.ntmps136
 go_step3
 go_wp2
 go_step3
 go_wp2
 go_loopw [] (fun wr => ∃ (p f:Nat) (s:σ),q1 ≤ p ∧ p ≤ n ∧ n + 1 ≤ f + p ∧ Hid (T = elF Z step shut f s p) ∧ Hid (Kp R w0 wr) ∧ Hid (Rs R a n c Z p room wr) ∧ Hid (I s p wr)) (fun wr => match wr.cell? ⟨R,1,none⟩ with | some (.int .i64 k) => n - k.toNat | _ => 0)
 case atStart => exact ⟨q,n + 1,st,hq1,hq,by omega,HT,HK,HR,HS⟩
 case round =>
  clear HT HK HR HS
  obtain ⟨p,f,s,hqp,hpn,hfp,hT,hK,hR,hS⟩:=hrel
  obtain ⟨g,rfl⟩:∃ g,f = g + 1:=⟨f - 1,by omega⟩
  have hT:=unhide hT
  rw [elF] at hT
  have HT:=hide hT
  have EL:=hide (unhide HE s p wr hqp (unhide hK) (unhide hR) (unhide hS))
  have HR0:=hR
  clear hT hK hR hS
  go_wp2_with fail
  refine (unhide EL).mono ?_
  intro e w1 hr
  clear EL
  rcases ElP.ways hr with ⟨s',q',ho,rfl,hK,hR,hS⟩ | ⟨x,k,ho,rfl,hK⟩
  ·obtain ⟨s1,s2⟩:=unhide Hs _ _ _ _ ho
   obtain ⟨E,hEb⟩:∃ E,E = blE Z q':=⟨_,rfl⟩
   have hble:=blE_le (Z:=Z) (p:=q') s2
   rw [← hEb] at hble
   have HT1:=hide (show T = if E < Z.length then (if Z.getD E 0 = 44 then elF Z step shut g s' (blE Z (E + 1)) else if Z.getD E 0 = shut then .ok (s',E) else .error (E,50)) else .error (E,50) by rw [unhide HT,ho,hEb];rfl)
   have BL:=hide (show Calls Tryz.prog 38 #[.pointer (some ⟨R,0,none⟩)] w1 fun e w' => e = .returned (.tuple #[]) ∧ Kp R w1 w' ∧ Rs R a n c Z E room w' by rw [hEb];exact blanks_ok hR)
   have HK:=hide hK
   have HS:=hide hS
   clear hr ho hK hR hS HT hEb
   go_wp2_with fail
   refine (unhide BL).mono ?_
   rintro e w2 ⟨rfl,hK2,hR2⟩
   have HK2:=hide ((unhide HK).trans hK2)
   have HS2:=hide (unhide HI _ _ E _ _ (by omega) hK2 (unhide HS))
   have HR2:=hide hR2
   clear BL hK2 hR2 HK HS
   by_cases hE1:E < n
   ·have PK:=hide (peek_ok (unhide HR2) hE1)
    have HT2:=hide (show T = if Z.getD E 0 = 44 then elF Z step shut g s' (blE Z (E + 1)) else if Z.getD E 0 = shut then .ok (s',E) else .error (E,50) by rw [unhide HT1,if_pos (by omega)])
    generalize Z.getD E 0 = z at *
    clear HT1
    by_cases h44:z = 44
    ·subst h44
     have HT3:=hide (show T = elF Z step shut g s' (blE Z (E + 1)) by rw [unhide HT2,if_pos rfl])
     have hE2:E + 1 ≤ n:=by omega
     have hb2:=blE_le (Z:=Z) (p:=E + 1) (by omega)
     clear HT2
     go_wp2_with fail
     refine (unhide PK).mono ?_
     rintro e w3 ⟨rfl,k3,rfl⟩
     have c1:=((unhide HR2).drewN k3).c1
     have z1:=((unhide HR2).drewN k3).z 1
     go_wp2_with fail
     refine (blanks_ok (((unhide HR2).drewN k3).setQ (E + 1) hE2)).mono ?_
     rintro e w4 ⟨rfl,hK4,hR4⟩
     have kk:=((Kp.refl R w2).drewN k3).setCell 1 (.int .i64 (E + 1:Nat))
     have HK4:=hide (((unhide HK2).trans kk).trans hK4)
     have HS4:=hide (unhide HI _ _ (blE Z (E + 1)) _ _ (by omega) (kk.trans hK4) (unhide HS2))
     have HR4:=hide hR4
     clear kk hK4 hR4 c1 z1 PK HK2 HS2 HR2
     generalize blE Z (E + 1) = E2 at *
     go_wp2
     go_roundw
     case rel => exact ⟨E2,g,s',by omega,by omega,by omega,HT3,HK4,HR4,HS4⟩
     case measure =>
      have x1:=(unhide HR4).c1
      have x2:=(unhide HR0).c1
      simp [x1,x2]
      omega
    ·by_cases hz:z = shut
     ·subst hz
      have HT3:=hide (show T = .ok (s',E) by rw [unhide HT2,if_neg h44,if_pos rfl])
      clear HT2
      go_wp2_with fail
      refine (unhide PK).mono ?_
      rintro e w3 ⟨rfl,k3,rfl⟩
      go_wp2
      try simp only [Exit.inBlock,Exit.then,Exit.noGoto_normal]
      try go_end0
      rw [unhide HP]
      exact ElP.val (unhide HT3) ((unhide HK2).drewN k3) ((unhide HR2).drewN k3) (unhide HI _ _ _ _ _ (Nat.le_refl _) ((Kp.refl R w2).drewN k3) (unhide HS2))
     ·have HT3:=hide (show T = .error (E,50) by rw [unhide HT2,if_neg h44,if_neg hz])
      clear HT2
      go_wp2_with fail
      refine (unhide PK).mono ?_
      rintro e w3 ⟨rfl,k3,rfl⟩
      go_wp2_with fail
      refine (stop_ok ((unhide HR2).drewN k3)).mono ?_
      rintro e w4 ⟨rfl,rfl⟩
      go_wp2
      exact ⟨rfl,by rw [unhide HP];exact ElP.err (unhide HT3) ((unhide HK2).drewN k3)⟩
   ·have PE:=hide (peek_end (unhide HR2) (by omega))
    have HT3:=hide (show T = .error (E,50) by rw [unhide HT1,if_neg (by omega)])
    clear HT1
    go_wp2_with fail
    refine (unhide PE).mono ?_
    rintro e w3 ⟨rfl,k3,rfl⟩
    go_wp2
    exact ⟨rfl,by rw [unhide HP];exact ElP.err (unhide HT3) ((unhide HK2).drewN k3)⟩
  ·have HT3:=hide (show T = .error (x,k) by rw [unhide HT,ho];rfl)
   have HK:=hide hK
   clear ho hK hr HT
   go_wp2
   exact ⟨rfl,by rw [unhide HP];exact ElP.err (unhide HT3) (unhide HK)⟩
end
end Go.Proofs.YtdogjghalplohaaGreatDoor.jin
namespace Go.Proofs.YtdogjghalplohaaGreatDoor.jin
open Go.ChangeShapes Go.WideShapes Go.ChangeAt Go.RowKit
open mem
open ints (hide unhide hexV)
set_option linter.unusedVariables false
set_option linter.unusedSimpArgs false
theorem elF_end {σ:Type} {Z:List Int} {step:σ → Nat → Except (Nat × Int) (σ × Nat)} {shut:Int} (hs:∀ st q st' q',step st q = .ok (st',q') → q < q' ∧ q' ≤ Z.length):∀ {f:Nat} {st:σ} {q:Nat} {st':σ} {p:Nat},elF Z step shut f st q = .ok (st',p) → q < p ∧ p < Z.length ∧ Z.getD p 0 = shut
 | 0,st,q,st',p,h => by rw [elF] at h;cases h
 | f + 1,st,q,st',p,h => by
  rw [elF] at h
  cases h1:step st q with
  | error b => rw [h1] at h;cases h
  | ok b =>
   obtain ⟨s1,q1⟩:=b
   rw [h1] at h
   obtain ⟨a1,a2⟩:=hs _ _ _ _ h1
   have hb:=blE_le (Z:=Z) (p:=q1) a2
   simp only [exB] at h
   split at h
   ·rename_i hlt
    split at h
    ·have hb2:=blE_le (Z:=Z) (p:=blE Z q1 + 1) (by omega)
     obtain ⟨c1,c2,c3⟩:=elF_end hs h
     exact ⟨by omega,c2,c3⟩
    ·split at h
     ·rename_i hz
      injection h with h
      injection h with e1 e2
      subst e2
      exact ⟨by omega,hlt,hz⟩
     ·cases h
   ·cases h
theorem brF_pos {σ:Type} {Z:List Int} {step:σ → Nat → Except (Nat × Int) (σ × Nat)} {shut:Int} (hs:∀ st q st' q',step st q = .ok (st',q') → q < q' ∧ q' ≤ Z.length) {room q:Nat} {st st':σ} {p:Nat} (hq:q < Z.length) (h:brF Z step shut room q st = .ok (st',p)):q + 1 < p ∧ p ≤ Z.length:=by
 unfold brF at h
 have hb:=blE_le (Z:=Z) (p:=q + 1) (by omega)
 split at h
 ·cases h
 split at h
 case isFalse => cases h
 split at h
 ·injection h with h
  injection h with e1 e2
  omega
 ·cases h1:elF Z step shut (Z.length + 1) st (blE Z (q + 1)) with
  | error b => rw [h1] at h;cases h
  | ok b =>
   obtain ⟨s1,q1⟩:=b
   rw [h1] at h
   obtain ⟨c1,c2,-⟩:=elF_end hs h1
   simp only [exB] at h
   injection h with h
   injection h with e1 e2
   omega
theorem bytesZ_atJ (s:ByteArray) (k:Nat) (h:k < s.size):(bytesZ s).getD k 0 = ((s[k]'h).toNat:Int):=by
 unfold bytesZ
 rw [List.getD_eq_getElem?_getD,List.getElem?_map,Array.getElem?_toList,Array.getElem?_eq_getElem (show k < s.data.size from h)]
 rfl
section
variable {R:Nat} {a:Option Addr} {n c:Nat} {Z:List Int} {q room:Nat} {w:World}
set_option maxHeartbeats 4000000 in
set_option maxRecDepth 100000 in
theorem bracketed_ok {σ:Type} (w0:World) (I:σ → Nat → World → Prop) (hI:∀ st p p' u u',p ≤ p' → Kp R u u' → I st p u → I st p' u') (step:σ → Nat → Except (Nat × Int) (σ × Nat)) (hs:∀ st q st' q',step st q = .ok (st',q') → q < q' ∧ q' ≤ Z.length) (shut:Int) (fn:FuncId) (hen:∀ args w,(callFunc fn args).run Tryz.prog w = .ok (.enter fn args) w) (caps:Array Value)
  (hE:∀ st p u,q < p → room ≠ 0 → Kp R w0 u → Rs R a n c Z p (room - 1) u → I st p u → Calls Tryz.prog fn caps u (ElP R a n c Z (room - 1) w0 I (step st p)))
  (st:σ) (hq:q < n) (hroom:room ≤ 200) (hK:Kp R w0 w) (hR:Rs R a n c Z q room w) (hst:I st q w) :
  Calls Tryz.prog 112 #[.pointer (some ⟨R,0,none⟩),.int .u8 shut,.func (.func fn) #[] caps] w (ElP R a n c Z room w0 I (brF Z step shut room q st)):=by
 have hl:=hR.len
 have hf:=hR.fits
 obtain ⟨P,hP⟩:∃ P,P = ElP R a n c Z room w0 I (brF Z step shut room q st):=⟨_,rfl⟩
 rw [← hP]
 have HP:=hide hP
 have HK:=hide hK
 have HR:=hide hR
 have HS:=hide hst
 have HE:=hide hE
 have HI:=hide hI
 have Hs:=hide hs
 have c1:=hR.c1
 have c2:=hR.c2
 clear hP hK hR hst hE hI hs
 by_cases h0:room = 0
 ·subst h0
  have HPx:=hide (show P = ElP R a n c Z 0 w0 I (.error (q,71)) by rw [unhide HP,brF,if_pos rfl])
  clear HP HE
  go_enter Tryz.func112,Tryz.ntmps112
  go_wp2_with fail
  refine (refuse_ok _ 71 w).mono ?_
  rintro e w1 ⟨rfl,rfl⟩
  go_wp2
  exact ⟨rfl,by rw [unhide HPx];exact ElP.err rfl (unhide HK)⟩
 ·obtain ⟨r,rfl⟩:∃ r,room = r + 1:=⟨room - 1,by omega⟩
  have hq1:q + 1 ≤ n:=hq
  obtain ⟨E,hEb⟩:∃ E,E = blE Z (q + 1):=⟨_,rfl⟩
  have hble:=blE_le (Z:=Z) (p:=q + 1) (by omega)
  rw [← hEb] at hble
  have HPx:=hide (show P = ElP R a n c Z (r + 1) w0 I (if E < Z.length then (if Z.getD E 0 = shut then .ok (st,E + 1) else exB (fun st' p => .ok (st',p + 1)) (elF Z step shut (Z.length + 1) st E)) else .error (E,50)) by rw [unhide HP,brF,if_neg h0,hEb])
  have z1:=(unhide HR).z 1
  have z2:=(unhide HR).z 2
  have hR1:=((unhide HR).setRoom r).setQ (q + 1) hq1
  have kk:=((Kp.refl R w).setCell 2 (.int .i64 (r:Nat))).setCell 1 (.int .i64 (q + 1:Nat))
  have BL:=hide (show Calls Tryz.prog 38 #[.pointer (some ⟨R,0,none⟩)] ((w.setCell ⟨R,2,none⟩ (.int .i64 (r:Nat))).setCell ⟨R,1,none⟩ (.int .i64 (q + 1:Nat))) fun e w' => e = .returned (.tuple #[]) ∧ Kp R ((w.setCell ⟨R,2,none⟩ (.int .i64 (r:Nat))).setCell ⟨R,1,none⟩ (.int .i64 (q + 1:Nat))) w' ∧ Rs R a n c Z E r w' by rw [hEb];exact blanks_ok hR1)
  have KK:=hide kk
  have c12:=((unhide HR).setRoom r).c1
  have z12:=((unhide HR).setRoom r).z 1
  clear HP hEb hR1 kk h0
  go_enter Tryz.func112,Tryz.ntmps112
  go_wp2_with fail
  refine (unhide BL).mono ?_
  rintro e w2 ⟨rfl,hK2,hR2⟩
  have HK2:=hide (((unhide HK).trans (unhide KK)).trans hK2)
  have HS2:=hide (unhide HI _ _ E _ _ (by omega) ((unhide KK).trans hK2) (unhide HS))
  have HR2:=hide hR2
  clear BL hK2 hR2 HK HS KK c1 c2 z1 z2 c12 z12
  by_cases hE1:E < n
  ·have PK:=hide (peek_ok (unhide HR2) hE1)
   by_cases hz:Z.getD E 0 = shut
   ·have HT:=hide (show (if E < Z.length then (if Z.getD E 0 = shut then .ok (st,E + 1) else exB (fun st' p => .ok (st',p + 1)) (elF Z step shut (Z.length + 1) st E)) else .error (E,50)) = Except.ok (st,E + 1) by rw [if_pos (by omega),if_pos hz])
    have HZ:=hide hz
    rw [hz] at PK
    clear hz
    go_wp2_with fail
    refine (unhide PK).mono ?_
    rintro e w3 ⟨rfl,k3,rfl⟩
    go_wp2_with fail
    refine (pass_ok ((unhide HR2).drewN k3) hE1 shut (unhide HZ)).mono ?_
    rintro e w4 ⟨rfl,hK4,hR4⟩
    have kk4:=((Kp.refl R w2).drewN k3).trans hK4
    have HK5:=hide ((unhide HK2).trans kk4)
    have HR5:=hide hR4
    have HS5:=hide (unhide HI _ _ (E + 1) _ _ (by omega) kk4 (unhide HS2))
    clear hK4 hR4 kk4 PK HK2 HR2 HS2
    have c2':=(unhide HR5).c2
    have z2':=(unhide HR5).z 2
    go_wp2
    try go_end0
    rw [unhide HPx]
    exact ElP.val (unhide HT) ((unhide HK5).setCell 2 _) ((unhide HR5).setRoom (r + 1)) (unhide HI _ _ _ _ _ (Nat.le_refl _) ((Kp.refl R _).setCell 2 _) (unhide HS5))
   ·have HT:=hide (show (if E < Z.length then (if Z.getD E 0 = shut then .ok (st,E + 1) else exB (fun st' p => .ok (st',p + 1)) (elF Z step shut (Z.length + 1) st E)) else .error (E,50)) = exB (fun st' p => Except.ok (st',p + 1)) (elF Z step shut (Z.length + 1) st E) by rw [if_pos (by omega),if_neg hz])
    have hne:Z.getD E 0 ≠ shut:=hz
    obtain ⟨z,hzz⟩:∃ z,z = Z.getD E 0:=⟨_,rfl⟩
    rw [← hzz] at PK hne
    clear hz hzz
    go_wp2_with fail
    refine (unhide PK).mono ?_
    rintro e w3 ⟨rfl,k3,rfl⟩
    go_wp2_with fail
    refine (elements_ok w0 I (unhide HI) step (unhide Hs) shut fn hen caps E (fun st p u hp hk hr hi => unhide HE st p u (by omega) (by omega) hk hr hi) st (Nat.le_refl _) ((unhide HK2).drewN k3) ((unhide HR2).drewN k3) (unhide HI _ _ _ _ _ (Nat.le_refl _) ((Kp.refl R w2).drewN k3) (unhide HS2))).mono ?_
    intro e w4 hr
    clear PK HK2 HR2 HS2 HE
    rcases ElP.ways hr with ⟨s',p',ho,rfl,hK,hR,hS⟩ | ⟨x,k,ho,rfl,hK⟩
    ·obtain ⟨e1,e2,e3⟩:=elF_end (unhide Hs) ho
     have HT2:=hide (show (if E < Z.length then (if Z.getD E 0 = shut then .ok (st,E + 1) else exB (fun st' p => .ok (st',p + 1)) (elF Z step shut (Z.length + 1) st E)) else .error (E,50)) = Except.ok (s',p' + 1) by rw [unhide HT,ho];rfl)
     have HK4:=hide hK
     have HS4:=hide hS
     have PP:=hide (pass_ok hR (by omega) shut e3)
     clear hr ho hK hR hS HT e3
     go_wp2_with fail
     refine (unhide PP).mono ?_
     rintro e w5 ⟨rfl,hK5,hR5⟩
     have HK5:=hide ((unhide HK4).trans hK5)
     have HR5:=hide hR5
     have HS5:=hide (unhide HI _ _ (p' + 1) _ _ (by omega) hK5 (unhide HS4))
     clear hK5 hR5 PP HK4 HS4
     have c2':=(unhide HR5).c2
     have z2':=(unhide HR5).z 2
     go_wp2
     try go_end0
     rw [unhide HPx]
     exact ElP.val (unhide HT2) ((unhide HK5).setCell 2 _) ((unhide HR5).setRoom (r + 1)) (unhide HI _ _ _ _ _ (Nat.le_refl _) ((Kp.refl R _).setCell 2 _) (unhide HS5))
    ·have HT2:=hide (show (if E < Z.length then (if Z.getD E 0 = shut then .ok (st,E + 1) else exB (fun st' p => .ok (st',p + 1)) (elF Z step shut (Z.length + 1) st E)) else .error (E,50)) = Except.error (x,k) by rw [unhide HT,ho];rfl)
     have HK4:=hide hK
     clear hr ho hK HT
     go_wp2
     exact ⟨rfl,by rw [unhide HPx];exact ElP.err (unhide HT2) (unhide HK4)⟩
  ·have PE:=hide (peek_end (unhide HR2) (by omega))
   have HT:=hide (show (if E < Z.length then (if Z.getD E 0 = shut then .ok (st,E + 1) else exB (fun st' p => .ok (st',p + 1)) (elF Z step shut (Z.length + 1) st E)) else .error (E,50)) = Except.error (E,50) by rw [if_neg (by omega)])
   go_wp2_with fail
   refine (unhide PE).mono ?_
   rintro e w3 ⟨rfl,k3,rfl⟩
   go_wp2
   exact ⟨rfl,by rw [unhide HPx];exact ElP.err (unhide HT) ((unhide HK2).drewN k3)⟩
theorem word_ok (s:ByteArray) (hs:s.size ≤ 1000) (h:Rs R a n c Z q room w):Calls Tryz.prog 78 #[.pointer (some ⟨R,0,none⟩),.string s] w (Res R a n c Z room w (mapV (fun _:Unit => .tuple #[]) (match wdF Z (bytesZ s) q with | .ok p => .ok ((),p) | .error b => .error b))):=by
 obtain ⟨D,hD⟩:∃ D,D = wdF Z (bytesZ s) q:=⟨_,rfl⟩
 obtain ⟨P,hP⟩:∃ P,P = Res R a n c Z room w (mapV (fun _:Unit => Value.tuple #[]) (match D with | .ok p => .ok ((),p) | .error b => .error b)):=⟨_,rfl⟩
 rw [← hD,← hP]
 have HP:=hide hP
 have HD:=hide hD
 have H:=hide h
 clear hP hD h
 go_enter Tryz.func78,Tryz.ntmps78
 go_wp2_with fail
 go_loopw [7] (fun v wr => ∃ (k p:Nat),k ≤ s.size ∧ v = .int .i64 k ∧ Hid (D = wdF Z ((bytesZ s).drop k) p) ∧ Hid (Kp R w wr) ∧ Hid (Rs R a n c Z p room wr)) (fun v _ => s.size - (intOf v).toNat)
 case atStart => exact ⟨0,q,Nat.zero_le _,rfl,HD,hide (Kp.refl R w),H⟩
 case round =>
  clear HD H
  obtain ⟨k,p,hk,rfl,hD,hK,hR⟩:=hrel
  by_cases hlt:k < s.size
  ·have ki:(k:Int) < (s.size:Int):=by omega
   have k0:(0:Int) ≤ (k:Int):=by omega
   have hD1:=unhide hD
   have hbl:k < (bytesZ s).length:=by rw [bytesZ_len];exact hlt
   rw [List.drop_eq_getElem_cons hbl,wdF] at hD1
   have hgz:(bytesZ s)[k] = ((s[k]'hlt).toNat:Int):=by
    have:=bytesZ_atJ s k hlt
    rw [List.getD_eq_getElem?_getD,List.getElem?_eq_getElem hbl] at this
    simpa using this
   rw [hgz] at hD1
   have PA:=hide (pass_any (unhide hR) ((s[k]'hlt).toNat:Int))
   have HD1:=hide hD1
   clear hD1 hD hgz
   obtain ⟨y,hy⟩:∃ y,y = ((s[k]'hlt).toNat:Int):=⟨_,rfl⟩
   rw [← hy] at PA HD1
   have HY:=hide hy
   clear hy
   go_wp2_with fail
   rw [← unhide HY]
   refine (unhide PA).mono ?_
   intro e w2 hr
   by_cases hz:p < Z.length ∧ Z.getD p 0 = y
   ·rw [if_pos hz] at hr
    obtain ⟨rfl,hK2,hR2⟩:=hr
    have HD2:=hide ((unhide HD1).trans (if_pos hz))
    have HK2:=hide ((unhide hK).trans hK2)
    have HR2:=hide hR2
    clear hz hK2 hR2 HD1 PA hK hR
    go_wp2
    go_roundw
    case rel => exact ⟨k + 1,p + 1,by omega,by go_num,HD2,HK2,HR2⟩
    case measure => simp [intOf];omega
   ·rw [if_neg hz] at hr
    obtain ⟨rfl,hK2⟩:=hr
    have HD2:=hide ((unhide HD1).trans (if_neg hz))
    have HK2:=hide ((unhide hK).trans hK2)
    clear hz hK2 HD1 PA hK hR
    go_wp2
    exact ⟨rfl,by rw [unhide HP];exact Res.err (by rw [unhide HD2];rfl) (unhide HK2)⟩
  ·have ki:¬ (k:Int) < (s.size:Int):=by omega
   have HD2:=hide (show D = .ok p by
    have:=unhide hD
    rw [List.drop_eq_nil_of_le (by rw [bytesZ_len];omega),wdF] at this
    exact this)
   clear hD
   go_wp2
   try go_end0
   rw [unhide HP]
   exact Res.val (by rw [unhide HD2];rfl) (unhide hK) (unhide hR)
end
end Go.Proofs.YtdogjghalplohaaGreatDoor.jin
namespace Go.Proofs.YtdogjghalplohaaGreatDoor.vl
open Go.ChangeShapes Go.WideShapes Go.ChangeAt Go.RowKit
set_option linter.unusedVariables false
mutual
inductive Vl where
 | mk (kd:Int) (b:Bool) (n:Int) (f:Nat) (tx ty:ByteArray) (its:Vls) (fls:Fls)
inductive Vls where
 | nil
 | cons (v:Vl) (r:Vls)
inductive Fls where
 | nil
 | cons (nm:ByteArray) (v:Vl) (r:Fls)
end
def Row8 (w:World) (b off:Nat) (cs:List Value):Prop:=∀ i u,cs[i]? = some u → w.cell? ⟨b,off + i,none⟩ = some u
mutual
def VlC (w:World):Vl → List Value → Prop
 | .mk kd b n f tx ty its fls,cs => ∃ (ai:Option Addr) (ni ci:Nat) (af:Option Addr) (nf cf:Nat),cs = [.int .i64 kd,.bool b,.int .i64 n,.float .f64 f,.string tx,.string ty,.slice ai ni ci,.slice af nf cf] ∧
   VlsAt w its ai ni ∧ FlsAt w fls af nf ∧ ni ≤ ci ∧ nf ≤ cf ∧ (ai = none → ci = 0) ∧ (af = none → cf = 0) ∧ (Lit.int .i64 kd).wf = true ∧ (Lit.int .i64 n).wf = true ∧ tx.size ≤ maxLen ∧ ty.size ≤ maxLen ∧ ci ≤ maxLen ∧ cf ≤ maxLen
def VlsAt (w:World):Vls → Option Addr → Nat → Prop
 | .nil,_,n => n = 0
 | .cons v r,a,n => ∃ (b off m:Nat) (cs:List Value),a = some ⟨b,off,none⟩ ∧ n = m + 1 ∧ Row8 w b off cs ∧ VlC w v cs ∧ VlsAt w r (some ⟨b,off + 8,none⟩) m
def FlsAt (w:World):Fls → Option Addr → Nat → Prop
 | .nil,_,n => n = 0
 | .cons nm v r,a,n => ∃ (b off m:Nat) (cs:List Value),a = some ⟨b,off,none⟩ ∧ n = m + 1 ∧ w.cell? ⟨b,off,none⟩ = some (.string nm) ∧ nm.size ≤ maxLen ∧ Row8 w b (off + 1) cs ∧ VlC w v cs ∧ FlsAt w r (some ⟨b,off + 9,none⟩) m
end
theorem Row8.below {w w':World} {b off:Nat} {cs:List Value} (h:Row8 w b off cs) (hb:Below w.heap.size w w'):Row8 w' b off cs:=by
 intro i u hu
 have h1:=h i u hu
 exact (hb.cell (World.block_lt_of_cell? w _ h1)).trans h1
mutual
theorem VlC.below {w w':World} (hb:Below w.heap.size w w'):∀ (v:Vl) (cs:List Value),VlC w v cs → VlC w' v cs
 | .mk kd b n f tx ty its fls,cs,h => by
  unfold VlC at h ⊢
  obtain ⟨ai,ni,ci,af,nf,cf,rfl,h1,h2,r⟩:=h
  exact ⟨ai,ni,ci,af,nf,cf,rfl,VlsAt.below hb its ai ni h1,FlsAt.below hb fls af nf h2,r⟩
theorem VlsAt.below {w w':World} (hb:Below w.heap.size w w'):∀ (l:Vls) (a:Option Addr) (n:Nat),VlsAt w l a n → VlsAt w' l a n
 | .nil,a,n,h => by unfold VlsAt at h ⊢;exact h
 | .cons v r,a,n,h => by
  unfold VlsAt at h ⊢
  obtain ⟨b,off,m,cs,rfl,rfl,h1,h2,h3⟩:=h
  exact ⟨b,off,m,cs,rfl,rfl,h1.below hb,VlC.below hb v cs h2,VlsAt.below hb r _ m h3⟩
theorem FlsAt.below {w w':World} (hb:Below w.heap.size w w'):∀ (l:Fls) (a:Option Addr) (n:Nat),FlsAt w l a n → FlsAt w' l a n
 | .nil,a,n,h => by unfold FlsAt at h ⊢;exact h
 | .cons nm v r,a,n,h => by
  unfold FlsAt at h ⊢
  obtain ⟨b,off,m,cs,rfl,rfl,h0,hz,h1,h2,h3⟩:=h
  exact ⟨b,off,m,cs,rfl,rfl,(hb.cell (World.block_lt_of_cell? w _ h0)).trans h0,hz,h1.below hb,VlC.below hb v cs h2,FlsAt.below hb r _ m h3⟩
end
end Go.Proofs.YtdogjghalplohaaGreatDoor.vl
namespace Go.Proofs.YtdogjghalplohaaGreatDoor.vl
open Go.ChangeShapes Go.WideShapes Go.ChangeAt Go.RowKit
set_option linter.unusedVariables false
section
variable {H:Type} {enc:TypeId × Value → H} {w:World} {base:Nat} {held:Bool}
end
end Go.Proofs.YtdogjghalplohaaGreatDoor.vl
namespace Go.Proofs.YtdogjghalplohaaGreatDoor.vl
open Go.ChangeShapes Go.WideShapes Go.ChangeAt Go.RowKit
set_option linter.unusedVariables false
def Vls.list:Vls → List Vl
 | .nil => []
 | .cons v r => v :: r.list
def Fls.list:Fls → List (ByteArray × Vl)
 | .nil => []
 | .cons nm v r => (nm,v) :: r.list
theorem VlsAt.len {w:World}:∀ (l:Vls) (a:Option Addr) (n:Nat),VlsAt w l a n → l.list.length = n
 | .nil,a,n,h => by unfold VlsAt at h;rw [h];rfl
 | .cons v r,a,n,h => by
  unfold VlsAt at h
  obtain ⟨b,off,m,cs,_,rfl,_,_,h3⟩:=h
  have:=VlsAt.len r _ m h3
  simp [Vls.list,this]
theorem FlsAt.len {w:World}:∀ (l:Fls) (a:Option Addr) (n:Nat),FlsAt w l a n → l.list.length = n
 | .nil,a,n,h => by unfold FlsAt at h;rw [h];rfl
 | .cons nm v r,a,n,h => by
  unfold FlsAt at h
  obtain ⟨b,off,m,cs,_,rfl,_,_,_,_,h3⟩:=h
  have:=FlsAt.len r _ m h3
  simp [Fls.list,this]
theorem VlsAt.get {w:World}:∀ (l:Vls) (a:Option Addr) (n:Nat),VlsAt w l a n → ∀ i,i < n → ∃ (b off:Nat) (v:Vl) (cs:List Value),a = some ⟨b,off,none⟩ ∧ l.list[i]? = some v ∧ Row8 w b (off + i * 8) cs ∧ VlC w v cs
 | .nil,a,n,h,i,hi => by unfold VlsAt at h;omega
 | .cons v r,a,n,h,i,hi => by
  unfold VlsAt at h
  obtain ⟨b,off,m,cs,rfl,rfl,h1,h2,h3⟩:=h
  match i with
  | 0 => exact ⟨b,off,v,cs,rfl,rfl,by simpa using h1,h2⟩
  | i + 1 =>
   obtain ⟨b',off',v',cs',e,g,r1,r2⟩:=VlsAt.get r _ m h3 i (by omega)
   simp only [Option.some.injEq,Addr.mk.injEq,and_true] at e
   obtain ⟨rfl,rfl⟩:=e
   exact ⟨b,off,v',cs',rfl,by simpa [Vls.list] using g,by rw [show off + (i + 1) * 8 = off + 8 + i * 8 by omega];exact r1,r2⟩
theorem FlsAt.get {w:World}:∀ (l:Fls) (a:Option Addr) (n:Nat),FlsAt w l a n → ∀ i,i < n → ∃ (b off:Nat) (nm:ByteArray) (v:Vl) (cs:List Value),a = some ⟨b,off,none⟩ ∧ l.list[i]? = some (nm,v) ∧ w.cell? ⟨b,off + i * 9,none⟩ = some (.string nm) ∧ nm.size ≤ maxLen ∧ Row8 w b (off + i * 9 + 1) cs ∧ VlC w v cs
 | .nil,a,n,h,i,hi => by unfold FlsAt at h;omega
 | .cons nm v r,a,n,h,i,hi => by
  unfold FlsAt at h
  obtain ⟨b,off,m,cs,rfl,rfl,h0,hz,h1,h2,h3⟩:=h
  match i with
  | 0 => exact ⟨b,off,nm,v,cs,rfl,rfl,by simpa using h0,hz,by simpa using h1,h2⟩
  | i + 1 =>
   obtain ⟨b',off',nm',v',cs',e,g,r0,rz,r1,r2⟩:=FlsAt.get r _ m h3 i (by omega)
   simp only [Option.some.injEq,Addr.mk.injEq,and_true] at e
   obtain ⟨rfl,rfl⟩:=e
   exact ⟨b,off,nm',v',cs',rfl,by simpa [Fls.list] using g,by rw [show off + (i + 1) * 9 = off + 9 + i * 9 by omega];exact r0,rz,by rw [show off + (i + 1) * 9 + 1 = off + 9 + i * 9 + 1 by omega];exact r1,r2⟩
theorem VlC.cells {w:World} {v:Vl} {cs:List Value} (h:VlC w v cs):cs.length = 8:=by
 cases v
 unfold VlC at h
 obtain ⟨_,_,_,_,_,_,rfl,_⟩:=h
 rfl
end Go.Proofs.YtdogjghalplohaaGreatDoor.vl
namespace Go.Proofs.YtdogjghalplohaaGreatDoor.vl
open Go.ChangeShapes Go.WideShapes Go.ChangeAt Go.RowKit
set_option linter.unusedVariables false
mutual
theorem Vl.all {P:Vl → Prop} (step:∀ kd b n f tx ty its fls,(∀ v ∈ Vls.list its,P v) → (∀ q ∈ Fls.list fls,P q.2) → P (.mk kd b n f tx ty its fls)):∀ v,P v
 | .mk kd b n f tx ty its fls => step kd b n f tx ty its fls (Vls.all step its) (Fls.all step fls)
theorem Vls.all {P:Vl → Prop} (step:∀ kd b n f tx ty its fls,(∀ v ∈ Vls.list its,P v) → (∀ q ∈ Fls.list fls,P q.2) → P (.mk kd b n f tx ty its fls)):∀ l:Vls,∀ v ∈ l.list,P v
 | .nil,v,h => by simp [Vls.list] at h
 | .cons u r,v,h => by
  simp only [Vls.list,List.mem_cons] at h
  rcases h with h | h
  ·rw [h];exact Vl.all step u
  ·exact Vls.all step r v h
theorem Fls.all {P:Vl → Prop} (step:∀ kd b n f tx ty its fls,(∀ v ∈ Vls.list its,P v) → (∀ q ∈ Fls.list fls,P q.2) → P (.mk kd b n f tx ty its fls)):∀ l:Fls,∀ q ∈ l.list,P q.2
 | .nil,q,h => by simp [Fls.list] at h
 | .cons nm u r,q,h => by
  simp only [Fls.list,List.mem_cons] at h
  rcases h with h | h
  ·rw [h];exact Vl.all step u
  ·exact Fls.all step r q h
end
end Go.Proofs.YtdogjghalplohaaGreatDoor.vl
namespace Go.Proofs.YtdogjghalplohaaGreatDoor.vl
open Go.ChangeShapes Go.WideShapes Go.ChangeAt Go.RowKit
set_option linter.unusedVariables false
def Agree (F:List Nat) (w w':World):Prop:=∀ b ∈ F,∀ o,w'.cell? ⟨b,o,none⟩ = w.cell? ⟨b,o,none⟩
end Go.Proofs.YtdogjghalplohaaGreatDoor.vl
namespace Go.Proofs.YtdogjghalplohaaGreatDoor.vl
open Go.ChangeShapes Go.WideShapes Go.ChangeAt Go.RowKit
set_option linter.unusedVariables false
def Vls.of:List Vl → Vls
 | [] => .nil
 | v :: r => .cons v (Vls.of r)
theorem Vls.list_of:∀ l:List Vl,(Vls.of l).list = l
 | [] => rfl
 | v :: r => by simp only [Vls.list,Vls.of];rw [Vls.list_of r]
theorem VlC.one {w:World} {v:Vl} {cs:List Value} (h:VlC w v cs):cs.toArray.all (·.oneCell') = true:=by
 cases v
 unfold VlC at h
 obtain ⟨_,_,_,_,_,_,rfl,_⟩:=h
 simp [Value.oneCell']
theorem below_setCells {B:Nat} {a:World} (b:Nat):∀ (vs:List Value) (o:Nat) (w:World),Below B a w → B ≤ b → Below B a (w.setCells b o vs)
 | [],o,w,h,hp => h
 | v :: r,o,w,h,hp => below_setCells b r (o + 1) _ (h.setCell (p:=⟨b,o,none⟩) hp v) hp
theorem size_setCells (b:Nat):∀ (vs:List Value) (o:Nat) (w:World),(w.setCells b o vs).heap.size = w.heap.size
 | [],o,w => rfl
 | v :: r,o,w => by rw [World.setCells,size_setCells b r (o + 1)];simp
def Fz (w:World) (F:List Nat):Prop:=∀ b ∈ F,∀ j,w.frozen? ⟨b,j,none⟩ = false
theorem infoV:(Tryz.prog.info? 29).map (·.size) = some 8:=by kernel_rfl
end Go.Proofs.YtdogjghalplohaaGreatDoor.vl
namespace Go.Proofs.YtdogjghalplohaaGreatDoor.vl
open Go.ChangeShapes Go.WideShapes Go.ChangeAt Go.RowKit
set_option linter.unusedVariables false
def Hid (p:Prop):Prop:=p
theorem hide {p:Prop} (h:p):Hid p:=h
theorem unhide {p:Prop} (h:Hid p):p:=h
end Go.Proofs.YtdogjghalplohaaGreatDoor.vl
