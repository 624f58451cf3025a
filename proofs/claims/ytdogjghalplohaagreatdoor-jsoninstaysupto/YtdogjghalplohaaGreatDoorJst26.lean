import Derived.Test.YtdogjghalplohaaGreatDoorJv34
import Derived.Test.YtdogjghalplohaaGreatDoorJv35
import Derived.Test.YtdogjghalplohaaGreatDoorJst1
import Derived.SizedLaws
import Derived.Deep.Matrix
import Derived.Test.YtdogjghalplohaaGreatDoorRows
import Derived.OpenShut
namespace Go.Proofs.YtdogjghalplohaaGreatDoor.mem
open Go.ChangeShapes Go.WideShapes Go.ChangeAt Go.RowKit
open ints (hide unhide)
set_option linter.unusedVariables false
theorem row_of_cells {k:IntKind} {w:World} {A:Option Addr} {L C:Nat} {Z:List Int} (h1:L ≤ C) (h2:Z.length = C) (h3:A = none → C = 0) (h4:∀ a',A = some a' → ∀ c,c < C → w.cell? (a'.add c) = some (.int k (Z.getD c 0))) :
  Row k w A L C (Z.take L):=by
 refine ⟨by simp;omega,h1,h3,?_⟩
 by_cases h0:L = 0
 ·exact .inl h0
 ·right
  cases A with
  | none => have:=h3 rfl;omega
  | some a' =>
   obtain ⟨b,off,spot⟩:=a'
   have hc:=h4 _ rfl 0 (by omega)
   have hspot:spot = none:=by simpa [Addr.add] using World.cell?_spot hc
   subst hspot
   refine ⟨b,off,rfl,?_,fun i hi => ?_⟩
   ·exact World.block_lt_of_cell? w _ hc
   ·have:=h4 _ rfl i (by omega)
    rw [Addr.add_lit] at this
    rw [this]
    simp [List.getD,hi]
end Go.Proofs.YtdogjghalplohaaGreatDoor.mem
namespace Go.Proofs.YtdogjghalplohaaGreatDoor.mem
open Go.ChangeShapes Go.WideShapes Go.ChangeAt Go.RowKit
open ints (hide unhide)
set_option linter.unusedVariables false
theorem bulk_pos {H:Type} (d:DataW H):1 ≤ Rows.uptoBulk d:=by
 cases d with
 | lit l => cases l <;> simp [Rows.uptoBulk]
 | _ => simp [Rows.uptoBulk]
theorem bulk_len {H:Type}:∀ (l:List (DataW H)),l.length ≤ Rows.uptoBulkAll l
 | [] => by simp [Rows.uptoBulkAll]
 | x :: r => by
  have:=bulk_len r
  have:=bulk_pos x
  simp only [Rows.uptoBulkAll,List.length_cons]
  omega
theorem bulk_slice {H:Type} (e s:List (DataW H)):e.length + s.length ≤ Rows.uptoBulk (.slice e s):=by
 have:=bulk_len e
 have:=bulk_len s
 simp only [Rows.uptoBulk]
 omega
theorem wf_byt {zs:List Int} (h:∀ z ∈ zs,(Lit.int .u8 z).wf = true):∀ z ∈ zs,0 ≤ z ∧ z ≤ 255:=fun z hz => by
 simpa [Lit.wf,IntKind.min,IntKind.max,IntKind.signed,IntKind.bits] using h z hz
theorem row_of {H:Type} {enc:TypeId × Value → H} {P:Program} {w:World} {base:Nat} {held:Bool} {t q:TypeId} {k:IntKind} {fuel:Nat} {a0:Option Addr} {len0 cap0:Nat} {d:DataW H} {p:List MemPlace}
  (ht:P.underlying t = some (.slice q)) (hq:P.underlying q = some (.int k)) (cq:P.cellsOf q = 1)
  (h:DataW.trod enc P w base (fun _ => true) held fuel t [.slice a0 len0 cap0] = some (d,p)) :
  ∃ zs,Row k w a0 len0 cap0 zs ∧ (∀ z ∈ zs,(Lit.int k z).wf = true) ∧ len0 ≤ Rows.uptoBulk d:=by
 rcases open_ints ht hq cq h with ⟨hcs,_⟩ | ⟨x,l,c,zs,hcs,_,hl,hm,hz,hx,hcell,hwz⟩
 ·simp at hcs
  obtain ⟨rfl,rfl,rfl⟩:=hcs
  exact ⟨[],⟨rfl,Nat.le_refl _,fun _ => rfl,.inl rfl⟩,by simp,Nat.zero_le _⟩
 ·simp at hcs
  obtain ⟨rfl,rfl,rfl⟩:=hcs
  simp only [if_true] at hz
  simp only [Prod.mk.injEq] at hx
  refine ⟨zs.take len0,row_of_cells hl hz (fun e => by cases e) (fun a' ha c hc => ?_),fun z hz' => hwz z (List.mem_of_mem_take hz'),?_⟩
  ·obtain rfl:=Option.some.inj ha
   exact hcell c (by rw [hz];exact hc)
  ·rw [hx.1]
   refine Nat.le_trans ?_ (bulk_slice _ _)
   simp [lits]
   omega
end Go.Proofs.YtdogjghalplohaaGreatDoor.mem
