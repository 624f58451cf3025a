import Derived.Test.YtdogjghalplohaaGreatDoorJs34
import Derived.Test.YtdogjghalplohaaGreatDoorJs35
import Derived.Test.YtdogjghalplohaaGreatDoorRows
import Derived.Test.YtdogjghalplohaaGreatDoorJde16
import Derived.OpenShut
namespace Go.Proofs.YtdogjghalplohaaGreatDoor.mem
open Go.ChangeShapes Go.WideShapes Go.ChangeAt Go.RowKit
open ints (hide unhide)
set_option linter.unusedVariables false
theorem bulk_pos {H:Type} (d:DataW H):1 ≤ Rows.uptoBulk d:=by
 cases d with
 | lit l => cases l <;> simp [Rows.uptoBulk]
 | _ => simp [Rows.uptoBulk]
theorem bulk_len {H:Type}:∀ (l:List (DataW H)),l.length ≤ Rows.uptoBulkAll l
 | [] => by simp [Rows.uptoBulkAll]
 | x :: r => by
  have:=bulk_len r
  have:=bulk_pos x
  simp only [Rows.uptoBulkAll,List.length_cons]
  omega
theorem bulk_slice {H:Type} (e s:List (DataW H)):e.length + s.length ≤ Rows.uptoBulk (.slice e s):=by
 have:=bulk_len e
 have:=bulk_len s
 simp only [Rows.uptoBulk]
 omega
theorem wf_byt {zs:List Int} (h:∀ z ∈ zs,(Lit.int .u8 z).wf = true):∀ z ∈ zs,0 ≤ z ∧ z ≤ 255:=fun z hz => by
 simpa [Lit.wf,IntKind.min,IntKind.max,IntKind.signed,IntKind.bits] using h z hz
theorem row_of {H:Type} {enc:TypeId × Value → H} {P:Program} {w:World} {base:Nat} {held:Bool} {t q:TypeId} {k:IntKind} {fuel:Nat} {a0:Option Addr} {len0 cap0:Nat} {d:DataW H} {p:List MemPlace}
  (ht:P.underlying t = some (.slice q)) (hq:P.underlying q = some (.int k)) (cq:P.cellsOf q = 1)
  (h:DataW.trod enc P w base (fun _ => true) held fuel t [.slice a0 len0 cap0] = some (d,p)) :
  ∃ zs,Row k w a0 len0 cap0 zs ∧ (∀ z ∈ zs,(Lit.int k z).wf = true) ∧ len0 ≤ Rows.uptoBulk d:=by
 rcases open_ints ht hq cq h with ⟨hcs,_⟩ | ⟨x,l,c,zs,hcs,_,hl,hm,hz,hx,hcell,hwz⟩
 ·simp at hcs
  obtain ⟨rfl,rfl,rfl⟩:=hcs
  exact ⟨[],⟨rfl,Nat.le_refl _,fun _ => rfl,.inl rfl⟩,by simp,Nat.zero_le _⟩
 ·simp at hcs
  obtain ⟨rfl,rfl,rfl⟩:=hcs
  simp only [if_true] at hz
  simp only [Prod.mk.injEq] at hx
  refine ⟨zs.take len0,row_of_cells hl hz (fun e => by cases e) (fun a' ha c hc => ?_),fun z hz' => hwz z (List.mem_of_mem_take hz'),?_⟩
  ·obtain rfl:=Option.some.inj ha
   exact hcell c (by rw [hz];exact hc)
  ·rw [hx.1]
   refine Nat.le_trans ?_ (bulk_slice _ _)
   simp [lits]
   omega
end Go.Proofs.YtdogjghalplohaaGreatDoor.mem
