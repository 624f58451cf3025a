import Derived.Test.YtdogjghalplohaaGreatDoorJv34
import Derived.Test.YtdogjghalplohaaGreatDoorJv35
import Derived.Test.YtdogjghalplohaaGreatDoorJst1
import Derived.Lib.LaidTab
import Derived.LaidMore
import Derived.OpenShut
import Derived.MakeChecks
import Derived.Shelf.Vars
import Derived.ProofKit
namespace Go.Proofs.YtdogjghalplohaaGreatDoor.dcw
open Go.ChangeShapes Go.WideShapes Go.ChangeAt Go.RowKit
open mem Go.Sort
open ints (hide unhide)
set_option linter.unusedVariables false
set_option linter.unusedSimpArgs false
theorem trod_float {H:Type} {enc:TypeId × Value → H} {P:Program} {w:World} {base:Nat} {sp:Nat → Bool} {held:Bool} {fuel:Nat} {t:TypeId} {cs:List Value} {x:DataW H × List MemPlace} {k:FloatKind} (ht:P.underlying t = some (.float k)) (h:DataW.trod enc P w base sp held fuel t cs = some x):∃ n,cs = [.float k n] ∧ x = (.lit (.float k n),[]):=by
 cases fuel with
 | zero => simp [DataW.trod] at h
 | succ m =>
  unfold DataW.trod at h
  rw [ht] at h
  split at h <;> simp_all
theorem gPw : Tryz.prog.globalNamed "internal/strconv.powtab" = some 11 := by kernel_rfl
theorem gPwT:(Tryz.prog.globals[11]?).map (·.type) = some 135:=by kernel_rfl
theorem gFi : Tryz.prog.globalNamed "internal/strconv.float64info" = some 9 := by kernel_rfl
theorem gFiT:(Tryz.prog.globals[9]?).map (·.type) = some 220:=by kernel_rfl
theorem pw_of {W : World} {rest : List (String × DataW Unit)} (h : laidMet Tryz.prog (("internal/strconv.powtab", Rows.laid_internal_strconv_powtab) :: rest) W) : dcm.PW W W.heap.size := by
 obtain ⟨cs,fuel,p,hc,hd⟩:=lead h gPw gPwT
 have hce:Tryz.prog.cellsOf 3 = 1:=by kernel_rfl
 have ed:(Rows.laid_internal_strconv_powtab:DataW Unit) = .slice ([1,3,6,9,13,16,19,23,26].map fun r:Nat => .lit (.int .i64 (r:Int))) []:=by rfl
 rw [ed] at hd
 obtain ⟨a,cap,hcs,hcap,hcell⟩:=open_row Tryz.underlying135 hce hd
 have key:∀ (i r:Nat),[1,3,6,9,13,16,19,23,26][i]? = some r → W.cell? (a.add i) = some (.int .i64 (r:Int)):=fun i r hr => by
  obtain ⟨v,n,q,hv,ht⟩:=hcell i (.lit (.int .i64 (r:Int))) (by rw [List.getElem?_map,hr];rfl)
  obtain ⟨m,hm,hx,_⟩:=DataW.trod_int Tryz.underlying3 ht
  have e1:v = .int .i64 m:=by simpa using hm
  have e2:(r:Int) = m:=by
   have:=congrArg Prod.fst hx
   simpa using this
  rw [hv,e1,e2]
 have h0:=key 0 _ rfl
 have hs:a.spot = none:=spot_none (a:=a) (by simpa [Addr.add] using h0)
 obtain ⟨b,off,sp⟩:=a
 simp only at hs
 subst hs
 have hg:W.cell? ⟨11,0,none⟩ = some (.slice (some ⟨b,off,none⟩) 9 cap):=by
  rw [hc 0,← Array.getElem?_toList,hcs]
  rfl
 have hadd:∀ i,(⟨b,off,none⟩:Addr).add i = ⟨b,off + i,none⟩:=fun i => by
  unfold Addr.add
  by_cases h:i = 0
  ·rw [if_pos h,h,Nat.add_zero]
  ·rw [if_neg h]
 rw [hadd 0] at h0
 refine ⟨b,off,cap,hg,cell_lt h0,cell_lt hg,fun q hq => ?_⟩
 have hk:∀ q,q < 9 → [1,3,6,9,13,16,19,23,26][q]? = some (dcm.ptab q):=by decide
 rw [← hadd q]
 exact key q _ (hk q hq)
theorem fi_of {W : World} {rest : List (String × DataW Unit)} (h : laidMet Tryz.prog (("internal/strconv.float64info", Rows.laid_internal_strconv_float64info) :: rest) W) : dcm.FI W W.heap.size := by
 obtain ⟨cs,fuel,p,hc,hd⟩:=lead h gFi gFiT
 obtain ⟨xs,n,_,hx,hl,hxl,hf⟩:=DataW.trod_struct Tryz.underlying220 hd
 have hu:Tryz.prog.cellsOf 138 = 1:=by kernel_rfl
 have hi:Tryz.prog.cellsOf 3 = 1:=by kernel_rfl
 have h0:=hf 0 _ rfl
 have h1:=hf 1 _ rfl
 have h2:=hf 2 _ rfl
 have hx1:=congrArg Prod.fst hx
 simp only [Rows.laid_internal_strconv_float64info,DataW.agg.injEq] at hx1
 have x0:=congrArg (·[0]?) hx1
 have x1:=congrArg (·[1]?) hx1
 have x2:=congrArg (·[2]?) hx1
 simp only [List.getElem?_map,List.getElem?_cons_zero,List.getElem?_cons_succ] at x0 x1 x2
 have g0:cs.toList[0]? = some (.int .u64 52):=by
  cases hy:xs[0]? with
  | none => rw [hy] at x0;simp at x0
  | some y =>
   rw [hy] at h0 x0
   have h':DataW.trod (fun _ => ()) Tryz.prog W 0 (fun _ => true) false n 138 (List.take (Tryz.prog.cellsOf 138) (List.drop 0 cs.toList)) = some y:=h0
   rw [hu] at h'
   exact one_cell Tryz.underlying138 h' (by simpa using x0.symm)
 have g1:cs.toList[1]? = some (.int .u64 11):=by
  cases hy:xs[1]? with
  | none => rw [hy] at x1;simp at x1
  | some y =>
   rw [hy] at h1 x1
   have h':DataW.trod (fun _ => ()) Tryz.prog W 0 (fun _ => true) false n 138 (List.take (Tryz.prog.cellsOf 138) (List.drop 1 cs.toList)) = some y:=h1
   rw [hu] at h'
   exact one_cell Tryz.underlying138 h' (by simpa using x1.symm)
 have g2:cs.toList[2]? = some (.int .i64 (-1023)):=by
  cases hy:xs[2]? with
  | none => rw [hy] at x2;simp at x2
  | some y =>
   rw [hy] at h2 x2
   have h':DataW.trod (fun _ => ()) Tryz.prog W 0 (fun _ => true) false n 3 (List.take (Tryz.prog.cellsOf 3) (List.drop 2 cs.toList)) = some y:=h2
   rw [hi] at h'
   exact one_cell Tryz.underlying3 h' (by simpa using x2.symm)
 have c0:W.cell? ⟨9,0,none⟩ = some (.int .u64 52):=by rw [hc 0,← Array.getElem?_toList];exact g0
 exact ⟨cell_lt c0,c0,by rw [hc 1,← Array.getElem?_toList];exact g1,by rw [hc 2,← Array.getElem?_toList];exact g2⟩
end Go.Proofs.YtdogjghalplohaaGreatDoor.dcw
