import Derived.Test.YtdogjghalplohaaGreatDoorJv34
import Derived.Test.YtdogjghalplohaaGreatDoorJv35
import Derived.Test.YtdogjghalplohaaGreatDoorJst1
import Derived.Lib.LaidTab
import Derived.LaidMore
import Derived.OpenShut
import Derived.MakeChecks
import Derived.Shelf.Vars
import Derived.ProofKit
import Derived.Deep.RegionHeld3
namespace Go.Proofs.YtdogjghalplohaaGreatDoor.fto
open Go.ChangeShapes Go.WideShapes Go.ChangeAt Go.RowKit
open mem Go.Sort
open ints (hide unhide)
set_option linter.unusedVariables false
theorem trod_float {H:Type} {enc:TypeId × Value → H} {P:Program} {w:World} {base:Nat} {sp:Nat → Bool} {held:Bool} {fuel:Nat} {t:TypeId} {cs:List Value} {x:DataW H × List MemPlace} {k:FloatKind} (ht:P.underlying t = some (.float k)) (h:DataW.trod enc P w base sp held fuel t cs = some x):∃ n,cs = [.float k n] ∧ x = (.lit (.float k n),[]):=by
 cases fuel with
 | zero => simp [DataW.trod] at h
 | succ m =>
  unfold DataW.trod at h
  rw [ht] at h
  split at h <;> simp_all
theorem gOpt : Tryz.prog.globalNamed "internal/strconv.optimize" = some 8 := by kernel_rfl
theorem gOptT:(Tryz.prog.globals[8]?).map (·.type) = some 4:=by kernel_rfl
theorem gInf : Tryz.prog.globalNamed "internal/strconv.float64info" = some 9 := by kernel_rfl
theorem gInfT:(Tryz.prog.globals[9]?).map (·.type) = some 220:=by kernel_rfl
theorem gTen : Tryz.prog.globalNamed "internal/strconv.float64pow10" = some 12 := by kernel_rfl
theorem gTenT:(Tryz.prog.globals[12]?).map (·.type) = some 258:=by kernel_rfl
theorem gPow : Tryz.prog.globalNamed "internal/strconv.pow10Tab" = some 15 := by kernel_rfl
theorem gPowT:(Tryz.prog.globals[15]?).map (·.type) = some 274:=by kernel_rfl
theorem opt_of {W : World} {rest : List (String × DataW Unit)} (h : laidMet Tryz.prog (("internal/strconv.optimize", Rows.laid_internal_strconv_optimize) :: rest) W) : W.cell? ⟨8, 0, none⟩ = some (.bool true) := by
 obtain ⟨cs,fuel,p,hc,hd⟩:=lead h gOpt gOptT
 obtain ⟨b,hb,hx⟩:=DataW.trod_bool Tryz.underlying4 hd
 have:b = true:=by
  have:=congrArg Prod.fst hx
  simp only [Rows.laid_internal_strconv_optimize,DataW.lit.injEq,Lit.bool.injEq] at this
  exact this.symm
 subst this
 rw [hc 0,← Array.getElem?_toList,hb]
 rfl
theorem info_of {W : World} {rest : List (String × DataW Unit)} (h : laidMet Tryz.prog (("internal/strconv.float64info", Rows.laid_internal_strconv_float64info) :: rest) W) : W.cell? ⟨9, 0, none⟩ = some (.int .u64 52) := by
 obtain ⟨cs,fuel,p,hc,hd⟩:=lead h gInf gInfT
 obtain ⟨xs,n,_,hx,hl,hxl,hf⟩:=DataW.trod_struct Tryz.underlying220 hd
 have h0:=hf 0 _ rfl
 have hx1:=congrArg Prod.fst hx
 simp only [Rows.laid_internal_strconv_float64info,DataW.agg.injEq] at hx1
 have hx0:=congrArg (·[0]?) hx1
 simp only [List.getElem?_map,List.getElem?_cons_zero] at hx0
 cases hy:xs[0]? with
 | none => rw [hy] at hx0;simp at hx0
 | some y =>
  rw [hy] at h0 hx0
  obtain ⟨z,hz,hq,_⟩:=DataW.trod_int Tryz.underlying138 h0
  subst hq
  simp only [Option.map_some,Option.some.injEq,DataW.lit.injEq,Lit.int.injEq,true_and] at hx0
  subst hx0
  rw [hc 0,← Array.getElem?_toList]
  have hce:Tryz.prog.cellsOf 138 = 1:=by kernel_rfl
  have hz2:List.take (Tryz.prog.cellsOf 138) (List.drop 0 cs.toList) = [.int .u64 52]:=hz
  rw [hce] at hz2
  have e:=congrArg (·[0]?) hz2
  simpa [List.getElem?_take] using e
theorem ten_of {W : World} {rest : List (String × DataW Unit)} (h : laidMet Tryz.prog (("internal/strconv.float64pow10", Rows.laid_internal_strconv_float64pow10) :: rest) W) : T10 W := by
 obtain ⟨cs,fuel,p,hc,hd⟩:=lead h gTen gTenT
 have hce:Tryz.prog.cellsOf 25 = 1:=by kernel_rfl
 have ed:(Rows.laid_internal_strconv_float64pow10:DataW Unit) = .slice (tens.map fun r => .lit (.float .f64 r)) []:=by rfl
 rw [ed] at hd
 obtain ⟨a,cap,hcs,hcap,hcell⟩:=open_row Tryz.underlying258 hce hd
 have key:∀ i r,tens[i]? = some r → W.cell? (a.add i) = some (.float .f64 r):=fun i r hr => by
  obtain ⟨v,n,q,hv,ht⟩:=hcell i (.lit (.float .f64 r)) (by rw [List.getElem?_map,hr];rfl)
  obtain ⟨m,hm,hx⟩:=trod_float Tryz.underlying25 ht
  have e1:v = .float .f64 m:=by simpa using hm
  have e2:r = m:=by
   have:=congrArg Prod.fst hx
   simpa using this
  rw [hv,e1,e2]
 have h0:=key 0 _ rfl
 have hs:a.spot = none:=spot_none (a:=a) (by simpa [Addr.add] using h0)
 obtain ⟨b,off,sp⟩:=a
 simp only at hs
 subst hs
 have hg:W.cell? ⟨12,0,none⟩ = some (.slice (some ⟨b,off,none⟩) 23 cap):=by
  rw [hc 0,← Array.getElem?_toList,hcs]
  rfl
 have hadd:∀ i,(⟨b,off,none⟩:Addr).add i = ⟨b,off + i,none⟩:=fun i => by
  unfold Addr.add
  by_cases h:i = 0
  ·rw [if_pos h,h,Nat.add_zero]
  ·rw [if_neg h]
 rw [hadd 0] at h0
 refine ⟨b,off,cap,hg,cell_lt h0,cell_lt hg,fun i r hr => ?_⟩
 rw [← hadd i]
 exact key i r hr
theorem pt_of {W : World} {rest : List (String × DataW Unit)} (h : laidMet Tryz.prog (("internal/strconv.pow10Tab", Rows.laid_internal_strconv_pow10Tab) :: rest) W) : PT W := by
 obtain ⟨cs,fuel,p,hc,hd⟩:=lead h gPow gPowT
 have hce:Tryz.prog.cellsOf 273 = 2:=by kernel_rfl
 have hcu:Tryz.prog.cellsOf 82 = 1:=by kernel_rfl
 obtain ⟨xs,m,_,hx,hl,hxl,hf⟩:=DataW.trod_array Tryz.underlying274 hd
 have hx1:(_root_.Go.Pinned.pow10Rows.map fun x => (DataW.agg [.lit (.int .u64 x.1),.lit (.int .u64 x.2)]:DataW Unit)) = xs.map (·.1):=by
  have:=congrArg Prod.fst hx
  simp only [Rows.laid_internal_strconv_pow10Tab,_root_.Go.Pinned.pow10Tab,DataW.agg.injEq] at this
  exact this
 intro i hi
 have h0:=hf i hi
 have hxi:=congrArg (·[i]?) hx1
 simp only [List.getElem?_map] at hxi
 have hpl:_root_.Go.Pinned.pow10Rows.length = 696:=by decide +kernel
 have hpi:_root_.Go.Pinned.pow10Rows[i]? = some (rowH i,rowL i):=by
  unfold rowH rowL
  rw [List.getD_eq_getElem?_getD,List.getElem?_eq_getElem (by rw [hpl];exact hi)]
  rfl
 rw [hpi] at hxi
 cases hy:xs[i]? with
 | none => rw [hy] at hxi;simp at hxi
 | some y =>
  rw [hy] at h0 hxi
  simp only [Option.map_some,Option.some.injEq] at hxi
  rw [hce] at h0
  obtain ⟨zs,n,_,hz,hzl,hzn,hg⟩:=DataW.trod_struct Tryz.underlying273 h0
  have hz1:[DataW.lit (.int .u64 (rowH i)),.lit (.int .u64 (rowL i))] = zs.map (·.1):=by
   rw [hz] at hxi
   simpa using hxi
  have g0:=hg 0 _ rfl
  have g1:=hg 1 _ rfl
  have w0:=congrArg (·[0]?) hz1
  have w1:=congrArg (·[1]?) hz1
  simp only [List.getElem?_map,List.getElem?_cons_zero,List.getElem?_cons_succ] at w0 w1
  have a0:∀ (o:Nat) (q:DataW Unit × List MemPlace) (v:Nat),DataW.trod (fun _ => ()) Tryz.prog W 0 (fun _ => true) false n 82 (((((cs.toList.drop (i * 2)).take 2).drop o).take (Tryz.prog.cellsOf 82))) = some q → q.1 = .lit (.int .u64 v) → o < 2 → cs[2 * i + o]? = some (.int .u64 v):=fun o q v hq hv ho => by
   rw [hcu] at hq
   obtain ⟨z,hzz,hqq,_⟩:=DataW.trod_int Tryz.underlying82 hq
   rw [hqq] at hv
   simp only [DataW.lit.injEq,Lit.int.injEq,true_and] at hv
   subst hv
   have e:=congrArg (·[0]?) hzz
   rw [← Array.getElem?_toList]
   simp only [List.getElem?_take,List.getElem?_drop,List.getElem?_cons_zero] at e
   rw [show 2 * i + o = i * 2 + (o + 0) by omega]
   simpa [ho] using e
  refine ⟨?_,?_⟩
  ·cases hy0:zs[0]? with
   | none => rw [hy0] at w0;simp at w0
   | some q =>
    rw [hy0] at g0 w0
    rw [hc]
    exact a0 0 q _ g0 (by simpa using w0.symm) (by decide)
  ·cases hy1:zs[1]? with
   | none => rw [hy1] at w1;simp at w1
   | some q =>
    rw [hy1] at g1 w1
    rw [hc]
    exact a0 1 q _ g1 (by simpa using w1.symm) (by decide)
end Go.Proofs.YtdogjghalplohaaGreatDoor.fto
