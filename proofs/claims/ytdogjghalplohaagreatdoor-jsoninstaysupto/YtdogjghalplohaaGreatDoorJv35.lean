import Derived.Test.YtdogjghalplohaaGreatDoorJv34
import Derived.Test.YtdogjghalplohaaGreatDoorJs31
import Derived.Stop.LaidErr
namespace Go.Proofs.YtdogjghalplohaaGreatDoor.dcw
open Go.ChangeShapes Go.WideShapes Go.ChangeAt Go.RowKit
open mem Go.Sort
open ints (hide unhide)
set_option linter.unusedVariables false
set_option linter.unusedSimpArgs false
theorem gLc : Tryz.prog.globalNamed "internal/strconv.leftcheats" = some 16 := by kernel_rfl
theorem gLcT:(Tryz.prog.globals[16]?).map (·.type) = some 283:=by kernel_rfl
theorem one_str {W:World} {fuel:Nat} {t:TypeId} {cs:List Value} {off:Nat} {q:DataW Unit × List MemPlace} {v:List UInt8} (hu:Tryz.prog.underlying t = some .string) (h:DataW.trod (fun _ => ()) Tryz.prog W 0 (fun _ => true) false fuel t (List.take 1 (List.drop off cs)) = some q) (hq:q.1 = .lit (.string v)):cs[off]? = some (.string ⟨v.toArray⟩):=by
 obtain ⟨s,hz,hx,_⟩:=DataW.trod_string hu h
 rw [hx] at hq
 simp only [DataW.lit.injEq,Lit.string.injEq] at hq
 subst hq
 have e:=congrArg (·[0]?) hz
 simp only [List.getElem?_take,List.getElem?_drop,List.getElem?_cons_zero] at e
 simpa using e
theorem cheat_get:∀ k,k < 61 → (_root_.Go.Pinned.cheatRows[k]?) = some (dcm.chD k,(dcm.chT k).data.toList):=by
 intro k hk
 have hl:_root_.Go.Pinned.cheatRows.length = 61:=by decide +kernel
 unfold dcm.chD dcm.chT
 rw [List.getD_eq_getElem?_getD,List.getElem?_eq_getElem (by rw [hl];exact hk)]
 simp
theorem lc_of {W : World} {rest : List (String × DataW Unit)} (h : laidMet Tryz.prog (("internal/strconv.leftcheats", Rows.laid_internal_strconv_leftcheats) :: rest) W) : dcm.LC W W.heap.size := by
 obtain ⟨cs,fuel,p,hc,hd⟩:=lead h gLc gLcT
 have hce:Tryz.prog.cellsOf 282 = 2:=by kernel_rfl
 have hci:Tryz.prog.cellsOf 3 = 1:=by kernel_rfl
 have hcs:Tryz.prog.cellsOf 9 = 1:=by kernel_rfl
 have ed:(Rows.laid_internal_strconv_leftcheats:DataW Unit) = .slice (_root_.Go.Pinned.cheatRows.map fun x => .agg [.lit (.int .i64 x.1),.lit (.string x.2)]) []:=by rfl
 rw [ed] at hd
 rcases DataW.trod_slice Tryz.underlying283 hd with ⟨_,hx⟩ | ⟨a,len,cap,elems,rest',n,_,hcs1,hx,_,hl,_,hlen,hel,_⟩
 ·exact absurd (congrArg Prod.fst hx) (by simp)
 ·have hx1:(_root_.Go.Pinned.cheatRows.map fun x => (DataW.agg [.lit (.int .i64 x.1),.lit (.string x.2)]:DataW Unit)) = elems.map (·.1):=by
   have:=congrArg Prod.fst hx
   simp only [DataW.slice.injEq] at this
   exact this.1
  have hl61:len = 61:=by
   have:=congrArg List.length hx1
   rw [List.length_map,List.length_map,hlen,show _root_.Go.Pinned.cheatRows.length = 61 by decide +kernel] at this
   exact this.symm
  have key:∀ k,k < 61 → W.cell? ((a.add (k * 2)).add 0) = some (.int .i64 (dcm.chD k:Int)) ∧ W.cell? ((a.add (k * 2)).add 1) = some (.string (dcm.chT k)):=by
   intro k hk
   have hxi:=congrArg (·[k]?) hx1
   simp only [List.getElem?_map,cheat_get k hk] at hxi
   have hE:=hel k (by omega)
   rw [hce] at hE
   cases hy:elems[k]? with
   | none => rw [hy] at hxi;simp at hxi
   | some y =>
    rw [hy] at hE hxi
    simp only [Option.map_some,Option.some.injEq] at hxi
    rw [Option.bind_eq_some_iff] at hE
    obtain ⟨c1,hc1,hy1⟩:=hE
    obtain ⟨_,hcl,hcell⟩:=World.cells?_some hc1
    obtain ⟨xs,m,_,hz,hzl,hzn,hg⟩:=DataW.trod_struct Tryz.underlying282 hy1
    rw [hz] at hxi
    simp only [DataW.agg.injEq] at hxi
    have g0:=hg 0 _ rfl
    have g1:=hg 1 _ rfl
    have w0:=congrArg (·[0]?) hxi
    have w1:=congrArg (·[1]?) hxi
    simp only [List.getElem?_map,List.getElem?_cons_zero,List.getElem?_cons_succ] at w0 w1
    refine ⟨?_,?_⟩
    ·rw [hcell 0 (by decide)]
     cases hx0:xs[0]? with
     | none => rw [hx0] at w0;simp at w0
     | some q =>
      rw [hx0] at g0 w0
      have g0':DataW.trod (fun _ => ()) Tryz.prog W 0 (fun _ => true) false m 3 (List.take (Tryz.prog.cellsOf 3) (List.drop 0 c1)) = some q:=g0
      rw [hci] at g0'
      exact one_cell Tryz.underlying3 g0' (by simpa using w0.symm)
    ·rw [hcell 1 (by decide)]
     cases hx0:xs[1]? with
     | none => rw [hx0] at w1;simp at w1
     | some q =>
      rw [hx0] at g1 w1
      have g1':DataW.trod (fun _ => ()) Tryz.prog W 0 (fun _ => true) false m 9 (List.take (Tryz.prog.cellsOf 9) (List.drop 1 c1)) = some q:=g1
      rw [hcs] at g1'
      have:=one_str Tryz.underlying9 g1' (v:=(dcm.chT k).data.toList) (by simpa using w1.symm)
      simpa using this
  have h0:=(key 0 (by decide)).1
  have hs:a.spot = none:=by
   have:=spot_none h0
   simpa [Addr.add] using this
  obtain ⟨b,off,sp⟩:=a
  simp only at hs
  subst hs
  have hadd:∀ o i,(⟨b,o,none⟩:Addr).add i = ⟨b,o + i,none⟩:=fun o i => by
   unfold Addr.add
   by_cases h:i = 0
   ·rw [if_pos h,h,Nat.add_zero]
   ·rw [if_neg h]
  have hg:W.cell? ⟨16,0,none⟩ = some (.slice (some ⟨b,off,none⟩) 61 cap):=by
   rw [hc 0,← Array.getElem?_toList,hcs1,hl61]
   rfl
  rw [hadd,hadd] at h0
  refine ⟨b,off,cap,hg,cell_lt h0,cell_lt hg,Nat.le_refl _,fun k hk => ?_⟩
  have:=key k hk
  rw [hadd,hadd,hadd] at this
  simpa using this
theorem star : "*" ++ "errors.errorString" = "*errors.errorString" := by decide
theorem rowP (u : TypeId) (h : Tryz.prog.typeName? 3 u = some "*errors.errorString") : u = 183 :=
 typeName_ptr_named (nm := "errors.errorString") (by rw [star]; kernel_rfl) (by kernel_rfl) (by decide) u (by rw [star]; exact h)
theorem gRng : Tryz.prog.globalNamed "strconv.ErrRange" = some 3 := by kernel_rfl
theorem gRngT:(Tryz.prog.globals[3]?).map (·.type) = some 70:=by kernel_rfl
theorem cellsErr:Tryz.prog.cellsOf 185 = 1:=by kernel_rfl
theorem cellsStr:Tryz.prog.cellsOf 9 = 1:=by kernel_rfl
theorem er_of {W : World} {rest : List (String × DataW Unit)} (h : laidMet Tryz.prog (("strconv.ErrRange", Rows.laid_strconv_ErrRange) :: rest) W) : dcm.ErV W := by
 obtain ⟨aR,sR,hR,_,_,_⟩:=laid_sentinel h gRng gRngT Tryz.underlying70 rowP Tryz.underlying183 Tryz.underlying185 rfl rfl Tryz.underlying9 cellsErr cellsStr
 have hR0:W.cell? ⟨3,0,none⟩ = some (.iface 183 (.pointer (some aR))):=World.var?_cell gRng hR 0
 exact ⟨⟨_,hR0,.inr ⟨_,_,rfl⟩⟩,cell_lt hR0⟩
end Go.Proofs.YtdogjghalplohaaGreatDoor.dcw
