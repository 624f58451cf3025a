import Derived.Test.YtdogjghalplohaaGreatDoorJt29
import Derived.Lib.LaidTab
import Derived.LaidMore
import Derived.OpenShut
import Derived.MakeChecks
import Derived.Shelf.Vars
import Derived.ProofKit
import Derived.Test.YtdogjghalplohaaGreatDoorJt22
import Derived.Test.YtdogjghalplohaaGreatDoorJt20
import Derived.Test.YtdogjghalplohaaGreatDoorJt17
import Derived.Deep.RegionHeld3
import Derived.Test.YtdogjghalplohaaGreatDoorJt32
import Derived.Stop.LaidErr
import Derived.Test.YtdogjghalplohaaGreatDoorJt1
import Derived.SizedLaws
import Derived.Deep.Matrix
import Derived.Test.YtdogjghalplohaaGreatDoorRows
set_option linter.unusedVariables false
set_option linter.unusedSimpArgs false
namespace Go.Proofs.YtdogjghalplohaaGreatDoor.dcw
open Go.ChangeShapes Go.WideShapes Go.ChangeAt Go.RowKit
open mem Go.Sort
open ints (Hi uh)
theorem lead{P:Program}{W:World}{name:String}{d:DataW Unit}{rest:List (String × DataW Unit)}(h:laidMet P ((name,d)::rest) W){g:Nat}{t:TypeId}(hg:P.globalNamed name=some g)(ht:(P.globals[g]?).map (·.type)=some t) :
  ∃ (cs:Array Value) (fuel:Nat) (p:List MemPlace),(∀ i,W.cell? ⟨g,i,none⟩=cs[i]?)∧DataW.trod (fun _=>()) P W 0 (fun _=>true) false fuel t cs.toList=some (d,p):=by
 obtain⟨ps,⟨g',t',cs,fuel,p,q,hg',ht',hvar,hd,_,_⟩,_⟩:=h
 obtain rfl:=Option.some.inj (hg.symm.trans hg')
 obtain rfl:=Option.some.inj (ht.symm.trans ht')
 exact⟨cs,fuel,p,fun i=>World.var?_cell hg hvar i,hd⟩
theorem cell_lt{W:World}{g i:Nat}{v:Value}(h:W.cell? ⟨g,i,none⟩=some v):g<W.heap.size:=by
 rcases Nat.lt_or_ge g W.heap.size with hh | hh
 ·exact hh
 ·simp[World.cell?,Array.getElem?_eq_none hh] at h
theorem spot_none{W:World}{a:Addr}{v:Value}(h:W.cell? a=some v):a.spot=none:=by
 unfold World.cell? at h
 split at h
 ·split at h
  ·cases h
  ·rename_i hs
   cases hq:a.spot with
   | none=>rfl
   | some x=>rw[hq] at hs;simp at hs
 ·cases h
theorem trod_float{H:Type}{enc:TypeId × Value→H}{P:Program}{w:World}{base:Nat}{sp:Nat→Bool}{held:Bool}{fuel:Nat}{t:TypeId}{cs:List Value}{x:DataW H × List MemPlace}{k:FloatKind}(ht:P.underlying t=some (.float k))(h:DataW.trod enc P w base sp held fuel t cs=some x):∃ n,cs=[.float k n]∧x=(.lit (.float k n),[]):=by
 cases fuel with
 | zero=>simp[DataW.trod] at h
 | succ m =>
  unfold DataW.trod at h
  rw[ht] at h
  split at h <;> simp_all
theorem gPw : Tryz.prog.globalNamed "internal/strconv.powtab" = some 11 := by kernel_rfl
theorem gPwT:(Tryz.prog.globals[11]?).map (·.type)=some 135:=by kernel_rfl
theorem gFi : Tryz.prog.globalNamed "internal/strconv.float64info" = some 9 := by kernel_rfl
theorem gFiT:(Tryz.prog.globals[9]?).map (·.type)=some 220:=by kernel_rfl
theorem pw_of {W : World} {rest : List (String × DataW Unit)} (h : laidMet Tryz.prog (("internal/strconv.powtab", Rows.laid_internal_strconv_powtab) :: rest) W) : dcm.PW W W.heap.size := by
 obtain⟨cs,fuel,p,hc,hd⟩:=lead h gPw gPwT
 have hce:Tryz.prog.cellsOf 3=1:=by kernel_rfl
 have ed:(Rows.laid_internal_strconv_powtab:DataW Unit) = .slice ([1,3,6,9,13,16,19,23,26].map fun r:Nat=>.lit (.int .i64 (r:Int))) []:=by rfl
 rw[ed] at hd
 obtain⟨a,cap,hcs,hcap,hcell⟩:=open_row Tryz.underlying135 hce hd
 have key:∀ (i r:Nat),[1,3,6,9,13,16,19,23,26][i]? = some r→W.cell? (a.add i)=some (.int .i64 (r:Int)):=fun i r hr=>by
  obtain⟨v,n,q,hv,ht⟩:=hcell i (.lit (.int .i64 (r:Int))) (by rw[List.getElem?_map,hr];rfl)
  obtain⟨m,hm,hx,_⟩:=DataW.trod_int Tryz.underlying3 ht
  have e1:v = .int .i64 m:=by simpa using hm
  have e2:(r:Int)=m:=by
   have:=congrArg Prod.fst hx
   simpa using this
  rw[hv,e1,e2]
 have h0:=key 0 _ rfl
 have hs:a.spot=none:=spot_none (a:=a) (by simpa[Addr.add] using h0)
 obtain⟨b,off,sp⟩:=a
 simp only at hs
 subst hs
 have hg:W.cell? ⟨11,0,none⟩=some (.slice (some ⟨b,off,none⟩) 9 cap):=by
  rw[hc 0,←Array.getElem?_toList,hcs]
  rfl
 have hadd:∀ i,(⟨b,off,none⟩:Addr).add i=⟨b,off+i,none⟩:=fun i=>by
  unfold Addr.add
  by_cases h:i=0
  ·rw[if_pos h,h,Nat.add_zero]
  ·rw[if_neg h]
 rw[hadd 0] at h0
 refine⟨b,off,cap,hg,cell_lt h0,cell_lt hg,fun q hq=>?_⟩
 have hk:∀ q,q<9→[1,3,6,9,13,16,19,23,26][q]? = some (dcm.ptab q):=by decide
 rw[←hadd q]
 exact key q _ (hk q hq)
theorem one_cell{W:World}{fuel:Nat}{t:TypeId}{cs:List Value}{off:Nat}{q:DataW Unit × List MemPlace}{k:IntKind}{v:Int}(hu:Tryz.prog.underlying t=some (.int k))(h:DataW.trod (fun _=>()) Tryz.prog W 0 (fun _=>true) false fuel t (List.take 1 (List.drop off cs))=some q)(hq:q.1 = .lit (.int k v)):cs[off]? = some (.int k v):=by
 obtain⟨z,hz,hx,_⟩:=DataW.trod_int hu h
 rw[hx] at hq
 simp only[DataW.lit.injEq,Lit.int.injEq,true_and] at hq
 subst hq
 have e:=congrArg (·[0]?) hz
 simp only[List.getElem?_take,List.getElem?_drop,List.getElem?_cons_zero] at e
 simpa using e
theorem fi_of {W : World} {rest : List (String × DataW Unit)} (h : laidMet Tryz.prog (("internal/strconv.float64info", Rows.laid_internal_strconv_float64info) :: rest) W) : dcm.FI W W.heap.size := by
 obtain⟨cs,fuel,p,hc,hd⟩:=lead h gFi gFiT
 obtain⟨xs,n,_,hx,hl,hxl,hf⟩:=DataW.trod_struct Tryz.underlying220 hd
 have hu:Tryz.prog.cellsOf 138=1:=by kernel_rfl
 have hi:Tryz.prog.cellsOf 3=1:=by kernel_rfl
 have h0:=hf 0 _ rfl
 have h1:=hf 1 _ rfl
 have h2:=hf 2 _ rfl
 have hx1:=congrArg Prod.fst hx
 simp only[Rows.laid_internal_strconv_float64info,DataW.agg.injEq] at hx1
 have x0:=congrArg (·[0]?) hx1
 have x1:=congrArg (·[1]?) hx1
 have x2:=congrArg (·[2]?) hx1
 simp only[List.getElem?_map,List.getElem?_cons_zero,List.getElem?_cons_succ] at x0 x1 x2
 have g0:cs.toList[0]? = some (.int .u64 52):=by
  cases hy:xs[0]? with
  | none=>rw[hy] at x0;simp at x0
  | some y =>
   rw[hy] at h0 x0
   have h':DataW.trod (fun _=>()) Tryz.prog W 0 (fun _=>true) false n 138 (List.take (Tryz.prog.cellsOf 138) (List.drop 0 cs.toList))=some y:=h0
   rw[hu] at h'
   exact one_cell Tryz.underlying138 h' (by simpa using x0.symm)
 have g1:cs.toList[1]? = some (.int .u64 11):=by
  cases hy:xs[1]? with
  | none=>rw[hy] at x1;simp at x1
  | some y =>
   rw[hy] at h1 x1
   have h':DataW.trod (fun _=>()) Tryz.prog W 0 (fun _=>true) false n 138 (List.take (Tryz.prog.cellsOf 138) (List.drop 1 cs.toList))=some y:=h1
   rw[hu] at h'
   exact one_cell Tryz.underlying138 h' (by simpa using x1.symm)
 have g2:cs.toList[2]? = some (.int .i64 (-1023)):=by
  cases hy:xs[2]? with
  | none=>rw[hy] at x2;simp at x2
  | some y =>
   rw[hy] at h2 x2
   have h':DataW.trod (fun _=>()) Tryz.prog W 0 (fun _=>true) false n 3 (List.take (Tryz.prog.cellsOf 3) (List.drop 2 cs.toList))=some y:=h2
   rw[hi] at h'
   exact one_cell Tryz.underlying3 h' (by simpa using x2.symm)
 have c0:W.cell? ⟨9,0,none⟩=some (.int .u64 52):=by rw[hc 0,←Array.getElem?_toList];exact g0
 exact⟨cell_lt c0,c0,by rw[hc 1,←Array.getElem?_toList];exact g1,by rw[hc 2,←Array.getElem?_toList];exact g2⟩
end Go.Proofs.YtdogjghalplohaaGreatDoor.dcw
namespace Go.Proofs.YtdogjghalplohaaGreatDoor.fto
open Go.ChangeShapes Go.WideShapes Go.ChangeAt Go.RowKit
open mem Go.Sort
open ints (Hi uh)
theorem lead{P:Program}{W:World}{name:String}{d:DataW Unit}{rest:List (String × DataW Unit)}(h:laidMet P ((name,d)::rest) W){g:Nat}{t:TypeId}(hg:P.globalNamed name=some g)(ht:(P.globals[g]?).map (·.type)=some t) :
  ∃ (cs:Array Value) (fuel:Nat) (p:List MemPlace),(∀ i,W.cell? ⟨g,i,none⟩=cs[i]?)∧DataW.trod (fun _=>()) P W 0 (fun _=>true) false fuel t cs.toList=some (d,p):=by
 obtain⟨ps,⟨g',t',cs,fuel,p,q,hg',ht',hvar,hd,_,_⟩,_⟩:=h
 obtain rfl:=Option.some.inj (hg.symm.trans hg')
 obtain rfl:=Option.some.inj (ht.symm.trans ht')
 exact⟨cs,fuel,p,fun i=>World.var?_cell hg hvar i,hd⟩
theorem cell_lt{W:World}{g i:Nat}{v:Value}(h:W.cell? ⟨g,i,none⟩=some v):g<W.heap.size:=by
 rcases Nat.lt_or_ge g W.heap.size with hh | hh
 ·exact hh
 ·simp[World.cell?,Array.getElem?_eq_none hh] at h
theorem spot_none{W:World}{a:Addr}{v:Value}(h:W.cell? a=some v):a.spot=none:=by
 unfold World.cell? at h
 split at h
 ·split at h
  ·cases h
  ·rename_i hs
   cases hq:a.spot with
   | none=>rfl
   | some x=>rw[hq] at hs;simp at hs
 ·cases h
theorem trod_float{H:Type}{enc:TypeId × Value→H}{P:Program}{w:World}{base:Nat}{sp:Nat→Bool}{held:Bool}{fuel:Nat}{t:TypeId}{cs:List Value}{x:DataW H × List MemPlace}{k:FloatKind}(ht:P.underlying t=some (.float k))(h:DataW.trod enc P w base sp held fuel t cs=some x):∃ n,cs=[.float k n]∧x=(.lit (.float k n),[]):=by
 cases fuel with
 | zero=>simp[DataW.trod] at h
 | succ m =>
  unfold DataW.trod at h
  rw[ht] at h
  split at h <;> simp_all
theorem gOpt : Tryz.prog.globalNamed "internal/strconv.optimize" = some 8 := by kernel_rfl
theorem gOptT:(Tryz.prog.globals[8]?).map (·.type)=some 4:=by kernel_rfl
theorem gInf : Tryz.prog.globalNamed "internal/strconv.float64info" = some 9 := by kernel_rfl
theorem gInfT:(Tryz.prog.globals[9]?).map (·.type)=some 220:=by kernel_rfl
theorem gTen : Tryz.prog.globalNamed "internal/strconv.float64pow10" = some 12 := by kernel_rfl
theorem gTenT:(Tryz.prog.globals[12]?).map (·.type)=some 258:=by kernel_rfl
theorem gPow : Tryz.prog.globalNamed "internal/strconv.pow10Tab" = some 15 := by kernel_rfl
theorem gPowT:(Tryz.prog.globals[15]?).map (·.type)=some 274:=by kernel_rfl
theorem opt_of {W : World} {rest : List (String × DataW Unit)} (h : laidMet Tryz.prog (("internal/strconv.optimize", Rows.laid_internal_strconv_optimize) :: rest) W) : W.cell? ⟨8, 0, none⟩ = some (.bool true) := by
 obtain⟨cs,fuel,p,hc,hd⟩:=lead h gOpt gOptT
 obtain⟨b,hb,hx⟩:=DataW.trod_bool Tryz.underlying4 hd
 have:b=true:=by
  have:=congrArg Prod.fst hx
  simp only[Rows.laid_internal_strconv_optimize,DataW.lit.injEq,Lit.bool.injEq] at this
  exact this.symm
 subst this
 rw[hc 0,←Array.getElem?_toList,hb]
 rfl
theorem info_of {W : World} {rest : List (String × DataW Unit)} (h : laidMet Tryz.prog (("internal/strconv.float64info", Rows.laid_internal_strconv_float64info) :: rest) W) : W.cell? ⟨9, 0, none⟩ = some (.int .u64 52) := by
 obtain⟨cs,fuel,p,hc,hd⟩:=lead h gInf gInfT
 obtain⟨xs,n,_,hx,hl,hxl,hf⟩:=DataW.trod_struct Tryz.underlying220 hd
 have h0:=hf 0 _ rfl
 have hx1:=congrArg Prod.fst hx
 simp only[Rows.laid_internal_strconv_float64info,DataW.agg.injEq] at hx1
 have hx0:=congrArg (·[0]?) hx1
 simp only[List.getElem?_map,List.getElem?_cons_zero] at hx0
 cases hy:xs[0]? with
 | none=>rw[hy] at hx0;simp at hx0
 | some y =>
  rw[hy] at h0 hx0
  obtain⟨z,hz,hq,_⟩:=DataW.trod_int Tryz.underlying138 h0
  subst hq
  simp only[Option.map_some,Option.some.injEq,DataW.lit.injEq,Lit.int.injEq,true_and] at hx0
  subst hx0
  rw[hc 0,←Array.getElem?_toList]
  have hce:Tryz.prog.cellsOf 138=1:=by kernel_rfl
  have hz2:List.take (Tryz.prog.cellsOf 138) (List.drop 0 cs.toList)=[.int .u64 52]:=hz
  rw[hce] at hz2
  have e:=congrArg (·[0]?) hz2
  simpa[List.getElem?_take] using e
theorem ten_of {W : World} {rest : List (String × DataW Unit)} (h : laidMet Tryz.prog (("internal/strconv.float64pow10", Rows.laid_internal_strconv_float64pow10) :: rest) W) : T10 W := by
 obtain⟨cs,fuel,p,hc,hd⟩:=lead h gTen gTenT
 have hce:Tryz.prog.cellsOf 25=1:=by kernel_rfl
 have ed:(Rows.laid_internal_strconv_float64pow10:DataW Unit) = .slice (tens.map fun r=>.lit (.float .f64 r)) []:=by rfl
 rw[ed] at hd
 obtain⟨a,cap,hcs,hcap,hcell⟩:=open_row Tryz.underlying258 hce hd
 have key:∀ i r,tens[i]? = some r→W.cell? (a.add i)=some (.float .f64 r):=fun i r hr=>by
  obtain⟨v,n,q,hv,ht⟩:=hcell i (.lit (.float .f64 r)) (by rw[List.getElem?_map,hr];rfl)
  obtain⟨m,hm,hx⟩:=trod_float Tryz.underlying25 ht
  have e1:v = .float .f64 m:=by simpa using hm
  have e2:r=m:=by
   have:=congrArg Prod.fst hx
   simpa using this
  rw[hv,e1,e2]
 have h0:=key 0 _ rfl
 have hs:a.spot=none:=spot_none (a:=a) (by simpa[Addr.add] using h0)
 obtain⟨b,off,sp⟩:=a
 simp only at hs
 subst hs
 have hg:W.cell? ⟨12,0,none⟩=some (.slice (some ⟨b,off,none⟩) 23 cap):=by
  rw[hc 0,←Array.getElem?_toList,hcs]
  rfl
 have hadd:∀ i,(⟨b,off,none⟩:Addr).add i=⟨b,off+i,none⟩:=fun i=>by
  unfold Addr.add
  by_cases h:i=0
  ·rw[if_pos h,h,Nat.add_zero]
  ·rw[if_neg h]
 rw[hadd 0] at h0
 refine⟨b,off,cap,hg,cell_lt h0,cell_lt hg,fun i r hr=>?_⟩
 rw[←hadd i]
 exact key i r hr
theorem pt_of {W : World} {rest : List (String × DataW Unit)} (h : laidMet Tryz.prog (("internal/strconv.pow10Tab", Rows.laid_internal_strconv_pow10Tab) :: rest) W) : PT W := by
 obtain⟨cs,fuel,p,hc,hd⟩:=lead h gPow gPowT
 have hce:Tryz.prog.cellsOf 273=2:=by kernel_rfl
 have hcu:Tryz.prog.cellsOf 82=1:=by kernel_rfl
 obtain⟨xs,m,_,hx,hl,hxl,hf⟩:=DataW.trod_array Tryz.underlying274 hd
 have hx1:(_root_.Go.Pinned.pow10Rows.map fun x=>(DataW.agg [.lit (.int .u64 x.1),.lit (.int .u64 x.2)]:DataW Unit))=xs.map (·.1):=by
  have:=congrArg Prod.fst hx
  simp only[Rows.laid_internal_strconv_pow10Tab,_root_.Go.Pinned.pow10Tab,DataW.agg.injEq] at this
  exact this
 intro i hi
 have h0:=hf i hi
 have hxi:=congrArg (·[i]?) hx1
 simp only[List.getElem?_map] at hxi
 have hpl:_root_.Go.Pinned.pow10Rows.length=696:=by decide +kernel
 have hpi:_root_.Go.Pinned.pow10Rows[i]? = some (rowH i,rowL i):=by
  unfold rowH rowL
  rw[List.getD_eq_getElem?_getD,List.getElem?_eq_getElem (by rw[hpl];exact hi)]
  rfl
 rw[hpi] at hxi
 cases hy:xs[i]? with
 | none=>rw[hy] at hxi;simp at hxi
 | some y =>
  rw[hy] at h0 hxi
  simp only[Option.map_some,Option.some.injEq] at hxi
  rw[hce] at h0
  obtain⟨zs,n,_,hz,hzl,hzn,hg⟩:=DataW.trod_struct Tryz.underlying273 h0
  have hz1:[DataW.lit (.int .u64 (rowH i)),.lit (.int .u64 (rowL i))]=zs.map (·.1):=by
   rw[hz] at hxi
   simpa using hxi
  have g0:=hg 0 _ rfl
  have g1:=hg 1 _ rfl
  have w0:=congrArg (·[0]?) hz1
  have w1:=congrArg (·[1]?) hz1
  simp only[List.getElem?_map,List.getElem?_cons_zero,List.getElem?_cons_succ] at w0 w1
  have a0:∀ (o:Nat) (q:DataW Unit × List MemPlace) (v:Nat),DataW.trod (fun _=>()) Tryz.prog W 0 (fun _=>true) false n 82 (((((cs.toList.drop (i * 2)).take 2).drop o).take (Tryz.prog.cellsOf 82)))=some q→q.1 = .lit (.int .u64 v)→o<2→cs[2 * i+o]? = some (.int .u64 v):=fun o q v hq hv ho=>by
   rw[hcu] at hq
   obtain⟨z,hzz,hqq,_⟩:=DataW.trod_int Tryz.underlying82 hq
   rw[hqq] at hv
   simp only[DataW.lit.injEq,Lit.int.injEq,true_and] at hv
   subst hv
   have e:=congrArg (·[0]?) hzz
   rw[←Array.getElem?_toList]
   simp only[List.getElem?_take,List.getElem?_drop,List.getElem?_cons_zero] at e
   rw[show 2 * i+o=i * 2+(o+0) by omega]
   simpa[ho] using e
  refine⟨?_,?_⟩
  ·cases hy0:zs[0]? with
   | none=>rw[hy0] at w0;simp at w0
   | some q =>
    rw[hy0] at g0 w0
    rw[hc]
    exact a0 0 q _ g0 (by simpa using w0.symm) (by decide)
  ·cases hy1:zs[1]? with
   | none=>rw[hy1] at w1;simp at w1
   | some q =>
    rw[hy1] at g1 w1
    rw[hc]
    exact a0 1 q _ g1 (by simpa using w1.symm) (by decide)
end Go.Proofs.YtdogjghalplohaaGreatDoor.fto
namespace Go.Proofs.YtdogjghalplohaaGreatDoor.dcw
open Go.ChangeShapes Go.WideShapes Go.ChangeAt Go.RowKit
open mem Go.Sort
open ints (Hi uh)
theorem gLc : Tryz.prog.globalNamed "internal/strconv.leftcheats" = some 16 := by kernel_rfl
theorem gLcT:(Tryz.prog.globals[16]?).map (·.type)=some 283:=by kernel_rfl
theorem one_str{W:World}{fuel:Nat}{t:TypeId}{cs:List Value}{off:Nat}{q:DataW Unit × List MemPlace}{v:List UInt8}(hu:Tryz.prog.underlying t=some .string)(h:DataW.trod (fun _=>()) Tryz.prog W 0 (fun _=>true) false fuel t (List.take 1 (List.drop off cs))=some q)(hq:q.1 = .lit (.string v)):cs[off]? = some (.string ⟨v.toArray⟩):=by
 obtain⟨s,hz,hx,_⟩:=DataW.trod_string hu h
 rw[hx] at hq
 simp only[DataW.lit.injEq,Lit.string.injEq] at hq
 subst hq
 have e:=congrArg (·[0]?) hz
 simp only[List.getElem?_take,List.getElem?_drop,List.getElem?_cons_zero] at e
 simpa using e
theorem cheat_get:∀ k,k<61→(_root_.Go.Pinned.cheatRows[k]?)=some (dcm.chD k,(dcm.chT k).data.toList):=by
 intro k hk
 have hl:_root_.Go.Pinned.cheatRows.length=61:=by decide +kernel
 unfold dcm.chD dcm.chT
 rw[List.getD_eq_getElem?_getD,List.getElem?_eq_getElem (by rw[hl];exact hk)]
 simp
theorem lc_of {W : World} {rest : List (String × DataW Unit)} (h : laidMet Tryz.prog (("internal/strconv.leftcheats", Rows.laid_internal_strconv_leftcheats) :: rest) W) : dcm.LC W W.heap.size := by
 obtain⟨cs,fuel,p,hc,hd⟩:=lead h gLc gLcT
 have hce:Tryz.prog.cellsOf 282=2:=by kernel_rfl
 have hci:Tryz.prog.cellsOf 3=1:=by kernel_rfl
 have hcs:Tryz.prog.cellsOf 9=1:=by kernel_rfl
 have ed:(Rows.laid_internal_strconv_leftcheats:DataW Unit) = .slice (_root_.Go.Pinned.cheatRows.map fun x=>.agg [.lit (.int .i64 x.1),.lit (.string x.2)]) []:=by rfl
 rw[ed] at hd
 rcases DataW.trod_slice Tryz.underlying283 hd with ⟨_,hx⟩ | ⟨a,len,cap,elems,rest',n,_,hcs1,hx,_,hl,_,hlen,hel,_⟩
 ·exact absurd (congrArg Prod.fst hx) (by simp)
 ·have hx1:(_root_.Go.Pinned.cheatRows.map fun x=>(DataW.agg [.lit (.int .i64 x.1),.lit (.string x.2)]:DataW Unit))=elems.map (·.1):=by
   have:=congrArg Prod.fst hx
   simp only[DataW.slice.injEq] at this
   exact this.1
  have hl61:len=61:=by
   have:=congrArg List.length hx1
   rw[List.length_map,List.length_map,hlen,show _root_.Go.Pinned.cheatRows.length=61 by decide +kernel] at this
   exact this.symm
  have key:∀ k,k<61→W.cell? ((a.add (k * 2)).add 0)=some (.int .i64 (dcm.chD k:Int))∧W.cell? ((a.add (k * 2)).add 1)=some (.string (dcm.chT k)):=by
   intro k hk
   have hxi:=congrArg (·[k]?) hx1
   simp only[List.getElem?_map,cheat_get k hk] at hxi
   have hE:=hel k (by omega)
   rw[hce] at hE
   cases hy:elems[k]? with
   | none=>rw[hy] at hxi;simp at hxi
   | some y =>
    rw[hy] at hE hxi
    simp only[Option.map_some,Option.some.injEq] at hxi
    rw[Option.bind_eq_some_iff] at hE
    obtain⟨c1,hc1,hy1⟩:=hE
    obtain⟨_,hcl,hcell⟩:=World.cells?_some hc1
    obtain⟨xs,m,_,hz,hzl,hzn,hg⟩:=DataW.trod_struct Tryz.underlying282 hy1
    rw[hz] at hxi
    simp only[DataW.agg.injEq] at hxi
    have g0:=hg 0 _ rfl
    have g1:=hg 1 _ rfl
    have w0:=congrArg (·[0]?) hxi
    have w1:=congrArg (·[1]?) hxi
    simp only[List.getElem?_map,List.getElem?_cons_zero,List.getElem?_cons_succ] at w0 w1
    refine⟨?_,?_⟩
    ·rw[hcell 0 (by decide)]
     cases hx0:xs[0]? with
     | none=>rw[hx0] at w0;simp at w0
     | some q =>
      rw[hx0] at g0 w0
      have g0':DataW.trod (fun _=>()) Tryz.prog W 0 (fun _=>true) false m 3 (List.take (Tryz.prog.cellsOf 3) (List.drop 0 c1))=some q:=g0
      rw[hci] at g0'
      exact one_cell Tryz.underlying3 g0' (by simpa using w0.symm)
    ·rw[hcell 1 (by decide)]
     cases hx0:xs[1]? with
     | none=>rw[hx0] at w1;simp at w1
     | some q =>
      rw[hx0] at g1 w1
      have g1':DataW.trod (fun _=>()) Tryz.prog W 0 (fun _=>true) false m 9 (List.take (Tryz.prog.cellsOf 9) (List.drop 1 c1))=some q:=g1
      rw[hcs] at g1'
      have:=one_str Tryz.underlying9 g1' (v:=(dcm.chT k).data.toList) (by simpa using w1.symm)
      simpa using this
  have h0:=(key 0 (by decide)).1
  have hs:a.spot=none:=by
   have:=spot_none h0
   simpa[Addr.add] using this
  obtain⟨b,off,sp⟩:=a
  simp only at hs
  subst hs
  have hadd:∀ o i,(⟨b,o,none⟩:Addr).add i=⟨b,o+i,none⟩:=fun o i=>by
   unfold Addr.add
   by_cases h:i=0
   ·rw[if_pos h,h,Nat.add_zero]
   ·rw[if_neg h]
  have hg:W.cell? ⟨16,0,none⟩=some (.slice (some ⟨b,off,none⟩) 61 cap):=by
   rw[hc 0,←Array.getElem?_toList,hcs1,hl61]
   rfl
  rw[hadd,hadd] at h0
  refine⟨b,off,cap,hg,cell_lt h0,cell_lt hg,Nat.le_refl _,fun k hk=>?_⟩
  have:=key k hk
  rw[hadd,hadd,hadd] at this
  simpa using this
theorem star : "*" ++ "errors.errorString" = "*errors.errorString" := by decide
theorem rowP (u : TypeId) (h : Tryz.prog.typeName? 3 u = some "*errors.errorString") : u = 183 :=
 typeName_ptr_named (nm := "errors.errorString") (by rw [star]; kernel_rfl) (by kernel_rfl) (by decide) u (by rw [star]; exact h)
theorem gRng : Tryz.prog.globalNamed "strconv.ErrRange" = some 3 := by kernel_rfl
theorem gRngT:(Tryz.prog.globals[3]?).map (·.type)=some 70:=by kernel_rfl
theorem cellsErr:Tryz.prog.cellsOf 185=1:=by kernel_rfl
theorem cellsStr:Tryz.prog.cellsOf 9=1:=by kernel_rfl
theorem er_of {W : World} {rest : List (String × DataW Unit)} (h : laidMet Tryz.prog (("strconv.ErrRange", Rows.laid_strconv_ErrRange) :: rest) W) : dcm.ErV W := by
 obtain⟨aR,sR,hR,_,_,_⟩:=laid_sentinel h gRng gRngT Tryz.underlying70 rowP Tryz.underlying183 Tryz.underlying185 rfl rfl Tryz.underlying9 cellsErr cellsStr
 have hR0:W.cell? ⟨3,0,none⟩=some (.iface 183 (.pointer (some aR))):=World.var?_cell gRng hR 0
 exact⟨⟨_,hR0,.inr ⟨_,_,rfl⟩⟩,cell_lt hR0⟩
end Go.Proofs.YtdogjghalplohaaGreatDoor.dcw
namespace Go.Proofs.YtdogjghalplohaaGreatDoor.mem
open Go.ChangeShapes Go.WideShapes Go.ChangeAt Go.RowKit
open ints (Hi uh)
theorem row_of_cells{k:IntKind}{w:World}{A:Option Addr}{L C:Nat}{Z:List Int}(h1:L≤C)(h2:Z.length=C)(h3:A=none→C=0)(h4:∀ a',A=some a'→∀ c,c<C→w.cell? (a'.add c)=some (.int k (Z.getD c 0))) :
  Row k w A L C (Z.take L):=by
 refine⟨by simp;omega,h1,h3,?_⟩
 by_cases h0:L=0
 ·exact .inl h0
 ·right
  cases A with
  | none=>have:=h3 rfl;omega
  | some a' =>
   obtain⟨b,off,spot⟩:=a'
   have hc:=h4 _ rfl 0 (by omega)
   have hspot:spot=none:=by simpa[Addr.add] using World.cell?_spot hc
   subst hspot
   refine⟨b,off,rfl,?_,fun i hi=>?_⟩
   ·exact World.block_lt_of_cell? w _ hc
   ·have:=h4 _ rfl i (by omega)
    rw[Addr.add_lit] at this
    rw[this]
    simp[List.getD,hi]
theorem bulk_pos{H:Type}(d:DataW H):1≤Rows.uptoBulk d:=by
 cases d with
 | lit l=>cases l <;> simp[Rows.uptoBulk]
 | _=>simp[Rows.uptoBulk]
theorem bulk_len{H:Type}:∀ (l:List (DataW H)),l.length≤Rows.uptoBulkAll l
 | []=>by simp[Rows.uptoBulkAll]
 | x::r=>by
  have:=bulk_len r
  have:=bulk_pos x
  simp only[Rows.uptoBulkAll,List.length_cons]
  omega
theorem bulk_slice{H:Type}(e s:List (DataW H)):e.length+s.length≤Rows.uptoBulk (.slice e s):=by
 have:=bulk_len e
 have:=bulk_len s
 simp only[Rows.uptoBulk]
 omega
theorem wf_byt{zs:List Int}(h:∀ z∈zs,(Lit.int .u8 z).wf=true):∀ z∈zs,0≤z∧z≤255:=fun z hz=>by
 simpa[Lit.wf,IntKind.min,IntKind.max,IntKind.signed,IntKind.bits] using h z hz
theorem row_of{H:Type}{enc:TypeId × Value→H}{P:Program}{w:World}{base:Nat}{held:Bool}{t q:TypeId}{k:IntKind}{fuel:Nat}{a0:Option Addr}{len0 cap0:Nat}{d:DataW H}{p:List MemPlace}
  (ht:P.underlying t=some (.slice q)) (hq:P.underlying q=some (.int k)) (cq:P.cellsOf q=1)
  (h:DataW.trod enc P w base (fun _=>true) held fuel t [.slice a0 len0 cap0]=some (d,p)) :
  ∃ zs,Row k w a0 len0 cap0 zs∧(∀ z∈zs,(Lit.int k z).wf=true)∧len0≤Rows.uptoBulk d:=by
 rcases open_ints ht hq cq h with ⟨hcs,_⟩ | ⟨x,l,c,zs,hcs,_,hl,hm,hz,hx,hcell,hwz⟩
 ·simp at hcs
  obtain⟨rfl,rfl,rfl⟩:=hcs
  exact⟨[],⟨rfl,Nat.le_refl _,fun _=>rfl,.inl rfl⟩,by simp,Nat.zero_le _⟩
 ·simp at hcs
  obtain⟨rfl,rfl,rfl⟩:=hcs
  simp only[if_true] at hz
  simp only[Prod.mk.injEq] at hx
  refine⟨zs.take len0,row_of_cells hl hz (fun e=>by cases e) (fun a' ha c hc=>?_),fun z hz'=>hwz z (List.mem_of_mem_take hz'),?_⟩
  ·obtain rfl:=Option.some.inj ha
   exact hcell c (by rw[hz];exact hc)
  ·rw[hx.1]
   refine Nat.le_trans ?_ (bulk_slice _ _)
   simp[lits]
   omega
end Go.Proofs.YtdogjghalplohaaGreatDoor.mem
