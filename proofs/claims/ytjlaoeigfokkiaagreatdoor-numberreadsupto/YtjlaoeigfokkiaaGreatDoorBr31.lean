import Derived.Test.YtjlaoeigfokkiaaGreatDoorBr30
import Derived.Deep.RegionHeld3
import Derived.Lib.LaidTab
import Derived.LaidMore
import Derived.OpenShut
import Derived.MakeChecks
import Derived.Shelf.Vars
import Derived.ProofKit
import Derived.Test.YtjlaoeigfokkiaaGreatDoorBr23
import Derived.Deep.LoopGhost
import Derived.Lib.ParseIntB
import GoSem.Op.String
namespace Go.Proofs.YtjlaoeigfokkiaaGreatDoor.fto
open Go.ChangeShapes Go.WideShapes Go.ChangeAt Go.RowKit
open mem Go.Sort
open ints (hide unhide)
set_option linter.unusedVariables false
theorem dgt_125 (j i:Nat) (h3:i < 3 + j):dgt (125 * 10 ^ j) (3 + j) i = if i = 0 then 49 else if i = 1 then 50 else if i = 2 then 53 else 48:=by
 rw [dgt_eq]
 have hj:0 < 10 ^ j:=Nat.pow_pos (by decide)
 by_cases h0:i = 0
 ·subst h0
  rw [if_pos rfl,show 3 + j - 1 - 0 = j + 2 by omega,Nat.pow_add,← Nat.div_div_eq_div_mul,Nat.mul_div_cancel _ hj]
  rfl
 ·rw [if_neg h0]
  by_cases h1:i = 1
  ·subst h1
   rw [if_pos rfl,show 3 + j - 1 - 1 = j + 1 by omega,Nat.pow_add,← Nat.div_div_eq_div_mul,Nat.mul_div_cancel _ hj]
   rfl
  ·rw [if_neg h1]
   by_cases h2:i = 2
   ·subst h2
    rw [if_pos rfl,show 3 + j - 1 - 2 = j by omega,Nat.mul_div_cancel _ hj]
    rfl
   ·rw [if_neg h2]
    obtain ⟨m,hm⟩:∃ m,j = (3 + j - 1 - i) + 1 + m:=⟨i - 3,by omega⟩
    have e:125 * 10 ^ j / 10 ^ (3 + j - 1 - i) = 125 * 10 ^ m * 10:=by
     have hp:0 < 10 ^ (3 + j - 1 - i):=Nat.pow_pos (by decide)
     have:125 * 10 ^ j = 125 * 10 ^ m * 10 * 10 ^ (3 + j - 1 - i):=by
      conv => lhs;rw [hm,Nat.pow_add,Nat.pow_add]
      generalize 10 ^ (3 + j - 1 - i) = y
      generalize 10 ^ m = z
      rw [Nat.pow_one,Nat.mul_comm (y * 10) z,Nat.mul_comm y 10,← Nat.mul_assoc z 10 y,← Nat.mul_assoc 125,← Nat.mul_assoc 125]
     rw [this,Nat.mul_div_cancel _ hp]
    rw [e]
    omega
theorem nd_125 (j:Nat):Lib.nDigits (125 * 10 ^ j) = 3 + j:=by
 have:=Lib.nDigits_unique (2 + j) (125 * 10 ^ j) (by
  rw [Nat.pow_add]
  exact Nat.mul_le_mul_right _ (by decide)) (by
  rw [show 2 + j + 1 = 3 + j by omega,Nat.pow_add]
  exact Nat.mul_lt_mul_of_pos_right (by decide) (Nat.pow_pos (by decide)))
 omega
theorem text_125 {d k:Nat} {q:Int} (hc:Chosen 4638496509959077888 d q) (hk:Kept d k):ftB 13861868546813853696 d k q = ⟨#[45,49,50,53,46,48]⟩:=by
 obtain ⟨j,-,rfl,rfl⟩:=ch_125 hc
 obtain ⟨k1,k2,k3,k4⟩:=hk
 rw [nd_125] at k2 k3 k4
 have hk3:k = 3:=by
  have h1:k ≤ 3:=by
   rcases Nat.lt_or_ge 3 k with h | h
   ·exfalso
    apply k4
    rw [dgt_125 j (k - 1) (by omega),if_neg (by omega),if_neg (by omega),if_neg (by omega)]
   ·exact h
  rcases Nat.lt_or_ge k 3 with h | h
  ·exfalso
   have:=k3 2 (by omega) (by omega)
   rw [dgt_125 j 2 (by omega)] at this
   simp at this
  ·omega
 subst hk3
 have e1:dgs (125 * 10 ^ j) 3 = [49,50,53]:=by
  unfold dgs
  rw [nd_125]
  have a0:=dgt_125 j 0 (by omega)
  have a1:=dgt_125 j 1 (by omega)
  have a2:=dgt_125 j 2 (by omega)
  simp only [List.range,List.range.loop,List.map_cons,List.map_nil,a0,a1,a2]
  rfl
 unfold ftB
 rw [e1,nd_125,show ((3 + j:Nat):Int) + -(j:Int) = 3 by omega]
 unfold layB
 rw [if_neg (by decide),if_neg (by decide),str_size]
 simp only [List.length_cons,List.length_nil]
 rw [if_pos (by decide),rpB_eq]
 rfl
theorem rd_125:RdF 13861868546813853696 ⟨#[45,49,50,46,53,101,49]⟩:=by
 have hd:∀ l:List Int,(l.all fun z => decide (48 ≤ z) && decide (z ≤ 57)) = true → Dg l:=fun l h z hz => by
  have:=List.all_eq_true.1 h z hz
  simp at this
  exact this
 have e:trm ([49,50] ++ [53]) = [49,50,53]:=by decide
 have e2:pwr [49,50] [53] (some (false,[49])) = 3:=by decide
 have:=read_text true [49,50] [53] (some (false,[49])) 4638496509959077888 (hd _ (by decide)) (by simp) (fun r h => by simp at h) (hd _ (by decide)) ⟨hd _ (by decide),by simp⟩ (show ([49]:List Int).length ≤ 10 by decide) (by simp) (by simp) (by simp) (by rw [e];simp) (by rw [e];simp) (by
  rw [e,e2]
  have h1:dv [49,50,53] = 125:=by decide
  rw [h1]
  rw [show (3:Int) - (([49,50,53]:List Int).length:Int) = 0 from rfl]
  unfold Rd
  rw [in125]
  decide) (by decide) (by decide)
 exact this
theorem rd_907 (W:World):Calls Tryz.prog 8 #[.string ⟨#[57,48,55]⟩] W fun e w' => e = .returned (.tuple #[.agg #[.int .i64 2,.int .i64 907,.float .f64 0],.int .i64 0]) ∧ Below W.heap.size W w':=by
 have:=read_whole 907 (by decide) (by decide) W
 have e:itB 907 = ⟨#[57,48,55]⟩:=by
  rw [itB_itZ]
  unfold itZ
  rw [show (907:Int).natAbs = 907 from rfl,dz_big (by decide),dz_big (by decide),dz_small (by decide)]
  rfl
 rw [e] at this
 exact this
theorem ft_125 (w:World) (hW:Fy w):Calls Tryz.prog 11 #[.float .f64 13861868546813853696] w fun e w' => e = .returned (.string ⟨#[45,49,50,53,46,48]⟩) ∧ Below w.heap.size w w':=by
 obtain ⟨d,q,hc,H⟩:=ftext_any 13861868546813853696 (by decide) (by decide) (by decide)
 refine (H w hW.fx).mono ?_
 rintro e w1 ⟨k,hk,rfl,b1⟩
 exact ⟨by rw [text_125 hc hk],b1⟩
theorem ord_125:(FloatKind.f64.format.order 13861868546813853696 13861868546813853696 == some Ordering.eq) = true:=by decide +kernel
set_option maxHeartbeats 1000000 in
set_option maxRecDepth 100000 in
theorem fixed_ok (w:World) (hW:Fy w):Calls Tryz.prog 7 #[] w fun e w' => e = .returned (.bool true) ∧ Below w.heap.size w w':=by
 have R1:=hide rd_125
 have R2:=hide rd_907
 have R3:=hide ft_125
 have HF:=hide hW
 have ho:=ord_125
 have hsf:=fun (a:Addr) (n:Nat) (w:World) => run_store Tryz.prog w a (.float .f64 n) .plain rfl
 clear hW
 go_enter Tryz.func7,Tryz.ntmps7
 go_wp2_with fail
 refine (unhide R1 _ (unhide HF)).mono ?_
 rintro e w1 ⟨rfl,b1⟩
 have F1:=hide ((unhide HF).below b1)
 have B1:=hide b1
 clear b1 R1
 go_wp2_with fail
 refine (unhide R2 _).mono ?_
 rintro e w2 ⟨rfl,b2⟩
 have hz:(w1.alloc (.cells #[.int .i64 3,.int .i64 0,.float .f64 13861868546813853696] 27)).heap.size = w1.heap.size + 1:=by simp
 rw [hz] at b2
 have hb2:w2.heap[w1.heap.size]? = some (.cells #[.int .i64 3,.int .i64 0,.float .f64 13861868546813853696] 27 (0,0)):=(b2.block w1.heap.size (by omega)).trans (heap_alloc_new w1 _)
 have x2:Below w1.heap.size w1 w2:=((Below.refl _ _).alloc (Nat.le_refl _) _).trans (b2.mono (by omega))
 have z2:w1.heap.size < w2.heap.size:=by have:=b2.size;rw [hz] at this;omega
 have F2:=hide ((unhide F1).below x2)
 have B2:=hide ((unhide B1).trans (x2.mono (unhide B1).size))
 have bA:∀ o,Below w2.heap.size w2 (w2.alloc o):=fun o => (Below.refl _ _).alloc (Nat.le_refl _) o
 have c0:∀ o,(w2.alloc o).cell? ⟨w1.heap.size,0,none⟩ = some (.int .i64 3):=fun o => by rw [(bA o).cell (p:=⟨w1.heap.size,0,none⟩) z2];simp [World.cell?,hb2]
 have c2:∀ o,(w2.alloc o).cell? ⟨w1.heap.size,2,none⟩ = some (.float .f64 13861868546813853696):=fun o => by rw [(bA o).cell (p:=⟨w1.heap.size,2,none⟩) z2];simp [World.cell?,hb2]
 clear b2 hb2 x2 z2 F1 B1 R2 bA hz
 go_wp2_with fail
 refine (unhide R3 _ ((unhide F2).below ((Below.refl _ _).alloc (Nat.le_refl _) _))).mono ?_
 rintro e w3 ⟨rfl,b3⟩
 have B3:=hide ((unhide B2).trans ((((Below.refl w2.heap.size w2).alloc (Nat.le_refl _) _).trans (b3.mono (by simp))).mono (unhide B2).size))
 clear b3
 go_wp2
 go_ret
 exact ⟨rfl,unhide B3⟩
end Go.Proofs.YtjlaoeigfokkiaaGreatDoor.fto
namespace Go.Proofs.YtjlaoeigfokkiaaGreatDoor.fto
open Go.ChangeShapes Go.WideShapes Go.ChangeAt Go.RowKit
open mem Go.Sort
open ints (hide unhide)
set_option linter.unusedVariables false
theorem cell_of {w:World} {b:Nat} {arr:Array Value} {t:TypeId} {fr:Nat × Nat} (h:w.heap[b]? = some (.cells arr t fr)) (o:Nat):w.cell? ⟨b,o,none⟩ = arr[o]? := by
 simp [World.cell?,h]
end Go.Proofs.YtjlaoeigfokkiaaGreatDoor.fto
namespace Go.Proofs.YtjlaoeigfokkiaaGreatDoor.fto
open Go.ChangeShapes Go.WideShapes Go.ChangeAt Go.RowKit
open mem Go.Sort
open ints (hide unhide)
set_option linter.unusedVariables false
theorem lead {P:Program} {W:World} {name:String} {d:DataW Unit} {rest:List (String × DataW Unit)} (h:laidMet P ((name,d) :: rest) W) {g:Nat} {t:TypeId} (hg:P.globalNamed name = some g) (ht:(P.globals[g]?).map (·.type) = some t) :
  ∃ (cs:Array Value) (fuel:Nat) (p:List MemPlace),(∀ i,W.cell? ⟨g,i,none⟩ = cs[i]?) ∧ DataW.trod (fun _ => ()) P W 0 (fun _ => true) false fuel t cs.toList = some (d,p):=by
 obtain ⟨ps,⟨g',t',cs,fuel,p,q,hg',ht',hvar,hd,_,_⟩,_⟩:=h
 obtain rfl:=Option.some.inj (hg.symm.trans hg')
 obtain rfl:=Option.some.inj (ht.symm.trans ht')
 exact ⟨cs,fuel,p,fun i => World.var?_cell hg hvar i,hd⟩
theorem cell_lt {W:World} {g i:Nat} {v:Value} (h:W.cell? ⟨g,i,none⟩ = some v):g < W.heap.size:=by
 rcases Nat.lt_or_ge g W.heap.size with hh | hh
 ·exact hh
 ·simp [World.cell?,Array.getElem?_eq_none hh] at h
theorem spot_none {W:World} {a:Addr} {v:Value} (h:W.cell? a = some v):a.spot = none:=by
 unfold World.cell? at h
 split at h
 ·split at h
  ·cases h
  ·rename_i hs
   cases hq:a.spot with
   | none => rfl
   | some x => rw [hq] at hs;simp at hs
 ·cases h
theorem trod_float {H:Type} {enc:TypeId × Value → H} {P:Program} {w:World} {base:Nat} {sp:Nat → Bool} {held:Bool} {fuel:Nat} {t:TypeId} {cs:List Value} {x:DataW H × List MemPlace} {k:FloatKind} (ht:P.underlying t = some (.float k)) (h:DataW.trod enc P w base sp held fuel t cs = some x):∃ n,cs = [.float k n] ∧ x = (.lit (.float k n),[]):=by
 cases fuel with
 | zero => simp [DataW.trod] at h
 | succ m =>
  unfold DataW.trod at h
  rw [ht] at h
  split at h <;> simp_all
theorem gOpt : Tryz.prog.globalNamed "internal/strconv.optimize" = some 5 := by kernel_rfl
theorem gOptT:(Tryz.prog.globals[5]?).map (·.type) = some 4:=by kernel_rfl
theorem gInf : Tryz.prog.globalNamed "internal/strconv.float64info" = some 9 := by kernel_rfl
theorem gInfT:(Tryz.prog.globals[9]?).map (·.type) = some 199:=by kernel_rfl
theorem gTen : Tryz.prog.globalNamed "internal/strconv.float64pow10" = some 14 := by kernel_rfl
theorem gTenT:(Tryz.prog.globals[14]?).map (·.type) = some 229:=by kernel_rfl
theorem gPow : Tryz.prog.globalNamed "internal/strconv.pow10Tab" = some 15 := by kernel_rfl
theorem gPowT:(Tryz.prog.globals[15]?).map (·.type) = some 233:=by kernel_rfl
theorem opt_of {W : World} {rest : List (String × DataW Unit)} (h : laidMet Tryz.prog (("internal/strconv.optimize", Rows.laid_internal_strconv_optimize) :: rest) W) : W.cell? ⟨5, 0, none⟩ = some (.bool true) := by
 obtain ⟨cs,fuel,p,hc,hd⟩:=lead h gOpt gOptT
 obtain ⟨b,hb,hx⟩:=DataW.trod_bool Tryz.underlying4 hd
 have:b = true:=by
  have:=congrArg Prod.fst hx
  simp only [Rows.laid_internal_strconv_optimize,DataW.lit.injEq,Lit.bool.injEq] at this
  exact this.symm
 subst this
 rw [hc 0,← Array.getElem?_toList,hb]
 rfl
theorem info_of {W : World} {rest : List (String × DataW Unit)} (h : laidMet Tryz.prog (("internal/strconv.float64info", Rows.laid_internal_strconv_float64info) :: rest) W) : W.cell? ⟨9, 0, none⟩ = some (.int .u64 52) := by
 obtain ⟨cs,fuel,p,hc,hd⟩:=lead h gInf gInfT
 obtain ⟨xs,n,_,hx,hl,hxl,hf⟩:=DataW.trod_struct Tryz.underlying199 hd
 have h0:=hf 0 _ rfl
 have hx1:=congrArg Prod.fst hx
 simp only [Rows.laid_internal_strconv_float64info,DataW.agg.injEq] at hx1
 have hx0:=congrArg (·[0]?) hx1
 simp only [List.getElem?_map,List.getElem?_cons_zero] at hx0
 cases hy:xs[0]? with
 | none => rw [hy] at hx0;simp at hx0
 | some y =>
  rw [hy] at h0 hx0
  obtain ⟨z,hz,hq,_⟩:=DataW.trod_int Tryz.underlying99 h0
  subst hq
  simp only [Option.map_some,Option.some.injEq,DataW.lit.injEq,Lit.int.injEq,true_and] at hx0
  subst hx0
  rw [hc 0,← Array.getElem?_toList]
  have hce:Tryz.prog.cellsOf 99 = 1:=by kernel_rfl
  have hz2:List.take (Tryz.prog.cellsOf 99) (List.drop 0 cs.toList) = [.int .u64 52]:=hz
  rw [hce] at hz2
  have e:=congrArg (·[0]?) hz2
  simpa [List.getElem?_take] using e
theorem ten_of {W : World} {rest : List (String × DataW Unit)} (h : laidMet Tryz.prog (("internal/strconv.float64pow10", Rows.laid_internal_strconv_float64pow10) :: rest) W) : T10 W := by
 obtain ⟨cs,fuel,p,hc,hd⟩:=lead h gTen gTenT
 have hce:Tryz.prog.cellsOf 25 = 1:=by kernel_rfl
 have ed:(Rows.laid_internal_strconv_float64pow10:DataW Unit) = .slice (tens.map fun r => .lit (.float .f64 r)) []:=by rfl
 rw [ed] at hd
 obtain ⟨a,cap,hcs,hcap,hcell⟩:=open_row Tryz.underlying229 hce hd
 have key:∀ i r,tens[i]? = some r → W.cell? (a.add i) = some (.float .f64 r):=fun i r hr => by
  obtain ⟨v,n,q,hv,ht⟩:=hcell i (.lit (.float .f64 r)) (by rw [List.getElem?_map,hr];rfl)
  obtain ⟨m,hm,hx⟩:=trod_float Tryz.underlying25 ht
  have e1:v = .float .f64 m:=by simpa using hm
  have e2:r = m:=by
   have:=congrArg Prod.fst hx
   simpa using this
  rw [hv,e1,e2]
 have h0:=key 0 _ rfl
 have hs:a.spot = none:=spot_none (a:=a) (by simpa [Addr.add] using h0)
 obtain ⟨b,off,sp⟩:=a
 simp only at hs
 subst hs
 have hg:W.cell? ⟨14,0,none⟩ = some (.slice (some ⟨b,off,none⟩) 23 cap):=by
  rw [hc 0,← Array.getElem?_toList,hcs]
  rfl
 have hadd:∀ i,(⟨b,off,none⟩:Addr).add i = ⟨b,off + i,none⟩:=fun i => by
  unfold Addr.add
  by_cases h:i = 0
  ·rw [if_pos h,h,Nat.add_zero]
  ·rw [if_neg h]
 rw [hadd 0] at h0
 refine ⟨b,off,cap,hg,cell_lt h0,cell_lt hg,fun i r hr => ?_⟩
 rw [← hadd i]
 exact key i r hr
theorem pt_of {W : World} {rest : List (String × DataW Unit)} (h : laidMet Tryz.prog (("internal/strconv.pow10Tab", Rows.laid_internal_strconv_pow10Tab) :: rest) W) : PT W := by
 obtain ⟨cs,fuel,p,hc,hd⟩:=lead h gPow gPowT
 have hce:Tryz.prog.cellsOf 232 = 2:=by kernel_rfl
 have hcu:Tryz.prog.cellsOf 31 = 1:=by kernel_rfl
 obtain ⟨xs,m,_,hx,hl,hxl,hf⟩:=DataW.trod_array Tryz.underlying233 hd
 have hx1:(_root_.Go.Pinned.pow10Rows.map fun x => (DataW.agg [.lit (.int .u64 x.1),.lit (.int .u64 x.2)]:DataW Unit)) = xs.map (·.1):=by
  have:=congrArg Prod.fst hx
  simp only [Rows.laid_internal_strconv_pow10Tab,_root_.Go.Pinned.pow10Tab,DataW.agg.injEq] at this
  exact this
 intro i hi
 have h0:=hf i hi
 have hxi:=congrArg (·[i]?) hx1
 simp only [List.getElem?_map] at hxi
 have hpl:_root_.Go.Pinned.pow10Rows.length = 696:=by decide +kernel
 have hpi:_root_.Go.Pinned.pow10Rows[i]? = some (rowH i,rowL i):=by
  unfold rowH rowL
  rw [List.getD_eq_getElem?_getD,List.getElem?_eq_getElem (by rw [hpl];exact hi)]
  rfl
 rw [hpi] at hxi
 cases hy:xs[i]? with
 | none => rw [hy] at hxi;simp at hxi
 | some y =>
  rw [hy] at h0 hxi
  simp only [Option.map_some,Option.some.injEq] at hxi
  rw [hce] at h0
  obtain ⟨zs,n,_,hz,hzl,hzn,hg⟩:=DataW.trod_struct Tryz.underlying232 h0
  have hz1:[DataW.lit (.int .u64 (rowH i)),.lit (.int .u64 (rowL i))] = zs.map (·.1):=by
   rw [hz] at hxi
   simpa using hxi
  have g0:=hg 0 _ rfl
  have g1:=hg 1 _ rfl
  have w0:=congrArg (·[0]?) hz1
  have w1:=congrArg (·[1]?) hz1
  simp only [List.getElem?_map,List.getElem?_cons_zero,List.getElem?_cons_succ] at w0 w1
  have a0:∀ (o:Nat) (q:DataW Unit × List MemPlace) (v:Nat),DataW.trod (fun _ => ()) Tryz.prog W 0 (fun _ => true) false n 31 (((((cs.toList.drop (i * 2)).take 2).drop o).take (Tryz.prog.cellsOf 31))) = some q → q.1 = .lit (.int .u64 v) → o < 2 → cs[2 * i + o]? = some (.int .u64 v):=fun o q v hq hv ho => by
   rw [hcu] at hq
   obtain ⟨z,hzz,hqq,_⟩:=DataW.trod_int Tryz.underlying31 hq
   rw [hqq] at hv
   simp only [DataW.lit.injEq,Lit.int.injEq,true_and] at hv
   subst hv
   have e:=congrArg (·[0]?) hzz
   rw [← Array.getElem?_toList]
   simp only [List.getElem?_take,List.getElem?_drop,List.getElem?_cons_zero] at e
   rw [show 2 * i + o = i * 2 + (o + 0) by omega]
   simpa [ho] using e
  refine ⟨?_,?_⟩
  ·cases hy0:zs[0]? with
   | none => rw [hy0] at w0;simp at w0
   | some q =>
    rw [hy0] at g0 w0
    rw [hc]
    exact a0 0 q _ g0 (by simpa using w0.symm) (by decide)
  ·cases hy1:zs[1]? with
   | none => rw [hy1] at w1;simp at w1
   | some q =>
    rw [hy1] at g1 w1
    rw [hc]
    exact a0 1 q _ g1 (by simpa using w1.symm) (by decide)
end Go.Proofs.YtjlaoeigfokkiaaGreatDoor.fto
namespace Go.Proofs.YtjlaoeigfokkiaaGreatDoor.fto
open Go.ChangeShapes Go.WideShapes Go.ChangeAt Go.RowKit
open mem Go.Sort
open ints (hide unhide)
set_option linter.unusedVariables false
set_option linter.unusedSimpArgs false
end Go.Proofs.YtjlaoeigfokkiaaGreatDoor.fto
