import Derived.Test.YtjlaoeigfokkiaaGreatDoorBs3
import Derived.Test.YtjlaoeigfokkiaaGreatDoorBs1
import Derived.Deep.RegionHeld3
import Derived.Laws.Externs
import Derived.RegionTactic
import Derived.ChangeAlike
import Derived.WalkKit
import Derived.ProofKit
import Derived.Below
import Derived.Deep.LoopGhost
import Derived.WalkMore
namespace Go.Proofs.YtjlaoeigfokkiaaGreatDoor.fto
open Go.ChangeShapes Go.WideShapes Go.ChangeAt Go.RowKit
open mem Go.Sort
open ints (hide unhide)
set_option linter.unusedVariables false
set_option linter.unusedSimpArgs false
theorem run_fbits (x : Nat) (w : World) : (callFunc 129 #[.float .f64 x]).run Tryz.prog w = .ok (.value (.int .u64 x)) w := by
  rw [run_callFunc_extern (e := Extern.MathFloatBits.float64bits) Tryz.func129 (by kernel_rfl) (by kernel_rfl) (by kernel_rfl) (by kernel_rfl)]
  rfl
theorem callW {P : Program} {o : Oper} {a : Act} {w : World} {K : Act → World → Prop} {Q : Exit → Act → World → Prop} (f : FuncId) (fn : Func) (args : Array Operand) (tys : Array TypeId) (ho : o.op = .call { callee := .value (.func f), args := args, argTypes := tys })
    (hf : P.funcs[f]? = some fn) (hname : (fn.name == "runtime.NumGoroutine") = false) (hb : fn.body.isNone = false) (vs : Array Value) (hv : args.map a.eval = vs)
    (hc : Calls P f vs w fun e w' => ∃ v, e = .returned v ∧ K (a.put o.dst v) w') : o.wp P a w K Q := by
  have h1 : fn.name ≠ "runtime.NumGoroutine" := by simpa using hname
  have hrun : (execOp a.eval o).run P w = .ok (.enter f vs) w := by
    unfold execOp
    simp only [ho]
    obtain ⟨c, hc'⟩ : ∃ c, fn.body = some c := by cases h : fn.body <;> simp_all
    simp [resolve, hv, Deferred.ofValue, invoke, callFunc, hf, h1, hc', Act.eval]
  unfold Oper.wp
  rw [hrun, Oper.upon_enter]
  refine hc.mono ?_
  rintro e w' ⟨v, rfl, hk⟩
  exact hk
theorem own_bel {w w' : World} {base : Nat} {e : TypeId} {size n : Nat} {v : Value} {xs : List Value} (h : w.ownsRow base e size v n xs) (hb : Below w.heap.size w w') : w'.ownsRow base e size v n xs := by
  refine ⟨h.1, ?_⟩
  rcases h.2 with h1 | ⟨g', cap, cur, h1, h2, h3, h4⟩
  · exact .inl h1
  · exact .inr ⟨g', cap, cur, h1, h2, (hb.block g' (Array.getElem?_eq_some_iff.1 h3).1).trans h3, h4⟩
theorem mixed : Tryz.prog.follows .mixedOrders = true := by kernel_rfl
theorem cell_arr {w : World} {B j : Nat} {arr : Array Value} {TB : TypeId} {fr : Nat × Nat} {v : Value} (h : w.heap[B]? = some (.cells arr TB fr)) (hc : w.cell? ⟨B, j, none⟩ = some v) : arr[j]? = some v := by
  simpa [World.cell?, h] using hc
def dTail (d nd k : Nat) : List Int := (List.range (k - 1)).map fun j => dgt d nd (1 + j)
def sTxt (d nd k : Nat) (p : Int) : List Int := eTxt (dgt d nd 0) (dTail d nd k) ((nd : Int) + p)
set_option maxHeartbeats 8000000 in
set_option maxRecDepth 100000 in
theorem ftoa_n (f E M mm d nd : Nat) (p : Int) (v : Value) (base : Nat) (w : World) (hE : f / 4503599627370496 = E) (hE0 : 1 ≤ E) (hE1 : E ≤ 2046) (hf : f < 9223372036854775808) (a1 : bits .and .i64 (E : Int) 2047 = (E : Int)) (a2 : bits .and .u64 (f : Int) 4503599627370495 = (M : Int)) (a3 : bits .or .u64 (M : Int) 4503599627370496 = (mm : Int)) (hm1 : 4503599627370496 ≤ mm) (hm2 : mm < 9007199254740992)
    (hown : w.ownsRow base 5 1 v 0 []) (hbase : base ≤ w.heap.size)
    (hS : ∀ W, Below w.heap.size w W → Calls Tryz.prog 139 #[.int .u64 ((mm : Int) * 2048), .int .i64 ((E : Int) + -1023 - 11 - 52)] W fun e w' => e = .returned (.tuple #[.int .u64 d, .int .i64 p]) ∧ Below W.heap.size W w')
    (hN : ∀ W, Below w.heap.size w W → Calls Tryz.prog 86 #[.int .u64 d] W fun e w' => e = .returned (.int .i64 nd) ∧ w' = W)
    (hd : 1 ≤ d) (hnd : d < 10 ^ nd) (hnd1 : 1 ≤ nd) (hnd2 : nd ≤ 20) (hlen : Lib.bitLen mm = 53) (hd64 : d < 18446744073709551616) (hp : -370 ≤ p ∧ p ≤ 370) (hnz : ¬ ∀ j, 0 ≤ j → j < nd → dgt d nd j = 48) :
    Calls Tryz.prog 105 #[v, .float .f64 f, .int .u8 101, .int .i64 (-1)] w fun e w' => ∃ r, e = .returned r ∧ ∃ k : Nat, 1 ≤ k ∧ k ≤ nd ∧ (∀ j, k ≤ j → j < nd → dgt d nd j = 48) ∧ dgt d nd (k - 1) ≠ 48 ∧ w'.ownsRow base 5 1 r (sTxt d nd k p).length ((sTxt d nd k p).map (Value.int .u8)) ∧ Below base w w' := by
  have hb := run_fbits f w
  have HS := hide hS
  have HN := hide hN
  have HZ := hide hnz
  have HD := hide hnd
  clear hS hN hnz hnd
  have i1 : (0 : Int) ≤ (f : Int) := by omega
  have i2 : (f : Int) / 4503599627370496 = (E : Int) := by omega
  have i3 : (f : Int) / 9223372036854775808 = 0 := by omega
  have i4 : ((E : Int) == 2047) = false := by rw [beq_eq_false_iff_ne]; omega
  have i5 : ((E : Int) == 0) = false := by rw [beq_eq_false_iff_ne]; omega
  have i6 : ((mm : Int) == 0) = false := by rw [beq_eq_false_iff_ne]; omega
  go_enter Tryz.func105, Tryz.ntmps105
  go_wp2_with fail
  go_region
  go_wp2_with fail
  have b0 : Below w.heap.size w (w.alloc (.cells (Array.replicate 32 (Value.int .u8 0)) 174)).drew := Below.drew ((Below.refl _ _).alloc (Nat.le_refl _) _)
  have hW : (w.alloc (.cells (Array.replicate 32 (Value.int .u8 0)) 174)).drew.heap[w.heap.size]? = some (.cells (Array.replicate 32 (Value.int .u8 0)) 174) := by
    show (w.heap.push _)[w.heap.size]? = _
    rw [Array.getElem?_push_size]
  have hZ : (w.alloc (.cells (Array.replicate 32 (Value.int .u8 0)) 174)).drew.heap.size = w.heap.size + 1 := by
    show (w.heap.push _).size = _
    rw [Array.size_push]
  generalize hW0 : (w.alloc (.cells (Array.replicate 32 (Value.int .u8 0)) 174)).drew = W0 at b0 hW hZ
  have hW1 : (w.alloc (.cells #[.int .u8 0, .int .u8 0, .int .u8 0, .int .u8 0, .int .u8 0, .int .u8 0, .int .u8 0, .int .u8 0, .int .u8 0, .int .u8 0, .int .u8 0, .int .u8 0, .int .u8 0, .int .u8 0, .int .u8 0, .int .u8 0, .int .u8 0, .int .u8 0, .int .u8 0, .int .u8 0, .int .u8 0, .int .u8 0, .int .u8 0, .int .u8 0, .int .u8 0, .int .u8 0, .int .u8 0, .int .u8 0, .int .u8 0, .int .u8 0, .int .u8 0, .int .u8 0] 174)).drew = W0 := hW0
  rw [hW1]
  refine (Tryz.bits_Len64 mm _ (by omega) (by omega)).mono ?_
  rintro e w' ⟨rfl, rfl⟩
  rw [Int.toNat_natCast, hlen]
  clear hb hW0 hW1
  go_wp2_with fail
  refine (unhide HS _ b0).mono ?_
  rintro e w1 ⟨rfl, b1⟩
  have hB1 : w1.heap[w.heap.size]? = some (.cells (Array.replicate 32 (Value.int .u8 0)) 174) := (b1.block _ (by omega)).trans hW
  have b01 : Below w.heap.size w w1 := b0.trans (b1.mono (by omega))
  have hz1 : w.heap.size < w1.heap.size := by have := b1.size; omega
  go_wp2_with fail
  refine wp_region_noPanic ?_
  refine wp_region_held (S := fun _ => True) mixed ?_
  have hS0 : True := trivial
  refine rgn.tl (i := 0) (v := ?v1) rfl (by kernel_rfl) (fun _ _ _ h => h) (by rfl) ?hy1 hS0 ?_
  case hy1 => (intro w' hw'; go_simp; try with_reducible rfl)
  simp only [zA, zB, zC, Act.put, zD, zE, zF]
  refine rgn.tl (i := 1) (v := ?v2) rfl (by kernel_rfl) (fun _ _ _ h => h) (by rfl) ?hy2 hS0 ?_
  case hy2 => (intro w' hw'; go_simp; try with_reducible rfl)
  simp only [zA, zB, zC, Act.put, zD, zE, zF]
  refine rgn.tl (i := 2) (v := ?v3) rfl (by kernel_rfl) (fun _ _ _ h => h) (by rfl) ?hy3 hS0 ?_
  case hy3 => (intro w' hw'; go_simp; try with_reducible rfl)
  simp only [zA, zB, zC, Act.put, zD, zE, zF]
  refine rgn.tl (i := 3) (v := ?v4) rfl (by kernel_rfl) (fun _ _ _ h => h) (by rfl) ?hy4 hS0 ?_
  case hy4 => (intro w' hw'; go_simp; try with_reducible rfl)
  simp only [zA, zB, zC, Act.put, zD, zE, zF]
  refine rgn.one (i := 4) _ rfl (by kernel_rfl) (by rfl) ?_
  simp only [zA, zB, zC, Act.put, zD, zE, zF]
  refine callW _ _ _ _ rfl Tryz.func86 (by kernel_rfl) (by kernel_rfl) #[.int .u64 d] (by first | kernel_rfl | (simp only [List.map_toArray, List.map_cons, List.map_nil]; rfl)) ?_
  refine (unhide HN _ b01.drew).mono ?_
  rintro e w' ⟨rfl, hw'⟩
  subst hw'
  refine ⟨_, rfl, trivial, ?_⟩
  try simp only [zA, zB, zC, Act.put, zD, zE, zF]
  refine rgn.one (i := 5) _ rfl (by kernel_rfl) (by rfl) ?_
  simp only [zA, zB, zC, Act.put, zD, zE, zF]
  refine callW _ _ _ _ rfl Tryz.func134 (by kernel_rfl) (by kernel_rfl) #[.slice (some ⟨w.heap.size, 0, none⟩) 32 32, .int .u64 d, .int .i64 p, .int .i64 nd] (by first | kernel_rfl | (simp only [List.map_toArray, List.map_cons, List.map_nil]; rfl)) ?_
  have hcell : ∀ j, j < nd → w1.drew.cell? ⟨w.heap.size, j, none⟩ = some (.int .u8 0) ∧ w1.drew.frozen? ⟨w.heap.size, j, none⟩ = false := fun j hj => by
    have hj : j < 32 := by omega
    refine ⟨?_, by show w1.frozen? ⟨w.heap.size, j, none⟩ = false; simp [World.frozen?, hB1]⟩
    rw [World.cell?_drew]
    simp only [World.cell?, hB1]
    simp [hj]
  refine (setDigits_ok w.heap.size d nd p w1.drew (by omega) hcell (unhide HD) hd64 (by omega)).mono ?_
  rintro e w3 ⟨k, rfl, hk, hdg, hz, hnz0, b3, kt⟩
  refine ⟨_, rfl, trivial, ?_⟩
  try simp only [zA, zB, zC, Act.put, zD, zE, zF]
  refine rgn.tl (i := 6) (v := ?v5) rfl (by kernel_rfl) (fun _ _ _ h => h) (by rfl) ?hy5 hS0 ?_
  case hy5 => (intro w' hw'; go_simp; try with_reducible rfl)
  simp only [zA, zB, zC, Act.put, zD, zE, zF]
  refine rgn.tl (i := 7) (v := ?v6) rfl (by kernel_rfl) (fun _ _ _ h => h) (by rfl) ?hy6 hS0 ?_
  case hy6 => (intro w' hw'; go_simp; try with_reducible rfl)
  simp only [zA, zB, zC, Act.put, zD, zE, zF]
  refine rgn.tl (i := 8) (v := ?v7) rfl (by kernel_rfl) (fun _ _ _ h => h) (by rfl) ?hy7 hS0 ?_
  case hy7 => (intro w' hw'; go_simp; try with_reducible rfl)
  simp only [zA, zB, zC, Act.put, zD, zE, zF]
  refine rgn.tl (i := 9) (v := ?v8) rfl (by kernel_rfl) (fun _ _ _ h => h) (by rfl) ?hy8 hS0 ?_
  case hy8 => (intro w' hw'; go_simp; try with_reducible rfl)
  simp only [zA, zB, zC, Act.put, zD, zE, zF]
  refine rgn.tl (i := 10) (v := ?v9) rfl (by kernel_rfl) (fun _ _ _ h => h) (by rfl) ?hy9 hS0 ?_
  case hy9 => (intro w' hw'; go_simp; try with_reducible rfl)
  simp only [zA, zB, zC, Act.put, zD, zE, zF]
  refine wpAnyH_done (by kernel_rfl) ?_ _; refine NoPanic.normal ?_
  have hk1 : 1 ≤ k := by
    rcases Nat.eq_zero_or_pos k with h | h
    · exact absurd (fun j h0 hj => hz j (by omega) hj) (unhide HZ)
    · exact h
  have hnz1 : dgt d nd (k - 1) ≠ 48 := by
    rcases hnz0 with h | h
    · omega
    · exact h
  obtain ⟨arr, harr⟩ := kt _ _ _ (show w1.drew.heap[w.heap.size]? = _ from hB1)
  obtain ⟨m, rfl⟩ : ∃ m, k = m + 1 := ⟨k - 1, by omega⟩
  have b13 : Below w.heap.size w w3 := b01.drew.trans b3
  have own3 := own_bel hown b13
  have EF := hide (efg_ok w.heap.size base m v (dgt d nd 0) ((nd : Int) + p) (dTail d nd (m + 1)) w3 harr (by decide) (cell_arr harr (hdg 0 (by omega))) (fun j u hj => by
      have hl : j < m := by have := (List.getElem?_eq_some_iff.1 hj).1; simpa [dTail] using this
      have e : ((dTail d nd (m + 1)).map (Value.int .u8))[j]? = some (.int .u8 (dgt d nd (1 + j))) := by simp [dTail, hl]
      rw [e] at hj
      cases hj
      exact cell_arr harr (hdg (1 + j) (by omega))) (by simp [dTail]) (by omega) own3 (Nat.le_trans hbase b13.size) (by omega) (by omega))
  have R := hide (⟨hz, hnz1, b13⟩ : (∀ j, m + 1 ≤ j → j < nd → dgt d nd j = 48) ∧ dgt d nd (m + 1 - 1) ≠ 48 ∧ Below w.heap.size w w3)
  clear hz hnz0 hnz1 b13 own3 hdg b3 kt harr hcell hB1 b1 b01 b0 hW hZ HS HN HZ
  have im : ((m + 1 : Nat) : Int) - 1 = (m : Int) := by omega
  go_wp2_with fail
  refine (unhide EF).mono ?_
  rintro e w4 ⟨r, rfl, ho, b4⟩
  have HO := hide ho
  have B4 := hide b4
  clear ho b4 EF
  go_wp2
  go_ret
  obtain ⟨hz, hnz1, b13⟩ := unhide R
  exact ⟨r, rfl, m + 1, by omega, hk, hz, hnz1, unhide HO, (b13.mono hbase).trans (unhide B4)⟩
end Go.Proofs.YtjlaoeigfokkiaaGreatDoor.fto
namespace Go.Proofs.YtjlaoeigfokkiaaGreatDoor.dcm
open Go.ChangeShapes Go.WideShapes Go.ChangeAt Go.RowKit
open mem
open ints (hide unhide)
set_option linter.unusedVariables false
set_option linter.unusedSimpArgs false
/-- what strconv's decimal holds: its bytes, how many count, the point, its sign, and whether digits were dropped -/
structure Dcs where
  D : Nat → Nat
  nd : Nat
  dp : Int
  ng : Bool
  tr : Bool
structure DecAt (w : World) (b : Nat) (s : Dcs) (arr : Array Value) (t : TypeId) : Prop where
  blk : w.heap[b]? = some (.cells arr t (0, 0))
  size : arr.size = 804
  dig : ∀ i, i < 800 → arr[i]? = some (.int .u8 (s.D i : Int))
  nd : arr[800]? = some (.int .i64 (s.nd : Int))
  dp : arr[801]? = some (.int .i64 s.dp)
  ng : arr[802]? = some (.bool s.ng)
  tr : arr[803]? = some (.bool s.tr)
/-- a decimal lies at block b -/
def Dec (w : World) (b : Nat) (s : Dcs) : Prop := ∃ arr t, DecAt w b s arr t
theorem Dec.lt {w : World} {b : Nat} {s : Dcs} (h : Dec w b s) : b < w.heap.size := by
  obtain ⟨arr, t, h⟩ := h
  rcases Nat.lt_or_ge b w.heap.size with g | g
  · exact g
  · have := h.blk
    rw [Array.getElem?_eq_none g] at this
    cases this
theorem Dec.froz {w : World} {b : Nat} {s : Dcs} (h : Dec w b s) (o : Nat) : w.frozen? ⟨b, o, none⟩ = false := by
  obtain ⟨arr, t, h⟩ := h
  simp [World.frozen?, h.blk]
theorem DecAt.cell {w : World} {b : Nat} {s : Dcs} {arr : Array Value} {t : TypeId} (h : DecAt w b s arr t) (o : Nat) : w.cell? ⟨b, o, none⟩ = arr[o]? := by
  simp [World.cell?, h.blk]
theorem Dec.dig {w : World} {b : Nat} {s : Dcs} (h : Dec w b s) (i : Nat) (hi : i < 800) : w.cell? ⟨b, i, none⟩ = some (.int .u8 (s.D i : Int)) := by
  obtain ⟨arr, t, h⟩ := h
  exact (h.cell i).trans (h.dig i hi)
theorem Dec.cnd {w : World} {b : Nat} {s : Dcs} (h : Dec w b s) : w.cell? ⟨b, 800, none⟩ = some (.int .i64 (s.nd : Int)) := by
  obtain ⟨arr, t, h⟩ := h
  exact (h.cell _).trans h.nd
theorem Dec.cdp {w : World} {b : Nat} {s : Dcs} (h : Dec w b s) : w.cell? ⟨b, 801, none⟩ = some (.int .i64 s.dp) := by
  obtain ⟨arr, t, h⟩ := h
  exact (h.cell _).trans h.dp
theorem Dec.cng {w : World} {b : Nat} {s : Dcs} (h : Dec w b s) : w.cell? ⟨b, 802, none⟩ = some (.bool s.ng) := by
  obtain ⟨arr, t, h⟩ := h
  exact (h.cell _).trans h.ng
theorem Dec.ctr {w : World} {b : Nat} {s : Dcs} (h : Dec w b s) : w.cell? ⟨b, 803, none⟩ = some (.bool s.tr) := by
  obtain ⟨arr, t, h⟩ := h
  exact (h.cell _).trans h.tr
theorem Dec.below {w w' : World} {b : Nat} {s : Dcs} (h : Dec w b s) (hb : Below w.heap.size w w') : Dec w' b s := by
  have hl := h.lt
  obtain ⟨arr, t, h⟩ := h
  exact ⟨arr, t, (hb.block b hl).trans h.blk, h.size, h.dig, h.nd, h.dp, h.ng, h.tr⟩
theorem Dec.drew {w : World} {b : Nat} {s : Dcs} (h : Dec w b s) : Dec w.drew b s := h.below ((Below.refl _ _).drew)
theorem blk_set {w : World} {b : Nat} {arr : Array Value} {t : TypeId} (h : w.heap[b]? = some (.cells arr t (0, 0))) (o : Nat) (v : Value) : (w.setCell ⟨b, o, none⟩ v).heap[b]? = some (.cells (arr.setIfInBounds o v) t (0, 0)) := by
  simp [World.setCell, Array.getElem?_modify, h]
theorem get_set (arr : Array Value) (o i : Nat) (v : Value) (h : o < arr.size) : (arr.setIfInBounds o v)[i]? = if o = i then some v else arr[i]? := by
  rw [Array.getElem?_setIfInBounds]
  split
  · simp_all
  · rfl
theorem Dec.setD {w : World} {b : Nat} {s : Dcs} (h : Dec w b s) (k v : Nat) (hk : k < 800) : Dec (w.setCell ⟨b, k, none⟩ (.int .u8 (v : Int))) b { s with D := fun i => if k = i then v else s.D i } := by
  obtain ⟨arr, t, h⟩ := h
  have hs := h.size
  refine ⟨_, t, blk_set h.blk k _, by simpa using hs, fun i hi => ?_, ?_, ?_, ?_, ?_⟩
  · rw [get_set _ _ _ _ (by omega)]
    by_cases e : k = i
    · simp [e]
    · simp only [e, if_false]; exact h.dig i hi
  · rw [get_set _ _ _ _ (by omega), if_neg (by omega)]; exact h.nd
  · rw [get_set _ _ _ _ (by omega), if_neg (by omega)]; exact h.dp
  · rw [get_set _ _ _ _ (by omega), if_neg (by omega)]; exact h.ng
  · rw [get_set _ _ _ _ (by omega), if_neg (by omega)]; exact h.tr
theorem Dec.setN {w : World} {b : Nat} {s : Dcs} (h : Dec w b s) (v : Nat) : Dec (w.setCell ⟨b, 800, none⟩ (.int .i64 (v : Int))) b { s with nd := v } := by
  obtain ⟨arr, t, h⟩ := h
  have hs := h.size
  refine ⟨_, t, blk_set h.blk _ _, by simpa using hs, fun i hi => ?_, ?_, ?_, ?_, ?_⟩
  · rw [get_set _ _ _ _ (by omega), if_neg (by omega)]; exact h.dig i hi
  · rw [get_set _ _ _ _ (by omega), if_pos rfl]
  · rw [get_set _ _ _ _ (by omega), if_neg (by omega)]; exact h.dp
  · rw [get_set _ _ _ _ (by omega), if_neg (by omega)]; exact h.ng
  · rw [get_set _ _ _ _ (by omega), if_neg (by omega)]; exact h.tr
theorem Dec.setP {w : World} {b : Nat} {s : Dcs} (h : Dec w b s) (v : Int) : Dec (w.setCell ⟨b, 801, none⟩ (.int .i64 v)) b { s with dp := v } := by
  obtain ⟨arr, t, h⟩ := h
  have hs := h.size
  refine ⟨_, t, blk_set h.blk _ _, by simpa using hs, fun i hi => ?_, ?_, ?_, ?_, ?_⟩
  · rw [get_set _ _ _ _ (by omega), if_neg (by omega)]; exact h.dig i hi
  · rw [get_set _ _ _ _ (by omega), if_neg (by omega)]; exact h.nd
  · rw [get_set _ _ _ _ (by omega), if_pos rfl]
  · rw [get_set _ _ _ _ (by omega), if_neg (by omega)]; exact h.ng
  · rw [get_set _ _ _ _ (by omega), if_neg (by omega)]; exact h.tr
theorem Dec.setT {w : World} {b : Nat} {s : Dcs} (h : Dec w b s) (v : Bool) : Dec (w.setCell ⟨b, 803, none⟩ (.bool v)) b { s with tr := v } := by
  obtain ⟨arr, t, h⟩ := h
  have hs := h.size
  refine ⟨_, t, blk_set h.blk _ _, by simpa using hs, fun i hi => ?_, ?_, ?_, ?_, ?_⟩
  · rw [get_set _ _ _ _ (by omega), if_neg (by omega)]; exact h.dig i hi
  · rw [get_set _ _ _ _ (by omega), if_neg (by omega)]; exact h.nd
  · rw [get_set _ _ _ _ (by omega), if_neg (by omega)]; exact h.dp
  · rw [get_set _ _ _ _ (by omega), if_neg (by omega)]; exact h.ng
  · rw [get_set _ _ _ _ (by omega), if_pos rfl]
/-- what trim leaves of n digits -/
structure Trm (D : Nat → Nat) (n m : Nat) : Prop where
  le : m ≤ n
  noughts : ∀ i, m ≤ i → i < n → D i = 48
  last : 0 < m → D (m - 1) ≠ 48
theorem mixedD : Tryz.prog.follows .mixedOrders = true := by kernel_rfl
/-- where trim stands -/
structure TrI (w wr : World) (b : Nat) (s : Dcs) (m : Nat) : Prop where
  le : m ≤ s.nd
  noughts : ∀ i, m ≤ i → i < s.nd → s.D i = 48
  dec : Dec wr b { s with nd := m }
  bel : Below b w wr
  size : wr.heap.size = w.heap.size
set_option maxRecDepth 100000 in
set_option maxHeartbeats 1000000 in
theorem trim_ok (b : Nat) (s : Dcs) (w : World) (h : Dec w b s) (hn : s.nd ≤ 800) :
    Calls Tryz.prog 171 #[.pointer (some ⟨b, 0, none⟩)] w fun e w' => e = .returned (.tuple #[]) ∧ (∃ m, Trm s.D s.nd m ∧ Dec w' b { s with nd := m, dp := if m = 0 then 0 else s.dp }) ∧ Below b w w' ∧ w'.heap.size = w.heap.size := by
  have HI := hide (⟨Nat.le_refl _, fun i h1 h2 => by omega, h, Below.refl _ _, rfl⟩ : TrI w w b s s.nd)
  clear h
  go_enter Tryz.func171, Tryz.ntmps171
  go_wp2_with fail
  go_loopg [] (s.nd + 1) (fun g wr => ∃ m, m < g ∧ TrI w wr b s m)
  case atStart => exact ⟨s.nd, by omega, unhide HI⟩
  case round =>
    obtain ⟨m, hg, hi⟩ := hrel
    have c0 := hi.dec.cnd
    have hl := hi.dec.lt
    by_cases h0 : 0 < m
    · have hi0 : (0 : Int) < (m : Int) := by omega
      have hm8 : m ≤ 800 := Nat.le_trans hi.le hn
      have c1 := hi.dec.dig (m - 1) (by omega)
      obtain ⟨j, rfl⟩ : ∃ j, m = j + 1 := ⟨m - 1, by omega⟩
      rw [Nat.add_sub_cancel] at c1
      obtain ⟨M, hM⟩ : ∃ M : Int, M = ((j + 1 : Nat) : Int) := ⟨_, rfl⟩
      have ej : M - 1 = (j : Int) := by omega
      have HI2 := hide hi
      clear hi
      simp only [] at c0
      rw [← hM] at c0 hi0
      have HM := hide hM
      clear hM
      have kz : (0 : Int) ≤ (j : Int) := by omega
      have k8 : (j : Int) < 800 := by omega
      have f0 := (unhide HI2).dec.froz 800
      have kw : IntKind.i64.wrap (M - 1) = (j : Int) := by rw [IntKind.wrap_i64]; omega
      have kw2 : IntKind.i64.wrap (j : Int) = (j : Int) := by rw [IntKind.wrap_i64]; omega
      by_cases h48 : s.D j = 48
      · have e48 : (s.D j : Int) = 48 := by omega
        rw [e48] at c1
        go_wp2_with fail
        go_region_held3 (fun w' => w'.cell? ⟨b, 800, none⟩ = some (.int .i64 M) ∧ w'.cell? ⟨b, j, none⟩ = some (.int .u8 48)) (go_keep) (fail)
        have HI3 := hide (⟨by have := (unhide HI2).le; omega, fun i h1 h2 => by
          rcases Nat.lt_or_ge j i with g | g
          · exact (unhide HI2).noughts i (by omega) h2
          · rw [show i = j by omega]; exact h48, (unhide HI2).dec.drew.setN j, ((unhide HI2).bel.drew).setCell (p := ⟨b, 800, none⟩) (Nat.le_refl _) _, by simpa using (unhide HI2).size⟩ : TrI w (wr.drew.setCell ⟨b, 800, none⟩ (.int .i64 (j : Int))) b s j)
        clear HI2 h48 e48
        go_wp2
        go_roundg (gk - 1)
        case rel => exact ⟨j, by omega, unhide HI3⟩
        case measure => omega
      · have e48 : ¬ (s.D j : Int) = 48 := by omega
        obtain ⟨C, hC⟩ : ∃ C : Int, C = (s.D j : Int) := ⟨_, rfl⟩
        rw [← hC] at c1 e48
        have HC := hide hC
        clear hC h48
        go_wp2_with fail
        go_region_held3 (fun w' => w'.cell? ⟨b, 800, none⟩ = some (.int .i64 M) ∧ w'.cell? ⟨b, j, none⟩ = some (.int .u8 C)) (go_keep) (fail)
        go_wp2
        go_end0
        exact ⟨rfl, ⟨j + 1, ⟨(unhide HI2).le, (unhide HI2).noughts, fun _ h => e48 (by rw [unhide HC]; rw [Nat.add_sub_cancel] at h; omega)⟩, by rw [if_neg (by omega)]; exact (unhide HI2).dec.drew⟩, (unhide HI2).bel.drew, (unhide HI2).size⟩
    · obtain rfl : m = 0 := by omega
      have HI2 := hide hi
      have f1 := hi.dec.froz 801
      have c2 := hi.dec.cdp
      simp only [] at c0 c2
      obtain ⟨M, hM⟩ : ∃ M : Int, M = ((0 : Nat) : Int) := ⟨_, rfl⟩
      rw [← hM] at c0
      have hn0 : ¬ (0 : Int) < M := by omega
      have HM := hide hM
      clear hi hM
      go_wp2_with fail
      refine wp_region_noPanic ?_
      refine wp_region_held (S := fun w' => w'.cell? ⟨b, 800, none⟩ = some (.int .i64 M)) mixedD ?_
      have hS0 : wr.drew.cell? ⟨b, 800, none⟩ = some (.int .i64 M) := c0
      refine rgn.tl (i := 0) (v := ?v1) rfl (by kernel_rfl) (fun _ _ _ h => h) (by rfl) ?hy1 hS0 ?_
      case hy1 => (intro w' hw'; have q0 := hw'; go_simp; try with_reducible rfl)
      simp only [zA, zB, zC, Act.put, zD, zE, zF]
      refine rgn.tl (i := 1) (v := ?v2) rfl (by kernel_rfl) (fun _ _ _ h => h) (by rfl) ?hy2 hS0 ?_
      case hy2 => (intro w' hw'; have q0 := hw'; go_simp; try with_reducible rfl)
      simp only [zA, zB, zC, Act.put, zD, zE, zF]
      refine rgn.tl (i := 2) (v := ?v3) rfl (by kernel_rfl) (fun _ _ _ h => h) (by rfl) ?hy3 hS0 ?_
      case hy3 => (intro w' hw'; have q0 := hw'; go_simp; try with_reducible rfl)
      simp only [zA, zB, zC, Act.put, zD, zE, zF]
      refine rgn.tl (i := 3) (v := ?v4) rfl (by kernel_rfl) (fun _ _ _ h => h) (by rfl) ?hy4 hS0 ?_
      case hy4 => (intro w' hw'; have q0 := hw'; go_simp; try with_reducible rfl)
      simp only [zA, zB, zC, Act.put, zD, zE, zF]
      refine rgn.tl (i := 4) (v := ?v5) rfl (by kernel_rfl) (fun _ _ _ h => h) (by rfl) ?hy5 hS0 ?_
      case hy5 => (intro w' hw'; have hd : decide (0 < M) = false := decide_eq_false (by omega); go_simp; try with_reducible rfl)
      simp only [zA, zB, zC, Act.put, zD, zE, zF]
      refine rgn.tl (i := 5) (v := ?v6) rfl (by kernel_rfl) (fun _ _ _ h => h) (by rfl) ?hy6 hS0 ?_
      case hy6 => (intro w' hw'; have hd : decide (0 < M) = false := decide_eq_false (by omega); go_simp; try with_reducible rfl)
      simp only [zA, zB, zC, Act.put, zD, zE, zF]
      refine rgn.tk (i := 6) (v := undef) rfl (by kernel_rfl) (fun _ _ _ h => h) (Or.inr ⟨by rfl, rfl⟩) hS0 ?_
      simp only [zA, zB, zC, Act.put, zD, zE, zF]
      refine rgn.tk (i := 7) (v := undef) rfl (by kernel_rfl) (fun _ _ _ h => h) (Or.inr ⟨by rfl, rfl⟩) hS0 ?_
      simp only [zA, zB, zC, Act.put, zD, zE, zF]
      refine rgn.tk (i := 8) (v := undef) rfl (by kernel_rfl) (fun _ _ _ h => h) (Or.inr ⟨by rfl, rfl⟩) hS0 ?_
      simp only [zA, zB, zC, Act.put, zD, zE, zF]
      refine rgn.tk (i := 9) (v := undef) rfl (by kernel_rfl) (fun _ _ _ h => h) (Or.inr ⟨by rfl, rfl⟩) hS0 ?_
      simp only [zA, zB, zC, Act.put, zD, zE, zF]
      refine rgn.tk (i := 10) (v := undef) rfl (by kernel_rfl) (fun _ _ _ h => h) (Or.inr ⟨by rfl, rfl⟩) hS0 ?_
      simp only [zA, zB, zC, Act.put, zD, zE, zF]
      refine rgn.tk (i := 11) (v := undef) rfl (by kernel_rfl) (fun _ _ _ h => h) (Or.inr ⟨by rfl, rfl⟩) hS0 ?_
      simp only [zA, zB, zC, Act.put, zD, zE, zF]
      refine rgn.tk (i := 12) (v := undef) rfl (by kernel_rfl) (fun _ _ _ h => h) (Or.inr ⟨by rfl, rfl⟩) hS0 ?_
      simp only [zA, zB, zC, Act.put, zD, zE, zF]
      refine rgn.tk (i := 13) (v := undef) rfl (by kernel_rfl) (fun _ _ _ h => h) (Or.inr ⟨by rfl, rfl⟩) hS0 ?_
      simp only [zA, zB, zC, Act.put, zD, zE, zF]
      refine rgn.tk (i := 14) (v := undef) rfl (by kernel_rfl) (fun _ _ _ h => h) (Or.inr ⟨by rfl, rfl⟩) hS0 ?_
      simp only [zA, zB, zC, Act.put, zD, zE, zF]
      refine rgn.tk (i := 15) (v := undef) rfl (by kernel_rfl) (fun _ _ _ h => h) (Or.inr ⟨by rfl, rfl⟩) hS0 ?_
      simp only [zA, zB, zC, Act.put, zD, zE, zF]
      refine rgn.tk (i := 16) (v := undef) rfl (by kernel_rfl) (fun _ _ _ h => h) (Or.inr ⟨by rfl, rfl⟩) hS0 ?_
      simp only [zA, zB, zC, Act.put, zD, zE, zF]
      refine rgn.tl (i := 17) (v := ?v7) rfl (by kernel_rfl) (fun _ _ _ h => h) (by rfl) ?hy7 hS0 ?_
      case hy7 => (intro w' hw'; go_simp; try with_reducible rfl)
      simp only [zA, zB, zC, Act.put, zD, zE, zF]
      refine wpAnyH_done (by kernel_rfl) ?_ _; refine NoPanic.normal ?_
      have hM := unhide HM
      go_wp2
      go_end0
      exact ⟨rfl, ⟨0, ⟨Nat.zero_le _, (unhide HI2).noughts, fun h => absurd h (by omega)⟩, by rw [if_pos rfl]; exact (unhide HI2).dec.drew.setP 0⟩, ((unhide HI2).bel.drew).setCell (p := ⟨b, 801, none⟩) (Nat.le_refl _) _, by simpa using (unhide HI2).size⟩
end Go.Proofs.YtjlaoeigfokkiaaGreatDoor.dcm
namespace Go.Proofs.YtjlaoeigfokkiaaGreatDoor.dcm
open Go.ChangeShapes Go.WideShapes Go.ChangeAt Go.RowKit
open mem
open ints (hide unhide)
set_option linter.unusedVariables false
/-- is a decimal that is cut at k digits to be rounded up? -/
def rup (s : Dcs) (k : Int) : Bool :=
  if k < 0 ∨ (s.nd : Int) ≤ k then false
  else if s.D k.toNat = 53 ∧ k.toNat + 1 = s.nd then (if s.tr = true then true else decide (0 < k.toNat ∧ (s.D (k.toNat - 1) - 48) % 2 ≠ 0))
  else decide (53 ≤ s.D k.toNat)
set_option maxRecDepth 100000 in
theorem rup_ok (b : Nat) (s : Dcs) (k : Int) (w : World) (h : Dec w b s) (hn : s.nd ≤ 800) (hk : k ≤ 9223372036854775806) (hD : ∀ i, i < s.nd → 48 ≤ s.D i ∧ s.D i ≤ 57) :
    Calls Tryz.prog 174 #[.pointer (some ⟨b, 0, none⟩), .int .i64 k] w fun e w' => e = .returned (.bool (rup s k)) ∧ w = w' := by
  have c0 := h.cnd
  have c3 := h.ctr
  have HH := hide h
  have hl := h.lt
  have HD := hide hD
  clear h hD
  by_cases k0 : k < 0
  · have hr : rup s k = false := by unfold rup; rw [if_pos (Or.inl k0)]
    rw [hr]
    clear hr
    go_enter Tryz.func174, Tryz.ntmps174
    go_wp2
    go_ret
    exact ⟨rfl, rfl⟩
  by_cases k1 : (s.nd : Int) ≤ k
  · have hr : rup s k = false := by unfold rup; rw [if_pos (Or.inr k1)]
    rw [hr]
    clear hr
    obtain ⟨M, hM⟩ : ∃ M : Int, M = (s.nd : Int) := ⟨_, rfl⟩
    rw [← hM] at c0 k1
    clear hM
    go_enter Tryz.func174, Tryz.ntmps174
    go_wp2
    go_ret
    exact ⟨rfl, rfl⟩
  obtain ⟨j, rfl⟩ : ∃ j : Nat, k = (j : Int) := ⟨k.toNat, by omega⟩
  have c1 := (unhide HH).dig j (by omega)
  have hdj := (unhide HD) j (by omega)
  have e1 : rup s (j : Int) = (if s.D j = 53 ∧ j + 1 = s.nd then (if s.tr = true then true else decide (0 < j ∧ (s.D (j - 1) - 48) % 2 ≠ 0)) else decide (53 ≤ s.D j)) := by
    unfold rup
    rw [if_neg (by omega)]
    rfl
  have kz : (0 : Int) ≤ (j : Int) := by omega
  have k8 : (j : Int) < 800 := by omega
  have kw : IntKind.i64.wrap (j : Int) = (j : Int) := by rw [IntKind.wrap_i64]; omega
  have kw1 : IntKind.i64.wrap ((j : Int) + 1) = (j : Int) + 1 := by rw [IntKind.wrap_i64]; omega
  obtain ⟨M, hM⟩ : ∃ M : Int, M = (s.nd : Int) := ⟨_, rfl⟩
  rw [← hM] at c0 k1
  rw [e1]
  by_cases h53 : s.D j = 53
  · have e53 : (s.D j : Int) = 53 := by omega
    rw [e53] at c1
    by_cases hend : j + 1 = s.nd
    · have ee : (j : Int) + 1 = M := by omega
      rw [if_pos ⟨h53, hend⟩]
      cases ht : s.tr
      · rw [ht] at c3
        rw [if_neg (by decide)]
        by_cases j0 : 0 < j
        · have j0i : (0 : Int) < (j : Int) := by omega
          obtain ⟨i, hi⟩ : ∃ i, j = i + 1 := ⟨j - 1, by omega⟩
          have c4 := (unhide HH).dig i (by omega)
          have hdi := (unhide HD) i (by omega)
          obtain ⟨v, hv⟩ : ∃ v : Nat, s.D i = v + 48 := ⟨s.D i - 48, by omega⟩
          have kw2 : IntKind.i64.wrap ((j : Int) - 1) = (i : Int) := by rw [IntKind.wrap_i64]; omega
          have kw3 : IntKind.i64.wrap (i : Int) = (i : Int) := by rw [IntKind.wrap_i64]; omega
          have i0 : (0 : Int) ≤ (i : Int) := by omega
          have i8 : (i : Int) < 800 := by omega
          obtain ⟨C, hC⟩ : ∃ C : Int, C = (s.D i : Int) := ⟨_, rfl⟩
          rw [← hC] at c4
          have kv : IntKind.u8.wrap (C - 48) = (v : Int) := by rw [IntKind.wrap_u8]; omega
          have kr : (v : Int).tmod 2 = ((v % 2 : Nat) : Int) := by rw [Int.tmod_eq_emod_of_nonneg (by omega)]; omega
          have hres : decide (0 < j ∧ (s.D (j - 1) - 48) % 2 ≠ 0) = decide (v % 2 ≠ 0) := by
            rw [show j - 1 = i by omega, hv, Nat.add_sub_cancel]
            simp [j0]
          rw [hres]
          clear hres hC hv hdi hM h53 e53 hend e1 HD hi j0 ht hdj
          by_cases hv2 : v % 2 = 0
          · have hvi : ((v % 2 : Nat) : Int) = 0 := by omega
            rw [hvi] at kr
            rw [show decide (v % 2 ≠ 0) = false by simp [hv2]]
            clear hv2 hvi
            go_enter Tryz.func174, Tryz.ntmps174
            go_wp2
            go_ret
            exact ⟨rfl, rfl⟩
          · have hvi : ((v % 2 : Nat) : Int) = 1 := by omega
            rw [hvi] at kr
            rw [show decide (v % 2 ≠ 0) = true by simp [hv2]]
            clear hv2 hvi
            go_enter Tryz.func174, Tryz.ntmps174
            go_wp2
            go_ret
            exact ⟨rfl, rfl⟩
        · have j0i : ¬ (0 : Int) < (j : Int) := by omega
          rw [show decide (0 < j ∧ (s.D (j - 1) - 48) % 2 ≠ 0) = false by simp [j0]]
          clear hM h53 e53 hend e1 HD ht hdj
          go_enter Tryz.func174, Tryz.ntmps174
          go_wp2
          go_ret
          exact ⟨rfl, rfl⟩
      · rw [ht] at c3
        rw [if_pos rfl]
        clear hM h53 e53 hend e1 HD ht hdj
        go_enter Tryz.func174, Tryz.ntmps174
        go_wp2
        go_ret
        exact ⟨rfl, rfl⟩
    · have ee : ¬ (j : Int) + 1 = M := by omega
      rw [if_neg (fun g => hend g.2), show decide (53 ≤ s.D j) = true by simp [h53]]
      clear hM h53 e53 hend e1 HD hdj
      go_enter Tryz.func174, Tryz.ntmps174
      go_wp2
      go_ret
      exact ⟨rfl, rfl⟩
  · rw [if_neg (fun g => h53 g.1)]
    obtain ⟨C, hC⟩ : ∃ C : Int, C = (s.D j : Int) := ⟨_, rfl⟩
    have h53i : ¬ C = 53 := by omega
    rw [← hC] at c1
    by_cases hge : 53 ≤ s.D j
    · have hgi : (53 : Int) ≤ C := by omega
      rw [show decide (53 ≤ s.D j) = true by simp [hge]]
      clear hM h53 e1 HD hdj hC hge
      go_enter Tryz.func174, Tryz.ntmps174
      go_wp2
      go_ret
      exact ⟨rfl, rfl⟩
    · have hgi : ¬ (53 : Int) ≤ C := by omega
      rw [show decide (53 ≤ s.D j) = false by simp [hge]]
      clear hM h53 e1 HD hdj hC hge
      go_enter Tryz.func174, Tryz.ntmps174
      go_wp2
      go_ret
      exact ⟨rfl, rfl⟩
end Go.Proofs.YtjlaoeigfokkiaaGreatDoor.dcm
namespace Go.Proofs.YtjlaoeigfokkiaaGreatDoor.dcm
open Go.ChangeShapes Go.WideShapes Go.ChangeAt Go.RowKit
open mem
open ints (hide unhide)
set_option linter.unusedVariables false
/-- the digit at i: a nought behind the last one -/
def dgN (s : Dcs) (i : Nat) : Nat := if i < s.nd then s.D i - 48 else 0
/-- the number that the first k digits write -/
def dvN (s : Dcs) : Nat → Nat
  | 0 => 0
  | k + 1 => dvN s k * 10 + dgN s k
/-- the digits that count are digits -/
def DgOk (s : Dcs) : Prop := ∀ i, i < s.nd → 48 ≤ s.D i ∧ s.D i ≤ 57
theorem dgN_le {s : Dcs} (h : DgOk s) (i : Nat) : dgN s i ≤ 9 := by
  unfold dgN
  split
  · have := h i (by assumption); omega
  · omega
theorem dvN_lt {s : Dcs} (h : DgOk s) (k : Nat) : dvN s k < 10 ^ k := by
  induction k with
  | zero => show 0 < 1; decide
  | succ k ih => have := dgN_le h k; show dvN s k * 10 + dgN s k < _; rw [Nat.pow_succ]; omega
theorem dvN_18 {s : Dcs} (h : DgOk s) {k : Nat} (hk : k ≤ 18) : dvN s k < 1000000000000000000 :=
  Nat.lt_of_lt_of_le (dvN_lt h k) (Nat.le_trans (Nat.pow_le_pow_right (n := 10) (by decide) hk) (by decide))
set_option maxRecDepth 100000 in
set_option maxHeartbeats 1000000 in
/-- the decimal's whole part, rounded -/
theorem rint_ok (b : Nat) (s : Dcs) (w : World) (h : Dec w b s) (hn : s.nd ≤ 800) (hp : s.dp ≤ 18) (hp0 : -9223372036854775808 ≤ s.dp) (hD : DgOk s) :
    Calls Tryz.prog 181 #[.pointer (some ⟨b, 0, none⟩)] w fun e w' => e = .returned (.int .u64 ((dvN s s.dp.toNat + (rup s s.dp).toNat : Nat) : Int)) ∧ Below w.heap.size w w' := by
  have RU := hide (rup_ok b s s.dp w h hn (by omega) hD)
  have V18 := hide (fun k hk => dvN_18 hD (k := k) hk)
  have c0 := h.cnd
  have c1 := h.cdp
  have HH := hide h
  have hl := h.lt
  have HD := hide hD
  obtain ⟨P, hP⟩ : ∃ P, P = s.dp := ⟨_, rfl⟩
  obtain ⟨M, hM⟩ : ∃ M : Int, M = (s.nd : Int) := ⟨_, rfl⟩
  obtain ⟨R, hR⟩ : ∃ R, R = rup s s.dp := ⟨_, rfl⟩
  rw [← hR] at RU ⊢
  rw [← hP] at RU c1 hp hp0 ⊢
  rw [← hM] at c0
  have HM := hide hM
  clear h hD hP hM hR
  go_enter Tryz.func181, Tryz.ntmps181
  go_wp2
  go_loopw [3, 4] (fun i n wr => ∃ k : Nat, (k : Int) ≤ max P 0 ∧ i = .int .i64 k ∧ n = .int .u64 (dvN s k : Int) ∧ wr = w) (fun i n _ => 30 - (intOf i).toNat)
  case atStart => exact ⟨0, by omega, rfl, rfl, rfl⟩
  case round =>
    obtain ⟨k, hk, rfl, rfl, hwr⟩ := hrel
    subst wr
    have kz : (0 : Int) ≤ (k : Int) := by omega
    have v18 := unhide V18 k (by omega)
    obtain ⟨N, hN⟩ : ∃ N, N = dvN s k := ⟨_, rfl⟩
    rw [← hN] at v18
    by_cases k1 : (k : Int) < P
    · by_cases k2 : (k : Int) < M
      · have hs := unhide HM
        have hkn : k < s.nd := by omega
        have k8 : (k : Int) < 800 := by omega
        have c2 := (unhide HH).dig k (by omega)
        have hd := (unhide HD) k hkn
        obtain ⟨v, hv⟩ : ∃ v : Nat, s.D k = v + 48 := ⟨s.D k - 48, by omega⟩
        have hv9 : v ≤ 9 := by omega
        obtain ⟨C, hC⟩ : ∃ C : Int, C = (s.D k : Int) := ⟨_, rfl⟩
        rw [← hC] at c2
        have kv : IntKind.u8.wrap (C - 48) = (v : Int) := by rw [IntKind.wrap_u8]; omega
        have kv2 : IntKind.u64.wrap (v : Int) = (v : Int) := by rw [IntKind.wrap_u64]; omega
        have kv3 : IntKind.u64.wrap ((N : Int) * 10) = (N : Int) * 10 := by rw [IntKind.wrap_u64]; omega
        have kv4 : IntKind.u64.wrap ((N : Int) * 10 + (v : Int)) = (N : Int) * 10 + (v : Int) := by rw [IntKind.wrap_u64]; omega
        have kw : IntKind.i64.wrap (k : Int) = (k : Int) := by rw [IntKind.wrap_i64]; omega
        have hnext := hide (show (dvN s (k + 1) : Int) = (N : Int) * 10 + (v : Int) by
          show ((dvN s k * 10 + dgN s k : Nat) : Int) = _
          unfold dgN
          rw [if_pos hkn, hv, ← hN]
          omega)
        clear hv hd hC hs
        rw [← hN]
        go_wp2
        go_roundw
        case rel => exact ⟨k + 1, by omega, by go_num, by rw [unhide hnext, hN], trivial⟩
        case measure => simp [intOf]; omega
      · have hks := hide (show (k : Int) < P → M ≤ (k : Int) from fun g => by omega)
        have HK := hide hk
        clear hk v18 hN N 
        go_wp2
        go_loopw [3, 4] (fun i n wr => ∃ k : Nat, ((k : Int) ≤ max P 0 ∧ ((k : Int) < P → M ≤ (k : Int))) ∧ i = .int .i64 k ∧ n = .int .u64 (dvN s k : Int) ∧ wr = w) (fun i n _ => 30 - (intOf i).toNat)
        case atStart => exact ⟨k, ⟨unhide HK, unhide hks⟩, rfl, rfl, rfl⟩
        case round =>
          clear hks HK kz
          obtain ⟨j, ⟨hj, hj2⟩, rfl, rfl, hwr⟩ := hrel
          subst wr
          have jz : (0 : Int) ≤ (j : Int) := by omega
          have v18 := unhide V18 j (by omega)
          by_cases j1 : (j : Int) < P
          · have hs := unhide HM
            have jn : ¬ j < s.nd := by have := hj2 j1; omega
            have kv3 : IntKind.u64.wrap ((dvN s j : Int) * 10) = (dvN s j : Int) * 10 := by rw [IntKind.wrap_u64]; omega
            have hnext := hide (show (dvN s (j + 1) : Int) = (dvN s j : Int) * 10 by
              show ((dvN s j * 10 + dgN s j : Nat) : Int) = _
              unfold dgN
              rw [if_neg jn]
              omega)
            have HJ := hide (hj2 j1)
            have HJ1 := hide j1
            clear hj2 hs jn
            go_wp2
            go_roundw
            case rel => exact ⟨j + 1, ⟨by have := unhide HJ1; omega, fun _ => by have := unhide HJ; omega⟩, by go_num, by rw [unhide hnext], trivial⟩
            case measure => simp [intOf]; omega
          · have hej : j = P.toNat := by omega
            have HV := hide (show dvN s P.toNat = dvN s j by rw [hej])
            clear hj2 hej
            go_wp2_with fail
            refine (unhide RU).mono ?_
            rintro e w1 ⟨rfl, hw⟩
            subst w1
            cases R
            · go_wp2
              go_ret
              refine ⟨?_, Below.refl _ _⟩
              rw [unhide HV]
              rfl
            · have kv5 : IntKind.u64.wrap ((dvN s j : Int) + 1) = (dvN s j : Int) + 1 := by rw [IntKind.wrap_u64]; omega
              go_wp2
              go_ret
              refine ⟨?_, Below.refl _ _⟩
              rw [unhide HV]
              rfl
    · have hks := hide (show (k : Int) < P → M ≤ (k : Int) from fun g => by omega)
      have HK := hide hk
      clear hk v18 hN N 
      go_wp2
      go_loopw [3, 4] (fun i n wr => ∃ k : Nat, ((k : Int) ≤ max P 0 ∧ ((k : Int) < P → M ≤ (k : Int))) ∧ i = .int .i64 k ∧ n = .int .u64 (dvN s k : Int) ∧ wr = w) (fun i n _ => 30 - (intOf i).toNat)
      case atStart => exact ⟨k, ⟨unhide HK, unhide hks⟩, rfl, rfl, rfl⟩
      case round =>
        clear hks HK kz
        obtain ⟨j, ⟨hj, hj2⟩, rfl, rfl, hwr⟩ := hrel
        subst wr
        have jz : (0 : Int) ≤ (j : Int) := by omega
        have v18 := unhide V18 j (by omega)
        by_cases j1 : (j : Int) < P
        · have hs := unhide HM
          have jn : ¬ j < s.nd := by have := hj2 j1; omega
          have kv3 : IntKind.u64.wrap ((dvN s j : Int) * 10) = (dvN s j : Int) * 10 := by rw [IntKind.wrap_u64]; omega
          have hnext := hide (show (dvN s (j + 1) : Int) = (dvN s j : Int) * 10 by
            show ((dvN s j * 10 + dgN s j : Nat) : Int) = _
            unfold dgN
            rw [if_neg jn]
            omega)
          have HJ := hide (hj2 j1)
          have HJ1 := hide j1
          clear hj2 hs jn
          go_wp2
          go_roundw
          case rel => exact ⟨j + 1, ⟨by have := unhide HJ1; omega, fun _ => by have := unhide HJ; omega⟩, by go_num, by rw [unhide hnext], trivial⟩
          case measure => simp [intOf]; omega
        · have hej : j = P.toNat := by omega
          have HV := hide (show dvN s P.toNat = dvN s j by rw [hej])
          clear hj2 hej
          go_wp2_with fail
          refine (unhide RU).mono ?_
          rintro e w1 ⟨rfl, hw⟩
          subst w1
          cases R
          · go_wp2
            go_ret
            refine ⟨?_, Below.refl _ _⟩
            rw [unhide HV]
            rfl
          · have kv5 : IntKind.u64.wrap ((dvN s j : Int) + 1) = (dvN s j : Int) + 1 := by rw [IntKind.wrap_u64]; omega
            go_wp2
            go_ret
            refine ⟨?_, Below.refl _ _⟩
            rw [unhide HV]
            rfl
end Go.Proofs.YtjlaoeigfokkiaaGreatDoor.dcm
namespace Go.Proofs.YtjlaoeigfokkiaaGreatDoor.dcm
open Go.ChangeShapes Go.WideShapes Go.ChangeAt Go.RowKit
open mem
open ints (hide unhide)
set_option linter.unusedVariables false
/-- a number's lower k bits -/
theorem and_low (n k : Nat) (hn : n < 18446744073709551616) (hk : k ≤ 60) : bits .and .u64 (n : Int) ((2 ^ k - 1 : Nat) : Int) = ((n % 2 ^ k : Nat) : Int) := by
  have hB : 2 ^ k ≤ 2 ^ 60 := Nat.pow_le_pow_right (by decide) hk
  have e60 : (2 : Nat) ^ 60 = 1152921504606846976 := rfl
  have h1 : 0 < 2 ^ k := Nat.pow_pos (by decide)
  have h := u64_and_nat n (2 ^ k - 1) hn (by omega)
  rw [Nat.and_two_pow_sub_one_eq_mod] at h
  exact h
/-- a round of rightShift: a digit put down, a digit picked up -/
theorem rs_step {x W n B d : Nat} (hB : 0 < B) (h : x = W * 10 * B + n) : x * 10 + d = (W * 10 + n / B) * 10 * B + (n % B * 10 + d) := by
  have e := Nat.div_add_mod n B
  generalize n / B = q at *
  generalize n % B = r at *
  subst h
  rw [← e]
  simp only [Nat.add_mul]
  have e1 : B * q * 10 = q * 10 * B := by rw [Nat.mul_comm B q, Nat.mul_right_comm]
  have e2 : W * 10 * B * 10 = W * 10 * 10 * B := Nat.mul_right_comm _ _ _
  omega
theorem rs_rest {n B d : Nat} (hB : 0 < B) (hd : d ≤ 9) : n % B * 10 + d < 10 * B := by
  have := Nat.mod_lt n hB
  omega
theorem rs_dig {n B : Nat} (hB : 0 < B) (h : n < 10 * B) : n / B ≤ 9 := by
  have : n / B < 10 := Nat.div_lt_of_lt_mul (by rw [Nat.mul_comm]; exact h)
  omega
/-- the rest's twos: after t rounds without digits it is a multiple of 2 ^ t, so it ends -/
theorem rs_two {n k t : Nat} (h : 2 ^ t ∣ n) (ht : t ≤ k) : 2 ^ (t + 1) ∣ n % 2 ^ k * 10 := by
  have h1 : 2 ^ t ∣ n % 2 ^ k := (Nat.dvd_mod_iff (Nat.pow_dvd_pow 2 ht)).2 h
  rw [Nat.pow_succ]
  exact Nat.mul_dvd_mul h1 (by decide)
theorem rs_end {n k : Nat} (h : 2 ^ k ∣ n) : n % 2 ^ k * 10 = 0 := by rw [Nat.mod_eq_zero_of_dvd h]
end Go.Proofs.YtjlaoeigfokkiaaGreatDoor.dcm
