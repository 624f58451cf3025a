import Derived.Test.YtjlaoeigfokkiaaGreatDoorBr3
import Derived.Deep.RegionHeld3
import Derived.Laws.Externs
import Derived.RegionTactic
import Derived.ChangeAlike
import Derived.Test.YtjlaoeigfokkiaaGreatDoorRows
import GoSem.Core.Float
import Derived.Test.YtjlaoeigfokkiaaGreatDoorBr1
namespace Go.Proofs.YtjlaoeigfokkiaaGreatDoor.fto
open Go.ChangeShapes Go.WideShapes Go.ChangeAt Go.RowKit
open mem Go.Sort
open ints (hide unhide)
set_option linter.unusedVariables false
set_option linter.unusedSimpArgs false
theorem run_fbits (x:Nat) (w:World):(callFunc 129 #[.float .f64 x]).run Tryz.prog w = .ok (.value (.int .u64 x)) w:=by
 rw [run_callFunc_extern (e:=Extern.MathFloatBits.float64bits) Tryz.func129 (by kernel_rfl) (by kernel_rfl) (by kernel_rfl) (by kernel_rfl)]
 rfl
theorem callW {P:Program} {o:Oper} {a:Act} {w:World} {K:Act → World → Prop} {Q:Exit → Act → World → Prop} (f:FuncId) (fn:Func) (args:Array Operand) (tys:Array TypeId) (ho:o.op = .call { callee:=.value (.func f),args:=args,argTypes:=tys })
  (hf : P.funcs[f]? = some fn) (hname : (fn.name == "runtime.NumGoroutine") = false) (hb : fn.body.isNone = false) (vs : Array Value) (hv : args.map a.eval = vs)
  (hc:Calls P f vs w fun e w' => ∃ v,e = .returned v ∧ K (a.put o.dst v) w'):o.wp P a w K Q:=by
 have h1 : fn.name ≠ "runtime.NumGoroutine" := by simpa using hname
 have hrun:(execOp a.eval o).run P w = .ok (.enter f vs) w:=by
  unfold execOp
  simp only [ho]
  obtain ⟨c,hc'⟩:∃ c,fn.body = some c:=by cases h:fn.body <;> simp_all
  simp [resolve,hv,Deferred.ofValue,invoke,callFunc,hf,h1,hc',Act.eval]
 unfold Oper.wp
 rw [hrun,Oper.upon_enter]
 refine hc.mono ?_
 rintro e w' ⟨v,rfl,hk⟩
 exact hk
theorem own_bel {w w':World} {base:Nat} {e:TypeId} {size n:Nat} {v:Value} {xs:List Value} (h:w.ownsRow base e size v n xs) (hb:Below w.heap.size w w'):w'.ownsRow base e size v n xs:=by
 refine ⟨h.1,?_⟩
 rcases h.2 with h1 | ⟨g',cap,cur,h1,h2,h3,h4⟩
 ·exact .inl h1
 ·exact .inr ⟨g',cap,cur,h1,h2,(hb.block g' (Array.getElem?_eq_some_iff.1 h3).1).trans h3,h4⟩
theorem mixed:Tryz.prog.follows .mixedOrders = true:=by kernel_rfl
theorem cell_arr {w:World} {B j:Nat} {arr:Array Value} {TB:TypeId} {fr:Nat × Nat} {v:Value} (h:w.heap[B]? = some (.cells arr TB fr)) (hc:w.cell? ⟨B,j,none⟩ = some v):arr[j]? = some v:=by
 simpa [World.cell?,h] using hc
def dTail (d nd k:Nat):List Int:=(List.range (k - 1)).map fun j => dgt d nd (1 + j)
def sTxt (d nd k:Nat) (p:Int):List Int:=eTxt (dgt d nd 0) (dTail d nd k) ((nd:Int) + p)
set_option maxHeartbeats 8000000 in
set_option maxRecDepth 100000 in
theorem ftoa_n (f E M mm d nd:Nat) (p:Int) (v:Value) (base:Nat) (w:World) (hE:f / 4503599627370496 = E) (hE0:1 ≤ E) (hE1:E ≤ 2046) (hf:f < 9223372036854775808) (a1:bits .and .i64 (E:Int) 2047 = (E:Int)) (a2:bits .and .u64 (f:Int) 4503599627370495 = (M:Int)) (a3:bits .or .u64 (M:Int) 4503599627370496 = (mm:Int)) (hm1:4503599627370496 ≤ mm) (hm2:mm < 9007199254740992)
  (hown:w.ownsRow base 5 1 v 0 []) (hbase:base ≤ w.heap.size)
  (hS:∀ W,Below w.heap.size w W → Calls Tryz.prog 139 #[.int .u64 ((mm:Int) * 2048),.int .i64 ((E:Int) + -1023 - 11 - 52)] W fun e w' => e = .returned (.tuple #[.int .u64 d,.int .i64 p]) ∧ Below W.heap.size W w')
  (hN:∀ W,Below w.heap.size w W → Calls Tryz.prog 86 #[.int .u64 d] W fun e w' => e = .returned (.int .i64 nd) ∧ w' = W)
  (hd:1 ≤ d) (hnd:d < 10 ^ nd) (hnd1:1 ≤ nd) (hnd2:nd ≤ 20) (hlen:Lib.bitLen mm = 53) (hd64:d < 18446744073709551616) (hp:-370 ≤ p ∧ p ≤ 370) (hnz:¬ ∀ j,0 ≤ j → j < nd → dgt d nd j = 48) :
  Calls Tryz.prog 105 #[v,.float .f64 f,.int .u8 101,.int .i64 (-1)] w fun e w' => ∃ r,e = .returned r ∧ ∃ k:Nat,1 ≤ k ∧ k ≤ nd ∧ (∀ j,k ≤ j → j < nd → dgt d nd j = 48) ∧ dgt d nd (k - 1) ≠ 48 ∧ w'.ownsRow base 5 1 r (sTxt d nd k p).length ((sTxt d nd k p).map (Value.int .u8)) ∧ Below base w w':=by
 have hb:=run_fbits f w
 have HS:=hide hS
 have HN:=hide hN
 have HZ:=hide hnz
 have HD:=hide hnd
 clear hS hN hnz hnd
 have i1:(0:Int) ≤ (f:Int):=by omega
 have i2:(f:Int) / 4503599627370496 = (E:Int):=by omega
 have i3:(f:Int) / 9223372036854775808 = 0:=by omega
 have i4:((E:Int) == 2047) = false:=by rw [beq_eq_false_iff_ne];omega
 have i5:((E:Int) == 0) = false:=by rw [beq_eq_false_iff_ne];omega
 have i6:((mm:Int) == 0) = false:=by rw [beq_eq_false_iff_ne];omega
 go_enter Tryz.func105,Tryz.ntmps105
 go_wp2_with fail
 go_region
 go_wp2_with fail
 have b0:Below w.heap.size w (w.alloc (.cells (Array.replicate 32 (Value.int .u8 0)) 174)).drew:=Below.drew ((Below.refl _ _).alloc (Nat.le_refl _) _)
 have hW:(w.alloc (.cells (Array.replicate 32 (Value.int .u8 0)) 174)).drew.heap[w.heap.size]? = some (.cells (Array.replicate 32 (Value.int .u8 0)) 174):=by
  show (w.heap.push _)[w.heap.size]? = _
  rw [Array.getElem?_push_size]
 have hZ:(w.alloc (.cells (Array.replicate 32 (Value.int .u8 0)) 174)).drew.heap.size = w.heap.size + 1:=by
  show (w.heap.push _).size = _
  rw [Array.size_push]
 generalize hW0:(w.alloc (.cells (Array.replicate 32 (Value.int .u8 0)) 174)).drew = W0 at b0 hW hZ
 have hW1:(w.alloc (.cells #[.int .u8 0,.int .u8 0,.int .u8 0,.int .u8 0,.int .u8 0,.int .u8 0,.int .u8 0,.int .u8 0,.int .u8 0,.int .u8 0,.int .u8 0,.int .u8 0,.int .u8 0,.int .u8 0,.int .u8 0,.int .u8 0,.int .u8 0,.int .u8 0,.int .u8 0,.int .u8 0,.int .u8 0,.int .u8 0,.int .u8 0,.int .u8 0,.int .u8 0,.int .u8 0,.int .u8 0,.int .u8 0,.int .u8 0,.int .u8 0,.int .u8 0,.int .u8 0] 174)).drew = W0:=hW0
 rw [hW1]
 refine (Tryz.bits_Len64 mm _ (by omega) (by omega)).mono ?_
 rintro e w' ⟨rfl,rfl⟩
 rw [Int.toNat_natCast,hlen]
 clear hb hW0 hW1
 go_wp2_with fail
 refine (unhide HS _ b0).mono ?_
 rintro e w1 ⟨rfl,b1⟩
 have hB1:w1.heap[w.heap.size]? = some (.cells (Array.replicate 32 (Value.int .u8 0)) 174):=(b1.block _ (by omega)).trans hW
 have b01:Below w.heap.size w w1:=b0.trans (b1.mono (by omega))
 have hz1:w.heap.size < w1.heap.size:=by have:=b1.size;omega
 go_wp2_with fail
 refine wp_region_noPanic ?_
 refine wp_region_held (S:=fun _ => True) mixed ?_
 have hS0:True:=trivial
 refine rgn.tl (i:=0) (v:=?v1) rfl (by kernel_rfl) (fun _ _ _ h => h) (by rfl) ?hy1 hS0 ?_
 case hy1 => (intro w' hw';go_simp;try with_reducible rfl)
 simp only [zA,zB,zC,Act.put,zD,zE,zF]
 refine rgn.tl (i:=1) (v:=?v2) rfl (by kernel_rfl) (fun _ _ _ h => h) (by rfl) ?hy2 hS0 ?_
 case hy2 => (intro w' hw';go_simp;try with_reducible rfl)
 simp only [zA,zB,zC,Act.put,zD,zE,zF]
 refine rgn.tl (i:=2) (v:=?v3) rfl (by kernel_rfl) (fun _ _ _ h => h) (by rfl) ?hy3 hS0 ?_
 case hy3 => (intro w' hw';go_simp;try with_reducible rfl)
 simp only [zA,zB,zC,Act.put,zD,zE,zF]
 refine rgn.tl (i:=3) (v:=?v4) rfl (by kernel_rfl) (fun _ _ _ h => h) (by rfl) ?hy4 hS0 ?_
 case hy4 => (intro w' hw';go_simp;try with_reducible rfl)
 simp only [zA,zB,zC,Act.put,zD,zE,zF]
 refine rgn.one (i:=4) _ rfl (by kernel_rfl) (by rfl) ?_
 simp only [zA,zB,zC,Act.put,zD,zE,zF]
 refine callW _ _ _ _ rfl Tryz.func86 (by kernel_rfl) (by kernel_rfl) #[.int .u64 d] (by first | kernel_rfl | (simp only [List.map_toArray,List.map_cons,List.map_nil];rfl)) ?_
 refine (unhide HN _ b01.drew).mono ?_
 rintro e w' ⟨rfl,hw'⟩
 subst hw'
 refine ⟨_,rfl,trivial,?_⟩
 try simp only [zA,zB,zC,Act.put,zD,zE,zF]
 refine rgn.one (i:=5) _ rfl (by kernel_rfl) (by rfl) ?_
 simp only [zA,zB,zC,Act.put,zD,zE,zF]
 refine callW _ _ _ _ rfl Tryz.func134 (by kernel_rfl) (by kernel_rfl) #[.slice (some ⟨w.heap.size,0,none⟩) 32 32,.int .u64 d,.int .i64 p,.int .i64 nd] (by first | kernel_rfl | (simp only [List.map_toArray,List.map_cons,List.map_nil];rfl)) ?_
 have hcell:∀ j,j < nd → w1.drew.cell? ⟨w.heap.size,j,none⟩ = some (.int .u8 0) ∧ w1.drew.frozen? ⟨w.heap.size,j,none⟩ = false:=fun j hj => by
  have hj:j < 32:=by omega
  refine ⟨?_,by show w1.frozen? ⟨w.heap.size,j,none⟩ = false;simp [World.frozen?,hB1]⟩
  rw [World.cell?_drew]
  simp only [World.cell?,hB1]
  simp [hj]
 refine (setDigits_ok w.heap.size d nd p w1.drew (by omega) hcell (unhide HD) hd64 (by omega)).mono ?_
 rintro e w3 ⟨k,rfl,hk,hdg,hz,hnz0,b3,kt⟩
 refine ⟨_,rfl,trivial,?_⟩
 try simp only [zA,zB,zC,Act.put,zD,zE,zF]
 refine rgn.tl (i:=6) (v:=?v5) rfl (by kernel_rfl) (fun _ _ _ h => h) (by rfl) ?hy5 hS0 ?_
 case hy5 => (intro w' hw';go_simp;try with_reducible rfl)
 simp only [zA,zB,zC,Act.put,zD,zE,zF]
 refine rgn.tl (i:=7) (v:=?v6) rfl (by kernel_rfl) (fun _ _ _ h => h) (by rfl) ?hy6 hS0 ?_
 case hy6 => (intro w' hw';go_simp;try with_reducible rfl)
 simp only [zA,zB,zC,Act.put,zD,zE,zF]
 refine rgn.tl (i:=8) (v:=?v7) rfl (by kernel_rfl) (fun _ _ _ h => h) (by rfl) ?hy7 hS0 ?_
 case hy7 => (intro w' hw';go_simp;try with_reducible rfl)
 simp only [zA,zB,zC,Act.put,zD,zE,zF]
 refine rgn.tl (i:=9) (v:=?v8) rfl (by kernel_rfl) (fun _ _ _ h => h) (by rfl) ?hy8 hS0 ?_
 case hy8 => (intro w' hw';go_simp;try with_reducible rfl)
 simp only [zA,zB,zC,Act.put,zD,zE,zF]
 refine rgn.tl (i:=10) (v:=?v9) rfl (by kernel_rfl) (fun _ _ _ h => h) (by rfl) ?hy9 hS0 ?_
 case hy9 => (intro w' hw';go_simp;try with_reducible rfl)
 simp only [zA,zB,zC,Act.put,zD,zE,zF]
 refine wpAnyH_done (by kernel_rfl) ?_ _;refine NoPanic.normal ?_
 have hk1:1 ≤ k:=by
  rcases Nat.eq_zero_or_pos k with h | h
  ·exact absurd (fun j h0 hj => hz j (by omega) hj) (unhide HZ)
  ·exact h
 have hnz1:dgt d nd (k - 1) ≠ 48:=by
  rcases hnz0 with h | h
  ·omega
  ·exact h
 obtain ⟨arr,harr⟩:=kt _ _ _ (show w1.drew.heap[w.heap.size]? = _ from hB1)
 obtain ⟨m,rfl⟩:∃ m,k = m + 1:=⟨k - 1,by omega⟩
 have b13:Below w.heap.size w w3:=b01.drew.trans b3
 have own3:=own_bel hown b13
 have EF:=hide (efg_ok w.heap.size base m v (dgt d nd 0) ((nd:Int) + p) (dTail d nd (m + 1)) w3 harr (by decide) (cell_arr harr (hdg 0 (by omega))) (fun j u hj => by
   have hl:j < m:=by have:=(List.getElem?_eq_some_iff.1 hj).1;simpa [dTail] using this
   have e:((dTail d nd (m + 1)).map (Value.int .u8))[j]? = some (.int .u8 (dgt d nd (1 + j))):=by simp [dTail,hl]
   rw [e] at hj
   cases hj
   exact cell_arr harr (hdg (1 + j) (by omega))) (by simp [dTail]) (by omega) own3 (Nat.le_trans hbase b13.size) (by omega) (by omega))
 have R:=hide (⟨hz,hnz1,b13⟩:(∀ j,m + 1 ≤ j → j < nd → dgt d nd j = 48) ∧ dgt d nd (m + 1 - 1) ≠ 48 ∧ Below w.heap.size w w3)
 clear hz hnz0 hnz1 b13 own3 hdg b3 kt harr hcell hB1 b1 b01 b0 hW hZ HS HN HZ
 have im:((m + 1:Nat):Int) - 1 = (m:Int):=by omega
 go_wp2_with fail
 refine (unhide EF).mono ?_
 rintro e w4 ⟨r,rfl,ho,b4⟩
 have HO:=hide ho
 have B4:=hide b4
 clear ho b4 EF
 go_wp2
 go_ret
 obtain ⟨hz,hnz1,b13⟩:=unhide R
 exact ⟨r,rfl,m + 1,by omega,hk,hz,hnz1,unhide HO,(b13.mono hbase).trans (unhide B4)⟩
end Go.Proofs.YtjlaoeigfokkiaaGreatDoor.fto
namespace Go.Proofs.YtjlaoeigfokkiaaGreatDoor.fto
open Go.ChangeShapes Go.WideShapes Go.ChangeAt Go.RowKit
open mem Go.Sort
open ints (hide unhide)
set_option linter.unusedVariables false
set_option linter.unusedSimpArgs false
set_option maxHeartbeats 8000000 in
set_option maxRecDepth 100000 in
theorem ftoa_s (f mm L s d nd:Nat) (p:Int) (v:Value) (base:Nat) (w:World) (hf0:1 ≤ f) (hf:f < 4503599627370496) (a1:bits .and .i64 0 2047 = (0:Int)) (a2:bits .and .u64 (f:Int) 4503599627370495 = (f:Int)) (hlen:Lib.bitLen f = L) (hL:L + s = 64) (hL2:1 ≤ L) (hL3:L ≤ 52) (hmm:f * 2 ^ s = mm) (hm2:mm < 18446744073709551616)
  (hown:w.ownsRow base 5 1 v 0 []) (hbase:base ≤ w.heap.size)
  (hS:∀ W,Below w.heap.size w W → Calls Tryz.prog 139 #[.int .u64 mm,.int .i64 (-1022 - (s:Int) - 52)] W fun e w' => e = .returned (.tuple #[.int .u64 d,.int .i64 p]) ∧ Below W.heap.size W w')
  (hN:∀ W,Below w.heap.size w W → Calls Tryz.prog 86 #[.int .u64 d] W fun e w' => e = .returned (.int .i64 nd) ∧ w' = W)
  (hd:1 ≤ d) (hnd:d < 10 ^ nd) (hnd1:1 ≤ nd) (hnd2:nd ≤ 20) (hd64:d < 18446744073709551616) (hp:-370 ≤ p ∧ p ≤ 370) (hnz:¬ ∀ j,0 ≤ j → j < nd → dgt d nd j = 48) :
  Calls Tryz.prog 105 #[v,.float .f64 f,.int .u8 101,.int .i64 (-1)] w fun e w' => ∃ r,e = .returned r ∧ ∃ k:Nat,1 ≤ k ∧ k ≤ nd ∧ (∀ j,k ≤ j → j < nd → dgt d nd j = 48) ∧ dgt d nd (k - 1) ≠ 48 ∧ w'.ownsRow base 5 1 r (sTxt d nd k p).length ((sTxt d nd k p).map (Value.int .u8)) ∧ Below base w w':=by
 have hb:=run_fbits f w
 have HS:=hide hS
 have HN:=hide hN
 have HZ:=hide hnz
 have HD:=hide hnd
 clear hS hN hnz hnd
 have x1:IntKind.u64.wrap ((f:Int) * 2 ^ s) = (mm:Int):=by
  have e1:((f:Int) * 2 ^ s) = (mm:Int):=by rw [← hmm];simp
  rw [e1,IntKind.wrap_u64];omega
 have hs63:(s:Int) < 64:=by omega
 have hs12:12 ≤ (s:Int):=by omega
 have HL:=hide hlen
 have HM:=hide hmm
 have i7:(64:Int) - (L:Int) = (s:Int):=by omega
 have hLs:=hide hL
 clear hlen hmm hL
 have i1:(0:Int) ≤ (f:Int):=by omega
 have i2:(f:Int) / 4503599627370496 = 0:=by omega
 have i3:(f:Int) / 9223372036854775808 = 0:=by omega
 have i6:((f:Int) == 0) = false:=by rw [beq_eq_false_iff_ne];omega
 go_enter Tryz.func105,Tryz.ntmps105
 go_wp2_with fail
 go_region
 go_wp2_with fail
 have b0:Below w.heap.size w (w.alloc (.cells (Array.replicate 32 (Value.int .u8 0)) 174)).drew:=Below.drew ((Below.refl _ _).alloc (Nat.le_refl _) _)
 have hW:(w.alloc (.cells (Array.replicate 32 (Value.int .u8 0)) 174)).drew.heap[w.heap.size]? = some (.cells (Array.replicate 32 (Value.int .u8 0)) 174):=by
  show (w.heap.push _)[w.heap.size]? = _
  rw [Array.getElem?_push_size]
 have hZ:(w.alloc (.cells (Array.replicate 32 (Value.int .u8 0)) 174)).drew.heap.size = w.heap.size + 1:=by
  show (w.heap.push _).size = _
  rw [Array.size_push]
 generalize hW0:(w.alloc (.cells (Array.replicate 32 (Value.int .u8 0)) 174)).drew = W0 at b0 hW hZ
 have hW1:(w.alloc (.cells #[.int .u8 0,.int .u8 0,.int .u8 0,.int .u8 0,.int .u8 0,.int .u8 0,.int .u8 0,.int .u8 0,.int .u8 0,.int .u8 0,.int .u8 0,.int .u8 0,.int .u8 0,.int .u8 0,.int .u8 0,.int .u8 0,.int .u8 0,.int .u8 0,.int .u8 0,.int .u8 0,.int .u8 0,.int .u8 0,.int .u8 0,.int .u8 0,.int .u8 0,.int .u8 0,.int .u8 0,.int .u8 0,.int .u8 0,.int .u8 0,.int .u8 0,.int .u8 0] 174)).drew = W0:=hW0
 rw [hW1]
 refine (Tryz.bits_Len64 f _ (by omega) (by omega)).mono ?_
 rintro e w' ⟨rfl,rfl⟩
 rw [Int.toNat_natCast,unhide HL]
 clear hb hW0 hW1
 go_wp2_with fail
 refine (unhide HS _ b0).mono ?_
 rintro e w1 ⟨rfl,b1⟩
 have hB1:w1.heap[w.heap.size]? = some (.cells (Array.replicate 32 (Value.int .u8 0)) 174):=(b1.block _ (by omega)).trans hW
 have b01:Below w.heap.size w w1:=b0.trans (b1.mono (by omega))
 have hz1:w.heap.size < w1.heap.size:=by have:=b1.size;omega
 go_wp2_with fail
 refine wp_region_noPanic ?_
 refine wp_region_held (S:=fun _ => True) mixed ?_
 have hS0:True:=trivial
 refine rgn.tl (i:=0) (v:=?v1) rfl (by kernel_rfl) (fun _ _ _ h => h) (by rfl) ?hy1 hS0 ?_
 case hy1 => (intro w' hw';go_simp;try with_reducible rfl)
 simp only [zA,zB,zC,Act.put,zD,zE,zF]
 refine rgn.tl (i:=1) (v:=?v2) rfl (by kernel_rfl) (fun _ _ _ h => h) (by rfl) ?hy2 hS0 ?_
 case hy2 => (intro w' hw';go_simp;try with_reducible rfl)
 simp only [zA,zB,zC,Act.put,zD,zE,zF]
 refine rgn.tl (i:=2) (v:=?v3) rfl (by kernel_rfl) (fun _ _ _ h => h) (by rfl) ?hy3 hS0 ?_
 case hy3 => (intro w' hw';go_simp;try with_reducible rfl)
 simp only [zA,zB,zC,Act.put,zD,zE,zF]
 refine rgn.tl (i:=3) (v:=?v4) rfl (by kernel_rfl) (fun _ _ _ h => h) (by rfl) ?hy4 hS0 ?_
 case hy4 => (intro w' hw';go_simp;try with_reducible rfl)
 simp only [zA,zB,zC,Act.put,zD,zE,zF]
 refine rgn.one (i:=4) _ rfl (by kernel_rfl) (by rfl) ?_
 simp only [zA,zB,zC,Act.put,zD,zE,zF]
 refine callW _ _ _ _ rfl Tryz.func86 (by kernel_rfl) (by kernel_rfl) #[.int .u64 d] (by first | kernel_rfl | (simp only [List.map_toArray,List.map_cons,List.map_nil];rfl)) ?_
 refine (unhide HN _ b01.drew).mono ?_
 rintro e w' ⟨rfl,hw'⟩
 subst hw'
 refine ⟨_,rfl,trivial,?_⟩
 try simp only [zA,zB,zC,Act.put,zD,zE,zF]
 refine rgn.one (i:=5) _ rfl (by kernel_rfl) (by rfl) ?_
 simp only [zA,zB,zC,Act.put,zD,zE,zF]
 refine callW _ _ _ _ rfl Tryz.func134 (by kernel_rfl) (by kernel_rfl) #[.slice (some ⟨w.heap.size,0,none⟩) 32 32,.int .u64 d,.int .i64 p,.int .i64 nd] (by first | kernel_rfl | (simp only [List.map_toArray,List.map_cons,List.map_nil];rfl)) ?_
 have hcell:∀ j,j < nd → w1.drew.cell? ⟨w.heap.size,j,none⟩ = some (.int .u8 0) ∧ w1.drew.frozen? ⟨w.heap.size,j,none⟩ = false:=fun j hj => by
  have hj:j < 32:=by omega
  refine ⟨?_,by show w1.frozen? ⟨w.heap.size,j,none⟩ = false;simp [World.frozen?,hB1]⟩
  rw [World.cell?_drew]
  simp only [World.cell?,hB1]
  simp [hj]
 refine (setDigits_ok w.heap.size d nd p w1.drew (by omega) hcell (unhide HD) hd64 (by omega)).mono ?_
 rintro e w3 ⟨k,rfl,hk,hdg,hz,hnz0,b3,kt⟩
 refine ⟨_,rfl,trivial,?_⟩
 try simp only [zA,zB,zC,Act.put,zD,zE,zF]
 refine rgn.tl (i:=6) (v:=?v5) rfl (by kernel_rfl) (fun _ _ _ h => h) (by rfl) ?hy5 hS0 ?_
 case hy5 => (intro w' hw';go_simp;try with_reducible rfl)
 simp only [zA,zB,zC,Act.put,zD,zE,zF]
 refine rgn.tl (i:=7) (v:=?v6) rfl (by kernel_rfl) (fun _ _ _ h => h) (by rfl) ?hy6 hS0 ?_
 case hy6 => (intro w' hw';go_simp;try with_reducible rfl)
 simp only [zA,zB,zC,Act.put,zD,zE,zF]
 refine rgn.tl (i:=8) (v:=?v7) rfl (by kernel_rfl) (fun _ _ _ h => h) (by rfl) ?hy7 hS0 ?_
 case hy7 => (intro w' hw';go_simp;try with_reducible rfl)
 simp only [zA,zB,zC,Act.put,zD,zE,zF]
 refine rgn.tl (i:=9) (v:=?v8) rfl (by kernel_rfl) (fun _ _ _ h => h) (by rfl) ?hy8 hS0 ?_
 case hy8 => (intro w' hw';go_simp;try with_reducible rfl)
 simp only [zA,zB,zC,Act.put,zD,zE,zF]
 refine rgn.tl (i:=10) (v:=?v9) rfl (by kernel_rfl) (fun _ _ _ h => h) (by rfl) ?hy9 hS0 ?_
 case hy9 => (intro w' hw';go_simp;try with_reducible rfl)
 simp only [zA,zB,zC,Act.put,zD,zE,zF]
 refine wpAnyH_done (by kernel_rfl) ?_ _;refine NoPanic.normal ?_
 have hk1:1 ≤ k:=by
  rcases Nat.eq_zero_or_pos k with h | h
  ·exact absurd (fun j h0 hj => hz j (by omega) hj) (unhide HZ)
  ·exact h
 have hnz1:dgt d nd (k - 1) ≠ 48:=by
  rcases hnz0 with h | h
  ·omega
  ·exact h
 obtain ⟨arr,harr⟩:=kt _ _ _ (show w1.drew.heap[w.heap.size]? = _ from hB1)
 obtain ⟨m,rfl⟩:∃ m,k = m + 1:=⟨k - 1,by omega⟩
 have b13:Below w.heap.size w w3:=b01.drew.trans b3
 have own3:=own_bel hown b13
 have EF:=hide (efg_ok w.heap.size base m v (dgt d nd 0) ((nd:Int) + p) (dTail d nd (m + 1)) w3 harr (by decide) (cell_arr harr (hdg 0 (by omega))) (fun j u hj => by
   have hl:j < m:=by have:=(List.getElem?_eq_some_iff.1 hj).1;simpa [dTail] using this
   have e:((dTail d nd (m + 1)).map (Value.int .u8))[j]? = some (.int .u8 (dgt d nd (1 + j))):=by simp [dTail,hl]
   rw [e] at hj
   cases hj
   exact cell_arr harr (hdg (1 + j) (by omega))) (by simp [dTail]) (by omega) own3 (Nat.le_trans hbase b13.size) (by omega) (by omega))
 have R:=hide (⟨hz,hnz1,b13⟩:(∀ j,m + 1 ≤ j → j < nd → dgt d nd j = 48) ∧ dgt d nd (m + 1 - 1) ≠ 48 ∧ Below w.heap.size w w3)
 clear hz hnz0 hnz1 b13 own3 hdg b3 kt harr hcell hB1 b1 b01 b0 hW hZ HS HN HZ
 have im:((m + 1:Nat):Int) - 1 = (m:Int):=by omega
 go_wp2_with fail
 refine (unhide EF).mono ?_
 rintro e w4 ⟨r,rfl,ho,b4⟩
 have HO:=hide ho
 have B4:=hide b4
 clear ho b4 EF
 go_wp2
 go_ret
 obtain ⟨hz,hnz1,b13⟩:=unhide R
 exact ⟨r,rfl,m + 1,by omega,hk,hz,hnz1,unhide HO,(b13.mono hbase).trans (unhide B4)⟩
end Go.Proofs.YtjlaoeigfokkiaaGreatDoor.fto
namespace Go.Proofs.YtjlaoeigfokkiaaGreatDoor.mem
set_option linter.unusedVariables false
def b52:Nat:=4503599627370496
def b53:Nat:=9007199254740992
def infR:Nat:=9218868437227405312
def e22:Nat:=1022
theorem e22_eq:e22 = 1022:=rfl
def k22:Nat:=2 ^ e22
def k74:Nat:=2 ^ (52 + e22)
theorem k22_pos:0 < k22:=Nat.two_pow_pos e22
theorem b52_eq:b52 = 2 ^ 52:=rfl
theorem k74_eq:k74 = b52 * k22:=by
 unfold k74 k22
 rw [Nat.pow_add,b52_eq]
def mantR (r:Nat):Nat:=if r < b52 then r else b52 + r % b52
def exR (r:Nat):Nat:=r / b52 - 1
def vR (r:Nat):Nat:=mantR r * 2 ^ exR r
theorem vR_succ (r:Nat):vR (r + 1) = vR r + 2 ^ exR r:=by
 unfold vR mantR exR b52
 by_cases h:r < 4503599627370496
 ·have e0:r / 4503599627370496 - 1 = 0:=by omega
  rw [if_pos h,e0]
  by_cases h1:r + 1 < 4503599627370496
  ·have e1:(r + 1) / 4503599627370496 - 1 = 0:=by omega
   rw [if_pos h1,e1];simp
  ·have e1:(r + 1) / 4503599627370496 - 1 = 0:=by omega
   rw [if_neg h1,e1];simp;omega
 ·rw [if_neg h,if_neg (by omega)]
  by_cases h1:(r + 1) % 4503599627370496 = 0
  ·have e1:(r + 1) / 4503599627370496 - 1 = (r / 4503599627370496 - 1) + 1:=by omega
   have e2:r % 4503599627370496 = 4503599627370495:=by omega
   rw [h1,e1,e2,Nat.pow_succ]
   generalize 2 ^ (r / 4503599627370496 - 1) = p
   omega
  ·have e1:(r + 1) / 4503599627370496 = r / 4503599627370496:=by omega
   have e2:(r + 1) % 4503599627370496 = r % 4503599627370496 + 1:=by omega
   rw [e1,e2,← Nat.add_assoc,Nat.add_mul _ 1,Nat.one_mul]
theorem vR_mono {a b:Nat} (h:a < b):vR a < vR b:=by
 induction b with
 | zero => omega
 | succ b ih =>
  rw [vR_succ]
  have:=Nat.two_pow_pos (exR b)
  by_cases e:a = b
  ·rw [e];omega
  ·have:=ih (by omega);omega
theorem vR_mono_le {a b:Nat} (h:a ≤ b):vR a ≤ vR b:=by
 rcases Nat.lt_or_ge a b with h1 | h1
 ·exact Nat.le_of_lt (vR_mono h1)
 ·rw [show a = b by omega];exact Nat.le_refl _
def Lo (P B lo:Nat):Prop:=B * vR lo ≤ P ∧ P < B * vR (lo + 1)
theorem Lo.unique {P B a b:Nat} (h:Lo P B a) (h':Lo P B b):a = b:=by
 rcases Nat.lt_trichotomy a b with hl | hl | hl
 ·have:=Nat.mul_le_mul_left B (vR_mono_le (show a + 1 ≤ b by omega))
  have:=h.2;have:=h'.1;omega
 ·exact hl
 ·have:=Nat.mul_le_mul_left B (vR_mono_le (show b + 1 ≤ a by omega))
  have:=h'.2;have:=h.1;omega
def roundR (P B lo:Nat):Nat:=if B * (2 * vR lo + 2 ^ exR lo) < 2 * P ∨ (2 * P = B * (2 * vR lo + 2 ^ exR lo) ∧ lo % 2 = 1) then lo + 1 else lo
def loN (n:Nat):Nat:=(n.log2 + e22) * b52 + n * b52 / 2 ^ n.log2
theorem q_bd {n:Nat} (h:n ≠ 0):b52 ≤ n * b52 / 2 ^ n.log2 ∧ n * b52 / 2 ^ n.log2 < b53:=by
 have h1:=Nat.log2_self_le h
 have h2:=Nat.lt_log2_self (n:=n)
 have hp:=Nat.two_pow_pos n.log2
 constructor
 ·rw [Nat.le_div_iff_mul_le hp,Nat.mul_comm]
  exact Nat.mul_le_mul_right _ h1
 ·rw [Nat.div_lt_iff_lt_mul hp]
  rw [Nat.pow_succ] at h2
  unfold b52 b53
  omega
theorem loN_parts {n:Nat} (h:n ≠ 0):exR (loN n) = n.log2 + e22 ∧ mantR (loN n) = n * b52 / 2 ^ n.log2 ∧ loN n % 2 = (n * b52 / 2 ^ n.log2) % 2:=by
 obtain ⟨h1,h2⟩:=q_bd h
 unfold exR mantR loN
 generalize n * b52 / 2 ^ n.log2 = q at *
 generalize n.log2 = L at *
 unfold b52 b53 at *
 refine ⟨by omega,?_,by omega⟩
 rw [if_neg (by omega)]
 omega
theorem loN_lo {n:Nat} (h:n ≠ 0):Lo (n * k74) 1 (loN n):=by
 obtain ⟨h1,h2,-⟩:=loN_parts h
 have hp:=Nat.two_pow_pos n.log2
 have hd:=Nat.div_add_mod (n * b52) (2 ^ n.log2)
 have hm:=Nat.mod_lt (n * b52) hp
 have hk:=k22_pos
 have e:n * k74 = n * b52 * k22:=by rw [k74_eq,Nat.mul_assoc]
 unfold Lo
 rw [vR_succ,Nat.one_mul,Nat.one_mul]
 unfold vR
 rw [h1,h2,e,Nat.pow_add,show 2 ^ e22 = k22 from rfl]
 generalize n * b52 / 2 ^ n.log2 = q at *
 generalize n * b52 % 2 ^ n.log2 = t at *
 generalize n * b52 = m at *
 generalize 2 ^ n.log2 = g at *
 generalize k22 = k at *
 have e2:q * (g * k) = (g * q) * k:=by rw [← Nat.mul_assoc,Nat.mul_comm q g]
 rw [e2,← Nat.add_mul]
 constructor
 ·exact Nat.mul_le_mul_right _ (by omega)
 ·exact Nat.mul_lt_mul_of_pos_right (by omega) hk
theorem cut_none (neg:Bool) (n:Nat):Ieee.Toward.even.cut neg n 0 = n:=by
 unfold Ieee.Toward.cut
 simp [Nat.mod_one]
theorem cut_some (neg:Bool) {n d:Nat} (h:d ≤ n.log2 + 2):Ieee.Toward.even.cut neg n d = n / 2 ^ d + (decide (2 ^ d < 2 * (n % 2 ^ d)) || (2 ^ d == 2 * (n % 2 ^ d) && (n / 2 ^ d) % 2 == 1)).toNat:=by
 unfold Ieee.Toward.cut
 simp only [Nat.min_eq_left h,Nat.shiftLeft_eq,Nat.one_mul]
theorem round_exact {P lo:Nat} (h:P = vR lo):roundR P 1 lo = lo:=by
 unfold roundR
 have:=Nat.two_pow_pos (exR lo)
 rw [if_neg]
 omega
theorem min_small {L q:Nat} (hL:L < 64) (hq:q ≤ b53):min ((L + e22) * b52 + q) infR = (L + e22) * b52 + q:=by
 have:=e22_eq
 unfold b52 b53 infR at *
 omega
theorem nearest_int (neg:Bool) {n:Nat} (h:n ≠ 0) (hn:n < 2 ^ 64):Ieee.double.nearest neg n 0 = Ieee.double.word neg (roundR (n * k74) 1 (loN n)):=by
 have hL:n.log2 < 64:=(Nat.log2_lt h).2 hn
 obtain ⟨p1,p2,p3⟩:=loN_parts h
 obtain ⟨b1,b2⟩:=q_bd h
 have hp:=Nat.two_pow_pos n.log2
 have hk:=k22_pos
 have e:n * k74 = n * b52 * k22:=by rw [k74_eq,Nat.mul_assoc]
 unfold Ieee.Format.nearest
 rw [if_neg h]
 have hlast:max ((0:Int) + n.log2 - Ieee.double.fractionBits) (-1074) = (n.log2:Int) - 52:=by
  unfold Ieee.double
  simp only
  omega
 have hlp:Ieee.double.leastPlace = -1074:=by rfl
 have hbn:Ieee.double.binade = b52:=by rfl
 have hinf:Ieee.double.infRung = infR:=by rfl
 simp only [hlp,hlast,hbn,hinf]
 refine congrArg (Ieee.double.word neg) ?_
 have hT:((n.log2:Int) - 52 - -1074).toNat = n.log2 + e22:=by rw [e22_eq];omega
 rw [hT]
 by_cases h52:n.log2 ≤ 52
 ·have e1:((n.log2:Int) - 52 - 0).toNat = 0:=by omega
  have e2:((0:Int) - ((n.log2:Int) - 52)).toNat = 52 - n.log2:=by omega
  rw [e1,e2,cut_none,Nat.shiftLeft_eq]
  have eb:b52 = 2 ^ (52 - n.log2) * 2 ^ n.log2:=by rw [← Nat.pow_add,show 52 - n.log2 + n.log2 = 52 by omega];rfl
  have eq:n * b52 / 2 ^ n.log2 = n * 2 ^ (52 - n.log2):=by
   rw [eb,← Nat.mul_assoc,Nat.mul_div_cancel _ hp]
  have ev:n * k74 = vR (loN n):=by
   unfold vR
   rw [p1,p2,eq,e,eb,Nat.pow_add,show 2 ^ e22 = k22 from rfl]
   rw [← Nat.mul_assoc,← Nat.mul_assoc]
  rw [round_exact ev]
  unfold loN
  rw [eq] at b1 b2 ⊢
  exact min_small hL (Nat.le_of_lt b2)
 ·have hLL:n.log2 = (n.log2 - 52) + 52:=by omega
  have e1:((n.log2:Int) - 52 - 0).toNat = n.log2 - 52:=by omega
  have e2:((0:Int) - ((n.log2:Int) - 52)).toNat = 0:=by omega
  rw [e1,e2,Nat.shiftLeft_zero,cut_some neg (by omega)]
  have hg:=Nat.two_pow_pos (n.log2 - 52)
  have eL:2 ^ n.log2 = 2 ^ (n.log2 - 52) * b52:=by
   conv => lhs;rw [hLL]
   rw [Nat.pow_add];rfl
  have eq:n * b52 / 2 ^ n.log2 = n / 2 ^ (n.log2 - 52):=by
   rw [eL]
   exact Nat.mul_div_mul_right _ _ (by decide)
  have hdm:=Nat.div_add_mod n (2 ^ (n.log2 - 52))
  have hml:=Nat.mod_lt n hg
  have hr:roundR (n * k74) 1 (loN n) = loN n + (decide (2 ^ (n.log2 - 52) < 2 * (n % 2 ^ (n.log2 - 52))) || (2 ^ (n.log2 - 52) == 2 * (n % 2 ^ (n.log2 - 52)) && (n / 2 ^ (n.log2 - 52)) % 2 == 1)).toNat:=by
   unfold roundR vR
   rw [p1,p2,p3,eq,e,Nat.pow_add,eL,show 2 ^ e22 = k22 from rfl]
   generalize n / 2 ^ (n.log2 - 52) = q at *
   generalize n % 2 ^ (n.log2 - 52) = t at *
   generalize 2 ^ (n.log2 - 52) = g at *
   generalize k22 = k at *
   have f1:1 * (2 * (q * (g * b52 * k)) + g * b52 * k) = (2 * (g * q) + g) * (b52 * k):=by
    rw [Nat.one_mul,Nat.add_mul,Nat.mul_assoc g b52 k,Nat.mul_assoc 2 (g * q),← Nat.mul_assoc q g,Nat.mul_comm q g]
   have f2:2 * (n * b52 * k) = (2 * n) * (b52 * k):=by rw [Nat.mul_assoc n,Nat.mul_assoc 2]
   have hbk:0 < b52 * k:=Nat.mul_pos (by decide) hk
   rw [f1,f2]
   generalize b52 * k = j at *
   have g1:(2 * (g * q) + g) * j < 2 * n * j ↔ g < 2 * t:=by
    rw [Nat.mul_lt_mul_right hbk];omega
   have g2:2 * n * j = (2 * (g * q) + g) * j ↔ g = 2 * t:=by
    rw [Nat.mul_right_cancel_iff hbk];omega
   simp only [g1,g2]
   by_cases c1:g < 2 * t
   ·simp [c1]
   ·by_cases c2:g = 2 * t
    ·by_cases c3:q % 2 = 1
     ·simp [c2,c3]
     ·have:¬ (g < 2 * t ∨ g = 2 * t ∧ q % 2 = 1):=by omega
      rw [if_neg this]
      simp [c2,c3]
    ·have:¬ (g < 2 * t ∨ g = 2 * t ∧ q % 2 = 1):=by omega
     rw [if_neg this]
     simp [c1,c2]
  rw [hr]
  unfold loN
  rw [eq] at b1 b2 ⊢
  generalize (decide (2 ^ (n.log2 - 52) < 2 * (n % 2 ^ (n.log2 - 52))) || (2 ^ (n.log2 - 52) == 2 * (n % 2 ^ (n.log2 - 52)) && (n / 2 ^ (n.log2 - 52)) % 2 == 1)) = bb at *
  have hb1:=Bool.toNat_le bb
  rw [Nat.add_assoc]
  exact min_small hL (by unfold b53 at b2 ⊢;omega)
end Go.Proofs.YtjlaoeigfokkiaaGreatDoor.mem
namespace Go.Proofs.YtjlaoeigfokkiaaGreatDoor.mem
set_option linter.unusedVariables false
def rne (X D:Nat):Nat:=if D < 2 * (X % D) ∨ (2 * (X % D) = D ∧ X / D % 2 = 1) then X / D + 1 else X / D
theorem or_one (F:Nat):F ||| 1 = F / 2 * 2 + 1:=by
 have h:=Nat.or_mod_two_eq_one (a:=F) (b:=1)
 have h1:(F ||| 1) % 2 = 1:=by
  rw [Nat.or_mod_two_eq_one];right;rfl
 have h2:(F ||| 1) / 2 = F / 2:=by
  rw [Nat.or_div_two]
  simp
 omega
theorem un_parts (X W:Nat):un X W / 2 = X / W / 2 ∧ (un X W % 2 = 1 ↔ (X / W % 2 = 1 ∨ X % W ≠ 0)):=by
 unfold un
 by_cases h:X % W = 0
 ·rw [if_pos h,Nat.or_zero]
  exact ⟨rfl,by omega⟩
 ·rw [if_neg h,or_one]
  exact ⟨by omega,by omega⟩
theorem un_round (X W:Nat) (hW:0 < W):(un X W + 1 + un X W / 4 % 2) / 4 = rne X (4 * W):=by
 obtain ⟨h1,h2⟩:=un_parts X W
 have hdm:=Nat.div_add_mod X W
 have hml:=Nat.mod_lt X hW
 generalize un X W = u at *
 obtain ⟨F,hF⟩:∃ F,F = X / W:=⟨_,rfl⟩
 obtain ⟨r,hr⟩:∃ r,r = X % W:=⟨_,rfl⟩
 rw [← hF] at h1 h2 hdm
 rw [← hr] at h2 hdm hml
 have hq:X / (4 * W) = F / 4:=by rw [Nat.mul_comm,← Nat.div_div_eq_div_mul,← hF]
 have hm:X % (4 * W) = F % 4 * W + r:=by
  have e:X = W * (4 * (F / 4) + F % 4) + r:=by rw [Nat.div_add_mod];omega
  have e2:X = 4 * W * (F / 4) + (F % 4 * W + r):=by
   rw [e,Nat.mul_add,← Nat.mul_assoc,Nat.mul_comm W 4,Nat.mul_comm W (F % 4)];omega
  rw [e2,Nat.mul_add_mod]
  refine Nat.mod_eq_of_lt ?_
  have h4:F % 4 < 4:=Nat.mod_lt _ (by decide)
  have:=Nat.mul_le_mul_right W (show F % 4 ≤ 3 by omega)
  omega
 unfold rne
 rw [hq,hm]
 clear hq hm hF hr hdm
 have h4:F % 4 < 4:=Nat.mod_lt _ (by decide)
 rcases (show F % 4 = 0 ∨ F % 4 = 1 ∨ F % 4 = 2 ∨ F % 4 = 3 by omega) with c | c | c | c
 ·rw [c,Nat.zero_mul,Nat.zero_add,if_neg (by omega)]
  by_cases hr0:r = 0 <;> omega
 ·rw [c,Nat.one_mul,if_neg (by omega)]
  omega
 ·rw [c]
  by_cases hr0:r = 0
  ·by_cases ho:F / 4 % 2 = 1
   ·rw [if_pos (by omega)];omega
   ·rw [if_neg (by omega)];omega
  ·rw [if_pos (by omega)];omega
 ·rw [c,if_pos (by omega)];omega
theorem un_half (X W:Nat) (hW:0 < W):(un X W / 2) ||| (un X W % 2) = un X (2 * W):=by
 obtain ⟨h1,h2⟩:=un_parts X W
 have hdm:=Nat.div_add_mod X W
 have hml:=Nat.mod_lt X hW
 have hq:X / (2 * W) = X / W / 2:=by rw [Nat.mul_comm,← Nat.div_div_eq_div_mul]
 have hm:X % (2 * W) = X / W % 2 * W + X % W:=by
  generalize hF:X / W = F at *
  generalize hr:X % W = r at *
  have e2:X = 2 * W * (F / 2) + (F % 2 * W + r):=by
   have:F = 2 * (F / 2) + F % 2:=(Nat.div_add_mod F 2).symm
   rw [← hdm]
   conv => lhs;rw [this,Nat.mul_add,← Nat.mul_assoc,Nat.mul_comm W 2,Nat.mul_comm W (F % 2)]
   omega
  rw [e2,Nat.mul_add_mod]
  refine Nat.mod_eq_of_lt ?_
  have:=Nat.mul_le_mul_right W (show F % 2 ≤ 1 by omega)
  omega
 conv => rhs;unfold un
 rw [hq,hm,h1]
 by_cases hs:X / W % 2 = 1 ∨ X % W ≠ 0
 ·rw [h2.2 hs,if_neg]
  rcases hs with hs | hs
  ·rw [hs];omega
  ·omega
 ·have:un X W % 2 = 0:=by
   have:¬ un X W % 2 = 1:=fun e => hs (h2.1 e)
   omega
  rw [this,if_pos]
  have:X / W % 2 = 0:=by omega
  rw [this];omega
theorem rung_of {P Bn X D k q:Nat} (hD:0 < D) (hBn:0 < Bn) (hid:P * D = X * Bn * 2 ^ k) (hq:q = X / D) (hm:mantR (q + k * b52) = q) (he:exR (q + k * b52) = k) (hb:q % 2 = (q + k * b52) % 2) :
  Lo P Bn (q + k * b52) ∧ roundR P Bn (q + k * b52) = rne X D + k * b52:=by
 have hdm:=Nat.div_add_mod X D
 have hml:=Nat.mod_lt X hD
 rw [← hq] at hdm
 have hv:vR (q + k * b52) = q * 2 ^ k:=by unfold vR;rw [hm,he]
 have hkp:=Nat.two_pow_pos k
 have hCp:0 < Bn * 2 ^ k:=Nat.mul_pos hBn hkp
 have hid2:P * D = X * (Bn * 2 ^ k):=by rw [hid,Nat.mul_assoc]
 have e1:Bn * (q * 2 ^ k) = q * (Bn * 2 ^ k):=by rw [← Nat.mul_assoc,Nat.mul_comm Bn q,Nat.mul_assoc]
 have e2:Bn * (q * 2 ^ k + 2 ^ k) = (q + 1) * (Bn * 2 ^ k):=by rw [Nat.mul_add,e1,Nat.add_mul,Nat.one_mul]
 have e3:Bn * (2 * (q * 2 ^ k) + 2 ^ k) = (2 * q + 1) * (Bn * 2 ^ k):=by
  rw [Nat.mul_add,Nat.add_mul,Nat.one_mul,Nat.mul_assoc 2 q,← e1]
  rw [← Nat.mul_assoc,Nat.mul_comm Bn 2,Nat.mul_assoc]
 generalize Bn * 2 ^ k = C at *
 have hXq:X = D * q + X % D:=by omega
 constructor
 ·unfold Lo
  rw [vR_succ,hv,he,e1,e2]
  constructor
  ·have:q * C * D ≤ P * D:=by
    rw [hid2,Nat.mul_right_comm]
    refine Nat.mul_le_mul_right _ ?_
    rw [Nat.mul_comm];omega
   exact Nat.le_of_mul_le_mul_right this hD
  ·have:P * D < (q + 1) * C * D:=by
    rw [hid2,Nat.mul_right_comm]
    refine Nat.mul_lt_mul_of_pos_right ?_ hCp
    rw [Nat.add_mul,Nat.one_mul,Nat.mul_comm];omega
   exact Nat.lt_of_mul_lt_mul_right this
 ·unfold roundR rne
  rw [hv,he,e3,← hb,← hq]
  have k1:(2 * q + 1) * C < 2 * P ↔ D < 2 * (X % D):=by
   have a1:(2 * q + 1) * C < 2 * P ↔ (2 * q + 1) * C * D < 2 * P * D:=(Nat.mul_lt_mul_right hD).symm
   have a2:2 * P * D = 2 * X * C:=by rw [Nat.mul_assoc,hid2,Nat.mul_assoc]
   have a3:(2 * q + 1) * C * D = (2 * q + 1) * D * C:=Nat.mul_right_comm _ _ _
   rw [a1,a2,a3,Nat.mul_lt_mul_right hCp,Nat.add_mul,Nat.one_mul,Nat.mul_assoc,Nat.mul_comm q D]
   omega
  have k2:2 * P = (2 * q + 1) * C ↔ 2 * (X % D) = D:=by
   have a1:2 * P = (2 * q + 1) * C ↔ 2 * P * D = (2 * q + 1) * C * D:=(Nat.mul_right_cancel_iff hD).symm
   have a2:2 * P * D = 2 * X * C:=by rw [Nat.mul_assoc,hid2,Nat.mul_assoc]
   have a3:(2 * q + 1) * C * D = (2 * q + 1) * D * C:=Nat.mul_right_comm _ _ _
   rw [a1,a2,a3,Nat.mul_right_cancel_iff hCp,Nat.add_mul,Nat.one_mul,Nat.mul_assoc,Nat.mul_comm q D]
   omega
  simp only [k1,k2]
  split <;> omega
end Go.Proofs.YtjlaoeigfokkiaaGreatDoor.mem
namespace Go.Proofs.YtjlaoeigfokkiaaGreatDoor.mem
set_option linter.unusedVariables false
def midR (r:Nat):Nat:=2 * vR r + 2 ^ exR r
theorem midR_eq (r:Nat):midR r = vR r + vR (r + 1):=by
 unfold midR;rw [vR_succ];omega
def InR (P B a:Nat):Prop:=(B * midR (a - 1) < 2 * P ∨ (B * midR (a - 1) = 2 * P ∧ a % 2 = 0)) ∧ (2 * P < B * midR a ∨ (2 * P = B * midR a ∧ a % 2 = 0))
theorem round_iff {P B a lo:Nat} (hB:0 < B) (ha:0 < a) (hlo:Lo P B lo):roundR P B lo = a ↔ InR P B a:=by
 have m1:2 * (B * vR (a - 1)) < B * midR (a - 1):=by
  rw [← Nat.mul_assoc,Nat.mul_comm 2 B,Nat.mul_assoc]
  refine Nat.mul_lt_mul_of_pos_left ?_ hB
  have:=Nat.two_pow_pos (exR (a - 1))
  unfold midR;omega
 have m2:B * midR (a - 1) < 2 * (B * vR a):=by
  rw [← Nat.mul_assoc,Nat.mul_comm 2 B,Nat.mul_assoc]
  refine Nat.mul_lt_mul_of_pos_left ?_ hB
  rw [midR_eq,Nat.sub_add_cancel ha]
  have:=vR_mono (show a - 1 < a by omega)
  omega
 have m3:2 * (B * vR a) < B * midR a:=by
  rw [← Nat.mul_assoc,Nat.mul_comm 2 B,Nat.mul_assoc]
  refine Nat.mul_lt_mul_of_pos_left ?_ hB
  have:=Nat.two_pow_pos (exR a)
  unfold midR;omega
 have m4:B * midR a < 2 * (B * vR (a + 1)):=by
  rw [← Nat.mul_assoc,Nat.mul_comm 2 B,Nat.mul_assoc]
  refine Nat.mul_lt_mul_of_pos_left ?_ hB
  rw [midR_eq]
  have:=vR_mono (show a < a + 1 by omega)
  omega
 constructor
 ·intro h
  obtain ⟨l1,l2⟩:=hlo
  unfold roundR at h
  change (if B * midR lo < 2 * P ∨ (2 * P = B * midR lo ∧ lo % 2 = 1) then lo + 1 else lo) = a at h
  split at h
  ·rename_i hc
   have e:lo = a - 1:=by omega
   subst e
   rw [Nat.sub_add_cancel ha] at l2
   refine ⟨?_,Or.inl (by omega)⟩
   rcases hc with hc | ⟨hc,ho⟩
   ·left;exact hc
   ·right;exact ⟨hc.symm,by omega⟩
  ·rename_i hc
   subst h
   refine ⟨Or.inl (by omega),?_⟩
   by_cases h2:2 * P < B * midR lo
   ·left;exact h2
   ·right
    have:¬ B * midR lo < 2 * P:=fun h => hc (Or.inl h)
    have h3:2 * P = B * midR lo:=by omega
    refine ⟨h3,?_⟩
    have:¬ lo % 2 = 1:=fun h => hc (Or.inr ⟨h3,h⟩)
    omega
 ·rintro ⟨i1,i2⟩
  by_cases hp:B * vR a ≤ P
  ·have:lo = a:=hlo.unique ⟨hp,by omega⟩
   subst this
   unfold roundR
   change (if B * midR lo < 2 * P ∨ (2 * P = B * midR lo ∧ lo % 2 = 1) then lo + 1 else lo) = lo
   rw [if_neg]
   omega
  ·have:lo = a - 1:=hlo.unique ⟨by omega,by rw [Nat.sub_add_cancel ha];omega⟩
   subst this
   unfold roundR
   change (if B * midR (a - 1) < 2 * P ∨ (2 * P = B * midR (a - 1) ∧ (a - 1) % 2 = 1) then a - 1 + 1 else a - 1) = a
   rw [if_pos (by omega)]
   omega
theorem un_mod (X W:Nat) (hW:0 < W):un X W / 4 = X / (4 * W) ∧ (un X W % 4 = 0 ↔ X % (4 * W) = 0):=by
 obtain ⟨h1,h2⟩:=un_parts X W
 have hdm:=Nat.div_add_mod X W
 have hml:=Nat.mod_lt X hW
 have hq4:X / (4 * W) = X / W / 4:=by rw [Nat.mul_comm,← Nat.div_div_eq_div_mul]
 have hm:X % (4 * W) = X / W % 4 * W + X % W:=by
  generalize hF:X / W = F at *
  generalize hr:X % W = r at *
  have e2:X = 4 * W * (F / 4) + (F % 4 * W + r):=by
   have:F = 4 * (F / 4) + F % 4:=(Nat.div_add_mod F 4).symm
   rw [← hdm]
   conv => lhs;rw [this,Nat.mul_add,← Nat.mul_assoc,Nat.mul_comm W 4,Nat.mul_comm W (F % 4)]
   omega
  rw [e2,Nat.mul_add_mod]
  refine Nat.mod_eq_of_lt ?_
  have:=Nat.mul_le_mul_right W (show F % 4 ≤ 3 by omega)
  omega
 refine ⟨by omega,?_⟩
 rw [hm]
 constructor
 ·intro h
  have hs:¬ (X / W % 2 = 1 ∨ X % W ≠ 0):=fun h' => by have:=h2.2 h';omega
  have:X / W % 4 = 0:=by omega
  rw [this];omega
 ·intro h
  have a1:X % W = 0:=by omega
  have a2:X / W % 4 = 0:=by
   have:X / W % 4 * W = 0:=by omega
   rcases Nat.mul_eq_zero.1 this with h | h <;> omega
  have:¬ un X W % 2 = 1:=fun h' => by have:=h2.1 h';omega
  omega
theorem un_floor (X W c:Nat) (hW:0 < W):c ≤ un X W / 4 ↔ c * (4 * W) ≤ X:=by
 rw [(un_mod X W hW).1,Nat.le_div_iff_mul_le (by omega)]
theorem un_ceil (X W c:Nat) (hW:0 < W):(un X W + 3) / 4 ≤ c ↔ X ≤ c * (4 * W):=by
 obtain ⟨h1,h2⟩:=un_mod X W hW
 have hdm:=Nat.div_add_mod X (4 * W)
 have hml:=Nat.mod_lt X (show 0 < 4 * W by omega)
 have key:c ≤ X / (4 * W) ↔ c * (4 * W) ≤ X:=Nat.le_div_iff_mul_le (by omega)
 have key2:c + 1 ≤ X / (4 * W) ↔ (c + 1) * (4 * W) ≤ X:=Nat.le_div_iff_mul_le (by omega)
 by_cases h0:X % (4 * W) = 0
 ·have:=h2.2 h0
  constructor
  ·intro h
   have:X / (4 * W) ≤ c:=by omega
   have:=Nat.mul_le_mul_left (4 * W) this
   rw [Nat.mul_comm c];omega
  ·intro h
   have:X / (4 * W) ≤ c:=by
    have:=Nat.div_le_div_right (c:=4 * W) h
    rwa [Nat.mul_div_cancel _ (by omega)] at this
   omega
 ·have:un X W % 4 ≠ 0:=fun h => h0 (h2.1 h)
  constructor
  ·intro h
   have h':X / (4 * W) + 1 ≤ c:=by omega
   have:=Nat.mul_le_mul_left (4 * W) h'
   rw [Nat.mul_add,Nat.mul_one] at this
   rw [Nat.mul_comm c];omega
  ·intro h
   have:¬ c ≤ X / (4 * W):=by
    intro hc
    have h3:=key.1 hc
    have:X = c * (4 * W):=by omega
    rw [this,Nat.mul_mod_left] at h0
    exact h0 rfl
   omega
theorem un_ceil_odd (X W c:Nat) (hW:0 < W):(un X W + 1 + 3) / 4 ≤ c ↔ X < c * (4 * W):=by
 have h:=un_floor X W c hW
 omega
theorem un_floor_odd (X W c:Nat) (hW:0 < W) (hX:0 < X):c ≤ (un X W - 1) / 4 ↔ c = 0 ∨ c * (4 * W) < X:=by
 have h:=un_ceil X W c hW
 obtain ⟨h1,h2⟩:=un_mod X W hW
 omega
end Go.Proofs.YtjlaoeigfokkiaaGreatDoor.mem
