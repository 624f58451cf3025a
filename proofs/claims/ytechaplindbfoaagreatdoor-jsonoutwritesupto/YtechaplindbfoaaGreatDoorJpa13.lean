import Derived.Test.YtechaplindbfoaaGreatDoorJpa12
import Derived.Test.YtechaplindbfoaaGreatDoorJpa6
import Derived.Lib.LaidTab
import Derived.LaidMore
import Derived.OpenShut
import Derived.MakeChecks
import Derived.Shelf.Vars
import Derived.ProofKit
namespace Go.Proofs.YtechaplindbfoaaGreatDoor.jsn
open Go.ChangeShapes Go.WideShapes Go.ChangeAt Go.RowKit
open mem
open vl hiding hide unhide Hid
open ints (hide unhide)
set_option linter.unusedVariables false
set_option linter.unusedSimpArgs false
/-- the bytes of an own row, as a text -/
theorem own_text {w : World} {B n : Nat} {r : Value} {l : List UInt8} (h : w.ownsRow B 5 1 r n (Lib.byteCells l)) (hn : n = l.length) :
    ∃ a c, r = .slice a n c ∧ ∀ W, Below w.heap.size w W → (convert 34 9 (.slice a n c)).run Tryz.prog W = .ok (.string ⟨l.toArray⟩) W := by
  rw [cells_z] at h
  obtain ⟨a, c, rfl, hr⟩ := own_row h
  refine ⟨a, c, rfl, fun W hb => ?_⟩
  have hconv := row_string (P := Tryz.prog) (hr.below hb) 34 9 5 Tryz.underlying34 Tryz.underlying5 Tryz.underlying9
  have e : strOfNums (zB l) = ⟨l.toArray⟩ := by
    have e2 : (l.map fun b => (b.toNat : Int)).map (fun n => UInt8.ofNat n.toNat) = l := by
      rw [List.map_map]
      refine (List.map_congr_left (g := id) fun x _ => ?_).trans (List.map_id l)
      show UInt8.ofNat ((x.toNat : Int)).toNat = x
      rw [Int.toNat_natCast]
      exact UInt8.ofNat_toNat
    show (⟨((l.map fun b => (b.toNat : Int)).map (fun n => UInt8.ofNat n.toNat)).toArray⟩ : ByteArray) = _
    rw [e2]
  rw [e] at hconv
  exact hconv
theorem range_box {w : World} {cs : Array Value} {T : TypeId} {W : World} (hb : Below (w.alloc (.cells cs T)).heap.size (w.alloc (.cells cs T)) W) : W.rangeAt w.heap.size 0 cs.toList := fun j u hu => by
  have h : (w.alloc (.cells cs T)).cell? ⟨w.heap.size, 0 + j, none⟩ = some u := by
    rw [World.cell?_alloc_at _ _ _ _ rfl, Nat.zero_add, ← Array.getElem?_toList]
    exact hu
  exact (hb.cell (p := ⟨w.heap.size, 0 + j, none⟩) (by simp)).trans h
set_option maxHeartbeats 4000000 in
set_option maxRecDepth 100000 in
theorem law_passes (v : Vl) (cs : List Value) (n : Int) (w : World) (hE : fto.Fx w) (hv : VlC w v cs) (hfl : FlV v) (hwt : wtV v ≤ 1048576) (n0 : -9223372036854775808 ≤ n) (n1 : n ≤ 9223372036854775807) :
    Calls Tryz.prog 8 #[.agg cs.toArray, .int .i64 n] w fun e w' => e = .returned (.bool true) ∧ Below w.heap.size w w' := by
  have hsf := storeF
  have HV := hide hv
  have hN0 : -1000 ≤ Int.tmod n 1000 := by have := Int.lt_tmod_of_pos n (show (0 : Int) < 1000 by decide); omega
  have hN1 : Int.tmod n 1000 ≤ 1000 := by have := Int.tmod_lt_of_pos n (show (0 : Int) < 1000 by decide); omega
  obtain ⟨v', hvv⟩ : ∃ v', v' = v := ⟨_, rfl⟩
  have HW := hide (And.intro hfl (And.intro hwt (And.intro hN0 hN1)))
  cases v with
  | mk kd bb ni f tx ty its fls =>
  rw [← hvv] at HV HW
  have iu := hide (show (Tryz.prog.info? 29).map (·.size) = some cs.length by rw [hv.cells]; exact infoV)
  unfold VlC at hv
  obtain ⟨ai, nI, ci, af, nf, cf, hcs, -⟩ := hv
  clear hvv
  obtain ⟨L, hL⟩ : ∃ L, L = cs := ⟨_, rfl⟩
  rw [← hL] at HV iu
  rw [hcs] at hL ⊢
  have hL2 := hide (show L.toArray = #[.int .i64 kd, .bool bb, .int .i64 ni, .float .f64 f, .string tx, .string ty, .slice ai nI ci, .slice af nf cf] by rw [hL])
  have HL := hide hL
  clear hL hcs hfl hwt
  obtain ⟨W0, eW⟩ : ∃ W0, W0 = w.alloc (.cells #[.int .i64 kd, .bool bb, .int .i64 ni, .float .f64 f, .string tx, .string ty, .slice ai nI ci, .slice af nf cf] 29) := ⟨_, rfl⟩
  have b0 : Below w.heap.size w W0 := by rw [eW]; exact (Below.refl _ _).alloc (Nat.le_refl _) _
  have hrng : ∀ W, Below W0.heap.size W0 W → W.rangeAt w.heap.size 0 L := fun W hW => by
    rw [eW] at hW
    have := range_box hW
    rw [← unhide hL2] at this
    exact this
  have EW := hide eW
  have HR := hide hrng
  clear eW hrng
  go_enter Tryz.func8, Tryz.ntmps8
  go_wp2_with fail
  rw [← unhide EW]
  clear EW
  refine (awake_ok W0).mono ?_
  rintro e w1 ⟨rfl, b1⟩
  have r1 := hide (unhide HR w1 b1)
  go_wp2_with (first
    | refine wpList_load_mid (by rfl) 29 _ (by rfl) w.heap.size 0 (by rfl) L _ (unhide r1) Tryz.underlying29 (by rfl) (unhide iu) ?_)
  have v1 := hide (VlC.below (b0.trans (b1.mono b0.size)) _ _ (unhide HV))
  refine (room_ok v' L w1 20000 (unhide v1) (by omega) (by omega)).mono ?_
  rintro e w2 ⟨r, rfl, r0, r20, b2⟩
  have b02 : Below W0.heap.size W0 w2 := b1.trans (b2.mono b1.size)
  by_cases hr : r < 0
  · clear r1 v1 HV HW iu
    go_wp2
    go_ret
    exact ⟨rfl, b0.trans (b02.mono b0.size)⟩
  have r2 := hide (unhide HR w2 b02)
  have bw2 : Below w.heap.size w w2 := b0.trans (b02.mono b0.size)
  have v2 := hide (VlC.below bw2 _ _ (unhide HV))
  have E2 := hide (hE.below bw2)
  clear r1 v1 hE
  go_wp2_with (first
    | refine wpList_load_mid (by rfl) 29 _ (by rfl) w.heap.size 0 (by rfl) L _ (unhide r2) Tryz.underlying29 (by rfl) (unhide iu) ?_)
  refine (write_any v' L w2 (unhide E2) (unhide v2) (unhide HW).1 (by have := (unhide HW).2.1; omega)).mono ?_
  generalize hjf : jfE v' = E
  rintro e w3 ⟨ra, rfl, ho, b3⟩
  obtain ⟨aa, ca, rfl, ct⟩ := own_text ho rfl
  have CT := hide ct
  have b03 : Below W0.heap.size W0 w3 := b02.trans (b3.mono b02.size)
  have r3 := hide (unhide HR w3 b03)
  have bw3 : Below w.heap.size w w3 := b0.trans (b03.mono b0.size)
  have v3 := hide (VlC.below bw3 _ _ (unhide HV))
  have E3 := hide ((unhide E2).below b3)
  clear r2 v2 ho ct E2 hr
  have JF := hide hjf
  clear hjf
  go_wp2_with (first
    | refine wpList_load_mid (by rfl) 29 _ (by rfl) w.heap.size 0 (by rfl) L _ (unhide r3) Tryz.underlying29 (by rfl) (unhide iu) ?_)
  refine (littered_ok v' (Int.tmod n 1000) L w3 (unhide v3) (by omega) (by have := (unhide HW).2.1; omega)).mono ?_
  rintro e w4 ⟨ds, F, rfl, hO, -, -, b4, -⟩
  have v4 := hide (OwC.read _ _ _ hO)
  have E4 := hide ((unhide E3).below b4)
  have q1 := hide (And.intro (jfE_lit v' (Int.tmod n 1000)) (And.intro (fl_lit v' (Int.tmod n 1000) (unhide HW).1 (by omega) (by have := (unhide HW).2.1; omega)) (wt_lit v' (Int.tmod n 1000))))
  clear hO r3 v3 E3
  go_wp2_with fail
  refine (write_any _ ds w4 (unhide E4) (unhide v4) (unhide q1).2.1 (by have := (unhide q1).2.2; have := (unhide HW).2.1; omega)).mono ?_
  have hsame : wv (litV (Int.tmod n 1000) v') = wv v' := by
    unfold wv
    rw [(unhide q1).1]
    by_cases h0 : jfE v' = 0
    · rw [if_pos h0, if_pos h0, js_lit v' _ h0]
    · rw [if_neg h0, if_neg h0]
  rw [(unhide q1).1, hsame, unhide JF]
  rintro e w5 ⟨rb, rfl, ho, b5⟩
  obtain ⟨ab, cb, rfl, ct5⟩ := own_text ho rfl
  have c1 := unhide CT w5 (b4.trans (b5.mono b4.size))
  have c2 := ct5 w5 (Below.refl _ _)
  have hfin := hide (b0.trans ((b03.trans ((b4.trans (b5.mono b4.size)).mono b03.size)).mono b0.size))
  clear ho ct5 CT b5 b4 b3 b2 b1 v4 E4 q1 HW HV JF hsame
  generalize (⟨(wv v').toArray⟩ : ByteArray) = T at *
  generalize (wv v').length = lv at *
  go_wp2
  go_ret
  exact ⟨rfl, unhide hfin⟩
end Go.Proofs.YtechaplindbfoaaGreatDoor.jsn
namespace Go.Proofs.YtechaplindbfoaaGreatDoor.fto
open Go.ChangeShapes Go.WideShapes Go.ChangeAt Go.RowKit
open mem Go.Sort
open ints (hide unhide)
set_option linter.unusedVariables false
/-- a listed variable's cells, and what they read as -/
theorem lead {P : Program} {W : World} {name : String} {d : DataW Unit} {rest : List (String × DataW Unit)} (h : laidMet P ((name, d) :: rest) W) {g : Nat} {t : TypeId} (hg : P.globalNamed name = some g) (ht : (P.globals[g]?).map (·.type) = some t) :
    ∃ (cs : Array Value) (fuel : Nat) (p : List MemPlace), (∀ i, W.cell? ⟨g, i, none⟩ = cs[i]?) ∧ DataW.trod (fun _ => ()) P W 0 (fun _ => true) false fuel t cs.toList = some (d, p) := by
  obtain ⟨ps, ⟨g', t', cs, fuel, p, q, hg', ht', hvar, hd, _, _⟩, _⟩ := h
  obtain rfl := Option.some.inj (hg.symm.trans hg')
  obtain rfl := Option.some.inj (ht.symm.trans ht')
  exact ⟨cs, fuel, p, fun i => World.var?_cell hg hvar i, hd⟩
theorem cell_lt {W : World} {g i : Nat} {v : Value} (h : W.cell? ⟨g, i, none⟩ = some v) : g < W.heap.size := by
  rcases Nat.lt_or_ge g W.heap.size with hh | hh
  · exact hh
  · simp [World.cell?, Array.getElem?_eq_none hh] at h
theorem spot_none {W : World} {a : Addr} {v : Value} (h : W.cell? a = some v) : a.spot = none := by
  unfold World.cell? at h
  split at h
  · split at h
    · cases h
    · rename_i hs
      cases hq : a.spot with
      | none => rfl
      | some x => rw [hq] at hs; simp at hs
  · cases h
theorem gPow : Tryz.prog.globalNamed "internal/strconv.pow10Tab" = some 10 := by kernel_rfl
theorem gPowT : (Tryz.prog.globals[10]?).map (·.type) = some 252 := by kernel_rfl
theorem pt_of {W : World} {rest : List (String × DataW Unit)} (h : laidMet Tryz.prog (("internal/strconv.pow10Tab", Rows.laid_internal_strconv_pow10Tab) :: rest) W) : PT W := by
  obtain ⟨cs, fuel, p, hc, hd⟩ := lead h gPow gPowT
  have hce : Tryz.prog.cellsOf 251 = 2 := by kernel_rfl
  have hcu : Tryz.prog.cellsOf 126 = 1 := by kernel_rfl
  obtain ⟨xs, m, _, hx, hl, hxl, hf⟩ := DataW.trod_array Tryz.underlying252 hd
  have hx1 : (_root_.Go.Pinned.pow10Rows.map fun x => (DataW.agg [.lit (.int .u64 x.1), .lit (.int .u64 x.2)] : DataW Unit)) = xs.map (·.1) := by
    have := congrArg Prod.fst hx
    simp only [Rows.laid_internal_strconv_pow10Tab, _root_.Go.Pinned.pow10Tab, DataW.agg.injEq] at this
    exact this
  intro i hi
  have h0 := hf i hi
  have hxi := congrArg (·[i]?) hx1
  simp only [List.getElem?_map] at hxi
  have hpl : _root_.Go.Pinned.pow10Rows.length = 696 := by decide +kernel
  have hpi : _root_.Go.Pinned.pow10Rows[i]? = some (rowH i, rowL i) := by
    unfold rowH rowL
    rw [List.getD_eq_getElem?_getD, List.getElem?_eq_getElem (by rw [hpl]; exact hi)]
    rfl
  rw [hpi] at hxi
  cases hy : xs[i]? with
  | none => rw [hy] at hxi; simp at hxi
  | some y =>
    rw [hy] at h0 hxi
    simp only [Option.map_some, Option.some.injEq] at hxi
    rw [hce] at h0
    obtain ⟨zs, n, _, hz, hzl, hzn, hg⟩ := DataW.trod_struct Tryz.underlying251 h0
    have hz1 : [DataW.lit (.int .u64 (rowH i)), .lit (.int .u64 (rowL i))] = zs.map (·.1) := by
      rw [hz] at hxi
      simpa using hxi
    have g0 := hg 0 _ rfl
    have g1 := hg 1 _ rfl
    have w0 := congrArg (·[0]?) hz1
    have w1 := congrArg (·[1]?) hz1
    simp only [List.getElem?_map, List.getElem?_cons_zero, List.getElem?_cons_succ] at w0 w1
    have a0 : ∀ (o : Nat) (q : DataW Unit × List MemPlace) (v : Nat), DataW.trod (fun _ => ()) Tryz.prog W 0 (fun _ => true) false n 126 (((((cs.toList.drop (i * 2)).take 2).drop o).take (Tryz.prog.cellsOf 126))) = some q → q.1 = .lit (.int .u64 v) → o < 2 → cs[2 * i + o]? = some (.int .u64 v) := fun o q v hq hv ho => by
      rw [hcu] at hq
      obtain ⟨z, hzz, hqq, _⟩ := DataW.trod_int Tryz.underlying126 hq
      rw [hqq] at hv
      simp only [DataW.lit.injEq, Lit.int.injEq, true_and] at hv
      subst hv
      have e := congrArg (·[0]?) hzz
      rw [← Array.getElem?_toList]
      simp only [List.getElem?_take, List.getElem?_drop, List.getElem?_cons_zero] at e
      rw [show 2 * i + o = i * 2 + (o + 0) by omega]
      simpa [ho] using e
    refine ⟨?_, ?_⟩
    · cases hy0 : zs[0]? with
      | none => rw [hy0] at w0; simp at w0
      | some q =>
        rw [hy0] at g0 w0
        rw [hc]
        exact a0 0 q _ g0 (by simpa using w0.symm) (by decide)
    · cases hy1 : zs[1]? with
      | none => rw [hy1] at w1; simp at w1
      | some q =>
        rw [hy1] at g1 w1
        rw [hc]
        exact a0 1 q _ g1 (by simpa using w1.symm) (by decide)
end Go.Proofs.YtechaplindbfoaaGreatDoor.fto
