import Derived.Test.YtidkdnlbecompacLinU
import Derived.Test.YtidkdnlbecompacPlcU
import Derived.Test.YtidkdnlbecompacDecB
import Derived.Lib.SlBytesConst
namespace Go.Proofs.Ytidkdnlbecompac.mem
open Go.ChangeShapes Go.WideShapes Go.ChangeAt Go.RowKit
open ints (hide unhide)
set_option linter.unusedVariables false

theorem alike_eq (a a' : Option Addr) (n n' c c' : Nat) (zs : List Int) (w : World) (h : Row .i32 w a n c zs) (h' : Row .i32 w a' n' c' zs) (hn : n ≤ 9223372036854775807) :
    Calls Try.prog 19 #[.slice a n c, .slice a' n' c'] w fun e w' => e = .returned (.bool true) ∧ Below w.heap.size w w' := by
  have := alike_any a a' n n' c c' zs zs w h h' hn
  have e : decide (zs = zs) = true := by simp
  rw [e] at this
  exact this
theorem row_lit (k : IntKind) (e : TypeId) (fr : Nat × Nat) (W : World) (zs : List Int) : Row k (W.alloc (.cells (zs.map (Value.int k)).toArray e fr)) (some ⟨W.heap.size, 0, none⟩) zs.length zs.length zs := by
  refine ⟨rfl, Nat.le_refl _, (fun h => by cases h), .inr ⟨W.heap.size, 0, rfl, by simp, fun i hi => ?_⟩⟩
  rw [World.cell?_alloc_mark]
  simp [List.getD, hi]
theorem line_row {w : World} {base g : Nat} {ln : List Int} (h : w.ownsRow base 21 1 (lineVal g ln) ln.length (ln.map (Value.int .i32))) : Row .i32 w (some ⟨g, 0, none⟩) ln.length ln.length ln := by
  obtain ⟨a, cap, e, hr⟩ := own_row h
  simp only [lineVal, Value.slice.injEq] at e
  obtain ⟨rfl, _, rfl⟩ := e
  exact hr
/-- What a reader finds in lines: the outer cells, the inner rows. -/
theorem LinesAt.get {w : World} {base : Nat} {v : Value} {gs : List Nat} {lns : List (List Int)} (h : LinesAt w base v gs lns) (hne : 0 < lns.length) :
    ∃ G cap, v = .slice (some ⟨G, 0, none⟩) lns.length cap ∧ G < w.heap.size ∧ ∀ i, i < lns.length → w.cell? ⟨G, i, none⟩ = some (lineVal (gs.getD i 0) (lns.getD i [])) ∧ Row .i32 w (some ⟨gs.getD i 0, 0, none⟩) (lns.getD i []).length (lns.getD i []).length (lns.getD i []) := by
  rcases h.own.2 with ⟨_, h2⟩ | ⟨G, cap, cur, rfl, hg, hh, r⟩
  · omega
  · refine ⟨G, cap, rfl, (Array.getElem?_eq_some_iff.1 hh).1, fun i hi => ⟨?_, line_row (h.each i hi)⟩⟩
    rw [World.ownsRow.cellAt h.own i (by omega)]
    have hgi : i < gs.length := by rw [h.len]; exact hi
    simp [List.getD, List.getElem?_zipWith, hi, hgi]
theorem dec_awake : decZ [97, 195, 169, 195] = ([97, 233], 3) := by decide +kernel
theorem cln_awake : ((((decZ (bytesZ ⟨#[195, 169]⟩)).2 : Nat) : Int) == ((⟨#[195, 169]⟩ : ByteArray).size : Int)) = true := by decide +kernel
theorem enc_awake : encS [97, 128512] = ⟨#[97, 240, 159, 152, 128]⟩ := by decide +kernel
theorem all_awake : ([97, 128512] : List Int).all scB = true := by decide +kernel
theorem lin_awake : linesL [97, 13, 10, 98] = [[97], [98]] := by decide +kernel
theorem plc_awake : posCells (plist [97, 10] 3) = [.int .i64 1, .int .i64 1, .int .i64 1, .int .i64 2, .int .i64 2, .int .i64 1] := rfl
set_option maxHeartbeats 2000000 in
theorem awake_true (w : World) : Calls Try.prog 7 #[] w fun e w' => e = .returned (.bool true) ∧ Below w.heap.size w w' := by
  have kc := fun (w : World) (C : Array Value) (n c : Nat) => Lib.run_convert_bytes_const (P := Try.prog) w 33 5 C n c Try.underlying33 Try.underlying5
  have y1 : Byt [97, 195, 169, 195] := by intro z hz; simp at hz; omega
  have R1 := hide (fun W : World => row_lit .u8 5 (4, 5) W [97, 195, 169, 195])
  have R2 := hide (fun W : World => row_lit .i32 21 (0, 0) W [97, 233])
  have R3 := hide (fun W : World => row_lit .i32 21 (0, 0) W [97, 128512])
  have R4 := hide (fun W : World => row_lit .i32 21 (0, 0) W [97, 13, 10, 98])
  have R5 := hide (fun W : World => row_lit .i32 21 (0, 0) W [97, 10])
  have R6 := hide (fun W : World => row_lit .i32 21 (0, 0) W [97])
  have al := fun (W : World) (o : Obj) => (Below.refl W.heap.size W).alloc (Nat.le_refl _) o
  have AL := hide al
  have D1 := hide (fun W => decode_bytes _ _ _ _ _ (unhide R1 W) y1 (by simp))
  rw [dec_awake] at D1
  have C1 := hide (fun W => clean_str ⟨#[195, 169]⟩ W (by decide))
  rw [cln_awake] at C1
  have E1 := hide (fun W => encode_any _ _ _ _ _ (unhide R3 W) (by simp))
  rw [enc_awake, all_awake] at E1
  have L1 := hide (fun W => lines_any _ _ _ _ _ (unhide R4 W) (by simp))
  rw [lin_awake] at L1
  have P1 := hide (fun W => places_any _ _ _ _ _ (unhide R5 W) (by simp))
  clear al
  go_enter Try.func7, Try.ntmps7
  go_wp2_with fail
  refine (unhide D1 _).mono ?_
  rintro e w1 ⟨v1, rfl, ho1, hb1⟩
  obtain ⟨a1, c1, rfl, hr1⟩ := own_row ho1
  have B1 : Below w.heap.size w w1 := (unhide AL w _).trans (hb1.mono (by simp))
  clear ho1 hb1 D1 R1 kc
  have hr1a := fun o => hr1.below (unhide AL w1 o)
  have HR1 := hide hr1a
  clear hr1a hr1
  go_wp2_with fail
  refine (alike_eq _ _ _ _ _ _ _ _ (unhide HR1 _) (unhide R2 w1) (by simp)).mono ?_
  rintro e w2 ⟨rfl, hb2⟩
  have B2 : Below w.heap.size w w2 := B1.trans (((unhide AL w1 _).mono B1.size).trans (hb2.mono (by have := B1.size; simp; omega)))
  clear hb2 B1 HR1 R2
  go_wp2_with fail
  refine (unhide C1 _).mono ?_
  rintro e w3 ⟨rfl, hb3⟩
  have B3 := B2.trans (hb3.mono B2.size)
  clear hb3 B2 C1
  go_wp2_with fail
  refine (unhide E1 _).mono ?_
  rintro e w4 ⟨rfl, hb4⟩
  have B4 : Below w.heap.size w w4 := B3.trans (((unhide AL w3 _).mono B3.size).trans (hb4.mono (by have := B3.size; simp; omega)))
  clear hb4 B3 E1 R3
  have hse : ((⟨#[97, 240, 159, 152, 128]⟩ : ByteArray).toList != (⟨#[97, 240, 159, 152, 128]⟩ : ByteArray).toList) = false := by simp
  go_wp2_with fail
  refine (unhide L1 _).mono ?_
  rintro e w5 ⟨v5, gs, rfl, hat, hb5⟩
  have B5 : Below w.heap.size w w5 := B4.trans (((unhide AL w4 _).mono B4.size).trans (hb5.mono (by have := B4.size; simp; omega)))
  clear hb5 B4 L1 R4
  have PP := hide (unhide P1 w5)
  clear P1
  go_wp2_with fail
  refine (unhide PP).mono ?_
  rintro e w6 ⟨rfl, ho6, hb6⟩
  clear PP R5
  have hat6 := (hat.below (unhide AL w5 _)).below hb6
  have B6 : Below w.heap.size w w6 := B5.trans (((unhide AL w5 _).mono B5.size).trans (hb6.mono (by have := B5.size; simp; omega)))
  obtain ⟨G, cap, rfl, hG, hcells⟩ := hat6.get (by simp)
  obtain ⟨hc0, hrow0⟩ := hcells 0 (by simp)
  obtain ⟨P, hP⟩ : ∃ P, P = (w5.alloc (Obj.cells (List.map (Value.int IntKind.i32) [97, 10]).toArray 21 (0, 0))).heap.size + 1 := ⟨_, rfl⟩
  rw [← hP] at ho6 ⊢
  have hq1 := ho6.cellAt 4 (by simp)
  have hq2 := ho6.cellAt 5 (by simp)
  have hPlt : P < w6.heap.size := by
    rcases ho6.2 with ⟨h2, _⟩ | ⟨g', cap', cur, hv, hg, hh, _⟩
    · cases h2
    · simp only [Value.slice.injEq, Option.some.injEq, Addr.mk.injEq] at hv
      obtain ⟨⟨rfl, _, _⟩, _, _⟩ := hv
      exact (Array.getElem?_eq_some_iff.1 hh).1
  have e3 : posCells (plist [97, 10] (([97, 10] : List Int).length + 1)) = [.int .i64 1, .int .i64 1, .int .i64 1, .int .i64 2, .int .i64 2, .int .i64 1] := rfl
  rw [e3] at hq1 hq2
  simp only [lineVal, List.getD_cons_zero, List.length_cons, List.length_nil, Nat.zero_add, List.getElem?_cons_succ, List.getElem?_cons_zero] at hc0 hrow0 hq1 hq2 ⊢
  generalize gs.getD 0 0 = g0 at *
  have HR := hide (fun o => hrow0.below (unhide AL w6 o))
  have H1 := hide hq1
  have H2 := hide hq2
  clear hcells hrow0 hat6 hat ho6 hb6 e3 B5 hP hq1 hq2
  go_wp2_with fail
  refine (alike_eq _ _ _ _ _ _ _ _ (unhide HR _) (unhide R6 w6) (by simp)).mono ?_
  rintro e w7 ⟨rfl, hb7⟩
  have hx1 := (hb7.cell (p := ⟨P, 4, none⟩) (by simp; omega)).trans (((unhide AL w6 _).cell (p := ⟨P, 4, none⟩) hPlt).trans (unhide H1))
  have hx2 := (hb7.cell (p := ⟨P, 5, none⟩) (by simp; omega)).trans (((unhide AL w6 _).cell (p := ⟨P, 5, none⟩) hPlt).trans (unhide H2))
  have B7 : Below w.heap.size w w7 := B6.trans (((unhide AL w6 _).mono B6.size).trans (hb7.mono (by have := B6.size; simp; omega)))
  clear HR hb7 B6 H1 H2 hc0
  go_wp2
  go_ret
  exact ⟨rfl, B7⟩
end Go.Proofs.Ytidkdnlbecompac.mem
