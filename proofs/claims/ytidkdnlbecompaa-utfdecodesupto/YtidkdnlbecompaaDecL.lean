import Derived.Test.YtidkdnlbecompaaDecR
import Derived.Test.YtidkdnlbecompaaDecT
import Derived.Test.YtidkdnlbecompaaOpen
import Derived.Lib.SlBytesConst
namespace Go.Proofs.Ytidkdnlbecompaa.mem
open Go.ChangeShapes Go.WideShapes Go.ChangeAt Go.RowKit
open ints (hide unhide)
set_option linter.unusedVariables false

theorem alike_same (a a' : Option Addr) (n n' c c' : Nat) (zs : List Int) (w : World) (h : Row .i32 w a n c zs) (h' : Row .i32 w a' n' c' zs) (hn : n ≤ 9223372036854775807) :
    Calls Try.prog 21 #[.slice a n c, .slice a' n' c'] w fun e w' => e = .returned (.bool true) ∧ Below w.heap.size w w' := by
  have := alike_any a a' n n' c c' zs zs w h h' hn
  have e : decide (zs = zs) = true := by simp
  rw [e] at this
  exact this
set_option maxHeartbeats 4000000 in
theorem decodes_true (a : Option Addr) (n c : Nat) (zs : List Int) (w : World) (h : Row .u8 w a n c zs) (hz : Byt zs) (hn : n ≤ 35184372088832) :
    Calls Try.prog 9 #[.slice a n c] w fun e w' => e = .returned (.bool true) ∧ Below w.heap.size w w' := by
  have hbs := bytesZ_str zs hz
  have hss : (strOfNums zs).size = n := by rw [strOfNums_size, h.len]
  obtain ⟨S, hS⟩ : ∃ S, S = strOfNums zs := ⟨_, rfl⟩
  rw [← hS] at hbs hss
  have HS := hide hS
  clear hS
  obtain ⟨Z, hZ⟩ : ∃ Z, Z = (decZ zs).1 := ⟨_, rfl⟩
  obtain ⟨G, hG⟩ : ∃ G, G = (decZ zs).2 := ⟨_, rfl⟩
  have hGn : G ≤ n := by rw [hG, ← h.len]; exact decZ_le zs hz
  have hZn : Z.length ≤ 9223372036854775807 := by
    have := decZ_len zs hz
    rw [← hZ, ← hG] at this
    omega
  have Drf := hide (fun a' c' w' (h' : Row .u8 w' a' n c' zs) => rdecode_any a' n c' zs w' h' hz (by omega))
  have Dby := hide (fun a' c' w' (h' : Row .u8 w' a' n c' zs) => decode_bytes a' n c' zs w' h' hz (by omega))
  have Doc := hide (fun a' c' w' (h' : Row .u8 w' a' n c' zs) => decode_octets a' n c' zs w' h' hz (by omega))
  have Dst := hide (fun w' => decode_str S w' (by omega))
  have Dtx := hide (fun w' => decode_text S w' (by omega))
  have Cby := hide (fun a' c' w' (h' : Row .u8 w' a' n c' zs) => clean_bytes a' n c' zs w' h' hz (by omega))
  have Coc := hide (fun a' c' w' (h' : Row .u8 w' a' n c' zs) => clean_octets a' n c' zs w' h' hz (by omega))
  have Cst := hide (fun w' => clean_str S w' (by omega))
  have Ctx := hide (fun w' => clean_text S w' (by omega))
  rw [hbs] at Dst Dtx Cst Ctx
  rw [hss] at Cst Ctx
  rw [← hZ, ← hG] at Drf Dby Doc Dst Dtx
  rw [← hG] at Cby Coc Cst Ctx
  clear hZ hG hbs hss
  have GG : ((G : Int) != (G : Int)) = false := by simp
  go_enter Try.func9, Try.ntmps9
  go_wp2_with fail
  refine (copied_any _ _ _ _ _ h (by omega)).mono ?_
  rintro e w1 ⟨rfl, ho, hb⟩
  obtain ⟨a1, c1, e1, hc⟩ := own_row ho
  simp only [Value.slice.injEq] at e1
  obtain ⟨rfl, _, rfl⟩ := e1
  clear ho
  have h' := h.below hb
  have B1 : Below w.heap.size w w1 := hb
  clear hb h
  have h := h'
  clear h'
  go_wp2_with fail
  refine ((unhide Drf) _ _ _ hc).mono ?_
  rintro e w2 ⟨v, rfl, ho, hb⟩
  obtain ⟨ahw, chw, rfl, hw⟩ := own_row ho
  clear ho
  clear hc
  have h' := h.below hb
  have B2 : Below w.heap.size w w2 := B1.trans (hb.mono B1.size)
  clear B1
  clear hb h
  have h := h'
  clear h'
  go_wp2_with fail
  refine (copied_any _ _ _ _ _ h (by omega)).mono ?_
  rintro e w3 ⟨rfl, ho, hb⟩
  obtain ⟨a1, c1, e1, hc⟩ := own_row ho
  simp only [Value.slice.injEq] at e1
  obtain ⟨rfl, _, rfl⟩ := e1
  clear ho
  have h' := h.below hb
  have hw' := hw.below hb
  have B3 : Below w.heap.size w w3 := B2.trans (hb.mono B2.size)
  clear B2
  clear hb h hw
  have h := h'
  have hw := hw'
  clear h' hw'
  go_wp2_with fail
  refine ((unhide Dby) _ _ _ hc).mono ?_
  rintro e w4 ⟨v, rfl, ho, hb⟩
  obtain ⟨aha, cha, rfl, ha⟩ := own_row ho
  clear ho
  clear hc
  have h' := h.below hb
  have hw' := hw.below hb
  have B4 : Below w.heap.size w w4 := B3.trans (hb.mono B3.size)
  clear B3
  clear hb h hw
  have h := h'
  have hw := hw'
  clear h' hw'
  have hconv := row_string (P := Try.prog) h 24 9 5 Try.underlying24 Try.underlying5 Try.underlying9
  rw [← unhide HS] at hconv
  go_wp2_with fail
  refine ((unhide Dst) _).mono ?_
  rintro e w5 ⟨v, rfl, ho, hb⟩
  obtain ⟨ahb1, chb1, rfl, hb1⟩ := own_row ho
  clear ho
  have h' := h.below hb
  have hw' := hw.below hb
  have ha' := ha.below hb
  have B5 : Below w.heap.size w w5 := B4.trans (hb.mono B4.size)
  clear B4
  clear hb h hw ha
  have h := h'
  have hw := hw'
  have ha := ha'
  clear h' hw' ha'
  clear hconv
  have hconv := row_string (P := Try.prog) h 24 47 5 Try.underlying24 Try.underlying5 Try.underlying47
  rw [← unhide HS] at hconv
  go_wp2_with fail
  refine ((unhide Dtx) _).mono ?_
  rintro e w6 ⟨v, rfl, ho, hb⟩
  obtain ⟨ahb2, chb2, rfl, hb2⟩ := own_row ho
  clear ho
  have h' := h.below hb
  have hw' := hw.below hb
  have ha' := ha.below hb
  have hb1' := hb1.below hb
  have B6 : Below w.heap.size w w6 := B5.trans (hb.mono B5.size)
  clear B5
  clear hb h hw ha hb1
  have h := h'
  have hw := hw'
  have ha := ha'
  have hb1 := hb1'
  clear h' hw' ha' hb1'
  clear hconv
  go_wp2_with fail
  refine (copied_any _ _ _ _ _ h (by omega)).mono ?_
  rintro e w7 ⟨rfl, ho, hb⟩
  obtain ⟨a1, c1, e1, hc⟩ := own_row ho
  simp only [Value.slice.injEq] at e1
  obtain ⟨rfl, _, rfl⟩ := e1
  clear ho
  have h' := h.below hb
  have hw' := hw.below hb
  have ha' := ha.below hb
  have hb1' := hb1.below hb
  have hb2' := hb2.below hb
  have B7 : Below w.heap.size w w7 := B6.trans (hb.mono B6.size)
  clear B6
  clear hb h hw ha hb1 hb2
  have h := h'
  have hw := hw'
  have ha := ha'
  have hb1 := hb1'
  have hb2 := hb2'
  clear h' hw' ha' hb1' hb2'
  go_wp2_with fail
  refine ((unhide Doc) _ _ _ hc).mono ?_
  rintro e w8 ⟨v, rfl, ho, hb⟩
  obtain ⟨ahb3, chb3, rfl, hb3⟩ := own_row ho
  clear ho
  clear hc
  have h' := h.below hb
  have hw' := hw.below hb
  have ha' := ha.below hb
  have hb1' := hb1.below hb
  have hb2' := hb2.below hb
  have B8 : Below w.heap.size w w8 := B7.trans (hb.mono B7.size)
  clear B7
  clear hb h hw ha hb1 hb2
  have h := h'
  have hw := hw'
  have ha := ha'
  have hb1 := hb1'
  have hb2 := hb2'
  clear h' hw' ha' hb1' hb2'
  clear Drf Dby Doc Dst Dtx
  go_wp2_with fail
  refine (alike_same _ _ _ _ _ _ _ _ ha hw (by omega)).mono ?_
  rintro e w9 ⟨rfl, hb⟩
  have h' := h.below hb
  have hw' := hw.below hb
  have ha' := ha.below hb
  have hb1' := hb1.below hb
  have hb2' := hb2.below hb
  have hb3' := hb3.below hb
  have B9 : Below w.heap.size w w9 := B8.trans (hb.mono B8.size)
  clear B8
  clear hb h hw ha hb1 hb2 hb3
  have h := h'
  have hw := hw'
  have ha := ha'
  have hb1 := hb1'
  have hb2 := hb2'
  have hb3 := hb3'
  clear h' hw' ha' hb1' hb2' hb3'
  clear ha
  go_wp2_with fail
  refine (alike_same _ _ _ _ _ _ _ _ hb1 hw (by omega)).mono ?_
  rintro e w10 ⟨rfl, hb⟩
  have h' := h.below hb
  have hw' := hw.below hb
  have hb1' := hb1.below hb
  have hb2' := hb2.below hb
  have hb3' := hb3.below hb
  have B10 : Below w.heap.size w w10 := B9.trans (hb.mono B9.size)
  clear B9
  clear hb h hw hb1 hb2 hb3
  have h := h'
  have hw := hw'
  have hb1 := hb1'
  have hb2 := hb2'
  have hb3 := hb3'
  clear h' hw' hb1' hb2' hb3'
  clear hb1
  go_wp2_with fail
  refine (alike_same _ _ _ _ _ _ _ _ hb2 hw (by omega)).mono ?_
  rintro e w11 ⟨rfl, hb⟩
  have h' := h.below hb
  have hw' := hw.below hb
  have hb2' := hb2.below hb
  have hb3' := hb3.below hb
  have B11 : Below w.heap.size w w11 := B10.trans (hb.mono B10.size)
  clear B10
  clear hb h hw hb2 hb3
  have h := h'
  have hw := hw'
  have hb2 := hb2'
  have hb3 := hb3'
  clear h' hw' hb2' hb3'
  clear hb2
  go_wp2_with fail
  refine (alike_same _ _ _ _ _ _ _ _ hb3 hw (by omega)).mono ?_
  rintro e w12 ⟨rfl, hb⟩
  have h' := h.below hb
  have hw' := hw.below hb
  have hb3' := hb3.below hb
  have B12 : Below w.heap.size w w12 := B11.trans (hb.mono B11.size)
  clear B11
  clear hb h hw hb3
  have h := h'
  have hw := hw'
  have hb3 := hb3'
  clear h' hw' hb3'
  clear hb3
  clear hw
  cases hK : ((G : Int) == (n : Int))
  all_goals
    rw [hK] at Cby Coc Cst Ctx
    go_wp2_with fail
    refine (copied_any _ _ _ _ _ h (by omega)).mono ?_
    rintro e w13 ⟨rfl, ho, hb⟩
    obtain ⟨a1, c1, e1, hc⟩ := own_row ho
    simp only [Value.slice.injEq] at e1
    obtain ⟨rfl, _, rfl⟩ := e1
    clear ho
    have h' := h.below hb
    have B13 : Below w.heap.size w w13 := B12.trans (hb.mono B12.size)
    clear B12
    clear hb h
    have h := h'
    clear h'
    go_wp2_with fail
    refine ((unhide Cby) _ _ _ hc).mono ?_
    rintro e w14 ⟨rfl, hb⟩
    clear hc
    have h' := h.below hb
    have B14 : Below w.heap.size w w14 := B13.trans (hb.mono B13.size)
    clear B13
    clear hb h
    have h := h'
    clear h'
    have hconv := row_string (P := Try.prog) h 24 9 5 Try.underlying24 Try.underlying5 Try.underlying9
    rw [← unhide HS] at hconv
    go_wp2_with fail
    refine ((unhide Cst) _).mono ?_
    rintro e w15 ⟨rfl, hb⟩
    have h' := h.below hb
    have B15 : Below w.heap.size w w15 := B14.trans (hb.mono B14.size)
    clear B14
    clear hb h
    have h := h'
    clear h'
    clear hconv
    have hconv := row_string (P := Try.prog) h 24 47 5 Try.underlying24 Try.underlying5 Try.underlying47
    rw [← unhide HS] at hconv
    go_wp2_with fail
    refine ((unhide Ctx) _).mono ?_
    rintro e w16 ⟨rfl, hb⟩
    have h' := h.below hb
    have B16 : Below w.heap.size w w16 := B15.trans (hb.mono B15.size)
    clear B15
    clear hb h
    have h := h'
    clear h'
    clear hconv
    go_wp2_with fail
    refine (copied_any _ _ _ _ _ h (by omega)).mono ?_
    rintro e w17 ⟨rfl, ho, hb⟩
    obtain ⟨a1, c1, e1, hc⟩ := own_row ho
    simp only [Value.slice.injEq] at e1
    obtain ⟨rfl, _, rfl⟩ := e1
    clear ho
    have h' := h.below hb
    have B17 : Below w.heap.size w w17 := B16.trans (hb.mono B16.size)
    clear B16
    clear hb h
    have h := h'
    clear h'
    go_wp2_with fail
    refine ((unhide Coc) _ _ _ hc).mono ?_
    rintro e w18 ⟨rfl, hb⟩
    clear hc
    have h' := h.below hb
    have B18 : Below w.heap.size w w18 := B17.trans (hb.mono B17.size)
    clear B17
    clear hb h
    have h := h'
    clear h'
    go_wp2
    go_ret
    exact ⟨rfl, B18⟩
theorem mark_row (k : IntKind) (e : TypeId) (fr : Nat × Nat) (W : World) (zs : List Int) : Row k (W.alloc (.cells (zs.map (Value.int k)).toArray e fr)) (some ⟨W.heap.size, 0, none⟩) zs.length zs.length zs := by
  refine ⟨rfl, Nat.le_refl _, (fun h => by cases h), .inr ⟨W.heap.size, 0, rfl, by simp, fun i hi => ?_⟩⟩
  rw [World.cell?_alloc_mark]
  simp [List.getD, hi]
set_option maxHeartbeats 1000000 in
theorem law_decodes (a : Option Addr) (n c N : Nat) (zss : List (List Int)) (w : World) (h : Rows2 .u8 w a n N zss) (hN : N ≤ 35184372088832) (hn : n ≤ 9223372036854775807) (hby : ∀ i, Byt (zss.getD i [])) :
    Calls Try.prog 3 #[.slice a n c] w fun e w' => e = .returned (.bool true) ∧ Below w.heap.size w w' := by
  have kc := fun (w : World) (C : Array Value) (n c : Nat) => Lib.run_convert_bytes_const (P := Try.prog) w 24 5 C n c Try.underlying24 Try.underlying5
  have r1 := hide (fun W : World => mark_row .u8 5 (4, 5) W [97, 195, 169, 195])
  have r2 := hide (fun W : World => mark_row .u8 5 (0, 1) W [])
  have y1 : Byt [97, 195, 169, 195] := by intro z hz; simp at hz; omega
  have y2 : Byt [] := by intro z hz; simp at hz
  go_enter Try.func3, Try.ntmps3
  go_wp2_with fail
  refine (decodes_true _ _ _ _ _ (unhide r1 w) y1 (by simp)).mono ?_
  rintro e w1 ⟨rfl, hb1⟩
  have hb01 : Below w.heap.size w w1 := ((Below.refl _ _).alloc (Nat.le_refl _) _).trans (hb1.mono (by simp))
  clear hb1
  go_wp2_with fail
  refine (decodes_true _ _ _ _ _ (unhide r2 w1) y2 (by simp)).mono ?_
  rintro e w2 ⟨rfl, hb2⟩
  have hb02 : Below w.heap.size w w2 := hb01.trans (((Below.refl _ _).alloc hb01.size _).trans (hb2.mono (by have := hb01.size; simp; omega)))
  clear hb2 hb01 kc
  go_wp2
  go_loopw [3] (fun i wr => ∃ k : Nat, k ≤ n ∧ i = .int .i64 k ∧ Below w.heap.size w wr) (fun i _ => n - (intOf i).toNat)
  case atStart => exact ⟨0, Nat.zero_le _, rfl, hb02⟩
  case round =>
    obtain ⟨k, hk, rfl, hbel⟩ := hrel
    clear hb02
    by_cases hlt : k < n
    · rcases h.at_ with h0 | ⟨b, off, rfl, hbw, hcell⟩
      · omega
      obtain ⟨ai, ni, ci, hc, hr, hni⟩ := hcell k hlt
      have c1 := (hbel.cell (p := ⟨b, off + k, none⟩) hbw).trans hc
      have hr' := hr.below hbel
      have hyk := hide (hby k)
      clear hcell hr hc
      go_wp2_with fail
      refine (decodes_true _ _ _ _ _ hr' (unhide hyk) (by omega)).mono ?_
      rintro e w3 ⟨rfl, hb3⟩
      have hb := hbel.trans (hb3.mono hbel.size)
      clear hb3 hr' hbel c1
      go_wp2
      go_roundw
      case rel => exact ⟨k + 1, by omega, by go_num, hb⟩
      case measure => simp [intOf]; omega
    · have ek : k = n := by omega
      subst ek
      go_wp2
      go_loopw [4] (fun i wr => ∃ j : Nat, j ≤ k ∧ i = .int .i64 ((j : Int) - 1) ∧ Below w.heap.size w wr) (fun i _ => (intOf i + 1).toNat)
      case atStart => exact ⟨k, Nat.le_refl _, rfl, hbel⟩
      case round =>
        obtain ⟨j, hj, rfl, hbel⟩ := hrel
        by_cases hlt : 0 < j
        · rcases h.at_ with h0 | ⟨b, off, rfl, hbw, hcell⟩
          · omega
          obtain ⟨j', rfl⟩ : ∃ j', j = j' + 1 := ⟨j - 1, by omega⟩
          obtain ⟨ai, ni, ci, hc, hr, hni⟩ := hcell j' (by omega)
          have c1 := (hbel.cell (p := ⟨b, off + j', none⟩) hbw).trans hc
          have hr' := hr.below hbel
          have hyk := hide (hby j')
          have ej : (((j' + 1 : Nat) : Int) - 1) = (j' : Int) := by omega
          rw [ej]
          clear hcell hr hc ej
          go_wp2_with fail
          refine (decodes_true _ _ _ _ _ hr' (unhide hyk) (by omega)).mono ?_
          rintro e w3 ⟨rfl, hb3⟩
          have hb := hbel.trans (hb3.mono hbel.size)
          clear hb3 hr' hbel c1
          go_wp2
          go_roundw
          case rel => exact ⟨j', by omega, rfl, hb⟩
          case measure => simp [intOf]
        · obtain rfl : j = 0 := by omega
          go_wp2
          go_ret
          exact ⟨rfl, hbel⟩
end Go.Proofs.Ytidkdnlbecompaa.mem
