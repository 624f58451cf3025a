import Derived.Test.YtfjoaifcfmcnfabGreatDoorJoO
namespace Go.Proofs.YtfjoaifcfmcnfabGreatDoor.jsn
open Go.ChangeShapes Go.WideShapes Go.ChangeAt Go.RowKit
open mem vl Go.Maps
open ints (hide unhide)
set_option linter.unusedVariables false
set_option maxHeartbeats 4000000 in
set_option maxRecDepth 100000 in
theorem obj_ok (k : Nat) (cap : Array Value) (I : List UInt8 → World → Prop) (w0 : World) (hP : Pen k cap w0.heap.size I (Fr w0.heap.size)) (fls : Fls) (a : Option Addr) (n c : Nat) (h : FlsAt w0 fls a n) (hnc : n ≤ c) (hn : n ≤ 70368744177664) (nm tv : Nat → List UInt8)
    (HC : ∀ i p, fls.list[i]? = some p → nm i = p.1.data.toList ∧ CH k cap I w0 p.2 (tv i)) (w : World) (l : List UInt8) (hb : Below w0.heap.size w0 w) (hI : I l w) (hl : l.length + 2 + (partsO nm tv n).length ≤ 70368744177664) :
    Calls Tryz.prog 36 #[.slice a n c, .func (.func k) #[] cap] w fun e w' => e = .returned (.tuple #[]) ∧ I (l ++ [123] ++ partsO nm tv n ++ [125]) w' ∧ Fr w0.heap.size w w' := by
  have en := hP.enters
  have hsf := storeF
  go_enter Tryz.func36, Tryz.ntmps36
  go_wp2_with fail
  refine (hP.lays l ⟨#[123]⟩ w hI (by have : (⟨#[123]⟩ : ByteArray).size = 1 := rfl; omega)).mono ?_
  rintro e w1 ⟨rfl, i1, b1⟩
  go_wp2_with fail
  go_loopw [10] (fun vi wr => ∃ m : Nat, m ≤ n ∧ vi = .int .i64 m ∧ Hid (I (l ++ [123] ++ partsO nm tv m) wr) ∧ Fr w0.heap.size w wr) (fun vi _ => n - (intOf vi).toNat)
  case atStart => exact ⟨0, Nat.zero_le _, rfl, hide (by simpa [partsO] using i1), b1⟩
  case round =>
    obtain ⟨m, hm, rfl, hi, hfr⟩ := hrel
    have hmn := partsO_mono nm tv hm
    by_cases hlt : m < n
    · obtain ⟨b, off, nmB, v, cs, rfl, hg, hc0, hnmB, hr, hv⟩ := FlsAt.get fls _ n h m hlt
      obtain ⟨hnm, hch⟩ := HC m _ hg
      have hnm := hide hnm
      have hch := hide hch
      have hms := partsO_mono nm tv (show m + 1 ≤ n by omega)
      simp only [partsO, List.length_append, List.length_cons, List.length_nil] at hms
      rw [unhide hnm] at hms
      have HV := hide hv
      cases v with
      | mk kd bb ni f tx ty it2 fl2 =>
      unfold VlC at hv
      obtain ⟨ai, nI, ci, af, nf, cf, rfl, -⟩ := hv
      obtain ⟨r0, r1, r2, r3, r4, r5, r6, r7⟩ := hr.eight
      have hbw : b < w0.heap.size := World.block_lt_of_cell? w0 _ r0
      have d (j : Nat) (u : Value) (hj : w0.cell? ⟨b, j, none⟩ = some u) : wr.cell? ⟨b, j, none⟩ = some u := ((hb.trans hfr.bel).cell (p := ⟨b, j, none⟩) hbw).trans hj
      have c0 := d _ _ hc0
      have c1 := d _ _ r0
      have c2 := d _ _ r1
      have c3 := d _ _ r2
      have c4 := d _ _ r3
      have c5 := d _ _ r4
      have c6 := d _ _ r5
      have c7 := d _ _ r6
      have c8 := d _ _ r7
      have hlow := hP.low _ _ (unhide hi)
      clear hc0 r0 r1 r2 r3 r4 r5 r6 r7 hr hg d h HC
      go_wp2_with fail
      have hnew : Below wr.heap.size wr (wr.alloc (.cells #[.string nmB, .int .i64 kd, .bool bb, .int .i64 ni, .float .f64 f, .string tx, .string ty, .slice ai nI ci, .slice af nf cf] 37)) := (Below.refl _ _).alloc (Nat.le_refl _) _
      have i2 := hP.keep _ _ _ (unhide hi) hnew
      have f2 := hfr.trans (Fr.new hlow hnew)
      refine (comma_ok k cap _ I _ hP m (by omega) _ _ i2 (by simp only [List.length_append, List.length_cons, List.length_nil]; omega)).mono ?_
      rintro e w2 ⟨rfl, i3, f3⟩
      have hblk : w2.heap[wr.heap.size]? = some (.cells #[.string nmB, .int .i64 kd, .bool bb, .int .i64 ni, .float .f64 f, .string tx, .string ty, .slice ai nI ci, .slice af nf cf] 37 (0, 0)) := f3.val _ _ _ _ (.inr rfl) (heap_alloc_new _ _)
      have e0 := Lib.cell_of_heap hblk 0
      simp at e0
      have j3 := hide i3
      have f4 := f2.trans f3
      have HB := hide hblk
      clear i2 i3 f2 f3 hnew hblk c0 c1 c2 c3 c4 c5 c6 c7 c8 hi hfr
      go_wp2_with fail
      refine (layText_any k cap _ I _ hP _ nmB _ (unhide j3) (by simp only [List.length_append, List.length_cons, List.length_nil]; omega)).mono ?_
      rintro e w3 ⟨rfl, i5, f5⟩
      have j5 := hide i5
      have f6 := f4.trans f5
      have HB3 := hide (f5.val _ _ _ _ (.inr rfl) (unhide HB))
      clear i5 f5 f4 j3 e0 HB
      go_wp2_with fail
      refine (hP.lays _ ⟨#[58]⟩ _ (unhide j5) (by have : (⟨#[58]⟩ : ByteArray).size = 1 := rfl; simp only [List.length_append, List.length_cons, List.length_nil]; omega)).mono ?_
      rintro e w4 ⟨rfl, i7, f7⟩
      have j7 := hide i7
      have f8 := f6.trans f7
      have hblk := f7.val _ _ _ _ (.inr rfl) (unhide HB3)
      have e1 := Lib.cell_of_heap hblk 1
      have e2 := Lib.cell_of_heap hblk 2
      have e3 := Lib.cell_of_heap hblk 3
      have e4 := Lib.cell_of_heap hblk 4
      have e5 := Lib.cell_of_heap hblk 5
      have e6 := Lib.cell_of_heap hblk 6
      have e7 := Lib.cell_of_heap hblk 7
      have e8 := Lib.cell_of_heap hblk 8
      simp at e1 e2 e3 e4 e5 e6 e7 e8
      clear i7 f7 f6 j5 HB3 hblk
      go_wp2_with fail
      refine (unhide hch _ w4 _ (unhide HV) (hb.trans f8.bel) (unhide j7) (by have : (⟨#[58]⟩ : ByteArray).data.toList.length = 1 := rfl; simp only [List.length_append, List.length_cons, List.length_nil]; omega)).mono ?_
      rintro e w5 ⟨rfl, i9, f9⟩
      have j9 := hide i9
      have f10 := f8.trans f9
      clear i9 f9 f8 j7 e1 e2 e3 e4 e5 e6 e7 e8 hch HV
      go_wp2
      refine ⟨⟨m + 1, by omega, rfl, hide ?_, f10⟩, ?_⟩
      · have := unhide j9
        rw [← unhide hnm] at this
        simpa only [partsO, List.append_assoc] using this
      · simp only [intOf]
        omega
    · obtain rfl : m = n := by omega
      go_wp2_with fail
      refine (hP.lays _ ⟨#[125]⟩ _ (unhide hi) (by have : (⟨#[125]⟩ : ByteArray).size = 1 := rfl; simp only [List.length_append, List.length_cons, List.length_nil]; omega)).mono ?_
      rintro e w3 ⟨rfl, i5, f5⟩
      go_wp2
      go_end0
      exact ⟨rfl, i5, hfr.trans f5⟩
end Go.Proofs.YtfjoaifcfmcnfabGreatDoor.jsn
