import Derived.Test.YtfjoaifcfmcnfabGreatDoorJoN
namespace Go.Proofs.YtfjoaifcfmcnfabGreatDoor.jsn
open Go.ChangeShapes Go.WideShapes Go.ChangeAt Go.RowKit
open mem vl Go.Maps
open ints (hide unhide)
set_option linter.unusedVariables false
def com (k : Nat) : List UInt8 := if k = 0 then [] else [44]
def partsL (tv : Nat → List UInt8) : Nat → List UInt8
  | 0 => []
  | k + 1 => partsL tv k ++ (com k ++ tv k)
def partsO (nm tv : Nat → List UInt8) : Nat → List UInt8
  | 0 => []
  | k + 1 => partsO nm tv k ++ (com k ++ (txt (nm k) ++ ([58] ++ tv k)))
theorem partsL_mono (tv : Nat → List UInt8) {k n : Nat} (h : k ≤ n) : (partsL tv k).length ≤ (partsL tv n).length := by
  induction n with
  | zero => obtain rfl : k = 0 := by omega
            exact Nat.le_refl _
  | succ n ih =>
    rcases Nat.lt_or_ge n k with h1 | h1
    · obtain rfl : k = n + 1 := by omega
      exact Nat.le_refl _
    · have := ih h1
      simp only [partsL, List.length_append]
      omega
theorem partsO_mono (nm tv : Nat → List UInt8) {k n : Nat} (h : k ≤ n) : (partsO nm tv k).length ≤ (partsO nm tv n).length := by
  induction n with
  | zero => obtain rfl : k = 0 := by omega
            exact Nat.le_refl _
  | succ n ih =>
    rcases Nat.lt_or_ge n k with h1 | h1
    · obtain rfl : k = n + 1 := by omega
      exact Nat.le_refl _
    · have := ih h1
      simp only [partsO, List.length_append]
      omega
theorem comma_ok (k : Nat) (cap : Array Value) (B : Nat) (I : List UInt8 → World → Prop) (G : World → World → Prop) (hP : Pen k cap B I G) (i : Nat) (hi : i ≤ 70368744177664) (l : List UInt8) (w : World) (hI : I l w) (hl : l.length + (com i).length ≤ 70368744177664) :
    Calls Tryz.prog 44 #[.int .i64 i, .func (.func k) #[] cap] w fun e w' => e = .returned (.tuple #[]) ∧ I (l ++ com i) w' ∧ G w w' := by
  have en := hP.enters
  unfold com at hl ⊢
  by_cases h0 : i = 0
  · subst h0
    go_enter Tryz.func44, Tryz.ntmps44
    go_wp2
    go_end0
    exact ⟨rfl, by simpa using hI, hP.gnew (hP.low _ _ hI) (Below.refl _ _)⟩
  · rw [if_neg h0] at hl ⊢
    have h1 : (0 : Int) < (i : Int) := by omega
    go_enter Tryz.func44, Tryz.ntmps44
    go_wp2_with fail
    refine (hP.lays l ⟨#[44]⟩ w hI hl).mono ?_
    rintro e w1 ⟨rfl, i1, b1⟩
    go_wp2
    go_end0
    exact ⟨rfl, i1, b1⟩
/-- what layValue does at a value of w0: it lays t -/
def CH (k : Nat) (cap : Array Value) (I : List UInt8 → World → Prop) (w0 : World) (v : Vl) (t : List UInt8) : Prop :=
  ∀ (cs : List Value) (w' : World) (l : List UInt8), VlC w0 v cs → Below w0.heap.size w0 w' → I l w' → l.length + t.length ≤ 70368744177664 →
    Calls Tryz.prog 19 #[.agg cs.toArray, .func (.func k) #[] cap] w' fun e w'' => e = .returned (.tuple #[]) ∧ I (l ++ t) w'' ∧ Fr w0.heap.size w' w''
set_option maxHeartbeats 4000000 in
set_option maxRecDepth 100000 in
theorem list_ok (k : Nat) (cap : Array Value) (I : List UInt8 → World → Prop) (w0 : World) (hP : Pen k cap w0.heap.size I (Fr w0.heap.size)) (its : Vls) (a : Option Addr) (n c : Nat) (h : VlsAt w0 its a n) (hnc : n ≤ c) (hn : n ≤ 70368744177664) (tv : Nat → List UInt8)
    (HC : ∀ i v, its.list[i]? = some v → CH k cap I w0 v (tv i)) (w : World) (l : List UInt8) (hb : Below w0.heap.size w0 w) (hI : I l w) (hl : l.length + 2 + (partsL tv n).length ≤ 70368744177664) :
    Calls Tryz.prog 34 #[.slice a n c, .func (.func k) #[] cap] w fun e w' => e = .returned (.tuple #[]) ∧ I (l ++ [91] ++ partsL tv n ++ [93]) w' ∧ Fr w0.heap.size w w' := by
  have en := hP.enters
  have hsf := storeF
  go_enter Tryz.func34, Tryz.ntmps34
  go_wp2_with fail
  refine (hP.lays l ⟨#[91]⟩ w hI (by have : (⟨#[91]⟩ : ByteArray).size = 1 := rfl; omega)).mono ?_
  rintro e w1 ⟨rfl, i1, b1⟩
  go_wp2_with fail
  go_loopw [10] (fun vi wr => ∃ m : Nat, m ≤ n ∧ vi = .int .i64 m ∧ Hid (I (l ++ [91] ++ partsL tv m) wr) ∧ Fr w0.heap.size w wr) (fun vi _ => n - (intOf vi).toNat)
  case atStart => exact ⟨0, Nat.zero_le _, rfl, hide (by simpa [partsL] using i1), b1⟩
  case round =>
    obtain ⟨m, hm, rfl, hi, hfr⟩ := hrel
    have hmn := partsL_mono tv hm
    by_cases hlt : m < n
    · obtain ⟨b, off, v, cs, rfl, hg, hr, hv⟩ := VlsAt.get its _ n h m hlt
      have hch := hide (HC m v hg)
      have hms := partsL_mono tv (show m + 1 ≤ n by omega)
      simp only [partsL, List.length_append] at hms
      have HV := hide hv
      cases v with
      | mk kd bb ni f tx ty it2 fl2 =>
      unfold VlC at hv
      obtain ⟨ai, nI, ci, af, nf, cf, rfl, -⟩ := hv
      obtain ⟨r0, r1, r2, r3, r4, r5, r6, r7⟩ := hr.eight
      have hbw : b < w0.heap.size := World.block_lt_of_cell? w0 _ r0
      have d (j : Nat) (u : Value) (hj : w0.cell? ⟨b, j, none⟩ = some u) : wr.cell? ⟨b, j, none⟩ = some u := ((hb.trans hfr.bel).cell (p := ⟨b, j, none⟩) hbw).trans hj
      have c1 := d _ _ r0
      have c2 := d _ _ r1
      have c3 := d _ _ r2
      have c4 := d _ _ r3
      have c5 := d _ _ r4
      have c6 := d _ _ r5
      have c7 := d _ _ r6
      have c8 := d _ _ r7
      have hlow := hP.low _ _ (unhide hi)
      clear r0 r1 r2 r3 r4 r5 r6 r7 hr hg d h HC
      go_wp2_with fail
      have hnew : Below wr.heap.size wr (wr.alloc (.cells #[.int .i64 kd, .bool bb, .int .i64 ni, .float .f64 f, .string tx, .string ty, .slice ai nI ci, .slice af nf cf] 29)) := (Below.refl _ _).alloc (Nat.le_refl _) _
      have i2 := hP.keep _ _ _ (unhide hi) hnew
      have f2 := hfr.trans (Fr.new hlow hnew)
      refine (comma_ok k cap _ I _ hP m (by omega) _ _ i2 (by simp only [List.length_append, List.length_cons, List.length_nil]; omega)).mono ?_
      rintro e w2 ⟨rfl, i3, f3⟩
      have hblk : w2.heap[wr.heap.size]? = some (.cells #[.int .i64 kd, .bool bb, .int .i64 ni, .float .f64 f, .string tx, .string ty, .slice ai nI ci, .slice af nf cf] 29 (0, 0)) := f3.val _ _ _ _ (.inl rfl) (heap_alloc_new _ _)
      have e0 := Lib.cell_of_heap hblk 0
      have e1 := Lib.cell_of_heap hblk 1
      have e2 := Lib.cell_of_heap hblk 2
      have e3 := Lib.cell_of_heap hblk 3
      have e4 := Lib.cell_of_heap hblk 4
      have e5 := Lib.cell_of_heap hblk 5
      have e6 := Lib.cell_of_heap hblk 6
      have e7 := Lib.cell_of_heap hblk 7
      simp at e0 e1 e2 e3 e4 e5 e6 e7
      have j3 := hide i3
      have f4 := f2.trans f3
      clear i2 i3 f2 f3 hnew hblk c1 c2 c3 c4 c5 c6 c7 c8 hi hfr
      go_wp2_with fail
      refine (unhide hch _ w2 _ (unhide HV) (hb.trans f4.bel) (unhide j3) (by simp only [List.length_append, List.length_cons, List.length_nil]; omega)).mono ?_
      rintro e w3 ⟨rfl, i5, f5⟩
      have j5 := hide i5
      have f6 := f4.trans f5
      clear i5 f5 f4 j3 e0 e1 e2 e3 e4 e5 e6 e7 hch HV
      go_wp2
      refine ⟨⟨m + 1, by omega, rfl, hide ?_, f6⟩, ?_⟩
      · have := unhide j5
        simpa only [partsL, List.append_assoc] using this
      · simp only [intOf]
        omega
    · obtain rfl : m = n := by omega
      go_wp2_with fail
      refine (hP.lays _ ⟨#[93]⟩ _ (unhide hi) (by have : (⟨#[93]⟩ : ByteArray).size = 1 := rfl; simp only [List.length_append, List.length_cons, List.length_nil]; omega)).mono ?_
      rintro e w3 ⟨rfl, i5, f5⟩
      go_wp2
      go_end0
      exact ⟨rfl, i5, hfr.trans f5⟩
end Go.Proofs.YtfjoaifcfmcnfabGreatDoor.jsn
