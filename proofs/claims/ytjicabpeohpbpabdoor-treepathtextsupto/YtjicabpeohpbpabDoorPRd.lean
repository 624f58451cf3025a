import Derived.Test.YtjicabpeohpbpabDoorPth2
import Derived.Test.YtjicabpeohpbpabDoorRd
import Derived.Test.YtjicabpeohpbpabDoorShelf2
namespace Go.Proofs.YtjicabpeohpbpabDoor.stp
open Go.ChangeShapes Go.WideShapes Go.ChangeAt Go.RowKit
set_option linter.unusedVariables false
def Ifc (ev : Value) : Prop := ev = .nilIface ∨ ∃ te pe, ev = .iface te pe
/-- what the library's calls ask of the world: one number, two errors, one table -/
structure Env (w : World) : Prop where
  size : 8 ≤ w.heap.size
  most : ∃ m, w.cell? ⟨1, 0, none⟩ = some (.int .i64 m)
  syn : ∃ ev, w.cell? ⟨2, 0, none⟩ = some ev ∧ Ifc ev
  rng : ∃ ev, w.cell? ⟨3, 0, none⟩ = some ev ∧ Ifc ev
  tab : Lib.TabBelow Tryd.prog w.heap.size w "internal/strconv.uint64pow10" .u64 Lib.pow10Tab
theorem Env.below {w w' : World} (h : Env w) (hb : Below w.heap.size w w') : Env w' := by
  have hs := hb.size
  have h8 := h.size
  obtain ⟨m, h1⟩ := h.most
  obtain ⟨e2, h2, k2⟩ := h.syn
  obtain ⟨e3, h3, k3⟩ := h.rng
  exact ⟨by omega, ⟨m, (hb.cell (p := ⟨1, 0, none⟩) (show 1 < w.heap.size by omega)).trans h1⟩, ⟨e2, (hb.cell (p := ⟨2, 0, none⟩) (show 2 < w.heap.size by omega)).trans h2, k2⟩, ⟨e3, (hb.cell (p := ⟨3, 0, none⟩) (show 3 < w.heap.size by omega)).trans h3, k3⟩, fun w2 hb2 => h.tab w2 (hb.trans (hb2.mono hs))⟩
theorem beg_L (s : ByteArray) : beg s = begL s.data.toList := by
  unfold beg
  by_cases h : 0 < s.size
  · obtain ⟨_, r, hr⟩ := str_ne h
    rw [hr, show (s.size != 0) = true from by rw [bne_iff_ne]; omega]
    rfl
  · have hz : s.size = 0 := by omega
    have hd : s.data.toList = [] := List.eq_nil_of_length_eq_zero (by rw [Array.length_toList]; exact hz)
    rw [hd, show (s.size != 0) = false from by rw [hz]; rfl]
    rfl
theorem below_bw (w : World) (t) : Below w.heap.size w (Lib.bytesWorld w 5 t) := by
  exact Lib.bytesWorld_below _ _ _
theorem atoi_any (s : ByteArray) (w : World) (he : Env w) (hs : s.size ≤ 1073741824) : Calls Tryd.prog 18 #[.string s] w fun e w' => ∃ x, e = .returned (.tuple #[.int .i64 (atoiV s.data.toList), x]) ∧ Ifc x ∧ Below w.heap.size w w' := by
  cases ha : Lib.atoiAll s.data.toList with
  | ok v =>
    have hv : atoiV s.data.toList = v := by unfold atoiV; rw [ha]
    refine (Tryd.strconv_Atoi_ok s (by omega) v ha w).mono ?_
    rintro e w' ⟨rfl, h⟩
    refine ⟨.nilIface, by rw [hv], .inl rfl, ?_⟩
    rcases h with rfl | ⟨t, rfl⟩
    · exact Below.refl _ _
    · exact below_bw w t
  | «syntax» =>
    have hv : atoiV s.data.toList = 0 := by unfold atoiV; rw [ha]
    obtain ⟨ev, h1, h2⟩ := he.syn
    refine (Tryd.strconv_Atoi_syntax s (by omega) ha ev w h1 h2).mono ?_
    rintro e w' ⟨N, rfl, _, _, hb⟩
    exact ⟨_, by rw [hv], .inr ⟨_, _, rfl⟩, hb⟩
  | range =>
    have hv : atoiV s.data.toList = Lib.atoiSat s.data.toList := by unfold atoiV; rw [ha]
    obtain ⟨ev, h1, h2⟩ := he.rng
    refine (Tryd.strconv_Atoi_range s (by omega) ha ev w h1 h2).mono ?_
    rintro e w' ⟨N, rfl, _, _, hb⟩
    exact ⟨_, by rw [hv], .inr ⟨_, _, rfl⟩, hb⟩
theorem scan_len (y : UInt8) (c : UInt8) : ∀ l : List UInt8, (scan y [c] l).length ≤ l.length
  | [] => by simp [scan]
  | [a] => by simp [scan]
  | a :: b :: r => by
    have h1 := scan_len y c r
    have h2 := scan_len y c (b :: r)
    unfold scan
    split
    · simp only [List.length_append, List.length_cons, List.length_nil] at *
      omega
    · simp only [List.length_cons] at *
      omega
theorem trim_len (l p : List UInt8) : (Lib.trimPrefix l p).length ≤ l.length := by
  unfold Lib.trimPrefix
  split
  · rw [List.length_drop]; omega
  · exact Nat.le_refl _
theorem unesc_len (l : List UInt8) : (unesc l).length ≤ l.length := by
  unfold unesc
  rw [replaceAll_scan 49 [47] _ (by decide), replaceAll_scan 48 [126] _ (by decide)]
  exact Nat.le_trans (scan_len _ _ _) (Nat.le_trans (scan_len _ _ _) (trim_len _ _))
theorem rep1_len (l p : List UInt8) : (Lib.replaceAll (Lib.trimPrefix l p) [126, 49] [47]).length ≤ l.length := by
  rw [replaceAll_scan 49 [47] _ (by decide)]
  exact Nat.le_trans (scan_len _ _ _) (trim_len _ _)
theorem size_mk (l : List UInt8) : (⟨l.toArray⟩ : ByteArray).size = l.length := rfl
theorem countB_le (s sub : ByteArray) : Lib.countB s sub ≤ s.size + 1 := by
  have := Lib.count_le s.data.toList sub.data.toList
  rw [Array.length_toList] at this
  exact this
theorem repl_any (l : List UInt8) (y c : UInt8) (w : World) (he : Env w) (hl : l.length ≤ 1073741824) :
    Calls Tryd.prog 20 #[.string ⟨l.toArray⟩, .string ⟨#[126, y]⟩, .string ⟨#[c]⟩] w fun e w' => e = .returned (.string ⟨(Lib.replaceAll l [126, y] [c]).toArray⟩) ∧ Below w.heap.size w w' := by
  obtain ⟨m, hm⟩ := he.most
  have h1 := countB_le ⟨l.toArray⟩ ⟨#[126, y]⟩
  rw [size_mk] at h1
  exact Tryd.strings_ReplaceAll ⟨l.toArray⟩ ⟨#[126, y]⟩ ⟨#[c]⟩ m w (by rw [size_mk]; omega) hm (by show 1 ≤ 2; omega) (by
    rw [size_mk, show (⟨#[c]⟩ : ByteArray).size = 1 from rfl]
    omega)
theorem box_on {w w1 : World} (hb : Below (w.alloc (.cells #[.string ⟨#[]⟩, .int .i64 0, .bool false] 25)).heap.size (w.alloc (.cells #[.string ⟨#[]⟩, .int .i64 0, .bool false] 25)) w1) :
    Below w.heap.size w w1 ∧ w1.heap[w.heap.size]? = some (.cells #[.string ⟨#[]⟩, .int .i64 0, .bool false] 25 (0, 0)) ∧ (∀ i, w1.frozen? ⟨w.heap.size, i, none⟩ = false) ∧ w.heap.size < w1.heap.size := by
  have e : (w.alloc (.cells #[.string ⟨#[]⟩, .int .i64 0, .bool false] 25)).heap.size = w.heap.size + 1 := by simp
  refine ⟨((Below.refl _ _).alloc (Nat.le_refl _) _).trans (hb.mono (by omega)), ?_, ?_, by have := hb.size; omega⟩
  · rw [hb.block w.heap.size (by omega)]
    exact heap_alloc_new w _
  · intro i
    rw [hb.frozen (p := ⟨w.heap.size, i, none⟩) (by rw [e]; exact Nat.lt_succ_self _)]
    simp
theorem box_go {w w1 w2 : World} {o : Obj} (B : Below w.heap.size w w1) (r : w1.heap[w.heap.size]? = some o) (z : ∀ i, w1.frozen? ⟨w.heap.size, i, none⟩ = false) (s : w.heap.size < w1.heap.size) (hb : Below w1.heap.size w1 w2) :
    Below w.heap.size w w2 ∧ w2.heap[w.heap.size]? = some o ∧ (∀ i, w2.frozen? ⟨w.heap.size, i, none⟩ = false) ∧ w.heap.size < w2.heap.size :=
  ⟨B.trans (hb.mono B.size), (hb.block _ s).trans r, (fun i => (hb.frozen (p := ⟨w.heap.size, i, none⟩) s).trans (z i)), Nat.lt_of_lt_of_le s hb.size⟩
theorem box_cells {w : World} {g : Nat} {a b c : Value} {t : TypeId} {fr : Nat × Nat} (r : w.heap[g]? = some (.cells #[a, b, c] t fr)) : w.cell? ⟨g, 0, none⟩ = some a ∧ w.cell? ⟨g, 1, none⟩ = some b ∧ w.cell? ⟨g, 2, none⟩ = some c := by
  refine ⟨?_, ?_, ?_⟩ <;> simp [World.cell?, r]
set_option maxRecDepth 6000 in
theorem readStep_any (s : ByteArray) (w : World) (he : Env w) (hs : s.size ≤ 1073741824) : Calls Tryd.prog 12 #[.string s] w fun e w' => e = .returned (.agg #[.string (rdS s.data.toList).nm, .int .i64 (rdS s.data.toList).ix, .bool (rdS s.data.toList).it]) ∧ Below w.heap.size w w' := by
  cases hb : begL s.data.toList
  · have hr := hide (show rdS s.data.toList = ⟨⟨(unesc s.data.toList).toArray⟩, 0, false⟩ by unfold rdS; rw [hb]; rfl)
    have hb := hide hb
    go_enter Tryd.func12, Tryd.ntmps12
    go_wp2_with fail
    refine (begins_any s _).mono ?_
    rintro e w1 ⟨rfl, b1⟩
    rw [beg_L, unhide hb]
    obtain ⟨B1, r1, z1, s1⟩ := box_on b1
    have E1 := he.below B1
    clear b1
    go_wp2_with fail
    refine (Tryd.strings_TrimPrefix s _ _).mono ?_
    rintro e w' ⟨rfl, hw'⟩
    subst w'
    go_wp2_with fail
    have l1 := trim_len s.data.toList [126, 50]
    have l2 := rep1_len s.data.toList [126, 50]
    have ls : s.data.toList.length = s.size := by rw [Array.length_toList]; rfl
    refine (repl_any (Lib.trimPrefix s.data.toList [126, 50]) 49 47 w1 E1 (by omega)).mono ?_
    rintro e w2 ⟨rfl, b2⟩
    obtain ⟨B2, r2, z2, s2⟩ := box_go B1 r1 z1 s1 b2
    have E2 := he.below B2
    clear b2
    go_wp2_with fail
    refine (repl_any (Lib.replaceAll (Lib.trimPrefix s.data.toList [126, 50]) [126, 49] [47]) 48 126 w2 E2 (by omega)).mono ?_
    rintro e w3 ⟨rfl, b3⟩
    obtain ⟨B3, r3, z3, s3⟩ := box_go B2 r2 z2 s2 b3
    obtain ⟨c0, c1, c2⟩ := box_cells r3
    have z30 := z3 0
    have z31 := z3 1
    have z32 := z3 2
    rw [show Lib.replaceAll (Lib.replaceAll (Lib.trimPrefix s.data.toList [126, 50]) [126, 49] [47]) [126, 48] [126] = unesc s.data.toList from rfl]
    clear l1 l2 ls
    go_wp2
    refine bodyPost_ret (v := .agg #[.string ⟨(unesc s.data.toList).toArray⟩, .int .i64 0, .bool false]) ?_ rfl ?_
    · simp [results, Tryd.f12, go_sem, c0, c1, c2]
    · rw [unhide hr]
      exact ⟨rfl, ((B3.setCell (p := ⟨w.heap.size, 0, none⟩) (Nat.le_refl _) _).setCell (p := ⟨w.heap.size, 1, none⟩) (Nat.le_refl _) _).setCell (p := ⟨w.heap.size, 2, none⟩) (Nat.le_refl _) _⟩
  · have hr := hide (show rdS s.data.toList = ⟨⟨#[]⟩, atoiV s.data.toList, true⟩ by unfold rdS; rw [hb]; rfl)
    have hb := hide hb
    go_enter Tryd.func12, Tryd.ntmps12
    go_wp2_with fail
    refine (begins_any s _).mono ?_
    rintro e w1 ⟨rfl, b1⟩
    rw [beg_L, unhide hb]
    obtain ⟨B1, r1, z1, s1⟩ := box_on b1
    have E1 := he.below B1
    clear b1
    go_wp2_with fail
    refine (atoi_any s w1 E1 hs).mono ?_
    rintro e w2 ⟨x, rfl, hx, b2⟩
    obtain ⟨B2, r2, z2, s2⟩ := box_go B1 r1 z1 s1 b2
    obtain ⟨c0, c1, c2⟩ := box_cells r2
    have z20 := z2 0
    have z21 := z2 1
    have z22 := z2 2
    rcases hx with rfl | ⟨te, pe, rfl⟩
    · go_wp2
      refine bodyPost_ret (v := .agg #[.string ⟨#[]⟩, .int .i64 (atoiV s.data.toList), .bool true]) ?_ rfl ?_
      · simp [results, Tryd.f12, go_sem, c0, c1, c2]
      · rw [unhide hr]
        exact ⟨rfl, ((B2.setCell (p := ⟨w.heap.size, 0, none⟩) (Nat.le_refl _) _).setCell (p := ⟨w.heap.size, 1, none⟩) (Nat.le_refl _) _).setCell (p := ⟨w.heap.size, 2, none⟩) (Nat.le_refl _) _⟩
    · go_wp2
      refine bodyPost_ret (v := .agg #[.string ⟨#[]⟩, .int .i64 (atoiV s.data.toList), .bool true]) ?_ rfl ?_
      · simp [results, Tryd.f12, go_sem, c0, c1, c2]
      · rw [unhide hr]
        exact ⟨rfl, ((B2.setCell (p := ⟨w.heap.size, 0, none⟩) (Nat.le_refl _) _).setCell (p := ⟨w.heap.size, 1, none⟩) (Nat.le_refl _) _).setCell (p := ⟨w.heap.size, 2, none⟩) (Nat.le_refl _) _⟩
end Go.Proofs.YtjicabpeohpbpabDoor.stp
