import Derived.Test.YtfjoaifcfmcnfabGreatDoorJoV
namespace Go.Proofs.YtfjoaifcfmcnfabGreatDoor.jsn
open Go.ChangeShapes Go.WideShapes Go.ChangeAt Go.RowKit
open mem vl Go.Maps
open ints (hide unhide)
set_option linter.unusedVariables false
theorem catch_w (p q : Option Addr) (w : World) :
    CallsD Tryz.prog 17 #[.pointer p, .pointer q] .returning w fun e u' w' => e = .returned (.tuple #[]) ∧ u' = .returning ∧ w' = w := by
  refine callsD_of_wpS Tryz.func17 rfl fun c₀ cs hu => ?_
  apply wpS_seq
  apply wpS_region
  simp [wpOpsS, go_sem, recoverD, hu, Tryz.ntmps17, Exit.thenS]
  refine wpS_of_wp ?_
  go_wp2
  cases c₀
  simp_all [bodyPostS, results, Tryz.results17]
set_option maxHeartbeats 4000000 in
set_option maxRecDepth 100000 in
theorem write_ok (N : Nums) (hN : N.Ok) (v : Vl) (cs : List Value) (w : World) (hv : VlC w v cs) (hok : okV N v) (hl : (js N v).length ≤ 70368744177664) :
    Calls Tryz.prog 8 #[.agg cs.toArray] w fun e w' => ∃ r, e = .returned (.tuple #[r, .int .i64 0]) ∧ w'.ownsRow w.heap.size 5 1 r (js N v).length (Lib.byteCells (js N v)) ∧ Below w.heap.size w w' := by
  have hmf : ∀ (fn : Fn) (first cap : Array Value) (w : World), (Instr.makeFunc fn first cap).run Tryz.prog w = .ok (.func fn first cap) w := fun _ _ _ _ => rfl
  have hsf := storeF
  have HV := hide hv
  cases v with
  | mk kd bb ni f tx ty its fl =>
  unfold VlC at hv
  obtain ⟨ai, nI, ci, af, nf, cf, rfl, -⟩ := hv
  go_enter_defers Tryz.func8, Tryz.ntmps8
  go_wp2_with fail
  have hb : Below w.heap.size w (((w.alloc (.cells #[.int .i64 kd, .bool bb, .int .i64 ni, .float .f64 f, .string tx, .string ty, .slice ai nI ci, .slice af nf cf] 29)).alloc (.cells #[.slice none 0 0] 30)).alloc (.cells #[.int .i64 0] 31)) := (((Below.refl _ _).alloc (Nat.le_refl _) _).alloc (by simp) _).alloc (by simp; omega) _
  have hI : wI w.heap.size (w.heap.size + 1) (w.heap.size + 1 + 1) [] (((w.alloc (.cells #[.int .i64 kd, .bool bb, .int .i64 ni, .float .f64 f, .string tx, .string ty, .slice ai nI ci, .slice af nf cf] 29)).alloc (.cells #[.slice none 0 0] 30)).alloc (.cells #[.int .i64 0] 31)) := by
    refine ⟨⟨by omega, by omega, by simp⟩, ?_, .slice none 0 0, ?_, World.ownsRow_nil _ _ _ _⟩
    · have := heap_alloc_new ((w.alloc (.cells #[.int .i64 kd, .bool bb, .int .i64 ni, .float .f64 f, .string tx, .string ty, .slice ai nI ci, .slice af nf cf] 29)).alloc (.cells #[.slice none 0 0] 30)) (.cells #[.int .i64 0] 31)
      simpa using this
    · have := heap_alloc_new (w.alloc (.cells #[.int .i64 kd, .bool bb, .int .i64 ni, .float .f64 f, .string tx, .string ty, .slice ai nI ci, .slice af nf cf] 29)) (.cells #[.slice none 0 0] 30)
      exact (Below.heap_alloc _ _ _ (by simp)).trans (by simpa using this)
  refine (value_ok N hN _ _ (wI w.heap.size (w.heap.size + 1) (w.heap.size + 1 + 1)) w (pen_w _ _ _) _ hok _ _ [] (unhide HV) hb hI (by simpa using hl)).mono ?_
  rintro e w1 ⟨rfl, i1, f1⟩
  obtain ⟨⟨-, -, h3⟩, h4, r, h5, h6⟩ := i1
  have c4 : w1.cell? ⟨w.heap.size + 1 + 1, 0, none⟩ = some (.int .i64 0) := by rw [Lib.cell_of_heap h4]; rfl
  have c5 : w1.cell? ⟨w.heap.size + 1, 0, none⟩ = some r := by rw [Lib.cell_of_heap h5]; rfl
  have z4 : w1.frozen? ⟨w.heap.size + 1 + 1, 0, none⟩ = false := Lib.frozen_of_heap h4 0
  have z5 : w1.frozen? ⟨w.heap.size + 1, 0, none⟩ = false := Lib.frozen_of_heap h5 0
  rw [List.nil_append] at h6
  obtain ⟨ao, n', cap', rfl⟩ : ∃ ao n' cap, r = .slice ao n' cap := by
    rcases h6.2 with ⟨hv, _⟩ | ⟨g, cap, cur, hv, _⟩
    · exact ⟨_, _, _, hv⟩
    · exact ⟨_, _, _, hv⟩
  have H4 := hide h4
  have H5 := hide h5
  have H6 := hide h6
  have HB := hide (hb.trans f1.bel)
  clear h4 h5 h6 hb hI f1 hN hok HV hsf
  go_wp2
  have h4 := unhide H4
  have h5 := unhide H5
  have h6 := unhide H6
  have n1 : (Value.slice ao n' cap').ownBlock ≠ some (w.heap.size + 1) := Lib.ownBlock_ne h6 h5 (by decide)
  have n2 : (Value.slice ao n' cap').ownBlock ≠ some (w.heap.size + 1 + 1) := Lib.ownBlock_ne h6 h4 (by decide)
  have o1 : (w1.setCell ⟨w.heap.size + 1, 0, none⟩ (.slice ao n' cap')).ownsRow w.heap.size 5 1 (.slice ao n' cap') (js N (.mk kd bb ni f tx ty its fl)).length (Lib.byteCells (js N (.mk kd bb ni f tx ty its fl))) :=
    h6.kept (row := some (w.heap.size + 1)) ⟨rfl, rfl, rfl, by simp [World.setCell], fun k _ hk => Below.heap_setCell _ _ _ _ (fun e => hk (by simp [e]))⟩ (Or.inr n1)
  have o2 : ((w1.setCell ⟨w.heap.size + 1, 0, none⟩ (.slice ao n' cap')).setCell ⟨w.heap.size + 1 + 1, 0, none⟩ (.int .i64 0)).ownsRow w.heap.size 5 1 (.slice ao n' cap') (js N (.mk kd bb ni f tx ty its fl)).length (Lib.byteCells (js N (.mk kd bb ni f tx ty its fl))) :=
    o1.kept (row := some (w.heap.size + 1 + 1)) ⟨rfl, rfl, rfl, by simp [World.setCell], fun k _ hk => Below.heap_setCell _ _ _ _ (fun e => hk (by simp [e]))⟩ (Or.inr n2)
  have b2 : Below w.heap.size w ((w1.setCell ⟨w.heap.size + 1, 0, none⟩ (.slice ao n' cap')).setCell ⟨w.heap.size + 1 + 1, 0, none⟩ (.int .i64 0)) := ((unhide HB).setCell (p := ⟨w.heap.size + 1, 0, none⟩) (by simp) _).setCell (p := ⟨w.heap.size + 1 + 1, 0, none⟩) (by simp; omega) _
  have x5 : ((w1.setCell ⟨w.heap.size + 1, 0, none⟩ (.slice ao n' cap')).setCell ⟨w.heap.size + 1 + 1, 0, none⟩ (.int .i64 0)).cell? ⟨w.heap.size + 1, 0, none⟩ = some (.slice ao n' cap') := by
    rw [World.cell?_setCell_other _ _ _ _ (by simp), World.cell?_setCell_same (h := c5)]
  have x4 : ((w1.setCell ⟨w.heap.size + 1, 0, none⟩ (.slice ao n' cap')).setCell ⟨w.heap.size + 1 + 1, 0, none⟩ (.int .i64 0)).cell? ⟨w.heap.size + 1 + 1, 0, none⟩ = some (.int .i64 0) := by
    have q : (w1.setCell ⟨w.heap.size + 1, 0, none⟩ (.slice ao n' cap')).cell? ⟨w.heap.size + 1 + 1, 0, none⟩ = some (.int .i64 0) := by
      rw [World.cell?_setCell_other _ _ _ _ (by simp)]
      exact c4
    rw [World.cell?_setCell_same (h := q)]
  obtain ⟨W2, hW2⟩ : ∃ W2, W2 = ((w1.setCell ⟨w.heap.size + 1, 0, none⟩ (.slice ao n' cap')).setCell ⟨w.heap.size + 1 + 1, 0, none⟩ (.int .i64 0)) := ⟨_, rfl⟩
  rw [← hW2] at o2 b2 x5 x4 ⊢
  refine leaves_cons (f := 17) (args := #[.pointer (some ⟨w.heap.size + 1, 0, none⟩), .pointer (some ⟨w.heap.size + 1 + 1, 0, none⟩)]) (by simp) (by simp [go_sem]) ?_
  refine (catch_w _ _ _).mono ?_
  rintro e u' w'' ⟨rfl, rfl, rfl⟩
  simp [Leaves, settle, results, Tryz.results8, go_sem, x4, x5]
  exact ⟨o2, b2⟩
theorem catch_s (p q : Option Addr) (w : World) :
    CallsD Tryz.prog 28 #[.pointer p, .pointer q] .returning w fun e u' w' => e = .returned (.tuple #[]) ∧ u' = .returning ∧ w' = w := by
  refine callsD_of_wpS Tryz.func28 rfl fun c₀ cs hu => ?_
  apply wpS_seq
  apply wpS_region
  simp [wpOpsS, go_sem, recoverD, hu, Tryz.ntmps28, Exit.thenS]
  refine wpS_of_wp ?_
  go_wp2
  cases c₀
  simp_all [bodyPostS, results, Tryz.results28]
set_option maxHeartbeats 4000000 in
set_option maxRecDepth 100000 in
theorem size_ok (N : Nums) (hN : N.Ok) (v : Vl) (cs : List Value) (w : World) (hv : VlC w v cs) (hok : okV N v) (hl : (js N v).length ≤ 70368744177664) :
    Calls Tryz.prog 16 #[.agg cs.toArray] w fun e w' => e = .returned (.tuple #[.int .i64 (js N v).length, .int .i64 0]) ∧ Below w.heap.size w w' := by
  have hmf : ∀ (fn : Fn) (first cap : Array Value) (w : World), (Instr.makeFunc fn first cap).run Tryz.prog w = .ok (.func fn first cap) w := fun _ _ _ _ => rfl
  have hsf := storeF
  have HV := hide hv
  obtain ⟨L, hL⟩ : ∃ L, L = (js N v).length := ⟨_, rfl⟩
  rw [← hL]
  have HL := hide hL
  clear hL
  cases v with
  | mk kd bb ni f tx ty its fl =>
  unfold VlC at hv
  obtain ⟨ai, nI, ci, af, nf, cf, rfl, -⟩ := hv
  go_enter_defers Tryz.func16, Tryz.ntmps16
  go_wp2_with fail
  have hb : Below w.heap.size w (((w.alloc (.cells #[.int .i64 kd, .bool bb, .int .i64 ni, .float .f64 f, .string tx, .string ty, .slice ai nI ci, .slice af nf cf] 29)).alloc (.cells #[.int .i64 0] 3)).alloc (.cells #[.int .i64 0] 31)) := (((Below.refl _ _).alloc (Nat.le_refl _) _).alloc (by simp) _).alloc (by simp; omega) _
  have hI : sI w.heap.size (w.heap.size + 1) (w.heap.size + 1 + 1) [] (((w.alloc (.cells #[.int .i64 kd, .bool bb, .int .i64 ni, .float .f64 f, .string tx, .string ty, .slice ai nI ci, .slice af nf cf] 29)).alloc (.cells #[.int .i64 0] 3)).alloc (.cells #[.int .i64 0] 31)) := by
    refine ⟨⟨by omega, by omega⟩, ?_, ?_, by simp⟩
    · have := heap_alloc_new ((w.alloc (.cells #[.int .i64 kd, .bool bb, .int .i64 ni, .float .f64 f, .string tx, .string ty, .slice ai nI ci, .slice af nf cf] 29)).alloc (.cells #[.int .i64 0] 3)) (.cells #[.int .i64 0] 31)
      simpa using this
    · have := heap_alloc_new (w.alloc (.cells #[.int .i64 kd, .bool bb, .int .i64 ni, .float .f64 f, .string tx, .string ty, .slice ai nI ci, .slice af nf cf] 29)) (.cells #[.int .i64 0] 3)
      exact (Below.heap_alloc _ _ _ (by simp)).trans (by simpa using this)
  refine (value_ok N hN _ _ (sI w.heap.size (w.heap.size + 1) (w.heap.size + 1 + 1)) w (pen_s _ _ _) _ hok _ _ [] (unhide HV) hb hI (by simpa using hl)).mono ?_
  rintro e w1 ⟨rfl, i1, f1⟩
  rw [List.nil_append] at i1
  obtain ⟨-, h4, h5, -⟩ := i1
  rw [← unhide HL] at h5
  clear HL hl
  have c4 : w1.cell? ⟨w.heap.size + 1 + 1, 0, none⟩ = some (.int .i64 0) := by rw [Lib.cell_of_heap h4]; rfl
  have c5 : w1.cell? ⟨w.heap.size + 1, 0, none⟩ = some (.int .i64 L) := by rw [Lib.cell_of_heap h5]; rfl
  have z4 : w1.frozen? ⟨w.heap.size + 1 + 1, 0, none⟩ = false := Lib.frozen_of_heap h4 0
  have z5 : w1.frozen? ⟨w.heap.size + 1, 0, none⟩ = false := Lib.frozen_of_heap h5 0
  have HB := hide (hb.trans f1.bel)
  clear h4 h5 hb hI f1 hN hok HV hsf
  go_wp2
  have b2 : Below w.heap.size w ((w1.setCell ⟨w.heap.size + 1, 0, none⟩ (.int .i64 L)).setCell ⟨w.heap.size + 1 + 1, 0, none⟩ (.int .i64 0)) := ((unhide HB).setCell (p := ⟨w.heap.size + 1, 0, none⟩) (by simp) _).setCell (p := ⟨w.heap.size + 1 + 1, 0, none⟩) (by simp; omega) _
  have x5 : ((w1.setCell ⟨w.heap.size + 1, 0, none⟩ (.int .i64 L)).setCell ⟨w.heap.size + 1 + 1, 0, none⟩ (.int .i64 0)).cell? ⟨w.heap.size + 1, 0, none⟩ = some (.int .i64 L) := by
    rw [World.cell?_setCell_other _ _ _ _ (by simp), World.cell?_setCell_same (h := c5)]
  have x4 : ((w1.setCell ⟨w.heap.size + 1, 0, none⟩ (.int .i64 L)).setCell ⟨w.heap.size + 1 + 1, 0, none⟩ (.int .i64 0)).cell? ⟨w.heap.size + 1 + 1, 0, none⟩ = some (.int .i64 0) := by
    have q : (w1.setCell ⟨w.heap.size + 1, 0, none⟩ (.int .i64 L)).cell? ⟨w.heap.size + 1 + 1, 0, none⟩ = some (.int .i64 0) := by
      rw [World.cell?_setCell_other _ _ _ _ (by simp)]
      exact c4
    rw [World.cell?_setCell_same (h := q)]
  obtain ⟨W2, hW2⟩ : ∃ W2, W2 = ((w1.setCell ⟨w.heap.size + 1, 0, none⟩ (.int .i64 L)).setCell ⟨w.heap.size + 1 + 1, 0, none⟩ (.int .i64 0)) := ⟨_, rfl⟩
  rw [← hW2] at b2 x5 x4 ⊢
  refine leaves_cons (f := 28) (args := #[.pointer (some ⟨w.heap.size + 1, 0, none⟩), .pointer (some ⟨w.heap.size + 1 + 1, 0, none⟩)]) (by simp) (by simp [go_sem]) ?_
  refine (catch_s _ _ _).mono ?_
  rintro e u' w'' ⟨rfl, rfl, rfl⟩
  simp [Leaves, settle, results, Tryz.results16, go_sem, x4, x5]
  exact b2
end Go.Proofs.YtfjoaifcfmcnfabGreatDoor.jsn
