import Derived.Test.YtechaplindbfoaaGreatDoorJsa12
import Derived.Test.YtechaplindbfoaaGreatDoorJpa13
namespace Go.Proofs.YtechaplindbfoaaGreatDoor.jsn
open Go.ChangeShapes Go.WideShapes Go.ChangeAt Go.RowKit
open mem
open vl hiding hide unhide Hid
open ints (hide unhide)
set_option linter.unusedVariables false
set_option linter.unusedSimpArgs false
theorem wt_posJ : ∀ v : Vl, 1 ≤ wtV v
  | .mk _ _ _ _ _ _ _ _ => by rw [wtV]; omega
theorem take_geJ {α : Type} (f : α → Nat) (hf : ∀ x, 1 ≤ f x) : ∀ l : List α, l.length ≤ (l.map f).sum
  | [] => Nat.le_refl _
  | x :: r => by have := take_geJ f hf r; have := hf x; rw [List.length_cons, List.map_cons, List.sum_cons]; omega
mutual
theorem small_ofJ : ∀ v : Vl, FlV v → wtV v ≤ 1048576 → Small v
  | .mk kd b n f tx ty its fls, h, hw => by
    rw [wtV] at hw
    unfold FlV at h
    unfold Small
    obtain ⟨-, h2, h3, h4⟩ := h
    have l1 : its.list.length ≤ wtI its := by rw [wtI_sum]; exact take_geJ wtV wt_posJ _
    have l2 : fls.list.length ≤ wtF fls := by rw [wtF_sum]; exact take_geJ (fun q : ByteArray × Vl => q.1.size + wtV q.2) (fun q => by have := wt_posJ q.2; omega) _
    exact ⟨by omega, by omega, h2, small_ofIJ its h3 (by omega), small_ofFJ fls h4 (by omega)⟩
theorem small_ofIJ : ∀ l : Vls, FlI l → wtI l ≤ 1048576 → SmallI l
  | .nil, h, hw => by unfold SmallI; trivial
  | .cons v r, h, hw => by
    rw [wtI] at hw
    unfold FlI at h
    unfold SmallI
    exact ⟨small_ofJ v h.1 (by omega), small_ofIJ r h.2 (by omega)⟩
theorem small_ofFJ : ∀ l : Fls, FlF l → wtF l ≤ 1048576 → SmallF l
  | .nil, h, hw => by unfold SmallF; trivial
  | .cons nm v r, h, hw => by
    rw [wtF] at hw
    unfold FlF at h
    unfold SmallF
    exact ⟨small_ofJ v h.1 (by omega), small_ofFJ r h.2 (by omega)⟩
end
/-- a list of two values -/
def l2V (v u : Vl) : Vl := .mk 5 false 0 0 ⟨#[]⟩ ⟨#[]⟩ (.cons v (.cons u .nil)) .nil
def l2C (b : Nat) : List Value := [.int .i64 5, .bool false, .int .i64 0, .float .f64 0, .string ⟨#[]⟩, .string ⟨#[]⟩, .slice (some ⟨b, 0, none⟩) 2 2, .slice none 0 0]
theorem l2_VlC {w : World} {v u : Vl} {cs ds : List Value} {b : Nat} (hv : VlC w v cs) (hu : VlC w u ds) (hr : w.rangeAt b 0 (cs ++ ds)) : VlC w (l2V v u) (l2C b) := by
  have c8 := hv.cells
  unfold l2V VlC
  refine ⟨some ⟨b, 0, none⟩, 2, 2, none, 0, 0, rfl, ?_, ?_, Nat.le_refl _, Nat.le_refl _, fun e => (by cases e), fun _ => rfl, by decide, by decide, Nat.zero_le _, Nat.zero_le _, by unfold maxLen; omega, by unfold maxLen; omega⟩
  · unfold VlsAt
    refine ⟨b, 0, 1, cs, rfl, rfl, fun j u hu => ?_, hv, ?_⟩
    · have := hr j u (by rw [List.getElem?_append_left (List.getElem?_eq_some_iff.1 hu).1]; exact hu); exact this
    · unfold VlsAt
      refine ⟨b, 8, 0, ds, rfl, rfl, fun j u hu => ?_, hu, ?_⟩
      · have := hr (8 + j) u (by rw [List.getElem?_append_right (by omega), c8]; simpa using hu); rw [Nat.zero_add] at this; exact this
      · unfold VlsAt; rfl
  · unfold FlsAt; rfl
theorem l2_jf (v u : Vl) : jfE (l2V v u) = if jfE v = 0 then (if jfE u = 0 then 0 else jfE u) else jfE v := by
  unfold l2V
  rw [jfE]
  simp only [show ¬ ((5 : Int) = 0 ∨ (5 : Int) = 1 ∨ (5 : Int) = 2) by decide, show ¬ ((5 : Int) = 3) by decide, show ¬ ((5 : Int) = 4) by decide, if_false, if_true]
  rw [jfL, jfL, jfL]
theorem l2_js (v u : Vl) : js NZ (l2V v u) = [91] ++ js NZ v ++ [44] ++ js NZ u ++ [93] := by
  unfold l2V
  rw [js_5]
  simp [lJ]
theorem l2_fl {v u : Vl} (h : FlV v) (k : FlV u) : FlV (l2V v u) := by
  unfold l2V FlV
  refine ⟨by omega, by omega, ?_, by unfold FlF; trivial⟩
  unfold FlI; refine ⟨h, ?_⟩; unfold FlI; refine ⟨k, ?_⟩; unfold FlI; trivial
theorem l2_wt (v u : Vl) : wtV (l2V v u) = 1 + (wtV v + wtV u) := by
  unfold l2V
  rw [wtV, wtI, wtI, wtI, wtF]
  have e0 : (⟨#[]⟩ : ByteArray).size = 0 := rfl
  omega
theorem l2_str (X Y : List UInt8) : (⟨([91] ++ X ++ [44] ++ Y ++ [93]).toArray⟩ : ByteArray) = (⟨#[91]⟩ ++ ⟨X.toArray⟩ ++ ⟨#[44]⟩ ++ ⟨Y.toArray⟩ ++ ⟨#[93]⟩ : ByteArray) := by
  apply str_eq
  simp
theorem build2J {w0 w0' : World} {v u : Vl} {cs ds : List Value} (h : VlC w0 v cs) (h' : VlC w0' u ds) (w : World) : (Instr.buildSlice 22 2 #[(0, .agg cs.toArray), (1, .agg ds.toArray)]).run Tryz.prog w = .ok (.slice (some ⟨w.heap.size, 0, none⟩) 2 2) (w.alloc (.cells (cs ++ ds).toArray 29)) := by
  cases v; cases u
  unfold VlC at h h'
  obtain ⟨_, _, _, _, _, _, rfl, -⟩ := h
  obtain ⟨_, _, _, _, _, _, rfl, -⟩ := h'
  go_simp
theorem wpList_build2J {P : Program} {ops : Array Oper} {rest : List Oper} {o : Oper} {a : Act} {w w' : World} {Q : Exit → Act → World → Prop} (hgd : o.guard = none) (t : TypeId) (x y : Operand) (ho : o.op = .buildSlice t 2 #[(0, x), (1, y)]) (v u sl : Value) (hx : a.eval x = v) (hy : a.eval y = u) (hr : (Instr.buildSlice t 2 #[(0, v), (1, u)]).run P w = .ok sl w')
    (h : wpList P ops Q rest (a.put o.dst sl) w') : wpList P ops Q (o :: rest) a w :=
  wpList_plain hgd fun _ hK => by
    unfold Oper.wp execOp
    simp only [ho, List.map_toArray, List.map_cons, List.map_nil, hx, hy, Sem.run_bind, hr, Result.andThen_ok, Sem.run_pure]
    exact hK _ _ h
set_option maxHeartbeats 8000000 in
set_option maxRecDepth 100000 in
theorem law_same (v u : Vl) (cs ds : List Value) (w : World) (hE : fto.Fx w) (hv : VlC w v cs) (hu : VlC w u ds) (hfv : FlV v) (hfu : FlV u) (hwv : wtV v ≤ 1048576) (hwu : wtV u ≤ 1048576) :
    Calls Tryz.prog 5 #[.agg cs.toArray, .agg ds.toArray] w fun e w' => e = .returned (.bool true) ∧ Below w.heap.size w w' := by
  obtain ⟨W, eW⟩ : ∃ W, W = (w.alloc (.cells cs.toArray 29)).alloc (.cells ds.toArray 29) := ⟨_, rfl⟩
  have bW : Below w.heap.size w W := by rw [eW]; exact ((Below.refl _ _).alloc (Nat.le_refl _) _).alloc (by simp) _
  have r1 : W.rangeAt w.heap.size 0 cs := fun j x hx => by
    rw [eW, Nat.zero_add, World.cell?_alloc_past _ _ _ (by simp), World.cell?_alloc_at _ _ _ _ rfl]; simpa using hx
  have r2 : W.rangeAt (w.heap.size + 1) 0 ds := fun j x hx => by
    rw [eW, Nat.zero_add, World.cell?_alloc_at _ _ _ _ (by simp)]; simpa using hx
  have EW := hide eW
  have I1 := hide (show (Tryz.prog.info? 29).map (·.size) = some cs.length by rw [hv.cells]; exact infoV)
  have I2 := hide (show (Tryz.prog.info? 29).map (·.size) = some ds.length by rw [hu.cells]; exact infoV)
  have SM := hide (And.intro (small_ofJ v hfv hwv) (small_ofJ u hfu hwu))
  have EE := hide hE
  have HV := hide (And.intro hv hu)
  have HF := hide (And.intro hfv (And.intro hfu (And.intro hwv hwu)))
  have FL := hide (l2_fl hfv hfu)
  have WT := hide (show 1100 * wtV (l2V v u) ≤ 70368744177664 by rw [l2_wt]; omega)
  clear eW hv hu hfv hfu hwv hwu hE
  go_enter Tryz.func5, Tryz.ntmps5
  go_wp2_with fail
  rw [← unhide EW]
  clear EW
  refine (awake_ok W).mono ?_
  rintro e w1 ⟨rfl, b1⟩
  have BW := hide (bW.trans (b1.mono bW.size))
  have R1 := hide (Row8.below r1 b1)
  have R2 := hide (Row8.below r2 b1)
  clear r1 r2 bW b1
  go_wp2_with (first
    | refine wpList_load_mid (by rfl) 29 _ (by rfl) w.heap.size 0 (by rfl) cs _ (unhide R1) Tryz.underlying29 (by rfl) (unhide I1) ?_
    | refine wpList_load_mid (by rfl) 29 _ (by rfl) (w.heap.size + 1) 0 (by rfl) ds _ (unhide R2) Tryz.underlying29 (by rfl) (unhide I2) ?_)
  refine (write_any v cs w1 ((unhide EE).below (unhide BW)) (VlC.below (unhide BW) v cs (unhide HV).1) (unhide HF).1 (by have := (unhide HF).2.2.1; omega)).mono ?_
  generalize hje : jfE v = E
  rintro e w2 ⟨rx, rfl, ho, b2⟩
  obtain ⟨ax, cx, rfl, ctx⟩ := own_text ho rfl
  have JE := hide hje
  have BW := hide ((unhide BW).trans (b2.mono (unhide BW).size))
  have R1 := hide (Row8.below (unhide R1) b2)
  have R2 := hide (Row8.below (unhide R2) b2)
  have CX := hide ctx
  clear ho ctx b2 hje
  go_wp2_with (first
    | refine wpList_load_mid (by rfl) 29 _ (by rfl) w.heap.size 0 (by rfl) cs _ (unhide R1) Tryz.underlying29 (by rfl) (unhide I1) ?_
    | refine wpList_load_mid (by rfl) 29 _ (by rfl) (w.heap.size + 1) 0 (by rfl) ds _ (unhide R2) Tryz.underlying29 (by rfl) (unhide I2) ?_)
  refine (write_any u ds w2 ((unhide EE).below (unhide BW)) (VlC.below (unhide BW) u ds (unhide HV).2) (unhide HF).2.1 (by have := (unhide HF).2.2.2; omega)).mono ?_
  generalize hjf : jfE u = F
  rintro e w3 ⟨ry, rfl, ho, b3⟩
  obtain ⟨ay, cy, rfl, cty⟩ := own_text ho rfl
  have JF := hide hjf
  have BW := hide ((unhide BW).trans (b3.mono (unhide BW).size))
  have R1 := hide (Row8.below (unhide R1) b3)
  have R2 := hide (Row8.below (unhide R2) b3)
  have V1 := hide (VlC.below (unhide BW) v cs (unhide HV).1)
  have V2 := hide (VlC.below (unhide BW) u ds (unhide HV).2)
  have CX := hide (fun W (hb : Below w3.heap.size w3 W) => unhide CX W (b3.trans (hb.mono b3.size)))
  have CY := hide cty
  clear ho cty b3 hjf
  by_cases h00 : E = 0 ∧ F = 0
  · obtain ⟨rfl, rfl⟩ := h00
    have GG := hide (show jfE (l2V v u) = 0 by rw [l2_jf, unhide JE, unhide JF]; rfl)
    have LL := hide (show wv (l2V v u) = [91] ++ js NZ v ++ [44] ++ js NZ u ++ [93] by unfold wv; rw [unhide GG, if_pos rfl, l2_js])
    have wx : wv v = js NZ v := by unfold wv; rw [unhide JE, if_pos rfl]
    have wy : wv u = js NZ u := by unfold wv; rw [unhide JF, if_pos rfl]
    have zx : (js NZ v).length ≤ 1153433600 := by have := js_len v (unhide HF).1 (unhide JE); have := (unhide HF).2.2.1; omega
    have zy : (js NZ u).length ≤ 1153433600 := by have := js_len u (unhide HF).2.1 (unhide JF); have := (unhide HF).2.2.2; omega
    have JS := hide (js_same (unhide EE) (unhide JE) (unhide HF).1 (unhide JF) (unhide HF).2.1)
    rw [wx] at CX ⊢
    rw [wy] at CY ⊢
    clear wx wy JE JF HV HF
    obtain ⟨Y, eY⟩ : ∃ Y, Y = w3.alloc (.cells (cs ++ ds).toArray 29) := ⟨_, rfl⟩
    have bY : Below w3.heap.size w3 Y := by rw [eY]; exact (Below.refl _ _).alloc (Nat.le_refl _) _
    have rY : Y.rangeAt w3.heap.size 0 (cs ++ ds) := fun j u hu => by rw [Nat.zero_add, eY, World.cell?_alloc_at _ _ _ _ rfl]; simpa using hu
    have hY := build2J (unhide V1) (unhide V2) w3
    rw [← eY] at hY
    have HY := hide hY
    clear hY eY
    have V1 := hide (VlC.below bY _ _ (unhide V1))
    have V2 := hide (VlC.below bY _ _ (unhide V2))
    have VL : VlC Y (l2V v u) (l2C w3.heap.size) := l2_VlC (unhide V1) (unhide V2) rY
    have BW := hide ((unhide BW).trans (bY.mono (unhide BW).size))
    have WL := hide (And.intro VL (And.intro (unhide EE) (unhide BW)))
    go_wp2_with (first
      | refine wpList_load_mid (by rfl) 29 _ (by rfl) w.heap.size 0 (by rfl) cs _ (unhide R1) Tryz.underlying29 (by rfl) (unhide I1) ?_
      | refine wpList_load_mid (by rfl) 29 _ (by rfl) (w.heap.size + 1) 0 (by rfl) ds _ (unhide R2) Tryz.underlying29 (by rfl) (unhide I2) ?_
      | refine wpList_build2J (by rfl) 22 _ _ (by rfl) (.agg cs.toArray) (.agg ds.toArray) _ (by rfl) (by rfl) (unhide HY) ?_)
    have R1 := hide (Row8.below (unhide R1) bY)
    have R2 := hide (Row8.below (unhide R2) bY)
    have CX := hide (fun W (hb : Below Y.heap.size Y W) => unhide CX W (bY.trans (hb.mono bY.size)))
    have CY := hide (fun W (hb : Below Y.heap.size Y W) => unhide CY W (bY.trans (hb.mono bY.size)))
    clear rY VL HY bY
    refine (write_any (l2V v u) (l2C w3.heap.size) Y ((unhide WL).2.1.below (unhide WL).2.2) (unhide WL).1 (unhide FL) (unhide WT)).mono ?_
    rw [unhide GG, unhide LL]
    rintro e w4 ⟨rz, rfl, ho, b4⟩
    obtain ⟨az, cz, rfl, ctz⟩ := own_text ho rfl
    have R1 := hide (Row8.below (unhide R1) b4)
    have R2 := hide (Row8.below (unhide R2) b4)
    have V1 := hide (VlC.below b4 _ _ (unhide V1))
    have V2 := hide (VlC.below b4 _ _ (unhide V2))
    have BW := hide ((unhide BW).trans (b4.mono (unhide BW).size))
    have CX := hide (fun W (hb : Below w4.heap.size w4 W) => unhide CX W (b4.trans (hb.mono b4.size)))
    have CY := hide (fun W (hb : Below w4.heap.size w4 W) => unhide CY W (b4.trans (hb.mono b4.size)))
    rw [l2_str] at ctz
    have CZ := hide ctz
    clear ho ctz b4 WL FL WT GG LL EE
    obtain ⟨SX, eSX⟩ : ∃ S : ByteArray, S = ⟨(js NZ v).toArray⟩ := ⟨_, rfl⟩
    obtain ⟨SY, eSY⟩ : ∃ S : ByteArray, S = ⟨(js NZ u).toArray⟩ := ⟨_, rfl⟩
    have sx : SX.size ≤ 1153433600 := by rw [eSX]; show (js NZ v).toArray.size ≤ _; rw [List.size_toArray]; exact zx
    have sy : SY.size ≤ 1153433600 := by rw [eSY]; show (js NZ u).toArray.size ≤ _; rw [List.size_toArray]; exact zy
    have HQ : SX = SY ↔ og.ordV v u = 0 := by
      rw [← unhide JS, eSX, eSY]
      constructor
      · intro h
        have := congrArg (fun b : ByteArray => b.data.toList) h
        simpa using this
      · intro h
        rw [h]
    rw [← eSX] at CX CZ
    rw [← eSY] at CY CZ
    clear eSX eSY JS zx zy
    generalize ([91] ++ js NZ v ++ [44] ++ js NZ u ++ [93]).length = lz at *
    generalize (js NZ v).length = lx at *
    generalize (js NZ u).length = ly at *
    have e91 : (⟨#[91]⟩ : ByteArray).size = 1 := rfl
    have e44 : (⟨#[44]⟩ : ByteArray).size = 1 := rfl
    have e93 : (⟨#[93]⟩ : ByteArray).size = 1 := rfl
    have hS0 : Below w4.heap.size w4 ({ w4 with drawn := w4.drawn + 1 } : World) := (Below.refl _ _).drew
    by_cases hq : SX = SY
    · have OO := hide (show (og.ordV v u == 0) = true by rw [HQ.1 hq]; rfl)
      clear HQ
      subst hq
      go_wp2_with fail
      refine wp_region_noPanic ?_
      refine wp_region_held (S := fun w' => Below w4.heap.size w4 w') mixed ?_
      refine wpAnyH_take (i := 0) (v := ?v1) rfl (by kernel_rfl) (by kernel_rfl) (by kernel_rfl) (fun _ _ _ h => h) (Or.inl ⟨by rfl, ?hy1⟩) hS0 ?_
      case hy1 => (intro w' hw';  go_simp; try with_reducible rfl)
      simp only [List.getElem_toArray, List.getElem_cons_zero, List.getElem_cons_succ, Act.put, List.setIfInBounds_toArray, List.set_cons_zero, List.set_cons_succ]
      refine wpAnyH_take (i := 1) (v := ?v2) rfl (by kernel_rfl) (by kernel_rfl) (by kernel_rfl) (fun _ _ _ h => h) (Or.inl ⟨by rfl, ?hy2⟩) hS0 ?_
      case hy2 => (intro w' hw';  go_simp; try with_reducible rfl)
      simp only [List.getElem_toArray, List.getElem_cons_zero, List.getElem_cons_succ, Act.put, List.setIfInBounds_toArray, List.set_cons_zero, List.set_cons_succ]
      refine wpAnyH_take (i := 2) (v := ?v3) rfl (by kernel_rfl) (by kernel_rfl) (by kernel_rfl) (fun _ _ _ h => h) (Or.inl ⟨by rfl, ?hy3⟩) hS0 ?_
      case hy3 => (intro w' hw';  go_simp; try with_reducible rfl)
      simp only [List.getElem_toArray, List.getElem_cons_zero, List.getElem_cons_succ, Act.put, List.setIfInBounds_toArray, List.set_cons_zero, List.set_cons_succ]
      refine wpAnyH_take (i := 3) (v := ?v4) rfl (by kernel_rfl) (by kernel_rfl) (by kernel_rfl) (fun _ _ _ h => h) (Or.inl ⟨by rfl, ?hy4⟩) hS0 ?_
      case hy4 => (intro w' hw';  go_simp; try with_reducible rfl)
      simp only [List.getElem_toArray, List.getElem_cons_zero, List.getElem_cons_succ, Act.put, List.setIfInBounds_toArray, List.set_cons_zero, List.set_cons_succ]
      refine wpAnyH_take (i := 4) (v := ?v5) rfl (by kernel_rfl) (by kernel_rfl) (by kernel_rfl) (fun _ _ _ h => h) (Or.inl ⟨by rfl, ?hy5⟩) hS0 ?_
      case hy5 => (intro w' hw'; have ct := unhide CZ w' hw'; go_simp; try with_reducible rfl)
      simp only [List.getElem_toArray, List.getElem_cons_zero, List.getElem_cons_succ, Act.put, List.setIfInBounds_toArray, List.set_cons_zero, List.set_cons_succ]
      refine wpAnyH_take (i := 5) (v := ?v6) rfl (by kernel_rfl) (by kernel_rfl) (by kernel_rfl) (fun _ _ _ h => h) (Or.inl ⟨by rfl, ?hy6⟩) hS0 ?_
      case hy6 => (intro w' hw';  go_simp; try with_reducible rfl)
      simp only [List.getElem_toArray, List.getElem_cons_zero, List.getElem_cons_succ, Act.put, List.setIfInBounds_toArray, List.set_cons_zero, List.set_cons_succ]
      refine wpAnyH_take (i := 6) (v := ?v7) rfl (by kernel_rfl) (by kernel_rfl) (by kernel_rfl) (fun _ _ _ h => h) (Or.inl ⟨by rfl, ?hy7⟩) hS0 ?_
      case hy7 => (intro w' hw'; have ct := unhide CX w' hw'; go_simp; try with_reducible rfl)
      simp only [List.getElem_toArray, List.getElem_cons_zero, List.getElem_cons_succ, Act.put, List.setIfInBounds_toArray, List.set_cons_zero, List.set_cons_succ]
      refine wpAnyH_take (i := 7) (v := ?z7) rfl (by kernel_rfl) (by kernel_rfl) (by kernel_rfl) (fun _ _ _ h => h) (Or.inl ⟨by rfl, ?hz7⟩) hS0 ?_
      case hz7 => (intro w' hw'; go_simp; rw [if_neg (by first | omega | (simp only [ByteArray.size_append, e91, e44, e93]; omega))])
      simp only [List.getElem_toArray, List.getElem_cons_zero, List.getElem_cons_succ, Act.put, List.setIfInBounds_toArray, List.set_cons_zero, List.set_cons_succ]
      refine wpAnyH_take (i := 8) (v := ?z8) rfl (by kernel_rfl) (by kernel_rfl) (by kernel_rfl) (fun _ _ _ h => h) (Or.inl ⟨by rfl, ?hz8⟩) hS0 ?_
      case hz8 => (intro w' hw'; go_simp; rw [if_neg (by first | omega | (simp only [ByteArray.size_append, e91, e44, e93]; omega))])
      simp only [List.getElem_toArray, List.getElem_cons_zero, List.getElem_cons_succ, Act.put, List.setIfInBounds_toArray, List.set_cons_zero, List.set_cons_succ]
      refine wpAnyH_take (i := 9) (v := ?v8) rfl (by kernel_rfl) (by kernel_rfl) (by kernel_rfl) (fun _ _ _ h => h) (Or.inl ⟨by rfl, ?hy8⟩) hS0 ?_
      case hy8 => (intro w' hw';  go_simp; try with_reducible rfl)
      simp only [List.getElem_toArray, List.getElem_cons_zero, List.getElem_cons_succ, Act.put, List.setIfInBounds_toArray, List.set_cons_zero, List.set_cons_succ]
      refine wpAnyH_take (i := 10) (v := ?v9) rfl (by kernel_rfl) (by kernel_rfl) (by kernel_rfl) (fun _ _ _ h => h) (Or.inl ⟨by rfl, ?hy9⟩) hS0 ?_
      case hy9 => (intro w' hw'; have ct := unhide CY w' hw'; go_simp; try with_reducible rfl)
      simp only [List.getElem_toArray, List.getElem_cons_zero, List.getElem_cons_succ, Act.put, List.setIfInBounds_toArray, List.set_cons_zero, List.set_cons_succ]
      refine wpAnyH_take (i := 11) (v := ?z11) rfl (by kernel_rfl) (by kernel_rfl) (by kernel_rfl) (fun _ _ _ h => h) (Or.inl ⟨by rfl, ?hz11⟩) hS0 ?_
      case hz11 => (intro w' hw'; go_simp; rw [if_neg (by first | omega | (simp only [ByteArray.size_append, e91, e44, e93]; omega))])
      simp only [List.getElem_toArray, List.getElem_cons_zero, List.getElem_cons_succ, Act.put, List.setIfInBounds_toArray, List.set_cons_zero, List.set_cons_succ]
      refine wpAnyH_take (i := 12) (v := ?z12) rfl (by kernel_rfl) (by kernel_rfl) (by kernel_rfl) (fun _ _ _ h => h) (Or.inl ⟨by rfl, ?hz12⟩) hS0 ?_
      case hz12 => (intro w' hw'; go_simp; rw [if_neg (by first | omega | (simp only [ByteArray.size_append, e91, e44, e93]; omega))])
      simp only [List.getElem_toArray, List.getElem_cons_zero, List.getElem_cons_succ, Act.put, List.setIfInBounds_toArray, List.set_cons_zero, List.set_cons_succ]
      refine wpAnyH_take (i := 13) (v := ?v10) rfl (by kernel_rfl) (by kernel_rfl) (by kernel_rfl) (fun _ _ _ h => h) (Or.inl ⟨by rfl, ?hy10⟩) hS0 ?_
      case hy10 => (intro w' hw';  go_simp; try with_reducible rfl)
      simp only [List.getElem_toArray, List.getElem_cons_zero, List.getElem_cons_succ, Act.put, List.setIfInBounds_toArray, List.set_cons_zero, List.set_cons_succ]
      refine wpAnyH_take (i := 14) (v := ?v11) rfl (by kernel_rfl) (by kernel_rfl) (by kernel_rfl) (fun _ _ _ h => h) (Or.inl ⟨by rfl, ?hy11⟩) hS0 ?_
      case hy11 => (intro w' hw';  go_simp; try with_reducible rfl)
      simp only [List.getElem_toArray, List.getElem_cons_zero, List.getElem_cons_succ, Act.put, List.setIfInBounds_toArray, List.set_cons_zero, List.set_cons_succ]
      refine wpAnyH_take (i := 15) (v := ?v12) rfl (by kernel_rfl) (by kernel_rfl) (by kernel_rfl) (fun _ _ _ h => h) (Or.inl ⟨by rfl, ?hy12⟩) hS0 ?_
      case hy12 => (intro w' hw';  go_simp; try with_reducible rfl)
      simp only [List.getElem_toArray, List.getElem_cons_zero, List.getElem_cons_succ, Act.put, List.setIfInBounds_toArray, List.set_cons_zero, List.set_cons_succ]
      refine wpAnyH_take (i := 16) (v := ?v13) rfl (by kernel_rfl) (by kernel_rfl) (by kernel_rfl) (fun _ _ _ h => h) (Or.inl ⟨by rfl, ?hy13⟩) hS0 ?_
      case hy13 => (intro w' hw';  go_simp; try with_reducible rfl)
      simp only [List.getElem_toArray, List.getElem_cons_zero, List.getElem_cons_succ, Act.put, List.setIfInBounds_toArray, List.set_cons_zero, List.set_cons_succ]
      refine wpAnyH_take (i := 17) (v := ?v14) rfl (by kernel_rfl) (by kernel_rfl) (by kernel_rfl) (fun _ _ _ h => h) (Or.inl ⟨by rfl, ?hy14⟩) hS0 ?_
      case hy14 => (intro w' hw'; have ct := unhide CX w' hw'; go_simp; try with_reducible rfl)
      simp only [List.getElem_toArray, List.getElem_cons_zero, List.getElem_cons_succ, Act.put, List.setIfInBounds_toArray, List.set_cons_zero, List.set_cons_succ]
      refine wpAnyH_take (i := 18) (v := ?v15) rfl (by kernel_rfl) (by kernel_rfl) (by kernel_rfl) (fun _ _ _ h => h) (Or.inl ⟨by rfl, ?hy15⟩) hS0 ?_
      case hy15 => (intro w' hw';  go_simp; try with_reducible rfl)
      simp only [List.getElem_toArray, List.getElem_cons_zero, List.getElem_cons_succ, Act.put, List.setIfInBounds_toArray, List.set_cons_zero, List.set_cons_succ]
      refine wpAnyH_take (i := 19) (v := ?v16) rfl (by kernel_rfl) (by kernel_rfl) (by kernel_rfl) (fun _ _ _ h => h) (Or.inl ⟨by rfl, ?hy16⟩) hS0 ?_
      case hy16 => (intro w' hw'; have ct := unhide CY w' hw'; go_simp; try with_reducible rfl)
      simp only [List.getElem_toArray, List.getElem_cons_zero, List.getElem_cons_succ, Act.put, List.setIfInBounds_toArray, List.set_cons_zero, List.set_cons_succ]
      refine wpAnyH_take (i := 20) (v := ?v17) rfl (by kernel_rfl) (by kernel_rfl) (by kernel_rfl) (fun _ _ _ h => h) (Or.inl ⟨by rfl, ?hy17⟩) hS0 ?_
      case hy17 => (intro w' hw';  go_simp; try with_reducible rfl)
      simp only [List.getElem_toArray, List.getElem_cons_zero, List.getElem_cons_succ, Act.put, List.setIfInBounds_toArray, List.set_cons_zero, List.set_cons_succ]
      refine wpAnyH_take (i := 21) rfl (by kernel_rfl) (by kernel_rfl) (by kernel_rfl) (fun _ _ _ h => h) (yieldsIf_load_mid (by rfl) 29 _ (by rfl) w.heap.size 0 (by rfl) cs _ (fun w' hw' => Row8.below (unhide R1) hw') Tryz.underlying29 (by rfl) (unhide I1)) hS0 ?_
      simp only [List.getElem_toArray, List.getElem_cons_zero, List.getElem_cons_succ, Act.put, List.setIfInBounds_toArray, List.set_cons_zero, List.set_cons_succ]
      refine wpAnyH_take (i := 22) rfl (by kernel_rfl) (by kernel_rfl) (by kernel_rfl) (fun _ _ _ h => h) (yieldsIf_load_mid (by rfl) 29 _ (by rfl) (w.heap.size + 1) 0 (by rfl) ds _ (fun w' hw' => Row8.below (unhide R2) hw') Tryz.underlying29 (by rfl) (unhide I2)) hS0 ?_
      simp only [List.getElem_toArray, List.getElem_cons_zero, List.getElem_cons_succ, Act.put, List.setIfInBounds_toArray, List.set_cons_zero, List.set_cons_succ]
      refine rgn.one (i := 23) _ rfl (by kernel_rfl) (by rfl) ?_
      simp only [List.getElem_toArray, List.getElem_cons_zero, List.getElem_cons_succ, Act.put, List.setIfInBounds_toArray, List.set_cons_zero, List.set_cons_succ]
      go_wp2_with fail
      refine (og.equal_ok v u (unhide SM).1 (unhide SM).2 cs ds _ (VlC.below hS0 v cs (unhide V1)) (VlC.below hS0 u ds (unhide V2))).mono ?_
      rintro e w5 ⟨rfl, b5⟩
      rw [unhide OO]
      have hS0 : Below w4.heap.size w4 w5 := hS0.trans (b5.mono hS0.size)
      clear b5
      refine ⟨hS0, ?_⟩
      refine wpAnyH_take (i := 24) (v := ?v18) rfl (by kernel_rfl) (by kernel_rfl) (by kernel_rfl) (fun _ _ _ h => h) (Or.inl ⟨by rfl, ?hy18⟩) hS0 ?_
      case hy18 => (intro w' hw';  go_simp; try with_reducible rfl)
      simp only [List.getElem_toArray, List.getElem_cons_zero, List.getElem_cons_succ, Act.put, List.setIfInBounds_toArray, List.set_cons_zero, List.set_cons_succ]
      refine wpAnyH_take (i := 25) (v := ?v19) rfl (by kernel_rfl) (by kernel_rfl) (by kernel_rfl) (fun _ _ _ h => h) (Or.inl ⟨by rfl, ?hy19⟩) hS0 ?_
      case hy19 => (intro w' hw';  go_simp; try with_reducible rfl)
      simp only [List.getElem_toArray, List.getElem_cons_zero, List.getElem_cons_succ, Act.put, List.setIfInBounds_toArray, List.set_cons_zero, List.set_cons_succ]
      refine wpAnyH_take (i := 26) (v := ?v20) rfl (by kernel_rfl) (by kernel_rfl) (by kernel_rfl) (fun _ _ _ h => h) (Or.inl ⟨by rfl, ?hy20⟩) hS0 ?_
      case hy20 => (intro w' hw';  go_simp; try with_reducible rfl)
      simp only [List.getElem_toArray, List.getElem_cons_zero, List.getElem_cons_succ, Act.put, List.setIfInBounds_toArray, List.set_cons_zero, List.set_cons_succ]
      refine wpAnyH_done (by kernel_rfl) ?_ _; refine NoPanic.normal ?_
      go_wp2_with fail
      go_ret
      exact ⟨by first | rfl | (simp; done), (unhide BW).trans (hS0.mono (unhide BW).size)⟩
    · have OO := hide (show (og.ordV v u == 0) = false by have := mt HQ.2 hq; simpa using this)
      have hq2 : ¬ SX.toList = SY.toList := fun h => hq (str_eq (by rw [← Lib.toList_data, ← Lib.toList_data, h]))
      clear HQ
      go_wp2_with fail
      refine wp_region_noPanic ?_
      refine wp_region_held (S := fun w' => Below w4.heap.size w4 w') mixed ?_
      refine wpAnyH_take (i := 0) (v := ?v21) rfl (by kernel_rfl) (by kernel_rfl) (by kernel_rfl) (fun _ _ _ h => h) (Or.inl ⟨by rfl, ?hy21⟩) hS0 ?_
      case hy21 => (intro w' hw';  go_simp; try with_reducible rfl)
      simp only [List.getElem_toArray, List.getElem_cons_zero, List.getElem_cons_succ, Act.put, List.setIfInBounds_toArray, List.set_cons_zero, List.set_cons_succ]
      refine wpAnyH_take (i := 1) (v := ?v22) rfl (by kernel_rfl) (by kernel_rfl) (by kernel_rfl) (fun _ _ _ h => h) (Or.inl ⟨by rfl, ?hy22⟩) hS0 ?_
      case hy22 => (intro w' hw';  go_simp; try with_reducible rfl)
      simp only [List.getElem_toArray, List.getElem_cons_zero, List.getElem_cons_succ, Act.put, List.setIfInBounds_toArray, List.set_cons_zero, List.set_cons_succ]
      refine wpAnyH_take (i := 2) (v := ?v23) rfl (by kernel_rfl) (by kernel_rfl) (by kernel_rfl) (fun _ _ _ h => h) (Or.inl ⟨by rfl, ?hy23⟩) hS0 ?_
      case hy23 => (intro w' hw';  go_simp; try with_reducible rfl)
      simp only [List.getElem_toArray, List.getElem_cons_zero, List.getElem_cons_succ, Act.put, List.setIfInBounds_toArray, List.set_cons_zero, List.set_cons_succ]
      refine wpAnyH_take (i := 3) (v := ?v24) rfl (by kernel_rfl) (by kernel_rfl) (by kernel_rfl) (fun _ _ _ h => h) (Or.inl ⟨by rfl, ?hy24⟩) hS0 ?_
      case hy24 => (intro w' hw';  go_simp; try with_reducible rfl)
      simp only [List.getElem_toArray, List.getElem_cons_zero, List.getElem_cons_succ, Act.put, List.setIfInBounds_toArray, List.set_cons_zero, List.set_cons_succ]
      refine wpAnyH_take (i := 4) (v := ?v25) rfl (by kernel_rfl) (by kernel_rfl) (by kernel_rfl) (fun _ _ _ h => h) (Or.inl ⟨by rfl, ?hy25⟩) hS0 ?_
      case hy25 => (intro w' hw'; have ct := unhide CZ w' hw'; go_simp; try with_reducible rfl)
      simp only [List.getElem_toArray, List.getElem_cons_zero, List.getElem_cons_succ, Act.put, List.setIfInBounds_toArray, List.set_cons_zero, List.set_cons_succ]
      refine wpAnyH_take (i := 5) (v := ?v26) rfl (by kernel_rfl) (by kernel_rfl) (by kernel_rfl) (fun _ _ _ h => h) (Or.inl ⟨by rfl, ?hy26⟩) hS0 ?_
      case hy26 => (intro w' hw';  go_simp; try with_reducible rfl)
      simp only [List.getElem_toArray, List.getElem_cons_zero, List.getElem_cons_succ, Act.put, List.setIfInBounds_toArray, List.set_cons_zero, List.set_cons_succ]
      refine wpAnyH_take (i := 6) (v := ?v27) rfl (by kernel_rfl) (by kernel_rfl) (by kernel_rfl) (fun _ _ _ h => h) (Or.inl ⟨by rfl, ?hy27⟩) hS0 ?_
      case hy27 => (intro w' hw'; have ct := unhide CX w' hw'; go_simp; try with_reducible rfl)
      simp only [List.getElem_toArray, List.getElem_cons_zero, List.getElem_cons_succ, Act.put, List.setIfInBounds_toArray, List.set_cons_zero, List.set_cons_succ]
      refine wpAnyH_take (i := 7) (v := ?zb7) rfl (by kernel_rfl) (by kernel_rfl) (by kernel_rfl) (fun _ _ _ h => h) (Or.inl ⟨by rfl, ?hzb7⟩) hS0 ?_
      case hzb7 => (intro w' hw'; go_simp; rw [if_neg (by first | omega | (simp only [ByteArray.size_append, e91, e44, e93]; omega))])
      simp only [List.getElem_toArray, List.getElem_cons_zero, List.getElem_cons_succ, Act.put, List.setIfInBounds_toArray, List.set_cons_zero, List.set_cons_succ]
      refine wpAnyH_take (i := 8) (v := ?zb8) rfl (by kernel_rfl) (by kernel_rfl) (by kernel_rfl) (fun _ _ _ h => h) (Or.inl ⟨by rfl, ?hzb8⟩) hS0 ?_
      case hzb8 => (intro w' hw'; go_simp; rw [if_neg (by first | omega | (simp only [ByteArray.size_append, e91, e44, e93]; omega))])
      simp only [List.getElem_toArray, List.getElem_cons_zero, List.getElem_cons_succ, Act.put, List.setIfInBounds_toArray, List.set_cons_zero, List.set_cons_succ]
      refine wpAnyH_take (i := 9) (v := ?v28) rfl (by kernel_rfl) (by kernel_rfl) (by kernel_rfl) (fun _ _ _ h => h) (Or.inl ⟨by rfl, ?hy28⟩) hS0 ?_
      case hy28 => (intro w' hw';  go_simp; try with_reducible rfl)
      simp only [List.getElem_toArray, List.getElem_cons_zero, List.getElem_cons_succ, Act.put, List.setIfInBounds_toArray, List.set_cons_zero, List.set_cons_succ]
      refine wpAnyH_take (i := 10) (v := ?v29) rfl (by kernel_rfl) (by kernel_rfl) (by kernel_rfl) (fun _ _ _ h => h) (Or.inl ⟨by rfl, ?hy29⟩) hS0 ?_
      case hy29 => (intro w' hw'; have ct := unhide CY w' hw'; go_simp; try with_reducible rfl)
      simp only [List.getElem_toArray, List.getElem_cons_zero, List.getElem_cons_succ, Act.put, List.setIfInBounds_toArray, List.set_cons_zero, List.set_cons_succ]
      refine wpAnyH_take (i := 11) (v := ?zb11) rfl (by kernel_rfl) (by kernel_rfl) (by kernel_rfl) (fun _ _ _ h => h) (Or.inl ⟨by rfl, ?hzb11⟩) hS0 ?_
      case hzb11 => (intro w' hw'; go_simp; rw [if_neg (by first | omega | (simp only [ByteArray.size_append, e91, e44, e93]; omega))])
      simp only [List.getElem_toArray, List.getElem_cons_zero, List.getElem_cons_succ, Act.put, List.setIfInBounds_toArray, List.set_cons_zero, List.set_cons_succ]
      refine wpAnyH_take (i := 12) (v := ?zb12) rfl (by kernel_rfl) (by kernel_rfl) (by kernel_rfl) (fun _ _ _ h => h) (Or.inl ⟨by rfl, ?hzb12⟩) hS0 ?_
      case hzb12 => (intro w' hw'; go_simp; rw [if_neg (by first | omega | (simp only [ByteArray.size_append, e91, e44, e93]; omega))])
      simp only [List.getElem_toArray, List.getElem_cons_zero, List.getElem_cons_succ, Act.put, List.setIfInBounds_toArray, List.set_cons_zero, List.set_cons_succ]
      refine wpAnyH_take (i := 13) (v := ?v30) rfl (by kernel_rfl) (by kernel_rfl) (by kernel_rfl) (fun _ _ _ h => h) (Or.inl ⟨by rfl, ?hy30⟩) hS0 ?_
      case hy30 => (intro w' hw';  go_simp; try with_reducible rfl)
      simp only [List.getElem_toArray, List.getElem_cons_zero, List.getElem_cons_succ, Act.put, List.setIfInBounds_toArray, List.set_cons_zero, List.set_cons_succ]
      refine wpAnyH_take (i := 14) (v := ?v31) rfl (by kernel_rfl) (by kernel_rfl) (by kernel_rfl) (fun _ _ _ h => h) (Or.inl ⟨by rfl, ?hy31⟩) hS0 ?_
      case hy31 => (intro w' hw';  go_simp; try with_reducible rfl)
      simp only [List.getElem_toArray, List.getElem_cons_zero, List.getElem_cons_succ, Act.put, List.setIfInBounds_toArray, List.set_cons_zero, List.set_cons_succ]
      refine wpAnyH_take (i := 15) (v := ?v32) rfl (by kernel_rfl) (by kernel_rfl) (by kernel_rfl) (fun _ _ _ h => h) (Or.inl ⟨by rfl, ?hy32⟩) hS0 ?_
      case hy32 => (intro w' hw';  go_simp; try with_reducible rfl)
      simp only [List.getElem_toArray, List.getElem_cons_zero, List.getElem_cons_succ, Act.put, List.setIfInBounds_toArray, List.set_cons_zero, List.set_cons_succ]
      refine wpAnyH_take (i := 16) (v := ?v33) rfl (by kernel_rfl) (by kernel_rfl) (by kernel_rfl) (fun _ _ _ h => h) (Or.inl ⟨by rfl, ?hy33⟩) hS0 ?_
      case hy33 => (intro w' hw';  go_simp; try with_reducible rfl)
      simp only [List.getElem_toArray, List.getElem_cons_zero, List.getElem_cons_succ, Act.put, List.setIfInBounds_toArray, List.set_cons_zero, List.set_cons_succ]
      refine wpAnyH_take (i := 17) (v := ?v34) rfl (by kernel_rfl) (by kernel_rfl) (by kernel_rfl) (fun _ _ _ h => h) (Or.inl ⟨by rfl, ?hy34⟩) hS0 ?_
      case hy34 => (intro w' hw'; have ct := unhide CX w' hw'; go_simp; try with_reducible rfl)
      simp only [List.getElem_toArray, List.getElem_cons_zero, List.getElem_cons_succ, Act.put, List.setIfInBounds_toArray, List.set_cons_zero, List.set_cons_succ]
      refine wpAnyH_take (i := 18) (v := ?v35) rfl (by kernel_rfl) (by kernel_rfl) (by kernel_rfl) (fun _ _ _ h => h) (Or.inl ⟨by rfl, ?hy35⟩) hS0 ?_
      case hy35 => (intro w' hw';  go_simp; try with_reducible rfl)
      simp only [List.getElem_toArray, List.getElem_cons_zero, List.getElem_cons_succ, Act.put, List.setIfInBounds_toArray, List.set_cons_zero, List.set_cons_succ]
      refine wpAnyH_take (i := 19) (v := ?v36) rfl (by kernel_rfl) (by kernel_rfl) (by kernel_rfl) (fun _ _ _ h => h) (Or.inl ⟨by rfl, ?hy36⟩) hS0 ?_
      case hy36 => (intro w' hw'; have ct := unhide CY w' hw'; go_simp; try with_reducible rfl)
      simp only [List.getElem_toArray, List.getElem_cons_zero, List.getElem_cons_succ, Act.put, List.setIfInBounds_toArray, List.set_cons_zero, List.set_cons_succ]
      refine wpAnyH_take (i := 20) (v := ?v37) rfl (by kernel_rfl) (by kernel_rfl) (by kernel_rfl) (fun _ _ _ h => h) (Or.inl ⟨by rfl, ?hy37⟩) hS0 ?_
      case hy37 => (intro w' hw';  go_simp; try with_reducible rfl)
      simp only [List.getElem_toArray, List.getElem_cons_zero, List.getElem_cons_succ, Act.put, List.setIfInBounds_toArray, List.set_cons_zero, List.set_cons_succ]
      refine wpAnyH_take (i := 21) rfl (by kernel_rfl) (by kernel_rfl) (by kernel_rfl) (fun _ _ _ h => h) (yieldsIf_load_mid (by rfl) 29 _ (by rfl) w.heap.size 0 (by rfl) cs _ (fun w' hw' => Row8.below (unhide R1) hw') Tryz.underlying29 (by rfl) (unhide I1)) hS0 ?_
      simp only [List.getElem_toArray, List.getElem_cons_zero, List.getElem_cons_succ, Act.put, List.setIfInBounds_toArray, List.set_cons_zero, List.set_cons_succ]
      refine wpAnyH_take (i := 22) rfl (by kernel_rfl) (by kernel_rfl) (by kernel_rfl) (fun _ _ _ h => h) (yieldsIf_load_mid (by rfl) 29 _ (by rfl) (w.heap.size + 1) 0 (by rfl) ds _ (fun w' hw' => Row8.below (unhide R2) hw') Tryz.underlying29 (by rfl) (unhide I2)) hS0 ?_
      simp only [List.getElem_toArray, List.getElem_cons_zero, List.getElem_cons_succ, Act.put, List.setIfInBounds_toArray, List.set_cons_zero, List.set_cons_succ]
      refine rgn.one (i := 23) _ rfl (by kernel_rfl) (by rfl) ?_
      simp only [List.getElem_toArray, List.getElem_cons_zero, List.getElem_cons_succ, Act.put, List.setIfInBounds_toArray, List.set_cons_zero, List.set_cons_succ]
      go_wp2_with fail
      refine (og.equal_ok v u (unhide SM).1 (unhide SM).2 cs ds _ (VlC.below hS0 v cs (unhide V1)) (VlC.below hS0 u ds (unhide V2))).mono ?_
      rintro e w5 ⟨rfl, b5⟩
      rw [unhide OO]
      have hS0 : Below w4.heap.size w4 w5 := hS0.trans (b5.mono hS0.size)
      clear b5
      refine ⟨hS0, ?_⟩
      refine wpAnyH_take (i := 24) (v := ?v38) rfl (by kernel_rfl) (by kernel_rfl) (by kernel_rfl) (fun _ _ _ h => h) (Or.inl ⟨by rfl, ?hy38⟩) hS0 ?_
      case hy38 => (intro w' hw';  go_simp; try with_reducible rfl)
      simp only [List.getElem_toArray, List.getElem_cons_zero, List.getElem_cons_succ, Act.put, List.setIfInBounds_toArray, List.set_cons_zero, List.set_cons_succ]
      refine wpAnyH_take (i := 25) (v := ?v39) rfl (by kernel_rfl) (by kernel_rfl) (by kernel_rfl) (fun _ _ _ h => h) (Or.inl ⟨by rfl, ?hy39⟩) hS0 ?_
      case hy39 => (intro w' hw';  go_simp; try with_reducible rfl)
      simp only [List.getElem_toArray, List.getElem_cons_zero, List.getElem_cons_succ, Act.put, List.setIfInBounds_toArray, List.set_cons_zero, List.set_cons_succ]
      refine wpAnyH_take (i := 26) (v := ?v40) rfl (by kernel_rfl) (by kernel_rfl) (by kernel_rfl) (fun _ _ _ h => h) (Or.inl ⟨by rfl, ?hy40⟩) hS0 ?_
      case hy40 => (intro w' hw';  go_simp; try with_reducible rfl)
      simp only [List.getElem_toArray, List.getElem_cons_zero, List.getElem_cons_succ, Act.put, List.setIfInBounds_toArray, List.set_cons_zero, List.set_cons_succ]
      refine wpAnyH_done (by kernel_rfl) ?_ _; refine NoPanic.normal ?_
      go_wp2_with fail
      go_ret
      exact ⟨by first | rfl | (simp; done) | simp [hq2], (unhide BW).trans (hS0.mono (unhide BW).size)⟩
  · have gg : jfE (l2V v u) = if E = 0 then F else E := by
      rw [l2_jf, unhide JE, unhide JF]
      by_cases h1 : E = 0
      · rw [if_pos h1, if_pos h1, if_neg (fun h2 => h00 ⟨h1, h2⟩)]
      · rw [if_neg h1, if_neg h1]
    have GG := hide gg
    have hG : (if E = 0 then F else E) ≠ 0 := by split <;> omega
    have LL := hide (show wv (l2V v u) = [] by unfold wv; rw [unhide GG, if_neg hG])
    have JG := hide hG
    obtain ⟨Y, eY⟩ : ∃ Y, Y = w3.alloc (.cells (cs ++ ds).toArray 29) := ⟨_, rfl⟩
    have bY : Below w3.heap.size w3 Y := by rw [eY]; exact (Below.refl _ _).alloc (Nat.le_refl _) _
    have rY : Y.rangeAt w3.heap.size 0 (cs ++ ds) := fun j u hu => by rw [Nat.zero_add, eY, World.cell?_alloc_at _ _ _ _ rfl]; simpa using hu
    have hY := build2J (unhide V1) (unhide V2) w3
    rw [← eY] at hY
    have HY := hide hY
    clear hY eY
    have V1 := hide (VlC.below bY _ _ (unhide V1))
    have V2 := hide (VlC.below bY _ _ (unhide V2))
    have VL : VlC Y (l2V v u) (l2C w3.heap.size) := l2_VlC (unhide V1) (unhide V2) rY
    have BW := hide ((unhide BW).trans (bY.mono (unhide BW).size))
    have WL := hide (And.intro VL (And.intro (unhide EE) (unhide BW)))
    go_wp2_with (first
      | refine wpList_load_mid (by rfl) 29 _ (by rfl) w.heap.size 0 (by rfl) cs _ (unhide R1) Tryz.underlying29 (by rfl) (unhide I1) ?_
      | refine wpList_load_mid (by rfl) 29 _ (by rfl) (w.heap.size + 1) 0 (by rfl) ds _ (unhide R2) Tryz.underlying29 (by rfl) (unhide I2) ?_
      | refine wpList_build2J (by rfl) 22 _ _ (by rfl) (.agg cs.toArray) (.agg ds.toArray) _ (by rfl) (by rfl) (unhide HY) ?_)
    have R1 := hide (Row8.below (unhide R1) bY)
    have R2 := hide (Row8.below (unhide R2) bY)
    have CX := hide (fun W (hb : Below Y.heap.size Y W) => unhide CX W (bY.trans (hb.mono bY.size)))
    have CY := hide (fun W (hb : Below Y.heap.size Y W) => unhide CY W (bY.trans (hb.mono bY.size)))
    clear rY VL HY bY
    refine (write_any (l2V v u) (l2C w3.heap.size) Y ((unhide WL).2.1.below (unhide WL).2.2) (unhide WL).1 (unhide FL) (unhide WT)).mono ?_
    rw [unhide GG, unhide LL]
    rintro e w4 ⟨rz, rfl, ho, b4⟩
    obtain ⟨az, cz, rfl, ctz⟩ := own_text ho rfl
    have R1 := hide (Row8.below (unhide R1) b4)
    have R2 := hide (Row8.below (unhide R2) b4)
    have V1 := hide (VlC.below b4 _ _ (unhide V1))
    have V2 := hide (VlC.below b4 _ _ (unhide V2))
    have BW := hide ((unhide BW).trans (b4.mono (unhide BW).size))
    have CX := hide (fun W (hb : Below w4.heap.size w4 W) => unhide CX W (b4.trans (hb.mono b4.size)))
    have CY := hide (fun W (hb : Below w4.heap.size w4 W) => unhide CY W (b4.trans (hb.mono b4.size)))
    generalize (if E = 0 then F else E) = G at *
    have hG := unhide JG
    clear ho ctz b4 WL FL WT GG LL EE CX CY JG V1 V2 R1 R2 JE JF HV HF
    generalize (wv v).length = lx at *
    generalize (wv u).length = ly at *
    simp only [List.length_nil]
    by_cases he : E = 0
    · have hf : F ≠ 0 := fun h => h00 ⟨he, h⟩
      subst he
      go_wp2_with fail
      go_ret
      exact ⟨by first | rfl | simp [hG], unhide BW⟩
    · go_wp2_with fail
      go_ret
      exact ⟨by first | rfl | simp [hG], unhide BW⟩
end Go.Proofs.YtechaplindbfoaaGreatDoor.jsn
