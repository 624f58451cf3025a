import Derived.Test.YthpcpminikmcbaaTwg5
import Derived.Test.YthpcpminikmcbaaTwg4
import Derived.Shelf.SlSortCmp.NoneTotal
import Derived.Test.YthpcpminikmcbaaProg
import Derived.Test.YthpcpminikmcbaaTwg3
namespace Go.Proofs.Ythpcpminikmcbaa.vl
open Go.ChangeShapes Go.WideShapes Go.ChangeAt Go.RowKit
open stp (St Pth St3)
set_option linter.unusedVariables false
set_option linter.unusedSimpArgs false
/-- a child put into a value of the call's own -/
theorem FrC.put {lo : Nat} {w w3 : World} {v : Vl} {cs : List Value} {F : List Nat} {s : St} {i b o : Nat} {x : Vl} {ds : List Value} (h : OwC w v cs F) (hn : F.Nodup) (hF : ∀ c ∈ F, lo ≤ c ∧ c < w3.heap.size) (hi : chI v s = some i) (hl : Loc cs s i b o)
    (ha : AgreeBut F b o w w3) (hr : Row8 w3 b o ds) (hx : FrC lo w3 x ds) : FrC lo w3 (setS v s i x) cs := by
  obtain ⟨u, us, Fu, Gr, g1, g2, g3, g4, g5, g6, g7, g8⟩ := h.hole hn hi hl
  intro w' hw
  refine g8 w' x ds (fun c hc j hj => (hw c j (hF c (g6 c hc)).1 (hF c (g6 c hc)).2).trans (ha c (g6 c hc) j hj)) (fun j y hy => (hw b (o + j) (hF b (g6 b g7)).1 (hF b (g6 b g7)).2).trans (hr j y hy)) (hx w' hw)
theorem OwC.locIn {w : World} {v : Vl} {cs : List Value} {F : List Nat} {s : St} {i b o : Nat} (h : OwC w v cs F) (hn : F.Nodup) (hi : chI v s = some i) (hl : Loc cs s i b o) : b ∈ F := by
  obtain ⟨u, us, Fu, Gr, g1, g2, g3, g4, g5, g6, g7, g8⟩ := h.hole hn hi hl
  exact g6 b g7
end Go.Proofs.Ythpcpminikmcbaa.vl
namespace Go.Proofs.Ythpcpminikmcbaa.vl
open Go.ChangeShapes Go.WideShapes Go.ChangeAt Go.RowKit
open stp (St Pth St3)
set_option linter.unusedVariables false
set_option linter.unusedSimpArgs false
theorem allocV (w : World) : (Instr.alloc 27 true (.tuple #[])).run Try.prog w = .ok (.pointer (some ⟨w.heap.size, 0, none⟩)) (w.alloc (.cells #[.int .i64 0, .bool false, .int .i64 0, .float .f64 0, .string { data := #[] }, .string { data := #[] }, .slice none 0 0, .slice none 0 0] 27)) := by go_simp
theorem wpO_alloc {P : Program} {o : Oper} {a : Act} {w w' : World} {K : Act → World → Prop} {Q : Exit → Act → World → Prop} (t : TypeId) (ho : o.op = .alloc t) (v : Value) (hr : (Instr.alloc t true (.tuple #[])).run P w = .ok v w') (h : K (a.put o.dst v) w') : o.wp P a w K Q := by
  unfold Oper.wp execOp
  simp only [ho, Sem.run_bind, hr, Result.andThen_ok, Sem.run_pure]
  exact h
end Go.Proofs.Ythpcpminikmcbaa.vl
namespace Go.Proofs.Ythpcpminikmcbaa.vl
open Go.ChangeShapes Go.WideShapes Go.ChangeAt Go.RowKit
open stp (St Pth St3)
set_option linter.unusedVariables false
set_option linter.unusedSimpArgs false
def numC (n : Int) : List Value := [.int .i64 2, .bool false, .int .i64 n, .float .f64 0, .string { data := #[] }, .string { data := #[] }, .slice none 0 0, .slice none 0 0]
def txtC (s : ByteArray) : List Value := [.int .i64 4, .bool false, .int .i64 0, .float .f64 0, .string s, .string { data := #[] }, .slice none 0 0, .slice none 0 0]
theorem num_ok (n : Int) (w : World) : Calls Try.prog 8 #[.int .i64 n] w fun e w' => Below w.heap.size w w' ∧ e = .returned (.agg (numC n).toArray) := by
  have hsf := storeF
  go_enter Try.func8, Try.ntmps8
  go_wp2
  refine bodyPost_ret (results_cell_row rfl _ _ w.heap.size 27 _ (0, 0) _ rfl (heap_alloc_new _ _) Try.underlying27 rfl (by kernel_rfl)) rfl ?_
  exact ⟨(Below.refl _ _).alloc (Nat.le_refl _) _, rfl⟩
theorem text_ok (s : ByteArray) (w : World) : Calls Try.prog 51 #[.string s] w fun e w' => Below w.heap.size w w' ∧ e = .returned (.agg (txtC s).toArray) := by
  have hsf := storeF
  go_enter Try.func51, Try.ntmps51
  go_wp2
  refine bodyPost_ret (results_cell_row rfl _ _ w.heap.size 27 _ (0, 0) _ rfl (heap_alloc_new _ _) Try.underlying27 rfl (by kernel_rfl)) rfl ?_
  exact ⟨(Below.refl _ _).alloc (Nat.le_refl _) _, rfl⟩
theorem build2V {w0 w0' : World} {v u : Vl} {cs ds : List Value} (h : VlC w0 v cs) (h' : VlC w0' u ds) (w : World) : (Instr.buildSlice 24 2 #[(0, .agg cs.toArray), (1, .agg ds.toArray)]).run Try.prog w = .ok (.slice (some ⟨w.heap.size, 0, none⟩) 2 2) (w.alloc (.cells (cs ++ ds).toArray 27)) := by
  cases v; cases u
  unfold VlC at h h'
  obtain ⟨_, _, _, _, _, _, rfl, -⟩ := h
  obtain ⟨_, _, _, _, _, _, rfl, -⟩ := h'
  go_simp
theorem build2M {w0 w0' : World} {v u : Vl} {cs ds : List Value} (a b : ByteArray) (h : VlC w0 v cs) (h' : VlC w0' u ds) (w : World) : (Instr.buildSlice 25 2 #[(0, .agg (Value.string a :: cs).toArray), (1, .agg (Value.string b :: ds).toArray)]).run Try.prog w = .ok (.slice (some ⟨w.heap.size, 0, none⟩) 2 2) (w.alloc (.cells ((Value.string a :: cs) ++ (Value.string b :: ds)).toArray 69)) := by
  cases v; cases u
  unfold VlC at h h'
  obtain ⟨_, _, _, _, _, _, rfl, -⟩ := h
  obtain ⟨_, _, _, _, _, _, rfl, -⟩ := h'
  go_simp
theorem wpO_build2 {P : Program} {o : Oper} {a : Act} {w w' : World} {K : Act → World → Prop} {Q : Exit → Act → World → Prop} (t : TypeId) (x y : Operand) (ho : o.op = .buildSlice t 2 #[(0, x), (1, y)]) (v u sl : Value) (hx : a.eval x = v) (hy : a.eval y = u) (hr : (Instr.buildSlice t 2 #[(0, v), (1, u)]).run P w = .ok sl w')
    (h : K (a.put o.dst sl) w') : o.wp P a w K Q := by
  unfold Oper.wp execOp
  simp only [ho, List.map_toArray, List.map_cons, List.map_nil, hx, hy, Sem.run_bind, hr, Result.andThen_ok, Sem.run_pure]
  exact h
def eS : ByteArray := { data := #[] }
def innerV : Vl := .mk 6 false 0 0 eS eS .nil (.cons { data := #[98] } z0 .nil)
def listV : Vl := .mk 5 false 0 0 eS eS (.cons (.mk 2 false 1 0 eS eS .nil .nil) (.cons innerV .nil)) .nil
def twoV : Vl := .mk 6 false 0 0 eS eS .nil (.cons { data := #[97] } listV (.cons { data := #[99] } (.mk 4 false 0 0 { data := #[120] } eS .nil .nil) .nil))
theorem numV (n : Int) (hn : (Lit.int .i64 n).wf = true) (w : World) : VlC w (.mk 2 false n 0 eS eS .nil .nil) (numC n) := by
  unfold VlC
  exact ⟨none, 0, 0, none, 0, 0, rfl, by unfold VlsAt; rfl, by unfold FlsAt; rfl, Nat.le_refl _, Nat.le_refl _, fun _ => rfl, fun _ => rfl, rfl, hn, Nat.zero_le _, Nat.zero_le _, Nat.zero_le _, Nat.zero_le _⟩
theorem txtV (s : ByteArray) (hs : s.size ≤ maxLen) (w : World) : VlC w (.mk 4 false 0 0 s eS .nil .nil) (txtC s) := by
  unfold VlC
  exact ⟨none, 0, 0, none, 0, 0, rfl, by unfold VlsAt; rfl, by unfold FlsAt; rfl, Nat.le_refl _, Nat.le_refl _, fun _ => rfl, fun _ => rfl, rfl, rfl, hs, Nat.zero_le _, Nat.zero_le _, Nat.zero_le _⟩
def innerC (b : Nat) : List Value := [.int .i64 6, .bool false, .int .i64 0, .float .f64 0, .string { data := #[] }, .string { data := #[] }, .slice none 0 0, .slice (some ⟨b, 0, none⟩) 1 1]
def listC (b : Nat) : List Value := [.int .i64 5, .bool false, .int .i64 0, .float .f64 0, .string { data := #[] }, .string { data := #[] }, .slice (some ⟨b, 0, none⟩) 2 2, .slice none 0 0]
def twoC (b : Nat) : List Value := [.int .i64 6, .bool false, .int .i64 0, .float .f64 0, .string { data := #[] }, .string { data := #[] }, .slice none 0 0, .slice (some ⟨b, 0, none⟩) 2 2]
theorem innerV_at {w : World} {b : Nat} (h : w.rangeAt b 0 (Value.string { data := #[98] } :: z8)) : VlC w innerV (innerC b) := by
  unfold innerV VlC
  refine ⟨none, 0, 0, some ⟨b, 0, none⟩, 1, 1, rfl, by unfold VlsAt; rfl, ?_, Nat.le_refl _, Nat.le_refl _, fun _ => rfl, fun e => (by cases e), rfl, rfl, Nat.zero_le _, Nat.zero_le _, Nat.zero_le _, (by decide)⟩
  unfold FlsAt
  exact ⟨b, 0, 0, z8, rfl, rfl, h 0 _ rfl, (by decide), fun j u hu => by have := h (j + 1) u (by simpa using hu); rwa [show 0 + (j + 1) = 0 + 1 + j by omega] at this, OwC.read _ _ _ (OwC.zero _), by unfold FlsAt; rfl⟩
theorem listV_at {w : World} {b c : Nat} (h : w.rangeAt b 0 (numC 1 ++ innerC c)) (hi : VlC w innerV (innerC c)) : VlC w listV (listC b) := by
  unfold listV VlC
  refine ⟨some ⟨b, 0, none⟩, 2, 2, none, 0, 0, rfl, ?_, by unfold FlsAt; rfl, Nat.le_refl _, Nat.le_refl _, fun e => (by cases e), fun _ => rfl, rfl, rfl, Nat.zero_le _, Nat.zero_le _, (by decide), Nat.zero_le _⟩
  unfold VlsAt
  refine ⟨b, 0, 1, numC 1, rfl, rfl, fun j u hu => h j u ?_, numV 1 rfl w, ?_⟩
  · rw [List.getElem?_append_left (List.getElem?_eq_some_iff.1 hu).1]; exact hu
  unfold VlsAt
  refine ⟨b, 8, 0, innerC c, rfl, rfl, fun j u hu => ?_, hi, by unfold VlsAt; rfl⟩
  have := h (8 + j) u (by rw [List.getElem?_append_right (by simp [numC])]; simpa [numC] using hu)
  rwa [show 0 + (8 + j) = 8 + j by omega] at this
theorem twoV_at {w : World} {b c : Nat} (h : w.rangeAt b 0 ((Value.string { data := #[97] } :: listC c) ++ (Value.string { data := #[99] } :: txtC { data := #[120] }))) (hl : VlC w listV (listC c)) : VlC w twoV (twoC b) := by
  unfold twoV VlC
  refine ⟨none, 0, 0, some ⟨b, 0, none⟩, 2, 2, rfl, by unfold VlsAt; rfl, ?_, Nat.le_refl _, Nat.le_refl _, fun _ => rfl, fun e => (by cases e), rfl, rfl, Nat.zero_le _, Nat.zero_le _, Nat.zero_le _, (by decide)⟩
  unfold FlsAt
  refine ⟨b, 0, 1, listC c, rfl, rfl, h 0 _ rfl, (by decide), fun j u hu => ?_, hl, ?_⟩
  · have := h (j + 1) u (by rw [List.getElem?_append_left (by have := (List.getElem?_eq_some_iff.1 hu).1; simp; omega)]; simpa using hu)
    rwa [show 0 + (j + 1) = 0 + 1 + j by omega] at this
  unfold FlsAt
  refine ⟨b, 9, 0, txtC { data := #[120] }, rfl, rfl, ?_, (by decide), fun j u hu => ?_, txtV _ (by decide) w, by unfold FlsAt; rfl⟩
  · have := h 9 (.string { data := #[99] }) rfl
    simpa using this
  · have := h (10 + j) u (by rw [List.getElem?_append_right (by simp [listC]; omega)]; simp [listC]; rw [show 10 + j - 9 = j + 1 by omega]; simpa using hu)
    rwa [show 0 + (10 + j) = 9 + 1 + j by omega] at this
theorem Small.twoV : Small twoV := by simp [vl.twoV, vl.listV, innerV, z0, Small, SmallI, SmallF, Vls.list, Fls.list]
end Go.Proofs.Ythpcpminikmcbaa.vl
namespace Go.Proofs.Ythpcpminikmcbaa.og
open Go.ChangeShapes Go.WideShapes Go.ChangeAt Go.RowKit
open vl hiding cB cFl cS cF cI cK cIt
open stp (c3 c3_lt c3_gt c3_eq cB cB_tri)
set_option linter.unusedVariables false
set_option linter.unusedSimpArgs false
theorem c3_zero {x t : Int} (h : c3 x t = 0) : x = t := by
  unfold c3 at h
  split at h
  · omega
  · split at h <;> omega
def orH (x y : Int) : Int := if x = 0 then y else x
theorem cmpOr_okH (x y : Int) (b : Nat) (w : World) (h0 : w.cell? ⟨b, 0, none⟩ = some (.int .i64 x)) (h1 : w.cell? ⟨b, 1, none⟩ = some (.int .i64 y)) : Calls Try.prog 70 #[.slice (some ⟨b, 0, none⟩) 2 2] w fun e w' => e = .returned (.int .i64 (orH x y)) ∧ w = w' := cmpOr_ok x y b w h0 h1
theorem build2I (x y : Int) (w : World) : (Instr.buildSlice 127 2 #[(0, .int .i64 x), (1, .int .i64 y)]).run Try.prog w = .ok (.slice (some ⟨w.heap.size, 0, none⟩) 2 2) (w.alloc (.cells #[.int .i64 x, .int .i64 y] 3)) := by
  go_simp
set_option maxHeartbeats 8000000 in
set_option maxRecDepth 6000 in
theorem order_ok : ∀ v : Vl, Small v → ∀ u : Vl, Small u → OrdAt v u := by
  refine Vl.all ?_
  intro kd b n f tx ty its fls ihI ihF hsm u hsu cs ds w h1 h2
  obtain ⟨kd', b', n', f', tx', ty', its', fls'⟩ := u
  have K1 := hide (fun W : World => kindOf_ok _ cs W w h1)
  have K2 := hide (fun W : World => kindOf_ok _ ds W w h2)
  unfold Small at hsm hsu
  obtain ⟨hlI, hlF, hfl, hsI, hsF⟩ := hsm
  obtain ⟨hlI', hlF', hfl', hsI', hsF'⟩ := hsu
  have FL := hide (fun W : World => floats_ok f f' W hfl hfl')
  have hV : ordV (.mk kd b n f tx ty its fls) (.mk kd' b' n' f' tx' ty' its' fls') = if c3 (kdOf kd) (kdOf kd') = 0 then
      (if kdOf kd = 1 then cBo b b' else if kdOf kd = 2 then c3 n n' else if kdOf kd = 3 then cFl f f' else if kdOf kd = 4 then cB tx tx' else if kdOf kd = 5 then ordI its its' else if kdOf kd = 6 then ordF fls fls' else if kdOf kd = 7 then (if cB ty ty' = 0 then cB tx tx' else cB ty ty') else 0)
    else c3 (kdOf kd) (kdOf kd') := by rw [ordV]
  rw [ordI_lex, ordF_lex] at hV
  have HV := hide hV
  have c8 := h1.cells
  have d8 := h2.cells
  have i1 : (Try.prog.info? 27).map (·.size) = some cs.length := by rw [c8]; exact infoV
  have i2 : (Try.prog.info? 27).map (·.size) = some ds.length := by rw [d8]; exact infoV
  obtain ⟨W, eW⟩ : ∃ W, W = (w.alloc (.cells cs.toArray 27)).alloc (.cells ds.toArray 27) := ⟨_, rfl⟩
  have bW : Gr w W := by rw [eW]; exact ((Gr.refl _).alloc _).alloc _
  have sW : w.heap.size + 1 < W.heap.size := by rw [eW]; simp
  have r1 : W.rangeAt w.heap.size 0 cs := fun j x hx => by
    rw [eW, Nat.zero_add, World.cell?_alloc_past _ _ _ (by simp), World.cell?_alloc_at _ _ _ _ rfl]; simpa using hx
  have r2 : W.rangeAt (w.heap.size + 1) 0 ds := fun j x hx => by
    rw [eW, Nat.zero_add, World.cell?_alloc_at _ _ _ _ (by simp)]; simpa using hx
  have EW := hide eW
  clear eW
  have HK : kdV (.mk kd b n f tx ty its fls) = kdOf kd := rfl
  have HK' : kdV (.mk kd' b' n' f' tx' ty' its' fls') = kdOf kd' := rfl
  rw [HK] at K1
  rw [HK'] at K2
  clear HK HK' hV hfl hfl' c8 d8
  have hrng := kdOf_rng kd
  generalize kdOf kd = K at *
  generalize kdOf kd' = K' at *
  generalize hOV : ordV (.mk kd b n f tx ty its fls) (.mk kd' b' n' f' tx' ty' its' fls') = OV at *
  clear hOV
  have HR := hide (And.intro r1 (And.intro r2 (And.intro i1 i2)))
  have HC := hide (And.intro h1 h2)
  clear r1 r2 i1 i2 h1 h2
  go_enter Try.func36, Try.ntmps36
  go_wp2_with (first
    | (rw [← unhide EW]; refine wpList_load_mid (by rfl) 27 _ (by rfl) w.heap.size 0 (by rfl) cs _ (unhide HR).1 Try.underlying27 (by rfl) (unhide HR).2.2.1 ?_))
  clear EW
  refine (unhide K1 _).mono ?_
  rintro e w1 ⟨rfl, g1⟩
  have R2 : w1.rangeAt (w.heap.size + 1) 0 ds := Row8.below (unhide HR).2.1 g1.1
  go_wp2_with (first
    | refine wpList_load_mid (by rfl) 27 _ (by rfl) (w.heap.size + 1) 0 (by rfl) ds _ R2 Try.underlying27 (by rfl) (unhide HR).2.2.2 ?_)
  refine (unhide K2 _).mono ?_
  rintro e w2 ⟨rfl, g2⟩
  go_wp2_with fail
  refine (kind_cmp K K' _).mono ?_
  rintro e w3 ⟨rfl, rfl⟩
  have G := g1.trans g2
  have GW := bW.trans G
  have Q1 : w2.rangeAt w.heap.size 0 cs := Row8.below (unhide HR).1 G.1
  have Q2 : w2.rangeAt (w.heap.size + 1) 0 ds := Row8.below (unhide HR).2.1 G.1
  have v1 := VlC.below GW.1 _ _ (unhide HC).1
  have v2 := VlC.below GW.1 _ _ (unhide HC).2
  clear R2 HR HC K1 K2
  unfold VlC at v1 v2
  obtain ⟨ai, ni, ci, af, nf, cf, rfl, hI, hF, hni, hnf, -, -, -, -, -, -, hci, hcf⟩ := v1
  obtain ⟨bi, mi, di, bf, mf, df, rfl, gI, gF, hmi, hmf, -, -, -, -, -, -, hdi, hdf⟩ := v2
  unfold maxLen at hci hcf hdi hdf
  have x1 := Q1 1 _ rfl
  have x2 := Q1 2 _ rfl
  have x3 := Q1 3 _ rfl
  have x4 := Q1 4 _ rfl
  have x5 := Q1 5 _ rfl
  have x6 := Q1 6 _ rfl
  have x7 := Q1 7 _ rfl
  have y1 := Q2 1 _ rfl
  have y2 := Q2 2 _ rfl
  have y3 := Q2 3 _ rfl
  have y4 := Q2 4 _ rfl
  have y5 := Q2 5 _ rfl
  have y6 := Q2 6 _ rfl
  have y7 := Q2 7 _ rfl
  simp only [Nat.zero_add] at x1 x2 x3 x4 x5 x6 x7 y1 y2 y3 y4 y5 y6 y7
  clear Q1 Q2
  by_cases hc : c3 K K' = 0
  · have HV := hide ((unhide HV).trans (if_pos hc))
    rw [hc]
    clear hc
    rcases hrng with rfl | rfl | rfl | rfl | rfl | rfl | rfl | rfl
    · have HV := hide ((unhide HV).trans (show _ = (0 : Int) by simp))
      go_wp2
      go_ret
      exact ⟨by rw [unhide HV]; rfl, GW⟩
    · have HV := hide ((unhide HV).trans (show _ = cBo b b' by simp))
      go_wp2_with fail
      refine (bools_ok b b' _).mono ?_
      rintro e w3 ⟨rfl, rfl⟩
      go_wp2
      go_ret
      exact ⟨by rw [unhide HV]; rfl, GW⟩
    · have HV := hide ((unhide HV).trans (show _ = c3 n n' by simp))
      go_wp2_with fail
      refine (i64_cmp n n' _).mono ?_
      rintro e w3 ⟨rfl, rfl⟩
      go_wp2
      go_ret
      exact ⟨by rw [unhide HV]; rfl, GW⟩
    · have HV := hide ((unhide HV).trans (show _ = cFl f f' by simp))
      go_wp2_with fail
      refine (unhide FL _).mono ?_
      rintro e w3 ⟨rfl, rfl⟩
      go_wp2
      go_ret
      exact ⟨by rw [unhide HV]; rfl, GW⟩
    · have HV := hide ((unhide HV).trans (show _ = cB tx tx' by simp))
      go_wp2_with fail
      refine (str_cmpE tx tx' _).mono ?_
      rintro e w3 ⟨rfl, rfl⟩
      go_wp2
      go_ret
      exact ⟨by rw [unhide HV]; rfl, GW⟩
    · have HV := hide ((unhide HV).trans (show _ = lexG ordV its.list its'.list by simp))
      go_wp2_with fail
      refine (cmpV_ok its its' (fun x hx y hy => ihI x hx (hsI.all x hx) y (hsI'.all y hy)) ai bi ni ci mi di _ hI gI (by rw [← VlsAt.len its _ _ hI]; omega) (by rw [← VlsAt.len its' _ _ gI]; omega)).mono ?_
      rintro e w3 ⟨rfl, g3⟩
      go_wp2
      go_ret
      exact ⟨by rw [unhide HV]; rfl, GW.trans g3⟩
    · have HV := hide ((unhide HV).trans (show _ = lexG ordM fls.list fls'.list by simp))
      go_wp2_with fail
      refine (cmpM_ok fls fls' (fun x hx y hy => ordM_ok x y (ihF x hx (hsF.all x hx) y.2 (hsF'.all y hy))) af bf nf cf mf df _ hF gF (by rw [← FlsAt.len fls _ _ hF]; omega) (by rw [← FlsAt.len fls' _ _ gF]; omega)).mono ?_
      rintro e w3 ⟨rfl, g3⟩
      go_wp2
      go_ret
      exact ⟨by rw [unhide HV]; rfl, GW.trans g3⟩
    · have HV := hide ((unhide HV).trans (show _ = orH (cB ty ty') (cB tx tx') by simp [orH]))
      have lx : w.heap.size < w2.heap.size := Nat.lt_of_lt_of_le (show w.heap.size < W.heap.size by omega) G.1.size
      have ly : w.heap.size + 1 < w2.heap.size := Nat.lt_of_lt_of_le sW G.1.size
      go_wp2_with fail
      have hS0 : Gr w2 { w2 with drawn := w2.drawn + 1 } := (Gr.refl _).drew
      refine wp_region_noPanic ?_
      refine wp_region_held (S := fun w' => Gr w2 w') mixed ?_
      refine wpAnyH_take (i := 0) (v := ?v1) rfl (by kernel_rfl) (by kernel_rfl) (by kernel_rfl) (fun _ _ _ h => h) (Or.inl ⟨by rfl, ?hy1⟩) hS0 ?_
      case hy1 => (intro w' hw'; have c5 := keepC hw'.1 lx x5; have d5 := keepC hw'.1 ly y5; go_simp; try with_reducible rfl)
      simp only [List.getElem_toArray, List.getElem_cons_zero, List.getElem_cons_succ, Act.put, List.setIfInBounds_toArray, List.set_cons_zero, List.set_cons_succ]
      refine wpAnyH_take (i := 1) (v := ?v2) rfl (by kernel_rfl) (by kernel_rfl) (by kernel_rfl) (fun _ _ _ h => h) (Or.inl ⟨by rfl, ?hy2⟩) hS0 ?_
      case hy2 => (intro w' hw'; have c5 := keepC hw'.1 lx x5; have d5 := keepC hw'.1 ly y5; go_simp; try with_reducible rfl)
      simp only [List.getElem_toArray, List.getElem_cons_zero, List.getElem_cons_succ, Act.put, List.setIfInBounds_toArray, List.set_cons_zero, List.set_cons_succ]
      refine wpAnyH_take (i := 2) (v := ?v3) rfl (by kernel_rfl) (by kernel_rfl) (by kernel_rfl) (fun _ _ _ h => h) (Or.inl ⟨by rfl, ?hy3⟩) hS0 ?_
      case hy3 => (intro w' hw'; have c5 := keepC hw'.1 lx x5; have d5 := keepC hw'.1 ly y5; go_simp; try with_reducible rfl)
      simp only [List.getElem_toArray, List.getElem_cons_zero, List.getElem_cons_succ, Act.put, List.setIfInBounds_toArray, List.set_cons_zero, List.set_cons_succ]
      refine wpAnyH_take (i := 3) (v := ?v4) rfl (by kernel_rfl) (by kernel_rfl) (by kernel_rfl) (fun _ _ _ h => h) (Or.inl ⟨by rfl, ?hy4⟩) hS0 ?_
      case hy4 => (intro w' hw'; have c5 := keepC hw'.1 lx x5; have d5 := keepC hw'.1 ly y5; go_simp; try with_reducible rfl)
      simp only [List.getElem_toArray, List.getElem_cons_zero, List.getElem_cons_succ, Act.put, List.setIfInBounds_toArray, List.set_cons_zero, List.set_cons_succ]
      refine wpAnyH_take (i := 5) (v := ?v5) rfl (by kernel_rfl) (by kernel_rfl) (by kernel_rfl) (fun _ _ _ h => h) (Or.inl ⟨by rfl, ?hy5⟩) hS0 ?_
      case hy5 => (intro w' hw'; have c4 := keepC hw'.1 lx x4; have d4 := keepC hw'.1 ly y4; go_simp; try with_reducible rfl)
      simp only [List.getElem_toArray, List.getElem_cons_zero, List.getElem_cons_succ, Act.put, List.setIfInBounds_toArray, List.set_cons_zero, List.set_cons_succ]
      refine wpAnyH_take (i := 6) (v := ?v6) rfl (by kernel_rfl) (by kernel_rfl) (by kernel_rfl) (fun _ _ _ h => h) (Or.inl ⟨by rfl, ?hy6⟩) hS0 ?_
      case hy6 => (intro w' hw'; have c4 := keepC hw'.1 lx x4; have d4 := keepC hw'.1 ly y4; go_simp; try with_reducible rfl)
      simp only [List.getElem_toArray, List.getElem_cons_zero, List.getElem_cons_succ, Act.put, List.setIfInBounds_toArray, List.set_cons_zero, List.set_cons_succ]
      refine wpAnyH_take (i := 7) (v := ?v7) rfl (by kernel_rfl) (by kernel_rfl) (by kernel_rfl) (fun _ _ _ h => h) (Or.inl ⟨by rfl, ?hy7⟩) hS0 ?_
      case hy7 => (intro w' hw'; have c4 := keepC hw'.1 lx x4; have d4 := keepC hw'.1 ly y4; go_simp; try with_reducible rfl)
      simp only [List.getElem_toArray, List.getElem_cons_zero, List.getElem_cons_succ, Act.put, List.setIfInBounds_toArray, List.set_cons_zero, List.set_cons_succ]
      refine wpAnyH_take (i := 8) (v := ?v8) rfl (by kernel_rfl) (by kernel_rfl) (by kernel_rfl) (fun _ _ _ h => h) (Or.inl ⟨by rfl, ?hy8⟩) hS0 ?_
      case hy8 => (intro w' hw'; have c4 := keepC hw'.1 lx x4; have d4 := keepC hw'.1 ly y4; go_simp; try with_reducible rfl)
      simp only [List.getElem_toArray, List.getElem_cons_zero, List.getElem_cons_succ, Act.put, List.setIfInBounds_toArray, List.set_cons_zero, List.set_cons_succ]
      refine rgn.one (i := 4) _ rfl (by kernel_rfl) (by rfl) ?_
      simp only [List.getElem_toArray, List.getElem_cons_zero, List.getElem_cons_succ, Act.put, List.setIfInBounds_toArray, List.set_cons_zero, List.set_cons_succ]
      go_wp2_with fail
      refine (str_cmpE ty ty' _).mono ?_
      rintro e w3 ⟨rfl, rfl⟩
      refine ⟨hS0, ?_⟩
      try simp only [List.getElem_toArray, List.getElem_cons_zero, List.getElem_cons_succ, Act.put, List.setIfInBounds_toArray, List.set_cons_zero, List.set_cons_succ]
      refine rgn.one (i := 9) _ rfl (by kernel_rfl) (by rfl) ?_
      simp only [List.getElem_toArray, List.getElem_cons_zero, List.getElem_cons_succ, Act.put, List.setIfInBounds_toArray, List.set_cons_zero, List.set_cons_succ]
      go_wp2_with fail
      refine (str_cmpE tx tx' _).mono ?_
      rintro e w3 ⟨rfl, rfl⟩
      refine ⟨hS0, ?_⟩
      try simp only [List.getElem_toArray, List.getElem_cons_zero, List.getElem_cons_succ, Act.put, List.setIfInBounds_toArray, List.set_cons_zero, List.set_cons_succ]
      refine rgn.one (i := 10) _ rfl (by kernel_rfl) (by rfl) ?_
      simp only [List.getElem_toArray, List.getElem_cons_zero, List.getElem_cons_succ, Act.put, List.setIfInBounds_toArray, List.set_cons_zero, List.set_cons_succ]
      refine wpO_build2 127 _ _ (by rfl) (.int .i64 (cB ty ty')) (.int .i64 (cB tx tx')) _ (by rfl) (by rfl) (build2I _ _ _) ?_
      obtain ⟨Y, eY⟩ : ∃ Y, Y = w2.drew.alloc (.cells #[.int .i64 (cB ty ty'), .int .i64 (cB tx tx')] 3) := ⟨_, rfl⟩
      have p0 : Y.cell? ⟨w2.drew.heap.size, 0, none⟩ = some (.int .i64 (cB ty ty')) := by rw [eY, World.cell?_alloc_at _ _ _ _ rfl]; rfl
      have p1 : Y.cell? ⟨w2.drew.heap.size, 1, none⟩ = some (.int .i64 (cB tx tx')) := by rw [eY, World.cell?_alloc_at _ _ _ _ rfl]; rfl
      have hS0 : Gr w2 Y := by rw [eY]; exact hS0.alloc _
      rw [← eY]
      clear eY
      refine ⟨hS0, ?_⟩
      try simp only [List.getElem_toArray, List.getElem_cons_zero, List.getElem_cons_succ, Act.put, List.setIfInBounds_toArray, List.set_cons_zero, List.set_cons_succ]
      refine rgn.one (i := 11) _ rfl (by kernel_rfl) (by rfl) ?_
      simp only [List.getElem_toArray, List.getElem_cons_zero, List.getElem_cons_succ, Act.put, List.setIfInBounds_toArray, List.set_cons_zero, List.set_cons_succ]
      go_wp2_with fail
      refine (cmpOr_okH _ _ _ _ p0 p1).mono ?_
      rintro e w3 ⟨rfl, rfl⟩
      refine ⟨hS0, ?_⟩
      refine wpAnyH_take (i := 12) (v := ?v9) rfl (by kernel_rfl) (by kernel_rfl) (by kernel_rfl) (fun _ _ _ h => h) (Or.inl ⟨by rfl, ?hy9⟩) hS0 ?_
      case hy9 => (intro w' hw';  go_simp; try with_reducible rfl)
      simp only [List.getElem_toArray, List.getElem_cons_zero, List.getElem_cons_succ, Act.put, List.setIfInBounds_toArray, List.set_cons_zero, List.set_cons_succ]
      refine wpAnyH_done (by kernel_rfl) ?_ _; refine NoPanic.normal ?_
      go_wp2
      go_ret
      exact ⟨by rw [unhide HV]; rfl, GW.trans hS0⟩
  · have HV := hide ((unhide HV).trans (if_neg hc))
    generalize c3 K K' = C at *
    have hc2 : (C != 0) = true := by simpa using hc
    clear hc
    go_wp2
    go_ret
    exact ⟨by rw [unhide HV]; rfl, GW⟩
end Go.Proofs.Ythpcpminikmcbaa.og
namespace Go.Proofs
open Go.Shelf
def Try.sortMem_ren : Go.Shelf.Ren := ⟨fun | 6 => 87 | 15 => 74 | 14 => 112 | 28 => 103 | 29 => 104 | 20 => 128 | 21 => 129 | 22 => 130 | 23 => 131 | 24 => 132 | 25 => 133 | 26 => 134 | 27 => 135 | 46 => 139 | 47 => 117 | 48 => 118 | 49 => 140 | 50 => 141 | 57 => 142 | n => n, fun | 22 => 25 | 24 => 69 | 25 => 105 | 3 => 3 | 39 => 111 | 0 => 0 | 53 => 137 | 55 => 139 | 4 => 4 | 46 => 130 | 45 => 129 | 50 => 134 | 5 => 5 | 9 => 9 | 66 => 152 | 70 => 156 | 76 => 169 | 77 => 170 | n => n, fun | n => n⟩
theorem Try.sortMem : Go.Proofs.SlLaysF0.n6 Try.prog Try.sortMem_ren := {
  mixed := by kernel_rfl
  f6 := ⟨Try.f87.name, by decide, Try.func87.trans (congrArg some (by kernel_rfl))⟩
  f14 := ⟨Try.f112.name, by decide, Try.func112.trans (congrArg some (by kernel_rfl))⟩
  f15 := Try.func74.trans (congrArg some (by kernel_rfl))
  f20 := ⟨Try.f128.name, by decide, Try.func128.trans (congrArg some (by kernel_rfl))⟩
  f21 := ⟨Try.f129.name, by decide, Try.func129.trans (congrArg some (by kernel_rfl))⟩
  f22 := ⟨Try.f130.name, by decide, Try.func130.trans (congrArg some (by kernel_rfl))⟩
  f23 := ⟨Try.f131.name, by decide, Try.func131.trans (congrArg some (by kernel_rfl))⟩
  f24 := ⟨Try.f132.name, by decide, Try.func132.trans (congrArg some (by kernel_rfl))⟩
  f25 := ⟨Try.f133.name, by decide, Try.func133.trans (congrArg some (by kernel_rfl))⟩
  f26 := ⟨Try.f134.name, by decide, Try.func134.trans (congrArg some (by kernel_rfl))⟩
  f27 := ⟨Try.f135.name, by decide, Try.func135.trans (congrArg some (by kernel_rfl))⟩
  f28 := Try.func103.trans (congrArg some (by kernel_rfl))
  f29 := Try.func104.trans (congrArg some (by kernel_rfl))
  f46 := ⟨Try.f139.name, by decide, Try.func139.trans (congrArg some (by kernel_rfl))⟩
  f47 := Try.func117.trans (congrArg some (by kernel_rfl))
  f48 := Try.func118.trans (congrArg some (by kernel_rfl))
  f49 := ⟨Try.f140.name, by decide, Try.func140.trans (congrArg some (by kernel_rfl))⟩
  f50 := ⟨Try.f141.name, by decide, Try.func141.trans (congrArg some (by kernel_rfl))⟩
  f57 := ⟨Try.f142.name, by decide, Try.func142.trans (congrArg some (by kernel_rfl))⟩
  t0 := Try.underlying0
  a0 := Try.isAgg0
  z0 := Try.sizeOf0
  v0 := Try.zeroValue0
  t3 := Try.underlying3
  a3 := Try.isAgg3
  z3 := Try.sizeOf3
  v3 := Try.zeroValue3
  t4 := Try.underlying4
  a4 := Try.isAgg4
  z4 := Try.sizeOf4
  v4 := Try.zeroValue4
  t5 := Try.underlying5
  a5 := Try.isAgg5
  z5 := Try.sizeOf5
  v5 := Try.zeroValue5
  t9 := Try.underlying9
  a9 := Try.isAgg9
  z9 := Try.sizeOf9
  v9 := Try.zeroValue9
  t22 := Try.underlying25
  a22 := Try.isAgg25
  z22 := Try.sizeOf25
  v22 := Try.zeroValue25
  t25 := Try.underlying105
  a25 := Try.isAgg105
  z25 := Try.sizeOf105
  v25 := Try.zeroValue105
  t39 := Try.underlying111
  a39 := Try.isAgg111
  z39 := Try.sizeOf111
  v39 := Try.zeroValue111
  t45 := Try.underlying129
  a45 := Try.isAgg129
  z45 := Try.sizeOf129
  v45 := Try.zeroValue129
  t46 := Try.underlying130
  a46 := Try.isAgg130
  z46 := Try.sizeOf130
  v46 := Try.zeroValue130
  t50 := Try.underlying134
  a50 := Try.isAgg134
  z50 := Try.sizeOf134
  v50 := Try.zeroValue134
  t53 := Try.underlying137
  a53 := Try.isAgg137
  z53 := Try.sizeOf137
  v53 := Try.zeroValue137
  t55 := Try.underlying139
  a55 := Try.isAgg139
  z55 := Try.sizeOf139
  v55 := Try.zeroValue139
  t66 := Try.underlying152
  a66 := Try.isAgg152
  z66 := Try.sizeOf152
  v66 := Try.zeroValue152
  t70 := Try.underlying156
  a70 := Try.isAgg156
  z70 := Try.sizeOf156
  v70 := Try.zeroValue156
  t76 := Try.underlying169
  a76 := Try.isAgg169
  z76 := Try.sizeOf169
  v76 := Try.zeroValue169
  t77 := Try.underlying170
  a77 := Try.isAgg170
  z77 := Try.sizeOf170
  v77 := Try.zeroValue170 }
end Go.Proofs
namespace Go.Proofs.Ythpcpminikmcbaa.og
open Go.ChangeShapes Go.WideShapes Go.ChangeAt Go.RowKit Go.Shelf
open Go.Sort hiding Below
open vl hiding cB cFl cS cF cI cK cIt
set_option linter.unusedVariables false
set_option linter.unusedSimpArgs false
theorem Gr.grow {w w' : World} (h : Gr w w') : ∃ q os, w' = Go.Sort.grow (w.drewN q) os := by
  refine ⟨w'.drawn - w.drawn, w'.heap.extract w.heap.size w'.heap.size, ?_⟩
  obtain ⟨⟨h1, h2, h3, h4, h5⟩, hd⟩ := h
  obtain ⟨hp, tp, dr, os, ou⟩ := w
  obtain ⟨hp', tp', dr', os', ou'⟩ := w'
  simp only at h1 h2 h3 h4 h5 hd
  subst h1 h2 h3
  simp only [Go.Sort.grow, World.drewN, World.mk.injEq, and_true, true_and]
  refine ⟨?_, by omega⟩
  apply Array.ext_getElem?
  intro k
  by_cases hk : k < hp.size
  · rw [h5 k hk, Array.getElem?_append_left hk]
  · rw [Array.getElem?_append_right (by omega)]
    by_cases hk2 : k < hp'.size
    · rw [Array.getElem?_eq_getElem hk2, Array.getElem?_eq_getElem (by simp; omega)]
      simp only [Array.getElem_extract]
      congr 2
      omega
    · rw [Array.getElem?_eq_none (by omega), Array.getElem?_eq_none (by simp; omega)]
/-- a member of a row that is sorted -/
def Mb (Q : Nat → Prop) (w0 : World) : Type := { x : ByteArray × Vl × List Value // x.1.size ≤ maxLen ∧ Small x.2.1 ∧ AvC Q w0 x.2.1 x.2.2 }
instance (Q : Nat → Prop) (w0 : World) : Inhabited (Mb Q w0) := ⟨⟨(⟨#[]⟩, z0, z8), Nat.zero_le _, (by simp [vl.z0, Small, SmallI, SmallF, Vls.list, Fls.list]), OwC.av _ _ _ (fun b hb => by simp at hb) (OwC.zero w0)⟩⟩
def Mb.pr {Q : Nat → Prop} {w0 : World} (x : Mb Q w0) : ByteArray × Vl := (x.1.1, x.1.2.1)
def Mb.enc {Q : Nat → Prop} {w0 : World} (x : Mb Q w0) : List Value := .string x.1.1 :: x.1.2.2
def Mb.cf {Q : Nat → Prop} {w0 : World} (x y : Mb Q w0) : Int := ordM x.pr y.pr
theorem Mb.len {Q : Nat → Prop} {w0 : World} (x : Mb Q w0) : x.enc.length = 9 := by unfold Mb.enc; rw [List.length_cons, x.2.2.2.cells]
theorem Mb.one {Q : Nat → Prop} {w0 : World} (x : Mb Q w0) : ∀ v ∈ x.enc, v.oneCell' = true := by
  have := one9 x.1.1 (AvC.read _ _ x.2.2.2)
  unfold Mb.enc
  simpa using this
theorem Mb.swo (Q : Nat → Prop) (w0 : World) : Go.Sort.SWO (ltOf (Mb.cf (Q := Q) (w0 := w0))) where
  irrefl x := by unfold ltOf Mb.cf; rw [ordM_thn, cB_self, ordV_self]; simp [thn]
  trans x y z h1 h2 := by
    have t := Tr.ordM x.pr y.pr z.pr x.2.2.1 y.2.2.1 z.2.2.1
    have r1 := Rg.ordM x.pr y.pr x.2.2.1 y.2.2.1
    have r2 := Rg.ordM y.pr z.pr y.2.2.1 z.2.2.1
    have r3 := Rg.ordM x.pr z.pr x.2.2.1 z.2.2.1
    unfold ltOf Mb.cf at *
    unfold Tr at t
    unfold Rg at r1 r2 r3
    simp at *
    omega
  ntrans x y z h1 h2 := by
    have t := Tr.ordM x.pr y.pr z.pr x.2.2.1 y.2.2.1 z.2.2.1
    have r1 := Rg.ordM x.pr y.pr x.2.2.1 y.2.2.1
    have r2 := Rg.ordM y.pr z.pr y.2.2.1 z.2.2.1
    have r3 := Rg.ordM x.pr z.pr x.2.2.1 z.2.2.1
    unfold ltOf Mb.cf at *
    unfold Tr at t
    unfold Rg at r1 r2 r3
    simp at *
    omega
theorem Mb.agree {Q : Nat → Prop} {w0 W : World} (p : Nat) (hp : Q p) (ha : ∀ b j, b ≠ p → b < w0.heap.size → W.cell? ⟨b, j, none⟩ = w0.cell? ⟨b, j, none⟩) (x : Mb Q w0) : AvC Q W x.1.2.1 x.1.2.2 :=
  AvC.agree (fun _ _ h => h) (fun b j hl hn => ha b j (fun e => hn (e ▸ hp)) hl) _ _ x.2.2.2
theorem Mb.lays (Q : Nat → Prop) (w0 : World) (p size : Nat) (hp : Q p) : CmpLays Try.prog 69 #[] (Mb.enc (Q := Q) (w0 := w0)) 9 Mb.cf p 0 size w0 := by
  intro m os dk hdk x y
  have ha : ∀ b j, b ≠ p → b < w0.heap.size → (sortWorldK Mb.enc 9 w0 p 0 m dk os).cell? ⟨b, j, none⟩ = w0.cell? ⟨b, j, none⟩ := fun b j h1 h2 => cell?_sortWorldK_other _ _ _ _ _ _ _ _ ⟨b, j, none⟩ h1 h2
  have h1 := AvC.read _ _ (Mb.agree p hp ha x)
  have h2 := AvC.read _ _ (Mb.agree p hp ha y)
  refine (ordM_ok x.pr y.pr (order_ok _ x.2.2.1 _ y.2.2.1) x.1.2.2 y.1.2.2 _ h1 h2).mono ?_
  rintro e w' ⟨rfl, g⟩
  exact ⟨rfl, g.grow⟩
theorem row_list {Q : Nat → Prop} {w : World} {p : Nat} : ∀ (l : List (ByteArray × Vl)) (off : Nat), (∀ (i : Nat) (q : ByteArray × Vl), l[i]? = some q → ∃ cs, w.cell? ⟨p, off + i * 9, none⟩ = some (.string q.1) ∧ q.1.size ≤ maxLen ∧ Row8 w p (off + i * 9 + 1) cs ∧ AvC Q w q.2 cs) → (∀ q ∈ l, Small q.2) →
    ∃ dl : List (Mb Q w), dl.map Mb.pr = l ∧ ∀ (i : Nat) (x : Mb Q w), dl[i]? = some x → w.rangeAt p (off + i * 9) x.enc
  | [], off, _, _ => ⟨[], rfl, fun i x hx => by simp at hx⟩
  | q :: r, off, h, hs => by
    obtain ⟨cs, h0, hz, h1, h2⟩ := h 0 q rfl
    obtain ⟨dl, e, hd⟩ := row_list r (off + 9) (fun i u hu => by
      obtain ⟨ds, g0, gz, g1, g2⟩ := h (i + 1) u (by simpa using hu)
      exact ⟨ds, by rw [show off + 9 + i * 9 = off + (i + 1) * 9 by omega]; exact g0, gz, by rw [show off + 9 + i * 9 + 1 = off + (i + 1) * 9 + 1 by omega]; exact g1, g2⟩) (fun u hu => hs u (List.mem_cons_of_mem _ hu))
    obtain ⟨x0, hx0⟩ : ∃ x0 : Mb Q w, x0.1 = (q.1, q.2, cs) := ⟨⟨_, hz, hs q (List.mem_cons_self ..), h2⟩, rfl⟩
    have hpr : x0.pr = q := by unfold Mb.pr; rw [hx0]
    have hen : x0.enc = .string q.1 :: cs := by unfold Mb.enc; rw [hx0]
    refine ⟨x0 :: dl, by rw [List.map_cons, e, hpr], fun i x hx => ?_⟩
    cases i with
    | zero =>
      simp at hx
      subst hx
      rw [hen]
      have := row9 (by simpa using h1) (by simpa using h0)
      simpa using this
    | succ i =>
      have := hd i x (by simpa using hx)
      rwa [show off + (i + 1) * 9 = off + 9 + i * 9 by omega]
/-- no later one is ahead of an earlier one -/
def Srtd (l : List (ByteArray × Vl)) : Prop := ∀ (i j : Nat) (x y : ByteArray × Vl), i < j → l[i]? = some x → l[j]? = some y → ordM x y ≤ 0
theorem flat_get {Q : Nat → Prop} {w0 : World} (d : Array (Mb Q w0)) (i j : Nat) (hi : i < d.size) (hj : j < 9) : (flatK Mb.enc 9 d)[i * 9 + j]! = (Mb.enc d[i]!)[j]! := by
  rw [get_flatK _ _ _ _ (by have := Nat.mul_le_mul_right 9 (show i + 1 ≤ d.size from hi); omega), show (i * 9 + j) / 9 = i by omega, show (i * 9 + j) % 9 = j by omega]
theorem holds_of {Q : Nat → Prop} {w w0 : World} {p : Nat} (d : Array (Mb Q w0)) (hr : ∀ i, i < d.size → w.rangeAt p (i * 9) (Mb.enc d[i]!)) (ht : w.there p 0 (d.size * 9)) : HoldsK Mb.enc 9 w p 0 d := by
  intro t htl
  rw [size_flatK] at htl
  have hi : t / 9 < d.size := by omega
  refine ⟨?_, by have := (ht t htl).2; simpa using this⟩
  have hj : t % 9 < (Mb.enc d[t / 9]!).length := by rw [Mb.len]; omega
  have h1 := hr (t / 9) hi (t % 9) _ (List.getElem?_eq_getElem hj)
  rw [show t / 9 * 9 + t % 9 = t by omega] at h1
  rw [Nat.zero_add, h1, get_flatK _ _ _ _ htl]
  simp only [id]
  rw [getElem!_pos (Mb.enc d[t / 9]!) (t % 9) hj]
theorem of_holds {Q : Nat → Prop} {w w0 : World} {p : Nat} (d : Array (Mb Q w0)) (h : HoldsK Mb.enc 9 w p 0 d) (i : Nat) (hi : i < d.size) : w.rangeAt p (i * 9) (Mb.enc d[i]!) := by
  intro j u hu
  have hj : j < 9 := by have := (List.getElem?_eq_some_iff.1 hu).1; rw [Mb.len] at this; exact this
  have h1 := (h (i * 9 + j) (by rw [size_flatK]; have := Nat.mul_le_mul_right 9 (show i + 1 ≤ d.size from hi); omega)).1
  rw [Nat.zero_add, flat_get d i j hi hj] at h1
  rw [h1]
  obtain ⟨hl, e⟩ := List.getElem?_eq_some_iff.1 hu
  rw [getElem!_pos (Mb.enc d[i]!) j hl, e]
  rfl
set_option maxHeartbeats 2000000 in
theorem sortRow_ok (Q : Nat → Prop) (l : List (ByteArray × Vl)) (hsm : ∀ q ∈ l, Small q.2) (p n c : Nat) (w : World) (hn : l.length = n) (hp : p < w.heap.size) (hQ : Q p) (hrow : RowF Q w p l) (ht : w.there p 0 (n * 9)) (hb : n ≤ 1099511627776) :
    Calls Try.prog 87 #[.slice (some ⟨p, 0, none⟩) n c, .func (.func 69) #[] #[]] w fun e w' => e = .returned (.tuple #[]) ∧ ∃ l' : List (ByteArray × Vl), l'.Perm l ∧ Srtd l' ∧ RowF Q w' p l' ∧ Below p w w' ∧ w.drawn ≤ w'.drawn := by
  obtain ⟨dl, e, hd⟩ := row_list (Q := Q) (w := w) (p := p) l 0 (fun i q hq => by simpa using hrow i q hq) hsm
  have hdl : dl.length = n := by rw [← hn, ← e, List.length_map]
  have hg : ∀ i, i < dl.toArray.size → w.rangeAt p (i * 9) (Mb.enc dl.toArray[i]!) := fun i hi => by
    have hi' : i < dl.length := by simpa using hi
    have := hd i dl[i] (List.getElem?_eq_getElem hi')
    rw [Nat.zero_add] at this
    rw [getElem!_pos dl.toArray i hi]
    simpa using this
  have hH : HoldsK Mb.enc 9 w p 0 dl.toArray := holds_of dl.toArray hg (by simpa [hdl] using ht)
  have eg : ∀ args w, (callFunc 69 args).run Try.prog w = .ok (.enter 69 args) w := enters_of Try.func69 (by kernel_rfl) rfl
  have aE : ∀ w, (isAgg 69).run Try.prog w = .ok true w := fun w => by kernel_rfl
  have zE : ∀ w, (Go.sizeOf 69).run Try.prog w = .ok 9 w := fun w => by kernel_rfl
  have hcon := AnyQ.slices_SortFunc Try.sortMem 9 aE zE (Mb.enc (Q := Q) (w0 := w)) Mb.len Mb.one Mb.cf (Mb.swo Q w) 69 #[] p 0 c dl.toArray w eg (Mb.lays Q w p _ hQ) hH hp (by simp [hdl]; omega)
  rw [show (dl.toArray.size : Nat) = n by simp [hdl]] at hcon
  refine hcon.mono ?_
  rintro e' w' ⟨rfl, d', m, os, ⟨hds, -, hpm⟩, hst, rfl⟩
  have hds' : d'.size = n := by rw [hds]; simp [hdl]
  have hH' : HoldsK Mb.enc 9 (sortWorldK Mb.enc 9 w p 0 m d' os) p 0 d' := holdsK_sortWorldK_c _ _ _ _ _ _ _ _ _ hH hp hds
  have ha : ∀ b j, b ≠ p → b < w.heap.size → (sortWorldK Mb.enc 9 w p 0 m d' os).cell? ⟨b, j, none⟩ = w.cell? ⟨b, j, none⟩ := fun b j h1 h2 => cell?_sortWorldK_other _ _ _ _ _ _ _ _ ⟨b, j, none⟩ h1 h2
  refine ⟨rfl, d'.toList.map Mb.pr, ?_, ?_, ?_, ?_, ?_⟩
  · rw [← e]
    have h1 : (d'.extract 0 n).toList = d'.toList := by rw [← hds']; simp
    have h2 : (dl.toArray.extract 0 n).toList = dl := by rw [← hdl]; simp
    rw [h1, h2] at hpm
    exact hpm.map _
  · intro i j x y hij hx hy
    simp only [List.getElem?_map, Option.map_eq_some_iff] at hx hy
    obtain ⟨a, ha', rfl⟩ := hx
    obtain ⟨b, hb', rfl⟩ := hy
    obtain ⟨li, ea⟩ := List.getElem?_eq_some_iff.1 ha'
    obtain ⟨lj, eb⟩ := List.getElem?_eq_some_iff.1 hb'
    simp only [Array.length_toList] at li lj
    have := hst i j (Nat.zero_le _) hij (by omega)
    rw [getElem!_pos d' i li, getElem!_pos d' j lj] at this
    rw [← Array.getElem_toList, ← Array.getElem_toList, ea, eb] at this
    unfold ltOf Mb.cf at this
    have t := Tr.ordM a.pr b.pr a.pr a.2.2.1 b.2.2.1 a.2.2.1
    have r1 := Rg.ordM a.pr b.pr a.2.2.1 b.2.2.1
    have r2 := Rg.ordM b.pr a.pr b.2.2.1 a.2.2.1
    have sf : ordM a.pr a.pr = 0 := by rw [ordM_thn, cB_self, ordV_self]; rfl
    rw [sf] at t
    unfold Tr at t
    unfold Rg at r1 r2
    simp at this
    omega
  · intro i q hq
    simp only [List.getElem?_map, Option.map_eq_some_iff] at hq
    obtain ⟨a, ha', rfl⟩ := hq
    obtain ⟨li, ea⟩ := List.getElem?_eq_some_iff.1 ha'
    simp only [Array.length_toList] at li
    have hr := of_holds d' hH' i li
    rw [getElem!_pos d' i li, ← Array.getElem_toList, ea] at hr
    exact ⟨a.1.2.2, hr 0 _ rfl, a.2.1, fun j x hx => by have := hr (j + 1) x (by simpa [Mb.enc] using hx); rwa [show i * 9 + (j + 1) = i * 9 + 1 + j by omega] at this, Mb.agree p hQ ha a⟩
  · refine ⟨rfl, rfl, rfl, size_sortWorldK_c _ _ _ _ _ _ _ _, fun k hk => ?_⟩
    show (Go.Sort.grow _ os).heap[k]? = _
    rw [Go.Sort.heap_grow_old _ _ (by rw [size_putRowK]; show k < w.heap.size; omega)]
    simp only [putRowK, Go.Sort.putRow, Go.Sort.mapBlock]
    rw [Array.getElem?_modify, if_neg (by omega)]
    rfl
  · show w.drawn ≤ w.drawn + m
    omega
end Go.Proofs.Ythpcpminikmcbaa.og
namespace Go.Proofs.Ythpcpminikmcbaa.og
open Go.ChangeShapes Go.WideShapes Go.ChangeAt Go.RowKit Go.Shelf
open vl hiding cB cFl cS cF cI cK cIt
set_option linter.unusedVariables false
set_option linter.unusedSimpArgs false
mutual
/-- u is v with the members of all its objects in order -/
def Srt : Vl → Vl → Prop
  | .mk kd b n f tx ty its fls, u => ∃ (its' : Vls) (fls' : Fls), u = .mk kd b n f tx ty its' fls' ∧ (if kd = 5 then SrtI its its'.list ∧ fls' = fls else if kd = 6 then its' = its ∧ ∃ mid, SrtF fls mid ∧ fls'.list.Perm mid ∧ Srtd fls'.list else its' = its ∧ fls' = fls)
def SrtI : Vls → List Vl → Prop
  | .nil, l => l = []
  | .cons v r, l => ∃ v' l', l = v' :: l' ∧ Srt v v' ∧ SrtI r l'
def SrtF : Fls → List (ByteArray × Vl) → Prop
  | .nil, l => l = []
  | .cons nm v r, l => ∃ v' l', l = (nm, v') :: l' ∧ Srt v v' ∧ SrtF r l'
end
theorem SrtI.of_pw : ∀ (its : Vls) (l : List Vl), Pw Srt its.list l → SrtI its l
  | .nil, l, h => by
    unfold SrtI
    have := h.1
    simp [Vls.list] at this
    exact List.eq_nil_of_length_eq_zero this.symm
  | .cons v r, l, h => by
    unfold SrtI
    match l, h with
    | [], h => exact absurd h.1 (by simp [Vls.list])
    | v' :: l', h =>
      exact ⟨v', l', rfl, h.2 0 v v' rfl rfl, SrtI.of_pw r l' ⟨by have := h.1; simpa [Vls.list] using this, fun i x y hx hy => h.2 (i + 1) x y (by simpa [Vls.list] using hx) (by simpa using hy)⟩⟩
theorem SrtF.of_pw : ∀ (fls : Fls) (l : List (ByteArray × Vl)), Pw (fun p q => q.1 = p.1 ∧ Srt p.2 q.2) fls.list l → SrtF fls l
  | .nil, l, h => by
    unfold SrtF
    have := h.1
    simp [Fls.list] at this
    exact List.eq_nil_of_length_eq_zero this.symm
  | .cons nm v r, l, h => by
    unfold SrtF
    match l, h with
    | [], h => exact absurd h.1 (by simp [Fls.list])
    | q :: l', h =>
      obtain ⟨h1, h2⟩ := h.2 0 (nm, v) q rfl rfl
      exact ⟨q.2, l', by rw [← show q.1 = nm from h1], h2, SrtF.of_pw r l' ⟨by have := h.1; simpa [Fls.list] using this, fun i x y hx hy => h.2 (i + 1) x y (by simpa [Fls.list] using hx) (by simpa using hy)⟩⟩
theorem SmallI.of' {l : List Vl} (h : ∀ v ∈ l, Small v) : SmallI (Vls.of l) := by
  induction l with
  | nil => simp [Vls.of, SmallI]
  | cons v r ih => simp only [Vls.of, SmallI]; exact ⟨h v (List.mem_cons_self ..), ih (fun u hu => h u (List.mem_cons_of_mem _ hu))⟩
theorem SmallF.of' {l : List (ByteArray × Vl)} (h : ∀ q ∈ l, Small q.2) : SmallF (Fls.of l) := by
  induction l with
  | nil => simp [Fls.of, SmallF]
  | cons v r ih => simp only [Fls.of, SmallF]; exact ⟨h v (List.mem_cons_self ..), ih (fun u hu => h u (List.mem_cons_of_mem _ hu))⟩
mutual
theorem Srt.small : ∀ (v u : Vl), Small v → Srt v u → Small u
  | .mk kd b n f tx ty its fls, u, hs, h => by
    unfold Srt at h
    obtain ⟨its', fls', rfl, h⟩ := h
    unfold Small at hs ⊢
    obtain ⟨s1, s2, s3, s4, s5⟩ := hs
    by_cases h5 : kd = 5
    · rw [if_pos h5] at h
      obtain ⟨h1, rfl⟩ := h
      obtain ⟨l1, l2⟩ := SrtI.small its its'.list s4 h1
      exact ⟨by rw [l1]; exact s1, s2, s3, by rw [← Vls.of_list its']; exact SmallI.of' l2, s5⟩
    · rw [if_neg h5] at h
      by_cases h6 : kd = 6
      · rw [if_pos h6] at h
        obtain ⟨rfl, mid, h1, h2, -⟩ := h
        obtain ⟨l1, l2⟩ := SrtF.small fls mid s5 h1
        exact ⟨s1, by rw [h2.length_eq, l1]; exact s2, s3, s4, by rw [← Fls.of_list fls']; exact SmallF.of' (fun q hq => l2 q (h2.mem_iff.1 hq))⟩
      · rw [if_neg h6] at h
        obtain ⟨rfl, rfl⟩ := h
        exact ⟨s1, s2, s3, s4, s5⟩
theorem SrtI.small : ∀ (its : Vls) (l : List Vl), SmallI its → SrtI its l → l.length = its.list.length ∧ ∀ v ∈ l, Small v
  | .nil, l, hs, h => by unfold SrtI at h; subst h; exact ⟨rfl, by simp⟩
  | .cons v r, l, hs, h => by
    unfold SrtI at h
    obtain ⟨v', l', rfl, h1, h2⟩ := h
    unfold SmallI at hs
    obtain ⟨k1, k2⟩ := SrtI.small r l' hs.2 h2
    refine ⟨by simp [Vls.list, k1], fun u hu => ?_⟩
    rcases List.mem_cons.1 hu with rfl | hu
    · exact Srt.small v _ hs.1 h1
    · exact k2 u hu
theorem SrtF.small : ∀ (fls : Fls) (l : List (ByteArray × Vl)), SmallF fls → SrtF fls l → l.length = fls.list.length ∧ ∀ q ∈ l, Small q.2
  | .nil, l, hs, h => by unfold SrtF at h; subst h; exact ⟨rfl, by simp⟩
  | .cons nm v r, l, hs, h => by
    unfold SrtF at h
    obtain ⟨v', l', rfl, h1, h2⟩ := h
    unfold SmallF at hs
    obtain ⟨k1, k2⟩ := SrtF.small r l' hs.2 h2
    refine ⟨by simp [Fls.list, k1], fun u hu => ?_⟩
    rcases List.mem_cons.1 hu with rfl | hu
    · exact Srt.small v _ hs.1 h1
    · exact k2 u hu
end
end Go.Proofs.Ythpcpminikmcbaa.og
namespace Go.Proofs.Ythpcpminikmcbaa.og
open Go.ChangeShapes Go.WideShapes Go.ChangeAt Go.RowKit Go.Shelf
open vl hiding cB cFl cS cF cI cK cIt
set_option linter.unusedVariables false
set_option linter.unusedSimpArgs false
theorem eachV_nil (g c : Nat) (w : World) : Calls Try.prog 58 #[.slice none 0 c, .func (.func g) #[] #[]] w fun e w' => e = .returned (.slice none 0 0) ∧ w = w' := by
  have hnil : ∀ (w : World) (a : Option Addr) (n c n' c' : Nat), (binOp .eql 24 (.slice a n c) (.slice none n' c')).run Try.prog w = .ok (.bool a.isNone) w := fun w a n c n' c' => Lib.run_eql_slice_nil w _ _ a n c n' c' Try.underlying24
  go_enter Try.func58, Try.ntmps58
  go_wp2
  go_ret
  exact ⟨rfl, rfl⟩
theorem eachM_nil' (g c : Nat) (w : World) : Calls Try.prog 59 #[.slice none 0 c, .func (.func g) #[] #[]] w fun e w' => e = .returned (.slice none 0 0) ∧ w = w' := by
  have hnil : ∀ (w : World) (a : Option Addr) (n c n' c' : Nat), (binOp .eql 25 (.slice a n c) (.slice none n' c')).run Try.prog w = .ok (.bool a.isNone) w := fun w a n c n' c' => Lib.run_eql_slice_nil w _ _ a n c n' c' Try.underlying25
  go_enter Try.func59, Try.ntmps59
  go_wp2
  go_ret
  exact ⟨rfl, rfl⟩
/-- what each answers -/
def EachI (R : Vl → Vl → Prop) (its : Vls) (Q : Nat → Prop) (n : Nat) (w w' : World) (aj : Option Addr) (cj : Nat) (l : List Vl) : Prop := l.length = n ∧ Pw R its.list l ∧ n ≤ cj ∧ cj ≤ maxLen ∧ (aj = none → cj = 0) ∧ (aj = none ∧ n = 0 ∨ aj = some ⟨w.heap.size, 0, none⟩ ∧ w.heap.size < w'.heap.size ∧ w'.there w.heap.size 0 (n * 8)) ∧ RowI (fun b => Q b ∨ b = w.heap.size) w' w.heap.size l ∧ Gr w w'
def EachF (R : ByteArray × Vl → ByteArray × Vl → Prop) (its : Fls) (Q : Nat → Prop) (n : Nat) (w w' : World) (aj : Option Addr) (cj : Nat) (l : List (ByteArray × Vl)) : Prop := l.length = n ∧ Pw R its.list l ∧ n ≤ cj ∧ cj ≤ maxLen ∧ (aj = none → cj = 0) ∧ (aj = none ∧ n = 0 ∨ aj = some ⟨w.heap.size, 0, none⟩ ∧ w.heap.size < w'.heap.size ∧ w'.there w.heap.size 0 (n * 9)) ∧ RowF (fun b => Q b ∨ b = w.heap.size) w' w.heap.size l ∧ Gr w w'
theorem eachV_any (g : Nat) (en : ∀ args w, (callFunc g args).run Try.prog w = .ok (.enter g args) w) (R : Vl → Vl → Prop) (its : Vls) (ih : ∀ v ∈ its.list, FnAt g R v) (Q : Nat → Prop) (a : Option Addr) (n c : Nat) (w : World) (hQ : ∀ b, Q b → b < w.heap.size) (hI : AvI Q w its a n) (hn : n ≤ 1256584717458) (hnc : n ≤ c) (ha : a = none → c = 0) :
    Calls Try.prog 58 #[.slice a n c, .func (.func g) #[] #[]] w fun e w' => ∃ aj cj l, e = .returned (.slice aj n cj) ∧ EachI R its Q n w w' aj cj l := by
  cases a with
  | none =>
    obtain rfl : n = 0 := by have := ha rfl; omega
    have hl := VlsAt.len its _ _ (AvI.read its _ _ hI)
    refine (eachV_nil g c w).mono ?_
    rintro e w' ⟨rfl, rfl⟩
    exact ⟨none, 0, [], rfl, rfl, ⟨by simpa using hl, fun i x y hx hy => by simp at hy⟩, Nat.le_refl _, Nat.zero_le _, fun _ => rfl, .inl ⟨rfl, rfl⟩, fun i v hv => by simp at hv, Gr.refl _⟩
  | some a =>
    refine (eachV_ok g en R its ih Q a n c w hQ hI hn).mono ?_
    rintro e w' ⟨l, rfl, h1, h2, h3, h4, h5, h6⟩
    exact ⟨_, n, l, rfl, h1, h2, Nat.le_refl _, by unfold maxLen; omega, fun e => (by cases e), .inr ⟨rfl, h4, h5⟩, h3, h6⟩
theorem eachM_any' (g : Nat) (en : ∀ args w, (callFunc g args).run Try.prog w = .ok (.enter g args) w) (R : ByteArray × Vl → ByteArray × Vl → Prop) (its : Fls) (ih : ∀ v ∈ its.list, FnMAt g R v) (Q : Nat → Prop) (a : Option Addr) (n c : Nat) (w : World) (hQ : ∀ b, Q b → b < w.heap.size) (hI : AvF Q w its a n) (hn : n ≤ 1099511627776) (hnc : n ≤ c) (ha : a = none → c = 0) :
    Calls Try.prog 59 #[.slice a n c, .func (.func g) #[] #[]] w fun e w' => ∃ aj cj l, e = .returned (.slice aj n cj) ∧ EachF R its Q n w w' aj cj l := by
  cases a with
  | none =>
    obtain rfl : n = 0 := by have := ha rfl; omega
    have hl := FlsAt.len its _ _ (AvF.read its _ _ hI)
    refine (eachM_nil' g c w).mono ?_
    rintro e w' ⟨rfl, rfl⟩
    exact ⟨none, 0, [], rfl, rfl, ⟨by simpa using hl, fun i x y hx hy => by simp at hy⟩, Nat.le_refl _, Nat.zero_le _, fun _ => rfl, .inl ⟨rfl, rfl⟩, fun i v hv => by simp at hv, Gr.refl _⟩
  | some a =>
    refine (eachM_ok' g en R its ih Q a n c w hQ hI hn).mono ?_
    rintro e w' ⟨l, rfl, h1, h2, h3, h4, h5, h6⟩
    exact ⟨_, n, l, rfl, h1, h2, Nat.le_refl _, by unfold maxLen; omega, fun e => (by cases e), .inr ⟨rfl, h4, h5⟩, h3, h6⟩
theorem sortAny_ok (Q : Nat → Prop) (l : List (ByteArray × Vl)) (hsm : ∀ q ∈ l, Small q.2) (a : Option Addr) (p n c : Nat) (w : World) (hn : l.length = n) (hQ : Q p) (hrow : RowF Q w p l) (ha : a = none ∧ n = 0 ∨ a = some ⟨p, 0, none⟩ ∧ p < w.heap.size ∧ w.there p 0 (n * 9)) (hb : n ≤ 1099511627776) :
    Calls Try.prog 87 #[.slice a n c, .func (.func 69) #[] #[]] w fun e w' => e = .returned (.tuple #[]) ∧ ∃ l' : List (ByteArray × Vl), l'.Perm l ∧ Srtd l' ∧ RowF Q w' p l' ∧ Below p w w' ∧ w.drawn ≤ w'.drawn := by
  rcases ha with ⟨rfl, rfl⟩ | ⟨rfl, hp, ht⟩
  · obtain rfl := List.eq_nil_of_length_eq_zero hn
    refine (AnyF.slices_SortFunc_none Try.sortMem none c (.func (.func 69) #[] #[]) w).mono ?_
    rintro e w' ⟨rfl, rfl⟩
    exact ⟨rfl, [], List.Perm.refl _, fun i j x y _ hx => by simp at hx, fun i q hq => by simp at hq, Below.refl _ _, Nat.le_refl _⟩
  · exact sortRow_ok Q l hsm p n c w hn hp hQ hrow ht hb
end Go.Proofs.Ythpcpminikmcbaa.og
namespace Go.Proofs.Ythpcpminikmcbaa.og
open Go.ChangeShapes Go.WideShapes Go.ChangeAt Go.RowKit Go.Shelf
open vl hiding cB cFl cS cF cI cK cIt
set_option linter.unusedVariables false
set_option linter.unusedSimpArgs false
theorem AvI.agree' {Q Q' : Nat → Prop} {w W : World} {l : Vls} {a : Option Addr} {n : Nat} (h : AvI Q w l a n) (hq : ∀ b, b < w.heap.size → ¬ Q b → ¬ Q' b) (ha : ∀ b j, b < w.heap.size → ¬ Q b → W.cell? ⟨b, j, none⟩ = w.cell? ⟨b, j, none⟩) : AvI Q' W l a n := AvI.agree hq ha l a n h
theorem AvF.agree' {Q Q' : Nat → Prop} {w W : World} {l : Fls} {a : Option Addr} {n : Nat} (h : AvF Q w l a n) (hq : ∀ b, b < w.heap.size → ¬ Q b → ¬ Q' b) (ha : ∀ b j, b < w.heap.size → ¬ Q b → W.cell? ⟨b, j, none⟩ = w.cell? ⟨b, j, none⟩) : AvF Q' W l a n := AvF.agree hq ha l a n h
set_option maxHeartbeats 4000000 in
set_option maxRecDepth 6000 in
theorem sorted_plain (kd : Int) (bb : Bool) (ni : Int) (f : Nat) (tx ty : ByteArray) (its : Vls) (fls : Fls) (h5 : kd ≠ 5) (h6 : kd ≠ 6) (hsm : Small (.mk kd bb ni f tx ty its fls)) : FnAt 53 Srt (.mk kd bb ni f tx ty its fls) := by
  intro Q cs w hQ hv
  unfold Small at hsm
  obtain ⟨hl1, hl2, -, hsI, hsF⟩ := hsm
  unfold AvC at hv
  obtain ⟨ai, nI, ci, af, nf, cf, rfl, hI, hF, hni, hnf, hai, haf, hk1, hk2, hk3, hk4, hci, hcf⟩ := hv
  have hmf : ∀ (fn : Fn) (first cap : Array Value) (w : World), (Instr.makeFunc fn first cap).run Try.prog w = .ok (.func fn first cap) w := fun _ _ _ _ => rfl
  obtain ⟨W, eW⟩ : ∃ W, W = ((w.alloc (.cells #[.int .i64 kd, .bool bb, .int .i64 ni, .float .f64 f, .string tx, .string ty, .slice ai nI ci, .slice af nf cf] 27)).alloc (.cells #[.int .i64 0, .bool false, .int .i64 0, .float .f64 0, .string { data := #[] }, .string { data := #[] }, .slice none 0 0, .slice none 0 0] 27)) := ⟨_, rfl⟩
  have bW : Gr w W := by rw [eW]; exact ((Gr.refl _).alloc _).alloc _
  have hsz : w.heap.size + 1 < W.heap.size := by rw [eW]; simp
  have x0 : W.cell? ⟨w.heap.size, 0, none⟩ = some (.int .i64 kd) := by rw [eW]; simp
  have x1 : W.cell? ⟨w.heap.size, 1, none⟩ = some (.bool bb) := by rw [eW]; simp
  have x2 : W.cell? ⟨w.heap.size, 2, none⟩ = some (.int .i64 ni) := by rw [eW]; simp
  have x3 : W.cell? ⟨w.heap.size, 3, none⟩ = some (.float .f64 f) := by rw [eW]; simp
  have x4 : W.cell? ⟨w.heap.size, 4, none⟩ = some (.string tx) := by rw [eW]; simp
  have x5 : W.cell? ⟨w.heap.size, 5, none⟩ = some (.string ty) := by rw [eW]; simp
  have x6 : W.cell? ⟨w.heap.size, 6, none⟩ = some (.slice ai nI ci) := by rw [eW]; simp
  have x7 : W.cell? ⟨w.heap.size, 7, none⟩ = some (.slice af nf cf) := by rw [eW]; simp
  have xf : ∀ j, W.frozen? ⟨w.heap.size, j, none⟩ = false := by intro j; rw [eW]; simp
  have hth : W.there (w.heap.size + 1) 0 8 := by
    rw [eW]
    have h := there_new (w := w.alloc (.cells #[.int .i64 kd, .bool bb, .int .i64 ni, .float .f64 f, .string tx, .string ty, .slice ai nI ci, .slice af nf cf] 27)) (Z := #[.int .i64 0, .bool false, .int .i64 0, .float .f64 0, .string { data := #[] }, .string { data := #[] }, .slice none 0 0, .slice none 0 0]) (t := 27) (n := 8) rfl
    simpa using h
  have q5 : (kd == 5) = false := by simpa using h5
  have q6 : (kd == 6) = false := by simpa using h6
  obtain ⟨L, eL⟩ : ∃ L : List Value, L = [.int .i64 kd, .bool bb, .int .i64 ni, .float .f64 f, .string tx, .string ty, .slice ai nI ci, .slice af nf cf] := ⟨_, rfl⟩
  have hL8 : L.length = 8 := by rw [eL]; rfl
  have hrL : W.rangeAt w.heap.size 0 L := by
    intro j u hu
    rw [eL] at hu
    have hj : j < 8 := by have := (List.getElem?_eq_some_iff.1 hu).1; simpa using this
    rw [Nat.zero_add]
    rcases (by omega : j = 0 ∨ j = 1 ∨ j = 2 ∨ j = 3 ∨ j = 4 ∨ j = 5 ∨ j = 6 ∨ j = 7) with rfl | rfl | rfl | rfl | rfl | rfl | rfl | rfl
    all_goals (simp at hu; rw [← hu]; assumption)
  have iL : (Try.prog.info? 27).map (·.size) = some L.length := by rw [hL8]; exact infoV
  have iL' : (Try.prog.info? 27).map (·.size) = some L.toArray.size := by simp [hL8, infoV]
  have ho8 : L.toArray.all (·.oneCell') = true := by rw [eL]; simp [Value.oneCell']
  have hthL : W.there (w.heap.size + 1) 0 L.toArray.size := by simp only [List.size_toArray, hL8]; exact hth
  have HH := hide (And.intro hthL (And.intro hrL (And.intro iL (And.intro iL' (And.intro hL8 eL)))))
  have EW := hide eW
  clear hth hthL hrL iL iL' hL8 eL eW x0 x1 x2 x3 x4 x5 x6 x7 xf
  go_enter Try.func53, Try.ntmps53
  go_wp2_with (first
    | (rw [← unhide EW]; refine wpList_load_mid (by rfl) 27 _ (by rfl) w.heap.size 0 (by rfl) L _ (unhide HH).2.1 Try.underlying27 (by rfl) (unhide HH).2.2.1 ?_)
    | refine wpList_store_mid (by rfl) 27 _ _ (by rfl) (w.heap.size + 1) 0 L.toArray (by rfl) (by rfl) (unhide HH).1 (unhide HH).2.2.2.1 ho8 ?_)
  obtain ⟨hthL, hrL, iL, iL', hL8, eL⟩ := unhide HH
  have hr4 : (W.setCells (w.heap.size + 1) 0 L).rangeAt (w.heap.size + 1) 0 L := World.rangeAt_setCells_same _ _ _ _ (by have h := hthL; rw [List.size_toArray] at h; exact h)
  have g4 : Gr w (W.setCells (w.heap.size + 1) 0 L) := bW.setCells (Nat.le_succ _) _ _
  refine bodyPost_ret (rgn.result_row rfl _ _ (w.heap.size + 1) 0 L _ rfl hr4 Try.underlying27 rfl iL) rfl ?_
  refine ⟨.mk kd bb ni f tx ty its fls, L, rfl, ?_, ?_, g4⟩
  · unfold Srt
    exact ⟨its, fls, rfl, by rw [if_neg h5, if_neg h6]; exact ⟨rfl, rfl⟩⟩
  · unfold AvC
    exact ⟨ai, nI, ci, af, nf, cf, eL, hI.agree' (fun _ _ h => h) (fun b j hl _ => g4.1.cell (p := ⟨b, j, none⟩) hl), hF.agree' (fun _ _ h => h) (fun b j hl _ => g4.1.cell (p := ⟨b, j, none⟩) hl), hni, hnf, hai, haf, hk1, hk2, hk3, hk4, hci, hcf⟩
set_option maxHeartbeats 4000000 in
set_option maxRecDepth 6000 in
theorem sorted_list (bb : Bool) (ni : Int) (f : Nat) (tx ty : ByteArray) (its : Vls) (fls : Fls) (ih : ∀ v ∈ its.list, FnAt 53 Srt v) (hsm : Small (.mk 5 bb ni f tx ty its fls)) : FnAt 53 Srt (.mk 5 bb ni f tx ty its fls) := by
  intro Q cs w hQ hv
  unfold Small at hsm
  obtain ⟨hl1, hl2, -, hsI, hsF⟩ := hsm
  unfold AvC at hv
  obtain ⟨ai, nI, ci, af, nf, cf, rfl, hI, hF, hni, hnf, hai, haf, hk1, hk2, hk3, hk4, hci, hcf⟩ := hv
  have hmf : ∀ (fn : Fn) (first cap : Array Value) (w : World), (Instr.makeFunc fn first cap).run Try.prog w = .ok (.func fn first cap) w := fun _ _ _ _ => rfl
  obtain ⟨W, eW⟩ : ∃ W, W = ((w.alloc (.cells #[.int .i64 5, .bool bb, .int .i64 ni, .float .f64 f, .string tx, .string ty, .slice ai nI ci, .slice af nf cf] 27)).alloc (.cells #[.int .i64 0, .bool false, .int .i64 0, .float .f64 0, .string { data := #[] }, .string { data := #[] }, .slice none 0 0, .slice none 0 0] 27)) := ⟨_, rfl⟩
  have bW : Gr w W := by rw [eW]; exact ((Gr.refl _).alloc _).alloc _
  have hsz : w.heap.size + 1 < W.heap.size := by rw [eW]; simp
  have x0 : W.cell? ⟨w.heap.size, 0, none⟩ = some (.int .i64 5) := by rw [eW]; simp
  have x1 : W.cell? ⟨w.heap.size, 1, none⟩ = some (.bool bb) := by rw [eW]; simp
  have x2 : W.cell? ⟨w.heap.size, 2, none⟩ = some (.int .i64 ni) := by rw [eW]; simp
  have x3 : W.cell? ⟨w.heap.size, 3, none⟩ = some (.float .f64 f) := by rw [eW]; simp
  have x4 : W.cell? ⟨w.heap.size, 4, none⟩ = some (.string tx) := by rw [eW]; simp
  have x5 : W.cell? ⟨w.heap.size, 5, none⟩ = some (.string ty) := by rw [eW]; simp
  have x6 : W.cell? ⟨w.heap.size, 6, none⟩ = some (.slice ai nI ci) := by rw [eW]; simp
  have x7 : W.cell? ⟨w.heap.size, 7, none⟩ = some (.slice af nf cf) := by rw [eW]; simp
  have xf : ∀ j, W.frozen? ⟨w.heap.size, j, none⟩ = false := by intro j; rw [eW]; simp
  have hth : W.there (w.heap.size + 1) 0 8 := by
    rw [eW]
    have h := there_new (w := w.alloc (.cells #[.int .i64 5, .bool bb, .int .i64 ni, .float .f64 f, .string tx, .string ty, .slice ai nI ci, .slice af nf cf] 27)) (Z := #[.int .i64 0, .bool false, .int .i64 0, .float .f64 0, .string { data := #[] }, .string { data := #[] }, .slice none 0 0, .slice none 0 0]) (t := 27) (n := 8) rfl
    simpa using h
  have en : ∀ args w, (callFunc 53 args).run Try.prog w = .ok (.enter 53 args) w := fun _ _ => rfl
  have hQ' : ∀ b, (Q b ∨ b = w.heap.size ∨ b = w.heap.size + 1) → b < W.heap.size := fun b hb => by
    rcases hb with h | h | h
    · exact gr_lt bW (hQ b h)
    · omega
    · omega
  have hI' : AvI (fun b => Q b ∨ b = w.heap.size ∨ b = w.heap.size + 1) W its ai nI := hI.agree' (fun b hl hn e => by rcases e with e | e | e; exact hn e; omega; omega) (fun b j hl _ => bW.1.cell (p := ⟨b, j, none⟩) hl)
  have HC := hide (eachV_any 53 en Srt its ih _ ai nI ci W hQ' hI' (by rw [← VlsAt.len its _ _ (AvI.read its _ _ hI)]; exact hl1) hni hai)
  have EW := hide eW
  clear eW en hI'
  go_enter Try.func53, Try.ntmps53
  go_wp2_with fail
  rw [← unhide EW]
  clear EW
  refine (unhide HC).mono ?_
  rintro e w1 ⟨aj, cj, l, rfl, hll, hPw, q1, q3, q2, hor, hrw, g1⟩
  have hl : w.heap.size < W.heap.size := by omega
  have y0 := keepC g1.1 hl x0
  have y1 := keepC g1.1 hl x1
  have y2 := keepC g1.1 hl x2
  have y3 := keepC g1.1 hl x3
  have y4 := keepC g1.1 hl x4
  have y5 := keepC g1.1 hl x5
  have y6 := keepC g1.1 hl x6
  have y7 := keepC g1.1 hl x7
  have yf : ∀ j, w1.frozen? ⟨w.heap.size, j, none⟩ = false := fun j => (g1.1.frozen (p := ⟨w.heap.size, j, none⟩) hl).trans (xf j)
  have hth1 := there_below hth g1.1 hsz
  obtain ⟨L, eL⟩ : ∃ L : List Value, L = [.int .i64 5, .bool bb, .int .i64 ni, .float .f64 f, .string tx, .string ty, .slice aj nI cj, .slice af nf cf] := ⟨_, rfl⟩
  have hL8 : L.length = 8 := by rw [eL]; rfl
  have hrL : (w1.setCell ⟨w.heap.size, 6, none⟩ (.slice aj nI cj)).rangeAt w.heap.size 0 L := by
    intro j u hu
    rw [eL] at hu
    have hj : j < 8 := by have := (List.getElem?_eq_some_iff.1 hu).1; simpa using this
    rw [Nat.zero_add]
    rcases (by omega : j = 0 ∨ j = 1 ∨ j = 2 ∨ j = 3 ∨ j = 4 ∨ j = 5 ∨ j = 6 ∨ j = 7) with rfl | rfl | rfl | rfl | rfl | rfl | rfl | rfl
    · simp at hu; rw [← hu, World.cell?_setCell_other _ _ _ _ (by simp)]; exact y0
    · simp at hu; rw [← hu, World.cell?_setCell_other _ _ _ _ (by simp)]; exact y1
    · simp at hu; rw [← hu, World.cell?_setCell_other _ _ _ _ (by simp)]; exact y2
    · simp at hu; rw [← hu, World.cell?_setCell_other _ _ _ _ (by simp)]; exact y3
    · simp at hu; rw [← hu, World.cell?_setCell_other _ _ _ _ (by simp)]; exact y4
    · simp at hu; rw [← hu, World.cell?_setCell_other _ _ _ _ (by simp)]; exact y5
    · simp at hu; rw [← hu]; exact World.cell?_setCell_same _ _ _ y6
    · simp at hu; rw [← hu, World.cell?_setCell_other _ _ _ _ (by simp)]; exact y7
  have hthL : (w1.setCell ⟨w.heap.size, 6, none⟩ (.slice aj nI cj)).there (w.heap.size + 1) 0 L.toArray.size := by
    simp only [List.size_toArray, hL8]
    exact World.there_setCells hth1 w.heap.size 6 [.slice aj nI cj]
  have iL : (Try.prog.info? 27).map (·.size) = some L.length := by rw [hL8]; exact infoV
  have iL' : (Try.prog.info? 27).map (·.size) = some L.toArray.size := by simp [hL8, infoV]
  have ho8 : L.toArray.all (·.oneCell') = true := by rw [eL]; simp [Value.oneCell']
  have HH := hide (And.intro hthL (And.intro hrL (And.intro iL (And.intro iL' (And.intro hL8 eL)))))
  have HOR := hide hor
  have HR := hide hrw
  have HP := hide hPw
  clear hth hthL hrL iL iL' hL8 eL x0 x1 x2 x3 x4 x5 x6 x7 xf hor hrw hPw y0 y1 y2 y3 y4 y5 y7
  go_wp2_with (first
    | refine wpList_load_mid (by rfl) 27 _ (by rfl) w.heap.size 0 (by rfl) L _ (unhide HH).2.1 Try.underlying27 (by rfl) (unhide HH).2.2.1 ?_
    | refine wpList_store_mid (by rfl) 27 _ _ (by rfl) (w.heap.size + 1) 0 L.toArray (by rfl) (by rfl) (unhide HH).1 (unhide HH).2.2.2.1 ho8 ?_)
  obtain ⟨hthL, hrL, iL, iL', hL8, eL⟩ := unhide HH
  obtain ⟨w4, e4⟩ : ∃ w4, w4 = ((w1.setCells w.heap.size 6 [.slice aj nI cj]).setCells (w.heap.size + 1) 0 L) := ⟨_, rfl⟩
  have hr4 : w4.rangeAt (w.heap.size + 1) 0 L := by rw [e4]; exact World.rangeAt_setCells_same _ _ _ _ (by have h := hthL; rw [List.size_toArray] at h; exact h)
  have g4 : Gr w w4 := by rw [e4]; exact ((bW.trans g1).setCells (Nat.le_refl _) _ _).setCells (Nat.le_succ _) _ _
  have c4 : ∀ b j, b ≠ w.heap.size → b ≠ w.heap.size + 1 → w4.cell? ⟨b, j, none⟩ = w1.cell? ⟨b, j, none⟩ := fun b j h1 h2 => by
    rw [e4, World.cell?_setCells_out _ _ _ _ _ (fun e _ => absurd (show b = w.heap.size + 1 from e) h2), World.cell?_setCells_out _ _ _ _ _ (fun e _ => absurd (show b = w.heap.size from e) h1)]
  refine bodyPost_ret (rgn.result_row rfl _ _ (w.heap.size + 1) 0 L _ rfl (show (((w1.setCell ⟨w.heap.size, 6, none⟩ (.slice aj nI cj)).setCells (w.heap.size + 1) 0 L)).rangeAt (w.heap.size + 1) 0 L by rw [e4] at hr4; exact hr4) Try.underlying27 rfl iL) rfl ?_
  refine ⟨.mk 5 bb ni f tx ty (Vls.of l) fls, L, rfl, ?_, ?_, by rw [e4] at g4; exact g4⟩
  · unfold Srt
    exact ⟨_, fls, rfl, by rw [if_pos rfl, Vls.list_of]; exact ⟨SrtI.of_pw its l (unhide HP), rfl⟩⟩
  · show AvC Q ((w1.setCells w.heap.size 6 [.slice aj nI cj]).setCells (w.heap.size + 1) 0 L) _ L
    rw [← e4]
    have hIt : AvI Q w4 (Vls.of l) aj nI := by
      rcases unhide HOR with ⟨rfl, rfl⟩ | ⟨rfl, hp1, -⟩
      · obtain rfl := List.eq_nil_of_length_eq_zero hll
        simp only [Vls.of]
        unfold AvI
        rfl
      · have hnq : ¬ Q W.heap.size := fun h => by have := hQ _ h; omega
        have := AvI.mk (w := w4) hnq l 0 (fun i u hu => by
          obtain ⟨us, r1, r2⟩ := unhide HR i u hu
          refine ⟨us, fun j x hx => (c4 _ _ (by omega) (by omega)).trans (by have := r1 j x hx; rwa [show 0 + i * 8 + j = i * 8 + j by omega]), AvC.agree (fun b _ hn e => hn (.inl (.inl e))) (fun b j _ hn => c4 b j (fun e => hn (.inl (.inr (.inl e)))) (fun e => hn (.inl (.inr (.inr e))))) u us r2⟩)
        rw [hll] at this
        exact this
    unfold AvC
    exact ⟨aj, nI, cj, af, nf, cf, eL, hIt, hF.agree' (fun _ _ h => h) (fun b j hl _ => g4.1.cell (p := ⟨b, j, none⟩) hl), q1, hnf, q2, haf, hk1, hk2, hk3, hk4, q3, hcf⟩
set_option maxHeartbeats 4000000 in
set_option maxRecDepth 6000 in
theorem sorted_obj (bb : Bool) (ni : Int) (f : Nat) (tx ty : ByteArray) (its : Vls) (fls : Fls) (ih : ∀ q ∈ fls.list, FnAt 53 Srt q.2) (hsm : Small (.mk 6 bb ni f tx ty its fls)) : FnAt 53 Srt (.mk 6 bb ni f tx ty its fls) := by
  intro Q cs w hQ hv
  unfold Small at hsm
  obtain ⟨hl1, hl2, -, hsI, hsF⟩ := hsm
  unfold AvC at hv
  obtain ⟨ai, nI, ci, af, nf, cf, rfl, hI, hF, hni, hnf, hai, haf, hk1, hk2, hk3, hk4, hci, hcf⟩ := hv
  have hmf : ∀ (fn : Fn) (first cap : Array Value) (w : World), (Instr.makeFunc fn first cap).run Try.prog w = .ok (.func fn first cap) w := fun _ _ _ _ => rfl
  obtain ⟨W, eW⟩ : ∃ W, W = ((w.alloc (.cells #[.int .i64 6, .bool bb, .int .i64 ni, .float .f64 f, .string tx, .string ty, .slice ai nI ci, .slice af nf cf] 27)).alloc (.cells #[.int .i64 0, .bool false, .int .i64 0, .float .f64 0, .string { data := #[] }, .string { data := #[] }, .slice none 0 0, .slice none 0 0] 27)) := ⟨_, rfl⟩
  have bW : Gr w W := by rw [eW]; exact ((Gr.refl _).alloc _).alloc _
  have hsz : w.heap.size + 1 < W.heap.size := by rw [eW]; simp
  have x0 : W.cell? ⟨w.heap.size, 0, none⟩ = some (.int .i64 6) := by rw [eW]; simp
  have x1 : W.cell? ⟨w.heap.size, 1, none⟩ = some (.bool bb) := by rw [eW]; simp
  have x2 : W.cell? ⟨w.heap.size, 2, none⟩ = some (.int .i64 ni) := by rw [eW]; simp
  have x3 : W.cell? ⟨w.heap.size, 3, none⟩ = some (.float .f64 f) := by rw [eW]; simp
  have x4 : W.cell? ⟨w.heap.size, 4, none⟩ = some (.string tx) := by rw [eW]; simp
  have x5 : W.cell? ⟨w.heap.size, 5, none⟩ = some (.string ty) := by rw [eW]; simp
  have x6 : W.cell? ⟨w.heap.size, 6, none⟩ = some (.slice ai nI ci) := by rw [eW]; simp
  have x7 : W.cell? ⟨w.heap.size, 7, none⟩ = some (.slice af nf cf) := by rw [eW]; simp
  have xf : ∀ j, W.frozen? ⟨w.heap.size, j, none⟩ = false := by intro j; rw [eW]; simp
  have hth : W.there (w.heap.size + 1) 0 8 := by
    rw [eW]
    have h := there_new (w := w.alloc (.cells #[.int .i64 6, .bool bb, .int .i64 ni, .float .f64 f, .string tx, .string ty, .slice ai nI ci, .slice af nf cf] 27)) (Z := #[.int .i64 0, .bool false, .int .i64 0, .float .f64 0, .string { data := #[] }, .string { data := #[] }, .slice none 0 0, .slice none 0 0]) (t := 27) (n := 8) rfl
    simpa using h
  have en : ∀ args w, (callFunc 86 args).run Try.prog w = .ok (.enter 86 args) w := fun _ _ => rfl
  have hQ' : ∀ b, (Q b ∨ b = w.heap.size ∨ b = w.heap.size + 1) → b < W.heap.size := fun b hb => by
    rcases hb with h | h | h
    · exact gr_lt bW (hQ b h)
    · omega
    · omega
  have hF' : AvF (fun b => Q b ∨ b = w.heap.size ∨ b = w.heap.size + 1) W fls af nf := hF.agree' (fun b hl hn e => by rcases e with e | e | e; exact hn e; omega; omega) (fun b j hl _ => bW.1.cell (p := ⟨b, j, none⟩) hl)
  have bnf : nf ≤ 1099511627776 := by rw [← FlsAt.len fls _ _ (AvF.read fls _ _ hF)]; exact hl2
  have HC := hide (eachM_any' 86 en (fun p q => q.1 = p.1 ∧ Srt p.2 q.2) fls (fun q hq => sortM_ok Srt q (ih q hq)) _ af nf cf W hQ' hF' bnf hnf haf)
  have EW := hide eW
  clear eW en hF'
  go_enter Try.func53, Try.ntmps53
  go_wp2_with fail
  rw [← unhide EW]
  clear EW
  refine (unhide HC).mono ?_
  rintro e w1 ⟨aj, cj, l, rfl, hll, hPw, q1, q3, q2, hor, hrw, g1⟩
  have hl : w.heap.size < W.heap.size := by omega
  have y0 := keepC g1.1 hl x0
  have y1 := keepC g1.1 hl x1
  have y2 := keepC g1.1 hl x2
  have y3 := keepC g1.1 hl x3
  have y4 := keepC g1.1 hl x4
  have y5 := keepC g1.1 hl x5
  have y6 := keepC g1.1 hl x6
  have y7 := keepC g1.1 hl x7
  have yf : ∀ j, w1.frozen? ⟨w.heap.size, j, none⟩ = false := fun j => (g1.1.frozen (p := ⟨w.heap.size, j, none⟩) hl).trans (xf j)
  have hth1 := there_below hth g1.1 hsz
  obtain ⟨L, eL⟩ : ∃ L : List Value, L = [.int .i64 6, .bool bb, .int .i64 ni, .float .f64 f, .string tx, .string ty, .slice ai nI ci, .slice aj nf cj] := ⟨_, rfl⟩
  have hL8 : L.length = 8 := by rw [eL]; rfl
  have hrL : (w1.setCell ⟨w.heap.size, 7, none⟩ (.slice aj nf cj)).rangeAt w.heap.size 0 L := by
    intro j u hu
    rw [eL] at hu
    have hj : j < 8 := by have := (List.getElem?_eq_some_iff.1 hu).1; simpa using this
    rw [Nat.zero_add]
    rcases (by omega : j = 0 ∨ j = 1 ∨ j = 2 ∨ j = 3 ∨ j = 4 ∨ j = 5 ∨ j = 6 ∨ j = 7) with rfl | rfl | rfl | rfl | rfl | rfl | rfl | rfl
    · simp at hu; rw [← hu, World.cell?_setCell_other _ _ _ _ (by simp)]; exact y0
    · simp at hu; rw [← hu, World.cell?_setCell_other _ _ _ _ (by simp)]; exact y1
    · simp at hu; rw [← hu, World.cell?_setCell_other _ _ _ _ (by simp)]; exact y2
    · simp at hu; rw [← hu, World.cell?_setCell_other _ _ _ _ (by simp)]; exact y3
    · simp at hu; rw [← hu, World.cell?_setCell_other _ _ _ _ (by simp)]; exact y4
    · simp at hu; rw [← hu, World.cell?_setCell_other _ _ _ _ (by simp)]; exact y5
    · simp at hu; rw [← hu, World.cell?_setCell_other _ _ _ _ (by simp)]; exact y6
    · simp at hu; rw [← hu]; exact World.cell?_setCell_same _ _ _ y7
  have hth2 : (w1.setCell ⟨w.heap.size, 7, none⟩ (.slice aj nf cj)).there (w.heap.size + 1) 0 8 := World.there_setCells hth1 w.heap.size 7 [.slice aj nf cj]
  have hsF' := SrtF.small fls l hsF (SrtF.of_pw fls l hPw)
  obtain ⟨w2, e2⟩ : ∃ w2, w2 = w1.setCell ⟨w.heap.size, 7, none⟩ (.slice aj nf cj) := ⟨_, rfl⟩
  have E2 : w2 = w1.setCells w.heap.size 7 [.slice aj nf cj] := e2
  have s2 : w2.heap.size = w1.heap.size := by rw [E2]; exact size_setCells _ _ _ _
  have g2 : Gr w w2 := by rw [E2]; exact (bW.trans g1).setCells (Nat.le_refl _) _ _
  have z7 : w2.cell? ⟨w.heap.size, 7, none⟩ = some (.slice aj nf cj) := by rw [e2]; exact World.cell?_setCell_same _ _ _ y7
  rw [← e2] at hrL hth2
  have c2 : ∀ b j, b ≠ w.heap.size → w2.cell? ⟨b, j, none⟩ = w1.cell? ⟨b, j, none⟩ := fun b j h1 => by
    rw [E2, World.cell?_setCells_out _ _ _ _ _ (fun e _ => absurd (show b = w.heap.size from e) h1)]
  have hrow2 : RowF (fun b => (Q b ∨ b = w.heap.size ∨ b = w.heap.size + 1) ∨ b = W.heap.size) w2 W.heap.size l := fun i u hu => by
    obtain ⟨us, r0, rz, r1, r2⟩ := hrw i u hu
    exact ⟨us, (c2 _ _ (by omega)).trans r0, rz, fun j x hx => (c2 _ _ (by omega)).trans (r1 j x hx), AvC.agree (fun _ _ h => h) (fun b j _ hn => c2 b j (fun e => hn (.inl (.inr (.inl e))))) u.2 us r2⟩
  have hor2 : aj = none ∧ nf = 0 ∨ aj = some ⟨W.heap.size, 0, none⟩ ∧ W.heap.size < w2.heap.size ∧ w2.there W.heap.size 0 (nf * 9) := hor.imp id (fun h => ⟨h.1, by rw [s2]; exact h.2.1, by rw [E2]; exact World.there_setCells h.2.2 _ _ _⟩)
  have HS := hide (sortAny_ok _ l hsF'.2 aj W.heap.size nf cj w2 hll (.inr rfl) hrow2 hor2 bnf)
  have E2' := hide e2
  have HP := hide hPw
  have HOR := hide hor
  have HRL := hide hrL
  have HTH := hide hth2
  clear e2 E2 hPw hor hrw hrow2 hor2 hrL hth2 x0 x1 x2 x3 x4 x5 x6 x7 xf hth y0 y1 y2 y3 y4 y5 y6 HC
  go_wp2_with fail
  rw [← unhide E2']
  clear E2'
  refine (unhide HS).mono ?_
  rintro e w3 ⟨rfl, l', hpm, hst, hrow3, b3, d3⟩
  have hrL3 : w3.rangeAt w.heap.size 0 L := fun j u hu => (b3.cell (p := ⟨w.heap.size, 0 + j, none⟩) hl).trans (unhide HRL j u hu)
  have hthL : w3.there (w.heap.size + 1) 0 L.toArray.size := by simp only [List.size_toArray, hL8]; exact there_below (unhide HTH) b3 hsz
  have g3 : Gr w w3 := ⟨g2.1.trans (b3.mono bW.1.size), Nat.le_trans g2.2 d3⟩
  have iL : (Try.prog.info? 27).map (·.size) = some L.length := by rw [hL8]; exact infoV
  have iL' : (Try.prog.info? 27).map (·.size) = some L.toArray.size := by simp [hL8, infoV]
  have ho8 : L.toArray.all (·.oneCell') = true := by rw [eL]; simp [Value.oneCell']
  have HH := hide (And.intro hthL (And.intro hrL3 (And.intro iL (And.intro iL' (And.intro hL8 eL)))))
  have HR3 := hide hrow3
  have HPM := hide (And.intro hpm hst)
  clear hthL hrL3 iL iL' hL8 eL hrow3 hpm hst HS yf y7 z7
  go_wp2_with (first
    | refine wpList_load_mid (by rfl) 27 _ (by rfl) w.heap.size 0 (by rfl) L _ (unhide HH).2.1 Try.underlying27 (by rfl) (unhide HH).2.2.1 ?_
    | refine wpList_store_mid (by rfl) 27 _ _ (by rfl) (w.heap.size + 1) 0 L.toArray (by rfl) (by rfl) (unhide HH).1 (unhide HH).2.2.2.1 ho8 ?_)
  obtain ⟨hthL, hrL, iL, iL', hL8, eL⟩ := unhide HH
  obtain ⟨hpm, hst⟩ := unhide HPM
  have hr4 : (w3.setCells (w.heap.size + 1) 0 L).rangeAt (w.heap.size + 1) 0 L := World.rangeAt_setCells_same _ _ _ _ (by have h := hthL; rw [List.size_toArray] at h; exact h)
  have g4 : Gr w (w3.setCells (w.heap.size + 1) 0 L) := g3.setCells (Nat.le_succ _) _ _
  have c4 : ∀ b j, b ≠ w.heap.size + 1 → (w3.setCells (w.heap.size + 1) 0 L).cell? ⟨b, j, none⟩ = w3.cell? ⟨b, j, none⟩ := fun b j h2 => World.cell?_setCells_out _ _ _ _ _ (fun e _ => absurd (show b = w.heap.size + 1 from e) h2)
  refine bodyPost_ret (rgn.result_row rfl _ _ (w.heap.size + 1) 0 L _ rfl hr4 Try.underlying27 rfl iL) rfl ?_
  refine ⟨.mk 6 bb ni f tx ty its (Fls.of l'), L, rfl, ?_, ?_, g4⟩
  · unfold Srt
    exact ⟨its, _, rfl, by rw [if_neg (by omega), if_pos rfl, Fls.list_of]; exact ⟨rfl, l, SrtF.of_pw fls l (unhide HP), hpm, hst⟩⟩
  · have hFt : AvF Q (w3.setCells (w.heap.size + 1) 0 L) (Fls.of l') aj nf := by
      have hl' : l'.length = nf := by rw [hpm.length_eq, hll]
      rcases unhide HOR with ⟨rfl, rfl⟩ | ⟨rfl, hp1, -⟩
      · obtain rfl := List.eq_nil_of_length_eq_zero hl'
        simp only [Fls.of]
        unfold AvF
        rfl
      · have hnq : ¬ Q W.heap.size := fun h => by have := hQ _ h; omega
        have := AvF.mk (w := w3.setCells (w.heap.size + 1) 0 L) hnq l' 0 (fun i u hu => by
          obtain ⟨us, r0, rz, r1, r2⟩ := unhide HR3 i u hu
          refine ⟨us, (c4 _ _ (by omega)).trans (by rw [Nat.zero_add]; exact r0), rz, fun j x hx => (c4 _ _ (by omega)).trans (by have := r1 j x hx; rwa [show 0 + i * 9 + 1 + j = i * 9 + 1 + j by omega]), AvC.agree (fun b _ hn e => hn (.inl (.inl e))) (fun b j _ hn => c4 b j (fun e => hn (.inl (.inr (.inr e))))) u.2 us r2⟩)
        rw [hl'] at this
        exact this
    unfold AvC
    exact ⟨ai, nI, ci, aj, nf, cj, eL, hI.agree' (fun _ _ h => h) (fun b j hl _ => g4.1.cell (p := ⟨b, j, none⟩) hl), hFt, hni, q1, hai, q2, hk1, hk2, hk3, hk4, hci, q3⟩
theorem sorted_ok : ∀ v : Vl, Small v → FnAt 53 Srt v := by
  refine Vl.all ?_
  intro kd b n f tx ty its fls hI hF hsm
  have hs := hsm
  unfold Small at hs
  obtain ⟨-, -, -, hsI, hsF⟩ := hs
  by_cases h5 : kd = 5
  · subst h5; exact sorted_list _ _ _ _ _ _ _ (fun v hv => hI v hv (hsI.all v hv)) hsm
  · by_cases h6 : kd = 6
    · subst h6; exact sorted_obj _ _ _ _ _ _ _ (fun q hq => hF q hq (hsF.all q hq)) hsm
    · exact sorted_plain _ _ _ _ _ _ _ _ h5 h6 hsm
end Go.Proofs.Ythpcpminikmcbaa.og
