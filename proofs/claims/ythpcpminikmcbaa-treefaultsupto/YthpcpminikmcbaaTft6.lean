import Derived.Test.YthpcpminikmcbaaTft3
import Derived.Test.YthpcpminikmcbaaTft5
import Derived.Shelf.SlSortCmp.NoneTotal
import Derived.Test.YthpcpminikmcbaaProg
namespace Go.Proofs.Ythpcpminikmcbaa.og
open Go.ChangeShapes Go.WideShapes Go.ChangeAt Go.RowKit
open vl hiding cB cFl cS cF cI cK cIt
open stp (St Pth c3 c3_lt c3_gt c3_eq cS lexS)
set_option linter.unusedVariables false
set_option linter.unusedSimpArgs false
def posC (p : Int × Int) : List Value := [.int .i64 p.1, .int .i64 p.2]
/-- a list of places, to be read -/
structure PosAt (w : World) (a : Option Addr) (n : Nat) (ps : List (Int × Int)) : Prop where
  len : ps.length = n
  at_ : n = 0 ∨ ∃ b off, a = some ⟨b, off, none⟩ ∧ b < w.heap.size ∧ ∀ (i : Nat) (p : Int × Int), ps[i]? = some p → w.rangeAt b (off + i * 2) (posC p)
theorem PosAt.below {w w' : World} {a : Option Addr} {n : Nat} {ps : List (Int × Int)} (h : PosAt w a n ps) (hb : Below w.heap.size w w') : PosAt w' a n ps := by
  refine ⟨h.len, ?_⟩
  rcases h.at_ with h0 | ⟨b, off, ha, hlt, hc⟩
  · exact .inl h0
  · exact .inr ⟨b, off, ha, Nat.lt_of_lt_of_le hlt hb.size, fun i p hp j u hu => (hb.cell (p := ⟨b, off + i * 2 + j, none⟩) hlt).trans (hc i p hp j u hu)⟩
def cP (p q : Int × Int) : Int := thn (c3 p.1 q.1) (c3 p.2 q.2)
theorem orH_thn (x y : Int) : orH x y = thn x y := rfl
set_option maxHeartbeats 4000000 in
set_option maxRecDepth 100000 in
theorem placesG (p q : Int × Int) (w : World) : Calls Try.prog 77 #[.agg (posC p).toArray, .agg (posC q).toArray] w fun e w' => e = .returned (.int .i64 (cP p q)) ∧ Gr w w' := by
  obtain ⟨x1, y1⟩ := p
  obtain ⟨x2, y2⟩ := q
  unfold cP posC
  simp only
  have EO := vl.hide (orH_thn (c3 x1 x2) (c3 y1 y2))
  have CA := vl.hide (int_cmpE x1 x2)
  have CB := vl.hide (int_cmpE y1 y2)
  generalize thn (c3 x1 x2) (c3 y1 y2) = R at *
  generalize c3 x1 x2 = A at *
  generalize c3 y1 y2 = B at *
  go_enter Try.func77, Try.ntmps77
  go_wp2_with fail
  obtain ⟨W, eW⟩ : ∃ W, W = (w.alloc (.cells #[Value.int IntKind.i64 x1, Value.int IntKind.i64 y1] 52)).alloc (.cells #[Value.int IntKind.i64 x2, Value.int IntKind.i64 y2] 52) := ⟨_, rfl⟩
  have gW : Gr w W := by rw [eW]; exact ((Gr.refl _).alloc _).alloc _
  have sW : W.heap.size = w.heap.size + 2 := by rw [eW]; simp
  have b1 : Below (w.heap.size + 1) (w.alloc (.cells #[Value.int IntKind.i64 x1, Value.int IntKind.i64 y1] 52)) W := by rw [eW]; exact (Below.refl _ _).alloc (by simp) _
  have x0 : W.cell? ⟨w.heap.size, 0, none⟩ = some (.int .i64 x1) := (b1.cell (p := ⟨w.heap.size, 0, none⟩) (Nat.lt_succ_self _)).trans (by rw [World.cell?_alloc_at _ _ _ _ rfl]; rfl)
  have x0' : W.cell? ⟨w.heap.size, 1, none⟩ = some (.int .i64 y1) := (b1.cell (p := ⟨w.heap.size, 1, none⟩) (Nat.lt_succ_self _)).trans (by rw [World.cell?_alloc_at _ _ _ _ rfl]; rfl)
  have z0 : W.cell? ⟨w.heap.size + 1, 0, none⟩ = some (.int .i64 x2) := by rw [eW, World.cell?_alloc_at _ _ _ _ (by simp)]; rfl
  have z0' : W.cell? ⟨w.heap.size + 1, 1, none⟩ = some (.int .i64 y2) := by rw [eW, World.cell?_alloc_at _ _ _ _ (by simp)]; rfl
  have lx : w.heap.size < W.heap.size := by omega
  have ly : w.heap.size + 1 < W.heap.size := by omega
  rw [← eW]
  clear eW b1 sW
  have hS0 : Gr W { W with drawn := W.drawn + 1 } := (Gr.refl _).drew
  refine wp_region_noPanic ?_
  refine wp_region_held (S := fun w' => Gr W w') mixed ?_
  refine wpAnyH_take (i := 0) (v := ?v1) rfl (by kernel_rfl) (by kernel_rfl) (by kernel_rfl) (fun _ _ _ h => h) (Or.inl ⟨by rfl, ?hy1⟩) hS0 ?_
  case hy1 => (intro w' hw'; have c5 := keepC hw'.1 lx x0; have d5 := keepC hw'.1 ly z0; go_simp; try with_reducible rfl)
  simp only [List.getElem_toArray, List.getElem_cons_zero, List.getElem_cons_succ, Act.put, List.setIfInBounds_toArray, List.set_cons_zero, List.set_cons_succ]
  refine wpAnyH_take (i := 1) (v := ?v2) rfl (by kernel_rfl) (by kernel_rfl) (by kernel_rfl) (fun _ _ _ h => h) (Or.inl ⟨by rfl, ?hy2⟩) hS0 ?_
  case hy2 => (intro w' hw'; have c5 := keepC hw'.1 lx x0; have d5 := keepC hw'.1 ly z0; go_simp; try with_reducible rfl)
  simp only [List.getElem_toArray, List.getElem_cons_zero, List.getElem_cons_succ, Act.put, List.setIfInBounds_toArray, List.set_cons_zero, List.set_cons_succ]
  refine wpAnyH_take (i := 2) (v := ?v3) rfl (by kernel_rfl) (by kernel_rfl) (by kernel_rfl) (fun _ _ _ h => h) (Or.inl ⟨by rfl, ?hy3⟩) hS0 ?_
  case hy3 => (intro w' hw'; have c5 := keepC hw'.1 lx x0; have d5 := keepC hw'.1 ly z0; go_simp; try with_reducible rfl)
  simp only [List.getElem_toArray, List.getElem_cons_zero, List.getElem_cons_succ, Act.put, List.setIfInBounds_toArray, List.set_cons_zero, List.set_cons_succ]
  refine wpAnyH_take (i := 3) (v := ?v4) rfl (by kernel_rfl) (by kernel_rfl) (by kernel_rfl) (fun _ _ _ h => h) (Or.inl ⟨by rfl, ?hy4⟩) hS0 ?_
  case hy4 => (intro w' hw'; have c5 := keepC hw'.1 lx x0; have d5 := keepC hw'.1 ly z0; go_simp; try with_reducible rfl)
  simp only [List.getElem_toArray, List.getElem_cons_zero, List.getElem_cons_succ, Act.put, List.setIfInBounds_toArray, List.set_cons_zero, List.set_cons_succ]
  refine wpAnyH_take (i := 5) (v := ?v5) rfl (by kernel_rfl) (by kernel_rfl) (by kernel_rfl) (fun _ _ _ h => h) (Or.inl ⟨by rfl, ?hy5⟩) hS0 ?_
  case hy5 => (intro w' hw'; have c4 := keepC hw'.1 lx x0'; have d4 := keepC hw'.1 ly z0'; go_simp; try with_reducible rfl)
  simp only [List.getElem_toArray, List.getElem_cons_zero, List.getElem_cons_succ, Act.put, List.setIfInBounds_toArray, List.set_cons_zero, List.set_cons_succ]
  refine wpAnyH_take (i := 6) (v := ?v6) rfl (by kernel_rfl) (by kernel_rfl) (by kernel_rfl) (fun _ _ _ h => h) (Or.inl ⟨by rfl, ?hy6⟩) hS0 ?_
  case hy6 => (intro w' hw'; have c4 := keepC hw'.1 lx x0'; have d4 := keepC hw'.1 ly z0'; go_simp; try with_reducible rfl)
  simp only [List.getElem_toArray, List.getElem_cons_zero, List.getElem_cons_succ, Act.put, List.setIfInBounds_toArray, List.set_cons_zero, List.set_cons_succ]
  refine wpAnyH_take (i := 7) (v := ?v7) rfl (by kernel_rfl) (by kernel_rfl) (by kernel_rfl) (fun _ _ _ h => h) (Or.inl ⟨by rfl, ?hy7⟩) hS0 ?_
  case hy7 => (intro w' hw'; have c4 := keepC hw'.1 lx x0'; have d4 := keepC hw'.1 ly z0'; go_simp; try with_reducible rfl)
  simp only [List.getElem_toArray, List.getElem_cons_zero, List.getElem_cons_succ, Act.put, List.setIfInBounds_toArray, List.set_cons_zero, List.set_cons_succ]
  refine wpAnyH_take (i := 8) (v := ?v8) rfl (by kernel_rfl) (by kernel_rfl) (by kernel_rfl) (fun _ _ _ h => h) (Or.inl ⟨by rfl, ?hy8⟩) hS0 ?_
  case hy8 => (intro w' hw'; have c4 := keepC hw'.1 lx x0'; have d4 := keepC hw'.1 ly z0'; go_simp; try with_reducible rfl)
  simp only [List.getElem_toArray, List.getElem_cons_zero, List.getElem_cons_succ, Act.put, List.setIfInBounds_toArray, List.set_cons_zero, List.set_cons_succ]
  refine rgn.one (i := 4) _ rfl (by kernel_rfl) (by rfl) ?_
  simp only [List.getElem_toArray, List.getElem_cons_zero, List.getElem_cons_succ, Act.put, List.setIfInBounds_toArray, List.set_cons_zero, List.set_cons_succ]
  go_wp2_with fail
  refine (vl.unhide CA _).mono ?_
  rintro e w3 ⟨rfl, rfl⟩
  refine ⟨hS0, ?_⟩
  try simp only [List.getElem_toArray, List.getElem_cons_zero, List.getElem_cons_succ, Act.put, List.setIfInBounds_toArray, List.set_cons_zero, List.set_cons_succ]
  refine rgn.one (i := 9) _ rfl (by kernel_rfl) (by rfl) ?_
  simp only [List.getElem_toArray, List.getElem_cons_zero, List.getElem_cons_succ, Act.put, List.setIfInBounds_toArray, List.set_cons_zero, List.set_cons_succ]
  go_wp2_with fail
  refine (vl.unhide CB _).mono ?_
  rintro e w3 ⟨rfl, rfl⟩
  refine ⟨hS0, ?_⟩
  try simp only [List.getElem_toArray, List.getElem_cons_zero, List.getElem_cons_succ, Act.put, List.setIfInBounds_toArray, List.set_cons_zero, List.set_cons_succ]
  refine rgn.one (i := 10) _ rfl (by kernel_rfl) (by rfl) ?_
  simp only [List.getElem_toArray, List.getElem_cons_zero, List.getElem_cons_succ, Act.put, List.setIfInBounds_toArray, List.set_cons_zero, List.set_cons_succ]
  refine wpO_build2 127 _ _ (by rfl) (.int .i64 A) (.int .i64 B) _ (by rfl) (by rfl) (build2I _ _ _) ?_
  obtain ⟨Y, eY⟩ : ∃ Y, Y = W.drew.alloc (.cells #[.int .i64 A, .int .i64 B] 3) := ⟨_, rfl⟩
  have p0 : Y.cell? ⟨W.drew.heap.size, 0, none⟩ = some (.int .i64 A) := by rw [eY, World.cell?_alloc_at _ _ _ _ rfl]; rfl
  have p1 : Y.cell? ⟨W.drew.heap.size, 1, none⟩ = some (.int .i64 B) := by rw [eY, World.cell?_alloc_at _ _ _ _ rfl]; rfl
  have hS0 : Gr W Y := by rw [eY]; exact hS0.alloc _
  rw [← eY]
  clear eY
  refine ⟨hS0, ?_⟩
  try simp only [List.getElem_toArray, List.getElem_cons_zero, List.getElem_cons_succ, Act.put, List.setIfInBounds_toArray, List.set_cons_zero, List.set_cons_succ]
  refine rgn.one (i := 11) _ rfl (by kernel_rfl) (by rfl) ?_
  simp only [List.getElem_toArray, List.getElem_cons_zero, List.getElem_cons_succ, Act.put, List.setIfInBounds_toArray, List.set_cons_zero, List.set_cons_succ]
  go_wp2_with fail
  refine (cmpOr_okH A B _ _ p0 p1).mono ?_
  rintro e w3 ⟨rfl, rfl⟩
  refine ⟨hS0, ?_⟩
  refine wpAnyH_take (i := 12) (v := ?v9) rfl (by kernel_rfl) (by kernel_rfl) (by kernel_rfl) (fun _ _ _ h => h) (Or.inl ⟨by rfl, ?hy9⟩) hS0 ?_
  case hy9 => (intro w' hw';  go_simp; try with_reducible rfl)
  simp only [List.getElem_toArray, List.getElem_cons_zero, List.getElem_cons_succ, Act.put, List.setIfInBounds_toArray, List.set_cons_zero, List.set_cons_succ]
  refine wpAnyH_done (by kernel_rfl) ?_ _; refine NoPanic.normal ?_
  go_wp2
  go_ret
  exact ⟨by rw [← vl.unhide EO]; rfl, gW.trans hS0⟩
theorem PosAt.get {w : World} {a : Option Addr} {n : Nat} {ps : List (Int × Int)} (h : PosAt w a n ps) {k : Nat} (hk : k < n) : ∃ b off p, a = some ⟨b, off, none⟩ ∧ b < w.heap.size ∧ ps[k]? = some p ∧ w.rangeAt b (off + k * 2) (posC p) := by
  rcases h.at_ with h0 | ⟨b, off, ha, hlt, hc⟩
  · omega
  · have e := List.getElem?_eq_getElem (show k < ps.length by rw [h.len]; exact hk)
    exact ⟨b, off, _, ha, hlt, e, hc k _ e⟩
set_option maxHeartbeats 4000000 in
theorem cmpPosG (aA aB : Option Addr) (nA cA nB cB : Nat) (A B : List (Int × Int)) (w : World) (hA : PosAt w aA nA A) (hB : PosAt w aB nB B) (bA : nA ≤ 4611686018427387903) (bB : nB ≤ 4611686018427387903) :
    Calls Try.prog 76 #[.slice aA nA cA, .slice aB nB cB, .func (.func 77) #[] #[]] w fun e w' => e = .returned (.int .i64 (lexG cP A B)) ∧ Gr w w' := by
  go_enter Try.func76, Try.ntmps76
  go_wp2_with fail
  go_loopw [13] (fun v wr => ∃ k : Nat, k ≤ nA ∧ k ≤ nB ∧ v = .int .i64 k ∧ Gr w wr ∧ vl.Hid (lexG cP A B = lexG cP (A.drop k) (B.drop k))) (fun v _ => nA - (intOf v).toNat)
  case atStart => exact ⟨0, Nat.zero_le _, Nat.zero_le _, rfl, Gr.refl _, rfl⟩
  case round =>
    obtain ⟨k, hkA, hkB, rfl, hbk, hl⟩ := hrel
    by_cases hlt : k < nA
    · have ki : (k : Int) < (nA : Int) := by omega
      obtain ⟨b, off, p, rfl, hbw, hs, hr⟩ := (hA.below hbk.1).get hlt
      obtain ⟨x1, y1⟩ := p
      have hs := vl.hide hs
      have u0 : wr.cell? ⟨b, off + k * 2, none⟩ = some (.int .i64 x1) := hr 0 _ rfl
      have u1 : wr.cell? ⟨b, off + k * 2 + 1, none⟩ = some (.int .i64 y1) := hr 1 _ rfl
      clear hr
      by_cases hlb : k < nB
      · have kb : (k : Int) < (nB : Int) := by omega
        obtain ⟨b', off', q, rfl, hbw', hs', hr'⟩ := (hB.below hbk.1).get hlb
        obtain ⟨x2, y2⟩ := q
        have hs' := vl.hide hs'
        have v0 : wr.cell? ⟨b', off' + k * 2, none⟩ = some (.int .i64 x2) := hr' 0 _ rfl
        have v1 : wr.cell? ⟨b', off' + k * 2 + 1, none⟩ = some (.int .i64 y2) := hr' 1 _ rfl
        clear hr'
        go_wp2_with fail
        refine (placesG (x1, y1) (x2, y2) _).mono ?_
        rintro e w2 ⟨rfl, hb2⟩
        have hb2 := ((hbk.alloc _).alloc _).trans hb2
        have hst := vl.hide (lexG_step (f := cP) (vl.unhide hs) (vl.unhide hs'))
        generalize hcv : cP (x1, y1) (x2, y2) = cv at *
        have hcv := vl.hide hcv
        by_cases hc : cv = 0
        · subst hc
          have hst2 := vl.hide ((vl.unhide hst).trans (if_pos rfl))
          clear hst
          go_wp2
          go_roundw
          case rel => exact ⟨k + 1, by omega, by omega, by go_num, hb2, (vl.unhide hl).trans (vl.unhide hst2)⟩
          case measure => simp [intOf]; omega
        · have hc2 : (cv != 0) = true := by simpa using hc
          have hst2 := vl.hide ((vl.unhide hst).trans (if_neg hc))
          clear hst hc
          go_wp2
          go_ret
          exact ⟨by rw [vl.unhide hl, vl.unhide hst2]; rfl, hb2⟩
      · have kb : ¬ (k : Int) < (nB : Int) := by omega
        go_wp2
        go_ret
        exact ⟨by rw [vl.unhide hl, lexG_end2 (by rw [hA.len]; exact hlt) (by rw [hB.len]; omega)]; rfl, hbk.alloc _⟩
    · have ki : ¬ (k : Int) < (nA : Int) := by omega
      by_cases hlb : k < nB
      · have kb : (nA : Int) < (nB : Int) := by omega
        go_wp2
        go_ret
        exact ⟨by rw [vl.unhide hl, lexG_end1 (by rw [hA.len]; omega) (by rw [hB.len]; exact hlb)]; rfl, hbk⟩
      · have kb : ¬ (nA : Int) < (nB : Int) := by omega
        go_wp2
        go_ret
        exact ⟨by rw [vl.unhide hl, lexG_end0 (by rw [hA.len]; omega) (by rw [hB.len]; omega)]; rfl, hbk⟩
end Go.Proofs.Ythpcpminikmcbaa.og
namespace Go.Proofs.Ythpcpminikmcbaa.og
open Go.ChangeShapes Go.WideShapes Go.ChangeAt Go.RowKit
open vl hiding cB cFl cS cF cI cK cIt
open stp (St Pth c3 c3_lt c3_gt c3_eq cS lexS)
set_option linter.unusedVariables false
set_option linter.unusedSimpArgs false
/-- a fault -/
structure Ft where
  kd : Int
  ps : List (Int × Int)
  pt : List St
/-- these three cells are the fault f -/
def FtC (w : World) (f : Ft) (cs : List Value) : Prop := ∃ (ap : Option Addr) (np cp : Nat) (aq : Option Addr) (nq cq : Nat), cs = [.int .i64 f.kd, .slice ap np cp, .slice aq nq cq] ∧
  PosAt w ap np f.ps ∧ Pth w aq nq f.pt ∧ np ≤ 1048576 ∧ nq ≤ 1048576 ∧ np ≤ cp ∧ nq ≤ cq ∧ (ap = none → cp = 0) ∧ (aq = none → cq = 0) ∧ cp ≤ maxLen ∧ cq ≤ maxLen
theorem FtC.below {w w' : World} {f : Ft} {cs : List Value} (h : FtC w f cs) (hb : Below w.heap.size w w') : FtC w' f cs := by
  obtain ⟨ap, np, cp, aq, nq, cq, e, h1, h2, r⟩ := h
  exact ⟨ap, np, cp, aq, nq, cq, e, h1.below hb, h2.below hb, r⟩
/-- the order of faults -/
def cF (f g : Ft) : Int := thn (c3 f.kd g.kd) (thn (lexG cP f.ps g.ps) (lexS f.pt g.pt))
set_option maxHeartbeats 4000000 in
set_option maxRecDepth 100000 in
theorem faultG (f g : Ft) (cs ds : List Value) (w : World) (hf : FtC w f cs) (hg : FtC w g ds) : Calls Try.prog 40 #[.agg cs.toArray, .agg ds.toArray] w fun e w' => e = .returned (.int .i64 (cF f g)) ∧ Gr w w' := by
  obtain ⟨ap, np, cp, aq, nq, cq, rfl, p1, p2, l1, l2, -⟩ := hf
  obtain ⟨bp, mp, dp, bq, mq, dq, rfl, r1, r2, k1, k2, -⟩ := hg
  have CK := hide (errno_cmpE f.kd g.kd)
  have CP := hide (fun W (hb : Gr w W) => cmpPosG ap bp np cp mp dp f.ps g.ps W (p1.below hb.1) (r1.below hb.1) (by omega) (by omega))
  have CS := hide (fun W (hb : Gr w W) => compareG aq bq nq cq mq dq f.pt g.pt W (p2.below hb.1) (r2.below hb.1) (by omega) (by omega))
  have EF := hide (show cF f g = thn (c3 f.kd g.kd) (thn (lexG cP f.ps g.ps) (lexS f.pt g.pt)) from rfl)
  generalize cF f g = R at *
  generalize c3 f.kd g.kd = A at *
  generalize lexG cP f.ps g.ps = B at *
  generalize lexS f.pt g.pt = C at *
  generalize f.kd = fk at *
  generalize g.kd = gk at *
  clear p1 p2 r1 r2 l1 l2 k1 k2
  go_enter Try.func40, Try.ntmps40
  go_wp2_with fail
  obtain ⟨W, eW⟩ : ∃ W, W = (w.alloc (.cells #[Value.int IntKind.i64 fk, Value.slice ap np cp, Value.slice aq nq cq] 55)).alloc (.cells #[Value.int IntKind.i64 gk, Value.slice bp mp dp, Value.slice bq mq dq] 55) := ⟨_, rfl⟩
  have gW : Gr w W := by rw [eW]; exact ((Gr.refl _).alloc _).alloc _
  have lx : w.heap.size < W.heap.size := by rw [eW]; simp; omega
  have ly : w.heap.size + 1 < W.heap.size := by rw [eW]; simp
  have b1 : Below (w.heap.size + 1) (w.alloc (.cells #[Value.int IntKind.i64 fk, Value.slice ap np cp, Value.slice aq nq cq] 55)) W := by rw [eW]; exact (Below.refl _ _).alloc (by simp) _
  have x1 : W.cell? ⟨w.heap.size, 1, none⟩ = some (.slice ap np cp) := (b1.cell (p := ⟨w.heap.size, 1, none⟩) (Nat.lt_succ_self _)).trans (by rw [World.cell?_alloc_at _ _ _ _ rfl]; rfl)
  have x2 : W.cell? ⟨w.heap.size, 2, none⟩ = some (.slice aq nq cq) := (b1.cell (p := ⟨w.heap.size, 2, none⟩) (Nat.lt_succ_self _)).trans (by rw [World.cell?_alloc_at _ _ _ _ rfl]; rfl)
  have y1 : W.cell? ⟨w.heap.size + 1, 1, none⟩ = some (.slice bp mp dp) := by rw [eW, World.cell?_alloc_at _ _ _ _ (by simp)]; rfl
  have y2 : W.cell? ⟨w.heap.size + 1, 2, none⟩ = some (.slice bq mq dq) := by rw [eW, World.cell?_alloc_at _ _ _ _ (by simp)]; rfl
  rw [← eW]
  clear eW b1
  refine (unhide CK _).mono ?_
  rintro e w1 ⟨rfl, rfl⟩
  by_cases hA : A = 0
  · subst hA
    go_wp2_with fail
    refine (unhide CP W gW).mono ?_
    rintro e w2 ⟨rfl, g2⟩
    have x3 := keepC g2.1 lx x2
    have y3 := keepC g2.1 ly y2
    have gw2 := gW.trans g2
    clear x1 y1 x2 y2
    by_cases hB : B = 0
    · subst hB
      go_wp2_with fail
      refine (unhide CS w2 gw2).mono ?_
      rintro e w3 ⟨rfl, g3⟩
      go_wp2
      go_ret
      exact ⟨by rw [unhide EF]; rfl, gw2.trans g3⟩
    · have hB2 : (B != 0) = true := by simpa using hB
      have EF := hide ((unhide EF).trans (show _ = B by unfold thn; rw [if_pos rfl, if_neg hB]))
      clear hB
      go_wp2
      go_ret
      exact ⟨by rw [unhide EF]; rfl, gw2⟩
  · have hA2 : (A != 0) = true := by simpa using hA
    have EF := hide ((unhide EF).trans (show _ = A by unfold thn; rw [if_neg hA]))
    clear hA
    go_wp2
    go_ret
    exact ⟨by rw [unhide EF]; rfl, gW⟩
end Go.Proofs.Ythpcpminikmcbaa.og
namespace Go.Proofs.Ythpcpminikmcbaa.og
open Go.ChangeShapes Go.WideShapes Go.ChangeAt Go.RowKit
open vl hiding cB cFl cS cF cI cK cIt
open stp (c3 c3_lt c3_gt c3_eq cB cB_tri)
set_option linter.unusedVariables false
set_option linter.unusedSimpArgs false
def kdW : Vl → Int
  | .mk kd _ _ _ _ _ _ _ => kdOf kd
def kidsI : Vl → List Vl
  | .mk _ _ _ _ _ _ its _ => its.list
def kidsF : Vl → List (ByteArray × Vl)
  | .mk _ _ _ _ _ _ _ fls => fls.list
/-- how two values of one kind stand to each other -/
def leafV (K : Int) : Vl → Vl → Int
  | .mk _ b n f tx ty its fls, .mk _ b' n' f' tx' ty' its' fls' => if K = 1 then cBo b b' else if K = 2 then c3 n n' else if K = 3 then cFl f f' else if K = 4 then cB tx tx' else if K = 5 then lexG ordV its.list its'.list else if K = 6 then lexG ordM fls.list fls'.list else if K = 7 then thn (cB ty ty') (cB tx tx') else 0
theorem ordV_thn (v u : Vl) : ordV v u = thn (c3 (kdW v) (kdW u)) (leafV (kdW v) v u) := by
  obtain ⟨kd, b, n, f, tx, ty, its, fls⟩ := v
  obtain ⟨kd', b', n', f', tx', ty', its', fls'⟩ := u
  rw [ordV, ordI_lex, ordF_lex]
  rfl
theorem ordM_thn (p q : ByteArray × Vl) : ordM p q = thn (cB p.1 q.1) (ordV p.2 q.2) := rfl
theorem rg_leaf (K : Int) (v u : Vl) (hs : Small v) (hu : Small u) (hI : ∀ x y, x ∈ kidsI v → y ∈ kidsI u → Rg (ordV x y)) (hF : ∀ x y, x ∈ kidsF v → y ∈ kidsF u → Rg (ordM x y)) : Rg (leafV K v u) := by
  obtain ⟨kd, b, n, f, tx, ty, its, fls⟩ := v
  obtain ⟨kd', b', n', f', tx', ty', its', fls'⟩ := u
  unfold Small at hs hu
  simp only [leafV]
  split
  · exact Rg.cBo _ _
  · split
    · exact Rg.c3 _ _
    · split
      · rw [cFl_key _ _ hs.2.2.1 hu.2.2.1]; exact Rg.c3 _ _
      · split
        · exact Rg.cB _ _
        · split
          · exact Rg.lexG _ _ (fun x hx y hy => hI x y hx hy)
          · split
            · exact Rg.lexG _ _ (fun x hx y hy => hF x y hx hy)
            · split
              · exact Rg.thn (Rg.cB _ _) (Rg.cB _ _)
              · exact .inr (.inl rfl)
theorem Rg.ordV : ∀ v : Vl, Small v → ∀ u : Vl, Small u → Rg (og.ordV v u) := by
  refine Vl.all ?_
  intro kd b n f tx ty its fls hI hF hs u hu
  rw [ordV_thn]
  have h1 := hs
  have h2 := hu
  obtain ⟨kd', b', n', f', tx', ty', its', fls'⟩ := u
  unfold Small at h1 h2
  exact Rg.thn (Rg.c3 _ _) (rg_leaf _ _ _ hs hu (fun x y hx hy => hI x hx (h1.2.2.2.1.all x hx) y (h2.2.2.2.1.all y hy)) (fun x y hx hy => Rg.thn (Rg.cB _ _) (hF x hx (h1.2.2.2.2.all x hx) y.2 (h2.2.2.2.2.all y hy))))
theorem Rg.ordM (p q : ByteArray × Vl) (hp : Small p.2) (hq : Small q.2) : Rg (og.ordM p q) := Rg.thn (Rg.cB _ _) (Rg.ordV _ hp _ hq)
theorem rg_leaf' (K : Int) (v u : Vl) (hs : Small v) (hu : Small u) : Rg (leafV K v u) := by
  have h1 := hs
  have h2 := hu
  obtain ⟨kd, b, n, f, tx, ty, its, fls⟩ := v
  obtain ⟨kd', b', n', f', tx', ty', its', fls'⟩ := u
  unfold Small at h1 h2
  exact rg_leaf K _ _ hs hu (fun x y hx hy => Rg.ordV x (h1.2.2.2.1.all x hx) y (h2.2.2.2.1.all y hy)) (fun x y hx hy => Rg.ordM x y (h1.2.2.2.2.all x hx) (h2.2.2.2.2.all y hy))
theorem c3_zero' {x t : Int} (h : c3 x t = 0) : x = t := by
  unfold stp.c3 at h
  split at h
  · omega
  · split at h <;> omega
theorem Tr.ordV : ∀ v : Vl, Small v → ∀ u : Vl, Small u → ∀ w : Vl, Small w → Tr (og.ordV v u) (og.ordV u w) (og.ordV v w) := by
  refine Vl.all ?_
  intro kd b n f tx ty its fls hI hF hs u hu w hw
  rw [ordV_thn _ u, ordV_thn u w, ordV_thn _ w]
  refine Tr.thn' (Rg.c3 _ _) (Rg.c3 _ _) (Rg.c3 _ _) (rg_leaf' _ _ _ hs hu) (rg_leaf' _ _ _ hu hw) (rg_leaf' _ _ _ hs hw) (Tr.c3 _ _ _) (fun e1 e2 => ?_)
  have e1 := c3_zero' e1
  rw [← e1]
  generalize kdW (.mk kd b n f tx ty its fls) = K at *
  clear e1 e2
  obtain ⟨kd', b', n', f', tx', ty', its', fls'⟩ := u
  obtain ⟨kd2, b2, n2, f2, tx2, ty2, its2, fls2⟩ := w
  unfold Small at hs hu hw
  simp only [leafV]
  split
  · exact Tr.cBo _ _ _
  · split
    · exact Tr.c3 _ _ _
    · split
      · rw [cFl_key _ _ hs.2.2.1 hu.2.2.1, cFl_key _ _ hu.2.2.1 hw.2.2.1, cFl_key _ _ hs.2.2.1 hw.2.2.1]; exact Tr.c3 _ _ _
      · split
        · exact Tr.cB _ _ _
        · split
          · exact Tr.lexG _ _ _ (fun x y hx hy => Rg.ordV x (hx.elim (hs.2.2.2.1.all x) (hu.2.2.2.1.all x)) y (hy.elim (hu.2.2.2.1.all y) (hw.2.2.2.1.all y))) (fun x hx y hy z hz => hI x hx (hs.2.2.2.1.all x hx) y (hu.2.2.2.1.all y hy) z (hw.2.2.2.1.all z hz))
          · split
            · refine Tr.lexG _ _ _ (fun x y hx hy => Rg.ordM x y (hx.elim (hs.2.2.2.2.all x) (hu.2.2.2.2.all x)) (hy.elim (hu.2.2.2.2.all y) (hw.2.2.2.2.all y))) (fun x hx y hy z hz => ?_)
              exact Tr.thn (Rg.cB _ _) (Rg.cB _ _) (Rg.cB _ _) (Tr.cB _ _ _) (hF x hx (hs.2.2.2.2.all x hx) y.2 (hu.2.2.2.2.all y hy) z.2 (hw.2.2.2.2.all z hz))
            · split
              · exact Tr.thn (Rg.cB _ _) (Rg.cB _ _) (Rg.cB _ _) (Tr.cB _ _ _) (Tr.cB _ _ _)
              · simp [Tr]
theorem Tr.ordM (p q r : ByteArray × Vl) (hp : Small p.2) (hq : Small q.2) (hr : Small r.2) : Tr (og.ordM p q) (og.ordM q r) (og.ordM p r) :=
  Tr.thn (Rg.cB _ _) (Rg.cB _ _) (Rg.cB _ _) (Tr.cB _ _ _) (Tr.ordV _ hp _ hq _ hr)
/-- the other way about -/
theorem ordV_anti (v u : Vl) (hv : Small v) (hu : Small u) : ordV u v = - ordV v u := by
  have h := Tr.ordV v hv u hu v hv
  rw [ordV_self] at h
  have r1 := Rg.ordV v hv u hu
  have r2 := Rg.ordV u hu v hv
  unfold Tr at h
  unfold Rg at r1 r2
  omega
end Go.Proofs.Ythpcpminikmcbaa.og
namespace Go.Proofs.Ythpcpminikmcbaa.og
open Go.ChangeShapes Go.WideShapes Go.ChangeAt Go.RowKit
open vl hiding cB cFl cS cF cI cK cIt
set_option linter.unusedVariables false
set_option linter.unusedSimpArgs false
mutual
/-- these eight cells are the value v, and none of its lists lies in a block of Q -/
def AvC (Q : Nat → Prop) (w : World) : Vl → List Value → Prop
  | .mk kd b n f tx ty its fls, cs => ∃ (ai : Option Addr) (ni ci : Nat) (af : Option Addr) (nf cf : Nat), cs = [.int .i64 kd, .bool b, .int .i64 n, .float .f64 f, .string tx, .string ty, .slice ai ni ci, .slice af nf cf] ∧
      AvI Q w its ai ni ∧ AvF Q w fls af nf ∧ ni ≤ ci ∧ nf ≤ cf ∧ (ai = none → ci = 0) ∧ (af = none → cf = 0) ∧ (Lit.int .i64 kd).wf = true ∧ (Lit.int .i64 n).wf = true ∧ tx.size ≤ maxLen ∧ ty.size ≤ maxLen ∧ ci ≤ maxLen ∧ cf ≤ maxLen
def AvI (Q : Nat → Prop) (w : World) : Vls → Option Addr → Nat → Prop
  | .nil, _, n => n = 0
  | .cons v r, a, n => ∃ (b off m : Nat) (cs : List Value), a = some ⟨b, off, none⟩ ∧ n = m + 1 ∧ ¬ Q b ∧ Row8 w b off cs ∧ AvC Q w v cs ∧ AvI Q w r (some ⟨b, off + 8, none⟩) m
def AvF (Q : Nat → Prop) (w : World) : Fls → Option Addr → Nat → Prop
  | .nil, _, n => n = 0
  | .cons nm v r, a, n => ∃ (b off m : Nat) (cs : List Value), a = some ⟨b, off, none⟩ ∧ n = m + 1 ∧ ¬ Q b ∧ w.cell? ⟨b, off, none⟩ = some (.string nm) ∧ nm.size ≤ maxLen ∧ Row8 w b (off + 1) cs ∧ AvC Q w v cs ∧ AvF Q w r (some ⟨b, off + 9, none⟩) m
end
mutual
theorem AvC.read {Q : Nat → Prop} {w : World} : ∀ (v : Vl) (cs : List Value), AvC Q w v cs → VlC w v cs
  | .mk kd b n f tx ty its fls, cs, h => by
    unfold AvC at h
    unfold VlC
    obtain ⟨ai, ni, ci, af, nf, cf, rfl, h1, h2, r⟩ := h
    exact ⟨ai, ni, ci, af, nf, cf, rfl, AvI.read its ai ni h1, AvF.read fls af nf h2, r⟩
theorem AvI.read {Q : Nat → Prop} {w : World} : ∀ (l : Vls) (a : Option Addr) (n : Nat), AvI Q w l a n → VlsAt w l a n
  | .nil, a, n, h => by unfold AvI at h; unfold VlsAt; exact h
  | .cons v r, a, n, h => by
    unfold AvI at h
    unfold VlsAt
    obtain ⟨b, off, m, cs, rfl, rfl, _, h1, h2, h3⟩ := h
    exact ⟨b, off, m, cs, rfl, rfl, h1, AvC.read v cs h2, AvI.read r _ m h3⟩
theorem AvF.read {Q : Nat → Prop} {w : World} : ∀ (l : Fls) (a : Option Addr) (n : Nat), AvF Q w l a n → FlsAt w l a n
  | .nil, a, n, h => by unfold AvF at h; unfold FlsAt; exact h
  | .cons nm v r, a, n, h => by
    unfold AvF at h
    unfold FlsAt
    obtain ⟨b, off, m, cs, rfl, rfl, _, h0, hz, h1, h2, h3⟩ := h
    exact ⟨b, off, m, cs, rfl, rfl, h0, hz, h1, AvC.read v cs h2, AvF.read r _ m h3⟩
end
theorem AvC.cells {Q : Nat → Prop} {w : World} {v : Vl} {cs : List Value} (h : AvC Q w v cs) : cs.length = 8 := (AvC.read v cs h).cells
theorem Row8.lt {w : World} {b off : Nat} {cs : List Value} (h : Row8 w b off cs) (h8 : cs.length = 8) : b < w.heap.size := by
  obtain ⟨a, b', c, d, e, f, g, i, rfl⟩ := list_eight h8
  exact World.block_lt_of_cell? w _ (h 0 a rfl)
mutual
/-- what is read so is read so in every world that agrees outside Q' -/
theorem AvC.agree {Q Q' : Nat → Prop} {w W : World} (hq : ∀ b, b < w.heap.size → ¬ Q b → ¬ Q' b) (ha : ∀ b j, b < w.heap.size → ¬ Q b → W.cell? ⟨b, j, none⟩ = w.cell? ⟨b, j, none⟩) : ∀ (v : Vl) (cs : List Value), AvC Q w v cs → AvC Q' W v cs
  | .mk kd b n f tx ty its fls, cs, h => by
    unfold AvC at h ⊢
    obtain ⟨ai, ni, ci, af, nf, cf, rfl, h1, h2, r⟩ := h
    exact ⟨ai, ni, ci, af, nf, cf, rfl, AvI.agree hq ha its ai ni h1, AvF.agree hq ha fls af nf h2, r⟩
theorem AvI.agree {Q Q' : Nat → Prop} {w W : World} (hq : ∀ b, b < w.heap.size → ¬ Q b → ¬ Q' b) (ha : ∀ b j, b < w.heap.size → ¬ Q b → W.cell? ⟨b, j, none⟩ = w.cell? ⟨b, j, none⟩) : ∀ (l : Vls) (a : Option Addr) (n : Nat), AvI Q w l a n → AvI Q' W l a n
  | .nil, a, n, h => by unfold AvI at h ⊢; exact h
  | .cons v r, a, n, h => by
    unfold AvI at h ⊢
    obtain ⟨b, off, m, cs, rfl, rfl, hb, h1, h2, h3⟩ := h
    have hl := Row8.lt h1 h2.cells
    exact ⟨b, off, m, cs, rfl, rfl, hq b hl hb, fun i u hu => (ha b _ hl hb).trans (h1 i u hu), AvC.agree hq ha v cs h2, AvI.agree hq ha r _ m h3⟩
theorem AvF.agree {Q Q' : Nat → Prop} {w W : World} (hq : ∀ b, b < w.heap.size → ¬ Q b → ¬ Q' b) (ha : ∀ b j, b < w.heap.size → ¬ Q b → W.cell? ⟨b, j, none⟩ = w.cell? ⟨b, j, none⟩) : ∀ (l : Fls) (a : Option Addr) (n : Nat), AvF Q w l a n → AvF Q' W l a n
  | .nil, a, n, h => by unfold AvF at h ⊢; exact h
  | .cons nm v r, a, n, h => by
    unfold AvF at h ⊢
    obtain ⟨b, off, m, cs, rfl, rfl, hb, h0, hz, h1, h2, h3⟩ := h
    have hl := Row8.lt h1 h2.cells
    exact ⟨b, off, m, cs, rfl, rfl, hq b hl hb, (ha b _ hl hb).trans h0, hz, fun i u hu => (ha b _ hl hb).trans (h1 i u hu), AvC.agree hq ha v cs h2, AvF.agree hq ha r _ m h3⟩
end
mutual
theorem AvC.of {w : World} : ∀ (v : Vl) (cs : List Value), VlC w v cs → AvC (fun _ => False) w v cs
  | .mk kd b n f tx ty its fls, cs, h => by
    unfold VlC at h
    unfold AvC
    obtain ⟨ai, ni, ci, af, nf, cf, rfl, h1, h2, r⟩ := h
    exact ⟨ai, ni, ci, af, nf, cf, rfl, AvI.of its ai ni h1, AvF.of fls af nf h2, r⟩
theorem AvI.of {w : World} : ∀ (l : Vls) (a : Option Addr) (n : Nat), VlsAt w l a n → AvI (fun _ => False) w l a n
  | .nil, a, n, h => by unfold VlsAt at h; unfold AvI; exact h
  | .cons v r, a, n, h => by
    unfold VlsAt at h
    unfold AvI
    obtain ⟨b, off, m, cs, rfl, rfl, h1, h2, h3⟩ := h
    exact ⟨b, off, m, cs, rfl, rfl, fun h => h, h1, AvC.of v cs h2, AvI.of r _ m h3⟩
theorem AvF.of {w : World} : ∀ (l : Fls) (a : Option Addr) (n : Nat), FlsAt w l a n → AvF (fun _ => False) w l a n
  | .nil, a, n, h => by unfold FlsAt at h; unfold AvF; exact h
  | .cons nm v r, a, n, h => by
    unfold FlsAt at h
    unfold AvF
    obtain ⟨b, off, m, cs, rfl, rfl, h0, hz, h1, h2, h3⟩ := h
    exact ⟨b, off, m, cs, rfl, rfl, fun h => h, h0, hz, h1, AvC.of v cs h2, AvF.of r _ m h3⟩
end
/-- in a later world -/
theorem AvC.below {Q : Nat → Prop} {w W : World} {v : Vl} {cs : List Value} (h : AvC Q w v cs) (hb : Below w.heap.size w W) : AvC Q W v cs := AvC.agree (fun _ _ h => h) (fun b j hl _ => hb.cell (p := ⟨b, j, none⟩) hl) v cs h
/-- a block that was not there yet may be added to Q -/
theorem AvC.add {Q : Nat → Prop} {w : World} {v : Vl} {cs : List Value} {p : Nat} (h : AvC Q w v cs) (hp : w.heap.size ≤ p) : AvC (fun b => Q b ∨ b = p) w v cs := AvC.agree (fun b hl hn e => e.elim hn (fun e => by omega)) (fun _ _ _ _ => rfl) v cs h
theorem AvC.sub {Q Q' : Nat → Prop} {w : World} {v : Vl} {cs : List Value} (h : AvC Q w v cs) (hs : ∀ b, Q' b → Q b) : AvC Q' w v cs := AvC.agree (fun b _ hn e => hn (hs b e)) (fun _ _ _ _ => rfl) v cs h
mutual
theorem OwC.av {Q : Nat → Prop} {w : World} : ∀ (v : Vl) (cs : List Value) (F : List Nat), (∀ b ∈ F, ¬ Q b) → OwC w v cs F → AvC Q w v cs
  | .mk kd b n f tx ty its fls, cs, F, hF, h => by
    unfold OwC at h
    unfold AvC
    obtain ⟨ai, ni, ci, af, nf, cf, Fi, Ff, rfl, h1, h2, r1, r2, r3, r4, r5, r6, r7, r8, r9, r10, rfl⟩ := h
    refine ⟨ai, ni, ci, af, nf, cf, rfl, ?_, ?_, r1, r2, r3, r4, r5, r6, r7, r8, r9, r10⟩
    · rcases h1 with ⟨rfl, rfl, rfl, -⟩ | ⟨p, G, rfl, rfl, h1⟩
      · unfold AvI; rfl
      · exact OwsIn.av its p 0 ni G (fun b hb => hF b (List.mem_append_left _ hb)) h1
    · rcases h2 with ⟨rfl, rfl, rfl, -⟩ | ⟨p, G, rfl, rfl, h2⟩
      · unfold AvF; rfl
      · exact OwfIn.av fls p 0 nf G (fun b hb => hF b (List.mem_append_right _ hb)) h2
theorem OwsIn.av {Q : Nat → Prop} {w : World} : ∀ (l : Vls) (p off n : Nat) (G : List Nat), (∀ b ∈ p :: G, ¬ Q b) → OwsIn w l p off n G → AvI Q w l (some ⟨p, off, none⟩) n
  | .nil, p, off, n, G, hF, h => by unfold OwsIn at h; unfold AvI; exact h.1
  | .cons v r, p, off, n, G, hF, h => by
    unfold OwsIn at h
    unfold AvI
    obtain ⟨m, cs, G1, G2, rfl, h1, h2, h3, rfl⟩ := h
    exact ⟨p, off, m, cs, rfl, rfl, hF p (List.mem_cons_self ..), h1, OwC.av v cs G1 (fun b hb => hF b (List.mem_cons_of_mem _ (List.mem_append_left _ hb))) h2, OwsIn.av r p _ m G2 (fun b hb => hF b (by simp at hb ⊢; rcases hb with h | h <;> simp [h])) h3⟩
theorem OwfIn.av {Q : Nat → Prop} {w : World} : ∀ (l : Fls) (p off n : Nat) (G : List Nat), (∀ b ∈ p :: G, ¬ Q b) → OwfIn w l p off n G → AvF Q w l (some ⟨p, off, none⟩) n
  | .nil, p, off, n, G, hF, h => by unfold OwfIn at h; unfold AvF; exact h.1
  | .cons nm v r, p, off, n, G, hF, h => by
    unfold OwfIn at h
    unfold AvF
    obtain ⟨m, cs, G1, G2, rfl, h0, hz, h1, h2, h3, rfl⟩ := h
    exact ⟨p, off, m, cs, rfl, rfl, hF p (List.mem_cons_self ..), h0, hz, h1, OwC.av v cs G1 (fun b hb => hF b (List.mem_cons_of_mem _ (List.mem_append_left _ hb))) h2, OwfIn.av r p _ m G2 (fun b hb => hF b (by simp at hb ⊢; rcases hb with h | h <;> simp [h])) h3⟩
end
/-- the i-th value of a list -/
theorem AvI.get {Q : Nat → Prop} {w : World} : ∀ (l : Vls) (a : Option Addr) (n : Nat), AvI Q w l a n → ∀ i, i < n → ∃ (b off : Nat) (v : Vl) (cs : List Value), a = some ⟨b, off, none⟩ ∧ l.list[i]? = some v ∧ ¬ Q b ∧ Row8 w b (off + i * 8) cs ∧ AvC Q w v cs
  | .nil, a, n, h, i, hi => by unfold AvI at h; omega
  | .cons v r, a, n, h, i, hi => by
    unfold AvI at h
    obtain ⟨b, off, m, cs, rfl, rfl, hq, h1, h2, h3⟩ := h
    match i with
    | 0 => exact ⟨b, off, v, cs, rfl, rfl, hq, by simpa using h1, h2⟩
    | i + 1 =>
      obtain ⟨b', off', v', cs', e, g, q, r1, r2⟩ := AvI.get r _ m h3 i (by omega)
      simp only [Option.some.injEq, Addr.mk.injEq, and_true] at e
      obtain ⟨rfl, rfl⟩ := e
      exact ⟨b, off, v', cs', rfl, by simpa [Vls.list] using g, hq, by rw [show off + (i + 1) * 8 = off + 8 + i * 8 by omega]; exact r1, r2⟩
theorem AvF.get {Q : Nat → Prop} {w : World} : ∀ (l : Fls) (a : Option Addr) (n : Nat), AvF Q w l a n → ∀ i, i < n → ∃ (b off : Nat) (nm : ByteArray) (v : Vl) (cs : List Value), a = some ⟨b, off, none⟩ ∧ l.list[i]? = some (nm, v) ∧ ¬ Q b ∧ w.cell? ⟨b, off + i * 9, none⟩ = some (.string nm) ∧ nm.size ≤ maxLen ∧ Row8 w b (off + i * 9 + 1) cs ∧ AvC Q w v cs
  | .nil, a, n, h, i, hi => by unfold AvF at h; omega
  | .cons nm v r, a, n, h, i, hi => by
    unfold AvF at h
    obtain ⟨b, off, m, cs, rfl, rfl, hq, h0, hz, h1, h2, h3⟩ := h
    match i with
    | 0 => exact ⟨b, off, nm, v, cs, rfl, rfl, hq, by simpa using h0, hz, by simpa using h1, h2⟩
    | i + 1 =>
      obtain ⟨b', off', nm', v', cs', e, g, q, r0, rz, r1, r2⟩ := AvF.get r _ m h3 i (by omega)
      simp only [Option.some.injEq, Addr.mk.injEq, and_true] at e
      obtain ⟨rfl, rfl⟩ := e
      exact ⟨b, off, nm', v', cs', rfl, by simpa [Fls.list] using g, hq, by rw [show off + (i + 1) * 9 = off + 9 + i * 9 by omega]; exact r0, rz, by rw [show off + (i + 1) * 9 + 1 = off + 9 + i * 9 + 1 by omega]; exact r1, r2⟩
/-- a row of values, told by index -/
def RowI (Q : Nat → Prop) (w : World) (p : Nat) (l : List Vl) : Prop := ∀ i v, l[i]? = some v → ∃ cs, Row8 w p (i * 8) cs ∧ AvC Q w v cs
def RowF (Q : Nat → Prop) (w : World) (p : Nat) (l : List (ByteArray × Vl)) : Prop := ∀ i q, l[i]? = some q → ∃ cs, w.cell? ⟨p, i * 9, none⟩ = some (.string q.1) ∧ q.1.size ≤ maxLen ∧ Row8 w p (i * 9 + 1) cs ∧ AvC Q w q.2 cs
theorem AvI.mk {Q : Nat → Prop} {w : World} {p : Nat} (hp : ¬ Q p) : ∀ (l : List Vl) (off : Nat), (∀ i v, l[i]? = some v → ∃ cs, Row8 w p (off + i * 8) cs ∧ AvC Q w v cs) → AvI Q w (Vls.of l) (some ⟨p, off, none⟩) l.length
  | [], off, h => by simp only [Vls.of]; unfold AvI; rfl
  | v :: r, off, h => by
    simp only [Vls.of]
    unfold AvI
    obtain ⟨cs, h1, h2⟩ := h 0 v rfl
    exact ⟨p, off, r.length, cs, rfl, rfl, hp, by simpa using h1, h2, AvI.mk hp r (off + 8) (fun i u hu => by
      obtain ⟨ds, g1, g2⟩ := h (i + 1) u (by simpa using hu)
      exact ⟨ds, by rw [show off + 8 + i * 8 = off + (i + 1) * 8 by omega]; exact g1, g2⟩)⟩
theorem AvF.mk {Q : Nat → Prop} {w : World} {p : Nat} (hp : ¬ Q p) : ∀ (l : List (ByteArray × Vl)) (off : Nat), (∀ i q, l[i]? = some q → ∃ cs, w.cell? ⟨p, off + i * 9, none⟩ = some (.string q.1) ∧ q.1.size ≤ maxLen ∧ Row8 w p (off + i * 9 + 1) cs ∧ AvC Q w q.2 cs) → AvF Q w (Fls.of l) (some ⟨p, off, none⟩) l.length
  | [], off, h => by simp only [Fls.of]; unfold AvF; rfl
  | v :: r, off, h => by
    simp only [Fls.of]
    unfold AvF
    obtain ⟨cs, h0, hz, h1, h2⟩ := h 0 v rfl
    exact ⟨p, off, r.length, cs, rfl, rfl, hp, by simpa using h0, hz, by simpa using h1, h2, AvF.mk hp r (off + 9) (fun i u hu => by
      obtain ⟨ds, g0, gz, g1, g2⟩ := h (i + 1) u (by simpa using hu)
      exact ⟨ds, by rw [show off + 9 + i * 9 = off + (i + 1) * 9 by omega]; exact g0, gz, by rw [show off + 9 + i * 9 + 1 = off + (i + 1) * 9 + 1 by omega]; exact g1, g2⟩)⟩
end Go.Proofs.Ythpcpminikmcbaa.og
namespace Go.Proofs.Ythpcpminikmcbaa.og
open Go.ChangeShapes Go.WideShapes Go.ChangeAt Go.RowKit
open vl hiding cB cFl cS cF cI cK cIt
set_option linter.unusedVariables false
set_option linter.unusedSimpArgs false
/-- two lists, element by element -/
def Pw {α : Type} (R : α → α → Prop) (l l' : List α) : Prop := l.length = l'.length ∧ ∀ (i : Nat) (x y : α), l[i]? = some x → l'[i]? = some y → R x y
theorem Pw.snoc {α : Type} {R : α → α → Prop} {l l' : List α} {k : Nat} {x y : α} (h : Pw R (l.take k) l') (hx : l[k]? = some x) (hr : R x y) : Pw R (l.take (k + 1)) (l' ++ [y]) := by
  have hk : k < l.length := (List.getElem?_eq_some_iff.1 hx).1
  have hl : l'.length = k := by have := h.1; simp at this; omega
  refine ⟨by simp; omega, fun i a b ha hb => ?_⟩
  by_cases hi : i < k
  · exact h.2 i a b (by rw [List.getElem?_take_of_lt hi]; rw [List.getElem?_take_of_lt (by omega)] at ha; exact ha) (by rw [List.getElem?_append_left (by omega)] at hb; exact hb)
  · have hi2 : i < k + 1 := by have := (List.getElem?_eq_some_iff.1 ha).1; simp at this; omega
    obtain rfl : i = k := by omega
    rw [List.getElem?_take_of_lt (by omega), hx] at ha
    rw [List.getElem?_append_right (by omega), hl] at hb
    simp at ha hb
    rw [← ha, ← hb]
    exact hr
/-- a function from values to values: what it makes of v -/
def FnAt (g : Nat) (R : Vl → Vl → Prop) (v : Vl) : Prop := ∀ (Q : Nat → Prop) (cs : List Value) (w : World), (∀ b, Q b → b < w.heap.size) → AvC Q w v cs → Calls Try.prog g #[.agg cs.toArray] w fun e w' => ∃ (v' : Vl) (ds : List Value), e = .returned (.agg ds.toArray) ∧ R v v' ∧ AvC Q w' v' ds ∧ Gr w w'
theorem gr_lt {w w' : World} (h : Gr w w') {b : Nat} (hb : b < w.heap.size) : b < w'.heap.size := Nat.lt_of_lt_of_le hb h.1.size
set_option maxHeartbeats 6000000 in
set_option maxRecDepth 6000 in
theorem eachV_ok (g : Nat) (en : ∀ args w, (callFunc g args).run Try.prog w = .ok (.enter g args) w) (R : Vl → Vl → Prop) (its : Vls) (ih : ∀ v ∈ its.list, FnAt g R v) (Q : Nat → Prop) (a : Addr) (n c : Nat) (w : World) (hQ : ∀ b, Q b → b < w.heap.size) (hI : AvI Q w its (some a) n) (hn : n ≤ 1256584717458) :
    Calls Try.prog 58 #[.slice (some a) n c, .func (.func g) #[] #[]] w fun e w' => ∃ (l : List Vl), e = .returned (.slice (some ⟨w.heap.size, 0, none⟩) n n) ∧ l.length = n ∧ Pw R its.list l ∧ RowI (fun b => Q b ∨ b = w.heap.size) w' w.heap.size l ∧ w.heap.size < w'.heap.size ∧ w'.there w.heap.size 0 (n * 8) ∧ Gr w w' := by
  have hnil : ∀ (w : World) (a : Option Addr) (n c n' c' : Nat), (binOp .eql 24 (.slice a n c) (.slice none n' c')).run Try.prog w = .ok (.bool a.isNone) w := fun w a n c n' c' => Lib.run_eql_slice_nil w _ _ a n c n' c' Try.underlying24
  have hlen := VlsAt.len its _ _ (AvI.read its _ _ hI)
  obtain ⟨Z, hZ, hmk⟩ := makeV n w hn
  have hL := hide hlen
  have hZ' := hide hZ
  clear hlen hZ
  go_enter Try.func58, Try.ntmps58
  go_wp2_with fail
  clear hmk
  go_loopw [15] (fun vi wr => ∃ (k : Nat) (l : List Vl), k ≤ n ∧ vi = .int .i64 k ∧ l.length = k ∧ vl.Hid (Pw R (its.list.take k) l) ∧ vl.Hid (RowI (fun b => Q b ∨ b = w.heap.size) wr w.heap.size l) ∧ vl.Hid (wr.there w.heap.size 0 (n * 8)) ∧ Gr w wr ∧ w.heap.size < wr.heap.size) (fun vi _ => n - (intOf vi).toNat)
  case atStart => exact ⟨0, [], Nat.zero_le _, rfl, rfl, hide ⟨by simp, fun i x y hx => by simp at hx⟩, hide (fun i v hv => by simp at hv), hide (there_new (unhide hZ')), (Gr.refl _).alloc _, by simp⟩
  case round =>
    obtain ⟨k, l, hk, rfl, hlk, hP, hO, hT, hB, hs⟩ := hrel
    by_cases hlt : k < n
    · obtain ⟨b, off, v, cs, hab, hg, -, hr, hv⟩ := AvI.get its _ n hI k hlt
      obtain rfl : a = ⟨b, off, none⟩ := Option.some.inj hab
      clear hab
      have hcop := hide (ih v (List.mem_of_getElem? hg))
      have hr' : wr.rangeAt b (off + k * 8) cs := Row8.below hr hB.1
      have h8 := hv.cells
      have h1 := (AvC.read v cs hv).one
      have hi8 : (Try.prog.info? 27).map (·.size) = some cs.length := by rw [h8]; exact infoV
      have hi8' : (Try.prog.info? 27).map (·.size) = some cs.toArray.size := by simp [h8, infoV]
      have hz8 : cs.toArray.size = 8 := by simp [h8]
      have ki : (k : Int) < (n : Int) := by omega
      have HH := hide (And.intro hi8 (And.intro hi8' (And.intro hz8 h8)))
      have HLK := hide hlk
      clear hr hi8 hi8' hz8 h8 hlk
      go_wp2_with (first
        | refine wpList_load_mid (by rfl) 27 _ (by rfl) b (off + k * 8) (by rfl) cs _ hr' Try.underlying27 (by rfl) (unhide HH).1 ?_
        | refine wpList_store_mid (by rfl) 27 _ _ (by rfl) wr.heap.size 0 cs.toArray (by rfl) (by rfl) (there_new (by rw [(unhide HH).2.2.1]; rfl)) (unhide HH).2.1 h1 ?_
        | refine wpList_load_mid (by rfl) 27 _ (by rfl) wr.heap.size 0 (by rfl) cs _ (World.rangeAt_setCells_same _ _ _ _ (there_new (by show _ = cs.length; rw [(unhide HH).2.2.2]; rfl))) Try.underlying27 (by rfl) (unhide HH).1 ?_)
      obtain ⟨W2, e2⟩ : ∃ W2, W2 = ((wr.alloc (.cells #[Value.int IntKind.i64 0, Value.bool false, Value.int IntKind.i64 0, Value.float FloatKind.f64 0, Value.string { data := #[] }, Value.string { data := #[] }, Value.slice none 0 0, Value.slice none 0 0] 27)).setCells wr.heap.size 0 cs) := ⟨_, rfl⟩
      have b2 : Gr wr W2 := by rw [e2]; exact ((Gr.refl _).alloc _).setCells (Nat.le_refl _) _ _
      rw [← e2]
      clear e2
      have g2 : Gr w W2 := hB.trans b2
      have hQ2 : ∀ b, (Q b ∨ b = w.heap.size) → b < W2.heap.size := fun b hb => hb.elim (fun h => gr_lt g2 (hQ b h)) (fun h => by rw [h]; exact gr_lt b2 hs)
      have hv2 : AvC (fun b => Q b ∨ b = w.heap.size) W2 v cs := AvC.agree (fun b hl hn e => e.elim hn (fun e => by omega)) (fun b j hl _ => g2.1.cell (p := ⟨b, j, none⟩) hl) v cs hv
      refine ((unhide hcop) _ cs W2 hQ2 hv2).mono ?_
      rintro e w3 ⟨v', ds, rfl, hR, hO3, b3⟩
      have d8 := hO3.cells
      have d1 := (AvC.read v' ds hO3).one
      have b23 : Gr wr w3 := b2.trans b3
      have hT3 : w3.there w.heap.size (k * 8) ds.toArray.size := there_sub (there_below (unhide hT) b23.1 hs) (Nat.zero_le _) (by simp [d8]; omega)
      have hi8 : (Try.prog.info? 27).map (·.size) = some ds.toArray.size := by simp [d8, infoV]
      have D8 := hide d8
      have HI := hide hi8
      have HT := hide hT3
      have HO3 := hide hO3
      clear hO3 hT3 hi8 d8 hcop HH hr' hv2
      go_wp2_with (first
        | refine wpList_store_mid (by rfl) 27 _ _ (by rfl) w.heap.size (k * 8) ds.toArray (by rfl) (by rfl) (unhide HT) (unhide HI) d1 ?_)
      have hrow : Row8 (w3.setCells w.heap.size (k * 8) ds) w.heap.size (k * 8) ds := World.rangeAt_setCells_same w3 _ _ ds (by have := unhide HT; simpa using this)
      have hav : ∀ u us, AvC (fun b => Q b ∨ b = w.heap.size) w3 u us → AvC (fun b => Q b ∨ b = w.heap.size) (w3.setCells w.heap.size (k * 8) ds) u us := fun u us h => AvC.agree (fun _ _ h => h) (fun b j _ hn => World.cell?_setCells_out _ _ _ _ _ (fun e _ => absurd (.inr (show b = w.heap.size from e)) hn)) u us h
      refine ⟨⟨k + 1, l ++ [v'], by omega, by go_num, by simp [unhide HLK], hide (Pw.snoc (unhide hP) hg hR), hide ?_, hide (World.there_setCells (there_below (unhide hT) b23.1 hs) _ _ _), (hB.trans b23).setCells (Nat.le_refl _) _ _, by rw [size_setCells]; exact gr_lt b23 hs⟩, by simp only [intOf]; omega⟩
      intro i u hu
      by_cases hi : i < k
      · rw [List.getElem?_append_left (by rw [unhide HLK]; exact hi)] at hu
        obtain ⟨us, g1, g2⟩ := unhide hO i u hu
        have u8 := g2.cells
        refine ⟨us, fun j x hx => ?_, hav u us (AvC.agree (fun _ _ h => h) (fun b j hl _ => b23.1.cell (p := ⟨b, j, none⟩) hl) u us g2)⟩
        have hj := (List.getElem?_eq_some_iff.1 hx).1
        rw [World.cell?_setCells_out _ _ _ _ _ (fun _ _ => .inl (by show i * 8 + j < k * 8; omega))]
        exact (b23.1.cell (p := ⟨w.heap.size, i * 8 + j, none⟩) hs).trans (g1 j x hx)
      · have hi2 := (List.getElem?_eq_some_iff.1 hu).1
        simp [unhide HLK] at hi2
        obtain rfl : i = k := by omega
        rw [List.getElem?_append_right (by rw [unhide HLK]; omega), unhide HLK] at hu
        simp at hu
        subst hu
        exact ⟨ds, hrow, hav _ ds (unhide HO3)⟩
    · obtain rfl : k = n := by omega
      go_wp2
      go_ret
      refine ⟨l, rfl, hlk, ?_, unhide hO, hs, unhide hT, hB⟩
      have := unhide hP
      rwa [List.take_of_length_le (Nat.le_of_eq (unhide hL))] at this
end Go.Proofs.Ythpcpminikmcbaa.og
namespace Go.Proofs
open Go.Shelf
def Try.sortMem_ren : Go.Shelf.Ren := ⟨fun | 6 => 87 | 15 => 74 | 14 => 112 | 28 => 103 | 29 => 104 | 20 => 128 | 21 => 129 | 22 => 130 | 23 => 131 | 24 => 132 | 25 => 133 | 26 => 134 | 27 => 135 | 46 => 139 | 47 => 117 | 48 => 118 | 49 => 140 | 50 => 141 | 57 => 142 | n => n, fun | 22 => 25 | 24 => 69 | 25 => 105 | 3 => 3 | 39 => 111 | 0 => 0 | 53 => 137 | 55 => 139 | 4 => 4 | 46 => 130 | 45 => 129 | 50 => 134 | 5 => 5 | 9 => 9 | 66 => 152 | 70 => 156 | 76 => 169 | 77 => 170 | n => n, fun | n => n⟩
theorem Try.sortMem : Go.Proofs.SlLaysF0.n6 Try.prog Try.sortMem_ren := {
  mixed := by kernel_rfl
  f6 := ⟨Try.f87.name, by decide, Try.func87.trans (congrArg some (by kernel_rfl))⟩
  f14 := ⟨Try.f112.name, by decide, Try.func112.trans (congrArg some (by kernel_rfl))⟩
  f15 := Try.func74.trans (congrArg some (by kernel_rfl))
  f20 := ⟨Try.f128.name, by decide, Try.func128.trans (congrArg some (by kernel_rfl))⟩
  f21 := ⟨Try.f129.name, by decide, Try.func129.trans (congrArg some (by kernel_rfl))⟩
  f22 := ⟨Try.f130.name, by decide, Try.func130.trans (congrArg some (by kernel_rfl))⟩
  f23 := ⟨Try.f131.name, by decide, Try.func131.trans (congrArg some (by kernel_rfl))⟩
  f24 := ⟨Try.f132.name, by decide, Try.func132.trans (congrArg some (by kernel_rfl))⟩
  f25 := ⟨Try.f133.name, by decide, Try.func133.trans (congrArg some (by kernel_rfl))⟩
  f26 := ⟨Try.f134.name, by decide, Try.func134.trans (congrArg some (by kernel_rfl))⟩
  f27 := ⟨Try.f135.name, by decide, Try.func135.trans (congrArg some (by kernel_rfl))⟩
  f28 := Try.func103.trans (congrArg some (by kernel_rfl))
  f29 := Try.func104.trans (congrArg some (by kernel_rfl))
  f46 := ⟨Try.f139.name, by decide, Try.func139.trans (congrArg some (by kernel_rfl))⟩
  f47 := Try.func117.trans (congrArg some (by kernel_rfl))
  f48 := Try.func118.trans (congrArg some (by kernel_rfl))
  f49 := ⟨Try.f140.name, by decide, Try.func140.trans (congrArg some (by kernel_rfl))⟩
  f50 := ⟨Try.f141.name, by decide, Try.func141.trans (congrArg some (by kernel_rfl))⟩
  f57 := ⟨Try.f142.name, by decide, Try.func142.trans (congrArg some (by kernel_rfl))⟩
  t0 := Try.underlying0
  a0 := Try.isAgg0
  z0 := Try.sizeOf0
  v0 := Try.zeroValue0
  t3 := Try.underlying3
  a3 := Try.isAgg3
  z3 := Try.sizeOf3
  v3 := Try.zeroValue3
  t4 := Try.underlying4
  a4 := Try.isAgg4
  z4 := Try.sizeOf4
  v4 := Try.zeroValue4
  t5 := Try.underlying5
  a5 := Try.isAgg5
  z5 := Try.sizeOf5
  v5 := Try.zeroValue5
  t9 := Try.underlying9
  a9 := Try.isAgg9
  z9 := Try.sizeOf9
  v9 := Try.zeroValue9
  t22 := Try.underlying25
  a22 := Try.isAgg25
  z22 := Try.sizeOf25
  v22 := Try.zeroValue25
  t25 := Try.underlying105
  a25 := Try.isAgg105
  z25 := Try.sizeOf105
  v25 := Try.zeroValue105
  t39 := Try.underlying111
  a39 := Try.isAgg111
  z39 := Try.sizeOf111
  v39 := Try.zeroValue111
  t45 := Try.underlying129
  a45 := Try.isAgg129
  z45 := Try.sizeOf129
  v45 := Try.zeroValue129
  t46 := Try.underlying130
  a46 := Try.isAgg130
  z46 := Try.sizeOf130
  v46 := Try.zeroValue130
  t50 := Try.underlying134
  a50 := Try.isAgg134
  z50 := Try.sizeOf134
  v50 := Try.zeroValue134
  t53 := Try.underlying137
  a53 := Try.isAgg137
  z53 := Try.sizeOf137
  v53 := Try.zeroValue137
  t55 := Try.underlying139
  a55 := Try.isAgg139
  z55 := Try.sizeOf139
  v55 := Try.zeroValue139
  t66 := Try.underlying152
  a66 := Try.isAgg152
  z66 := Try.sizeOf152
  v66 := Try.zeroValue152
  t70 := Try.underlying156
  a70 := Try.isAgg156
  z70 := Try.sizeOf156
  v70 := Try.zeroValue156
  t76 := Try.underlying169
  a76 := Try.isAgg169
  z76 := Try.sizeOf169
  v76 := Try.zeroValue169
  t77 := Try.underlying170
  a77 := Try.isAgg170
  z77 := Try.sizeOf170
  v77 := Try.zeroValue170 }
end Go.Proofs
namespace Go.Proofs.Ythpcpminikmcbaa.og
open Go.ChangeShapes Go.WideShapes Go.ChangeAt Go.RowKit Go.Shelf
open Go.Sort hiding Below
open vl hiding cB cFl cS cF cI cK cIt
set_option linter.unusedVariables false
set_option linter.unusedSimpArgs false
theorem Gr.grow {w w' : World} (h : Gr w w') : ∃ q os, w' = Go.Sort.grow (w.drewN q) os := by
  refine ⟨w'.drawn - w.drawn, w'.heap.extract w.heap.size w'.heap.size, ?_⟩
  obtain ⟨⟨h1, h2, h3, h4, h5⟩, hd⟩ := h
  obtain ⟨hp, tp, dr, os, ou⟩ := w
  obtain ⟨hp', tp', dr', os', ou'⟩ := w'
  simp only at h1 h2 h3 h4 h5 hd
  subst h1 h2 h3
  simp only [Go.Sort.grow, World.drewN, World.mk.injEq, and_true, true_and]
  refine ⟨?_, by omega⟩
  apply Array.ext_getElem?
  intro k
  by_cases hk : k < hp.size
  · rw [h5 k hk, Array.getElem?_append_left hk]
  · rw [Array.getElem?_append_right (by omega)]
    by_cases hk2 : k < hp'.size
    · rw [Array.getElem?_eq_getElem hk2, Array.getElem?_eq_getElem (by simp; omega)]
      simp only [Array.getElem_extract]
      congr 2
      omega
    · rw [Array.getElem?_eq_none (by omega), Array.getElem?_eq_none (by simp; omega)]
/-- a member of a row that is sorted -/
def Mb (Q : Nat → Prop) (w0 : World) : Type := { x : ByteArray × Vl × List Value // x.1.size ≤ maxLen ∧ Small x.2.1 ∧ AvC Q w0 x.2.1 x.2.2 }
instance (Q : Nat → Prop) (w0 : World) : Inhabited (Mb Q w0) := ⟨⟨(⟨#[]⟩, z0, z8), Nat.zero_le _, (by simp [vl.z0, Small, SmallI, SmallF, Vls.list, Fls.list]), OwC.av _ _ _ (fun b hb => by simp at hb) (OwC.zero w0)⟩⟩
def Mb.pr {Q : Nat → Prop} {w0 : World} (x : Mb Q w0) : ByteArray × Vl := (x.1.1, x.1.2.1)
def Mb.enc {Q : Nat → Prop} {w0 : World} (x : Mb Q w0) : List Value := .string x.1.1 :: x.1.2.2
def Mb.cf {Q : Nat → Prop} {w0 : World} (x y : Mb Q w0) : Int := ordM x.pr y.pr
theorem Mb.len {Q : Nat → Prop} {w0 : World} (x : Mb Q w0) : x.enc.length = 9 := by unfold Mb.enc; rw [List.length_cons, x.2.2.2.cells]
theorem Mb.one {Q : Nat → Prop} {w0 : World} (x : Mb Q w0) : ∀ v ∈ x.enc, v.oneCell' = true := by
  have := one9 x.1.1 (AvC.read _ _ x.2.2.2)
  unfold Mb.enc
  simpa using this
theorem Mb.swo (Q : Nat → Prop) (w0 : World) : Go.Sort.SWO (ltOf (Mb.cf (Q := Q) (w0 := w0))) where
  irrefl x := by unfold ltOf Mb.cf; rw [ordM_thn, cB_self, ordV_self]; simp [thn]
  trans x y z h1 h2 := by
    have t := Tr.ordM x.pr y.pr z.pr x.2.2.1 y.2.2.1 z.2.2.1
    have r1 := Rg.ordM x.pr y.pr x.2.2.1 y.2.2.1
    have r2 := Rg.ordM y.pr z.pr y.2.2.1 z.2.2.1
    have r3 := Rg.ordM x.pr z.pr x.2.2.1 z.2.2.1
    unfold ltOf Mb.cf at *
    unfold Tr at t
    unfold Rg at r1 r2 r3
    simp at *
    omega
  ntrans x y z h1 h2 := by
    have t := Tr.ordM x.pr y.pr z.pr x.2.2.1 y.2.2.1 z.2.2.1
    have r1 := Rg.ordM x.pr y.pr x.2.2.1 y.2.2.1
    have r2 := Rg.ordM y.pr z.pr y.2.2.1 z.2.2.1
    have r3 := Rg.ordM x.pr z.pr x.2.2.1 z.2.2.1
    unfold ltOf Mb.cf at *
    unfold Tr at t
    unfold Rg at r1 r2 r3
    simp at *
    omega
theorem Mb.agree {Q : Nat → Prop} {w0 W : World} (p : Nat) (hp : Q p) (ha : ∀ b j, b ≠ p → b < w0.heap.size → W.cell? ⟨b, j, none⟩ = w0.cell? ⟨b, j, none⟩) (x : Mb Q w0) : AvC Q W x.1.2.1 x.1.2.2 :=
  AvC.agree (fun _ _ h => h) (fun b j hl hn => ha b j (fun e => hn (e ▸ hp)) hl) _ _ x.2.2.2
theorem Mb.lays (Q : Nat → Prop) (w0 : World) (p size : Nat) (hp : Q p) : CmpLays Try.prog 69 #[] (Mb.enc (Q := Q) (w0 := w0)) 9 Mb.cf p 0 size w0 := by
  intro m os dk hdk x y
  have ha : ∀ b j, b ≠ p → b < w0.heap.size → (sortWorldK Mb.enc 9 w0 p 0 m dk os).cell? ⟨b, j, none⟩ = w0.cell? ⟨b, j, none⟩ := fun b j h1 h2 => cell?_sortWorldK_other _ _ _ _ _ _ _ _ ⟨b, j, none⟩ h1 h2
  have h1 := AvC.read _ _ (Mb.agree p hp ha x)
  have h2 := AvC.read _ _ (Mb.agree p hp ha y)
  refine (ordM_ok x.pr y.pr (order_ok _ x.2.2.1 _ y.2.2.1) x.1.2.2 y.1.2.2 _ h1 h2).mono ?_
  rintro e w' ⟨rfl, g⟩
  exact ⟨rfl, g.grow⟩
theorem row_list {Q : Nat → Prop} {w : World} {p : Nat} : ∀ (l : List (ByteArray × Vl)) (off : Nat), (∀ (i : Nat) (q : ByteArray × Vl), l[i]? = some q → ∃ cs, w.cell? ⟨p, off + i * 9, none⟩ = some (.string q.1) ∧ q.1.size ≤ maxLen ∧ Row8 w p (off + i * 9 + 1) cs ∧ AvC Q w q.2 cs) → (∀ q ∈ l, Small q.2) →
    ∃ dl : List (Mb Q w), dl.map Mb.pr = l ∧ ∀ (i : Nat) (x : Mb Q w), dl[i]? = some x → w.rangeAt p (off + i * 9) x.enc
  | [], off, _, _ => ⟨[], rfl, fun i x hx => by simp at hx⟩
  | q :: r, off, h, hs => by
    obtain ⟨cs, h0, hz, h1, h2⟩ := h 0 q rfl
    obtain ⟨dl, e, hd⟩ := row_list r (off + 9) (fun i u hu => by
      obtain ⟨ds, g0, gz, g1, g2⟩ := h (i + 1) u (by simpa using hu)
      exact ⟨ds, by rw [show off + 9 + i * 9 = off + (i + 1) * 9 by omega]; exact g0, gz, by rw [show off + 9 + i * 9 + 1 = off + (i + 1) * 9 + 1 by omega]; exact g1, g2⟩) (fun u hu => hs u (List.mem_cons_of_mem _ hu))
    obtain ⟨x0, hx0⟩ : ∃ x0 : Mb Q w, x0.1 = (q.1, q.2, cs) := ⟨⟨_, hz, hs q (List.mem_cons_self ..), h2⟩, rfl⟩
    have hpr : x0.pr = q := by unfold Mb.pr; rw [hx0]
    have hen : x0.enc = .string q.1 :: cs := by unfold Mb.enc; rw [hx0]
    refine ⟨x0 :: dl, by rw [List.map_cons, e, hpr], fun i x hx => ?_⟩
    cases i with
    | zero =>
      simp at hx
      subst hx
      rw [hen]
      have := row9 (by simpa using h1) (by simpa using h0)
      simpa using this
    | succ i =>
      have := hd i x (by simpa using hx)
      rwa [show off + (i + 1) * 9 = off + 9 + i * 9 by omega]
/-- no later one is ahead of an earlier one -/
def Srtd (l : List (ByteArray × Vl)) : Prop := ∀ (i j : Nat) (x y : ByteArray × Vl), i < j → l[i]? = some x → l[j]? = some y → ordM x y ≤ 0
theorem flat_get {Q : Nat → Prop} {w0 : World} (d : Array (Mb Q w0)) (i j : Nat) (hi : i < d.size) (hj : j < 9) : (flatK Mb.enc 9 d)[i * 9 + j]! = (Mb.enc d[i]!)[j]! := by
  rw [get_flatK _ _ _ _ (by have := Nat.mul_le_mul_right 9 (show i + 1 ≤ d.size from hi); omega), show (i * 9 + j) / 9 = i by omega, show (i * 9 + j) % 9 = j by omega]
theorem holds_of {Q : Nat → Prop} {w w0 : World} {p : Nat} (d : Array (Mb Q w0)) (hr : ∀ i, i < d.size → w.rangeAt p (i * 9) (Mb.enc d[i]!)) (ht : w.there p 0 (d.size * 9)) : HoldsK Mb.enc 9 w p 0 d := by
  intro t htl
  rw [size_flatK] at htl
  have hi : t / 9 < d.size := by omega
  refine ⟨?_, by have := (ht t htl).2; simpa using this⟩
  have hj : t % 9 < (Mb.enc d[t / 9]!).length := by rw [Mb.len]; omega
  have h1 := hr (t / 9) hi (t % 9) _ (List.getElem?_eq_getElem hj)
  rw [show t / 9 * 9 + t % 9 = t by omega] at h1
  rw [Nat.zero_add, h1, get_flatK _ _ _ _ htl]
  simp only [id]
  rw [getElem!_pos (Mb.enc d[t / 9]!) (t % 9) hj]
theorem of_holds {Q : Nat → Prop} {w w0 : World} {p : Nat} (d : Array (Mb Q w0)) (h : HoldsK Mb.enc 9 w p 0 d) (i : Nat) (hi : i < d.size) : w.rangeAt p (i * 9) (Mb.enc d[i]!) := by
  intro j u hu
  have hj : j < 9 := by have := (List.getElem?_eq_some_iff.1 hu).1; rw [Mb.len] at this; exact this
  have h1 := (h (i * 9 + j) (by rw [size_flatK]; have := Nat.mul_le_mul_right 9 (show i + 1 ≤ d.size from hi); omega)).1
  rw [Nat.zero_add, flat_get d i j hi hj] at h1
  rw [h1]
  obtain ⟨hl, e⟩ := List.getElem?_eq_some_iff.1 hu
  rw [getElem!_pos (Mb.enc d[i]!) j hl, e]
  rfl
set_option maxHeartbeats 2000000 in
theorem sortRow_ok (Q : Nat → Prop) (l : List (ByteArray × Vl)) (hsm : ∀ q ∈ l, Small q.2) (p n c : Nat) (w : World) (hn : l.length = n) (hp : p < w.heap.size) (hQ : Q p) (hrow : RowF Q w p l) (ht : w.there p 0 (n * 9)) (hb : n ≤ 1099511627776) :
    Calls Try.prog 87 #[.slice (some ⟨p, 0, none⟩) n c, .func (.func 69) #[] #[]] w fun e w' => e = .returned (.tuple #[]) ∧ ∃ l' : List (ByteArray × Vl), l'.Perm l ∧ Srtd l' ∧ RowF Q w' p l' ∧ Below p w w' ∧ w.drawn ≤ w'.drawn := by
  obtain ⟨dl, e, hd⟩ := row_list (Q := Q) (w := w) (p := p) l 0 (fun i q hq => by simpa using hrow i q hq) hsm
  have hdl : dl.length = n := by rw [← hn, ← e, List.length_map]
  have hg : ∀ i, i < dl.toArray.size → w.rangeAt p (i * 9) (Mb.enc dl.toArray[i]!) := fun i hi => by
    have hi' : i < dl.length := by simpa using hi
    have := hd i dl[i] (List.getElem?_eq_getElem hi')
    rw [Nat.zero_add] at this
    rw [getElem!_pos dl.toArray i hi]
    simpa using this
  have hH : HoldsK Mb.enc 9 w p 0 dl.toArray := holds_of dl.toArray hg (by simpa [hdl] using ht)
  have eg : ∀ args w, (callFunc 69 args).run Try.prog w = .ok (.enter 69 args) w := enters_of Try.func69 (by kernel_rfl) rfl
  have aE : ∀ w, (isAgg 69).run Try.prog w = .ok true w := fun w => by kernel_rfl
  have zE : ∀ w, (Go.sizeOf 69).run Try.prog w = .ok 9 w := fun w => by kernel_rfl
  have hcon := AnyQ.slices_SortFunc Try.sortMem 9 aE zE (Mb.enc (Q := Q) (w0 := w)) Mb.len Mb.one Mb.cf (Mb.swo Q w) 69 #[] p 0 c dl.toArray w eg (Mb.lays Q w p _ hQ) hH hp (by simp [hdl]; omega)
  rw [show (dl.toArray.size : Nat) = n by simp [hdl]] at hcon
  refine hcon.mono ?_
  rintro e' w' ⟨rfl, d', m, os, ⟨hds, -, hpm⟩, hst, rfl⟩
  have hds' : d'.size = n := by rw [hds]; simp [hdl]
  have hH' : HoldsK Mb.enc 9 (sortWorldK Mb.enc 9 w p 0 m d' os) p 0 d' := holdsK_sortWorldK_c _ _ _ _ _ _ _ _ _ hH hp hds
  have ha : ∀ b j, b ≠ p → b < w.heap.size → (sortWorldK Mb.enc 9 w p 0 m d' os).cell? ⟨b, j, none⟩ = w.cell? ⟨b, j, none⟩ := fun b j h1 h2 => cell?_sortWorldK_other _ _ _ _ _ _ _ _ ⟨b, j, none⟩ h1 h2
  refine ⟨rfl, d'.toList.map Mb.pr, ?_, ?_, ?_, ?_, ?_⟩
  · rw [← e]
    have h1 : (d'.extract 0 n).toList = d'.toList := by rw [← hds']; simp
    have h2 : (dl.toArray.extract 0 n).toList = dl := by rw [← hdl]; simp
    rw [h1, h2] at hpm
    exact hpm.map _
  · intro i j x y hij hx hy
    simp only [List.getElem?_map, Option.map_eq_some_iff] at hx hy
    obtain ⟨a, ha', rfl⟩ := hx
    obtain ⟨b, hb', rfl⟩ := hy
    obtain ⟨li, ea⟩ := List.getElem?_eq_some_iff.1 ha'
    obtain ⟨lj, eb⟩ := List.getElem?_eq_some_iff.1 hb'
    simp only [Array.length_toList] at li lj
    have := hst i j (Nat.zero_le _) hij (by omega)
    rw [getElem!_pos d' i li, getElem!_pos d' j lj] at this
    rw [← Array.getElem_toList, ← Array.getElem_toList, ea, eb] at this
    unfold ltOf Mb.cf at this
    have t := Tr.ordM a.pr b.pr a.pr a.2.2.1 b.2.2.1 a.2.2.1
    have r1 := Rg.ordM a.pr b.pr a.2.2.1 b.2.2.1
    have r2 := Rg.ordM b.pr a.pr b.2.2.1 a.2.2.1
    have sf : ordM a.pr a.pr = 0 := by rw [ordM_thn, cB_self, ordV_self]; rfl
    rw [sf] at t
    unfold Tr at t
    unfold Rg at r1 r2
    simp at this
    omega
  · intro i q hq
    simp only [List.getElem?_map, Option.map_eq_some_iff] at hq
    obtain ⟨a, ha', rfl⟩ := hq
    obtain ⟨li, ea⟩ := List.getElem?_eq_some_iff.1 ha'
    simp only [Array.length_toList] at li
    have hr := of_holds d' hH' i li
    rw [getElem!_pos d' i li, ← Array.getElem_toList, ea] at hr
    exact ⟨a.1.2.2, hr 0 _ rfl, a.2.1, fun j x hx => by have := hr (j + 1) x (by simpa [Mb.enc] using hx); rwa [show i * 9 + (j + 1) = i * 9 + 1 + j by omega] at this, Mb.agree p hQ ha a⟩
  · refine ⟨rfl, rfl, rfl, size_sortWorldK_c _ _ _ _ _ _ _ _, fun k hk => ?_⟩
    show (Go.Sort.grow _ os).heap[k]? = _
    rw [Go.Sort.heap_grow_old _ _ (by rw [size_putRowK]; show k < w.heap.size; omega)]
    simp only [putRowK, Go.Sort.putRow, Go.Sort.mapBlock]
    rw [Array.getElem?_modify, if_neg (by omega)]
    rfl
  · show w.drawn ≤ w.drawn + m
    omega
end Go.Proofs.Ythpcpminikmcbaa.og
namespace Go.Proofs
open Go.Shelf
def Try.sortFlt_ren : Go.Shelf.Ren := ⟨fun | 6 => 39 | 15 => 74 | 14 => 73 | 28 => 103 | 29 => 104 | 20 => 95 | 21 => 96 | 22 => 97 | 23 => 98 | 24 => 99 | 25 => 100 | 26 => 101 | 27 => 102 | 46 => 116 | 47 => 117 | 48 => 118 | 49 => 119 | 50 => 120 | 57 => 136 | n => n, fun | 22 => 50 | 24 => 55 | 25 => 78 | 3 => 3 | 39 => 111 | 0 => 0 | 53 => 137 | 55 => 139 | 4 => 4 | 46 => 130 | 45 => 129 | 50 => 134 | 5 => 5 | 9 => 9 | 66 => 152 | 70 => 156 | 76 => 169 | 77 => 170 | n => n, fun | n => n⟩
theorem Try.sortFlt : Go.Proofs.SlLaysF0.n6 Try.prog Try.sortFlt_ren := {
  mixed := by kernel_rfl
  f6 := ⟨Try.f39.name, by decide, Try.func39.trans (congrArg some (by kernel_rfl))⟩
  f14 := ⟨Try.f73.name, by decide, Try.func73.trans (congrArg some (by kernel_rfl))⟩
  f15 := Try.func74.trans (congrArg some (by kernel_rfl))
  f20 := ⟨Try.f95.name, by decide, Try.func95.trans (congrArg some (by kernel_rfl))⟩
  f21 := ⟨Try.f96.name, by decide, Try.func96.trans (congrArg some (by kernel_rfl))⟩
  f22 := ⟨Try.f97.name, by decide, Try.func97.trans (congrArg some (by kernel_rfl))⟩
  f23 := ⟨Try.f98.name, by decide, Try.func98.trans (congrArg some (by kernel_rfl))⟩
  f24 := ⟨Try.f99.name, by decide, Try.func99.trans (congrArg some (by kernel_rfl))⟩
  f25 := ⟨Try.f100.name, by decide, Try.func100.trans (congrArg some (by kernel_rfl))⟩
  f26 := ⟨Try.f101.name, by decide, Try.func101.trans (congrArg some (by kernel_rfl))⟩
  f27 := ⟨Try.f102.name, by decide, Try.func102.trans (congrArg some (by kernel_rfl))⟩
  f28 := Try.func103.trans (congrArg some (by kernel_rfl))
  f29 := Try.func104.trans (congrArg some (by kernel_rfl))
  f46 := ⟨Try.f116.name, by decide, Try.func116.trans (congrArg some (by kernel_rfl))⟩
  f47 := Try.func117.trans (congrArg some (by kernel_rfl))
  f48 := Try.func118.trans (congrArg some (by kernel_rfl))
  f49 := ⟨Try.f119.name, by decide, Try.func119.trans (congrArg some (by kernel_rfl))⟩
  f50 := ⟨Try.f120.name, by decide, Try.func120.trans (congrArg some (by kernel_rfl))⟩
  f57 := ⟨Try.f136.name, by decide, Try.func136.trans (congrArg some (by kernel_rfl))⟩
  t0 := Try.underlying0
  a0 := Try.isAgg0
  z0 := Try.sizeOf0
  v0 := Try.zeroValue0
  t3 := Try.underlying3
  a3 := Try.isAgg3
  z3 := Try.sizeOf3
  v3 := Try.zeroValue3
  t4 := Try.underlying4
  a4 := Try.isAgg4
  z4 := Try.sizeOf4
  v4 := Try.zeroValue4
  t5 := Try.underlying5
  a5 := Try.isAgg5
  z5 := Try.sizeOf5
  v5 := Try.zeroValue5
  t9 := Try.underlying9
  a9 := Try.isAgg9
  z9 := Try.sizeOf9
  v9 := Try.zeroValue9
  t22 := Try.underlying50
  a22 := Try.isAgg50
  z22 := Try.sizeOf50
  v22 := Try.zeroValue50
  t25 := Try.underlying78
  a25 := Try.isAgg78
  z25 := Try.sizeOf78
  v25 := Try.zeroValue78
  t39 := Try.underlying111
  a39 := Try.isAgg111
  z39 := Try.sizeOf111
  v39 := Try.zeroValue111
  t45 := Try.underlying129
  a45 := Try.isAgg129
  z45 := Try.sizeOf129
  v45 := Try.zeroValue129
  t46 := Try.underlying130
  a46 := Try.isAgg130
  z46 := Try.sizeOf130
  v46 := Try.zeroValue130
  t50 := Try.underlying134
  a50 := Try.isAgg134
  z50 := Try.sizeOf134
  v50 := Try.zeroValue134
  t53 := Try.underlying137
  a53 := Try.isAgg137
  z53 := Try.sizeOf137
  v53 := Try.zeroValue137
  t55 := Try.underlying139
  a55 := Try.isAgg139
  z55 := Try.sizeOf139
  v55 := Try.zeroValue139
  t66 := Try.underlying152
  a66 := Try.isAgg152
  z66 := Try.sizeOf152
  v66 := Try.zeroValue152
  t70 := Try.underlying156
  a70 := Try.isAgg156
  z70 := Try.sizeOf156
  v70 := Try.zeroValue156
  t76 := Try.underlying169
  a76 := Try.isAgg169
  z76 := Try.sizeOf169
  v76 := Try.zeroValue169
  t77 := Try.underlying170
  a77 := Try.isAgg170
  z77 := Try.sizeOf170
  v77 := Try.zeroValue170 }
end Go.Proofs
namespace Go.Proofs.Ythpcpminikmcbaa.og
open Go.ChangeShapes Go.WideShapes Go.ChangeAt Go.RowKit Go.Shelf
open Go.Sort hiding Below
open vl hiding cB cFl cS cF cI cK cIt
open stp (St Pth c3 c3_lt c3_gt c3_eq cS lexS)
set_option linter.unusedVariables false
set_option linter.unusedSimpArgs false
theorem Rg.cS (a b : St) : Rg (stp.cS a b) := by
  unfold stp.cS
  cases a.it <;> cases b.it <;> simp only [if_true, if_false, Bool.false_eq_true]
  · exact Rg.cB _ _
  · exact .inr (.inr rfl)
  · exact .inl rfl
  · exact Rg.c3 _ _
theorem Tr.cS (a b c : St) : Tr (stp.cS a b) (stp.cS b c) (stp.cS a c) := by
  have r1 := Rg.cS a b
  have r2 := Rg.cS b c
  have r3 := Rg.cS a c
  unfold stp.cS at *
  cases a.it <;> cases b.it <;> cases c.it <;> simp only [if_true, if_false, Bool.false_eq_true] at *
  · exact Tr.cB _ _ _
  · unfold Tr; omega
  · unfold Tr; unfold Rg at r3; omega
  · unfold Tr; omega
  · unfold Tr; omega
  · unfold Tr; unfold Rg at r3; omega
  · unfold Tr; omega
  · exact Tr.c3 _ _ _
theorem lexS_lexG : ∀ a b : List St, lexS a b = lexG stp.cS a b
  | [], [] => rfl
  | [], _ :: _ => rfl
  | _ :: _, [] => rfl
  | a :: l, b :: r => by
    show (if stp.cS a b = 0 then lexS l r else stp.cS a b) = (if stp.cS a b = 0 then lexG stp.cS l r else stp.cS a b)
    rw [lexS_lexG l r]
theorem Rg.cP (p q : Int × Int) : Rg (og.cP p q) := Rg.thn (Rg.c3 _ _) (Rg.c3 _ _)
theorem Tr.cP (p q r : Int × Int) : Tr (og.cP p q) (og.cP q r) (og.cP p r) := Tr.thn (Rg.c3 _ _) (Rg.c3 _ _) (Rg.c3 _ _) (Tr.c3 _ _ _) (Tr.c3 _ _ _)
theorem Rg.lexS (a b : List St) : Rg (stp.lexS a b) := by rw [lexS_lexG]; exact Rg.lexG _ _ (fun _ _ _ _ => Rg.cS _ _)
theorem Tr.lexS (a b c : List St) : Tr (stp.lexS a b) (stp.lexS b c) (stp.lexS a c) := by rw [lexS_lexG, lexS_lexG, lexS_lexG]; exact Tr.lexG _ _ _ (fun _ _ _ _ => Rg.cS _ _) (fun _ _ _ _ _ _ => Tr.cS _ _ _)
theorem Rg.lexP (a b : List (Int × Int)) : Rg (og.lexG og.cP a b) := Rg.lexG _ _ (fun _ _ _ _ => Rg.cP _ _)
theorem Tr.lexP (a b c : List (Int × Int)) : Tr (og.lexG og.cP a b) (og.lexG og.cP b c) (og.lexG og.cP a c) := Tr.lexG _ _ _ (fun _ _ _ _ => Rg.cP _ _) (fun _ _ _ _ _ _ => Tr.cP _ _ _)
theorem Rg.cF (f g : Ft) : Rg (og.cF f g) := Rg.thn (Rg.c3 _ _) (Rg.thn (Rg.lexP _ _) (Rg.lexS _ _))
theorem Tr.cF (f g h : Ft) : Tr (og.cF f g) (og.cF g h) (og.cF f h) := Tr.thn (Rg.c3 _ _) (Rg.c3 _ _) (Rg.c3 _ _) (Tr.c3 _ _ _) (Tr.thn (Rg.lexP _ _) (Rg.lexP _ _) (Rg.lexP _ _) (Tr.lexP _ _ _) (Tr.lexS _ _ _))
theorem lexG_selfA {α : Type} {f : α → α → Int} (h : ∀ a, f a a = 0) : ∀ l : List α, lexG f l l = 0
  | [] => rfl
  | a :: l => by rw [lexG_cons, h a]; exact lexG_selfA h l
theorem c3_self (x : Int) : c3 x x = 0 := c3_eq rfl
theorem cP_self (p : Int × Int) : og.cP p p = 0 := by unfold og.cP; rw [c3_self, c3_self]; rfl
theorem cF_self (f : Ft) : og.cF f f = 0 := by unfold og.cF; rw [c3_self, lexG_selfA cP_self, stp.lex_self]; rfl
/-- a fault that can be read in V, and its three cells -/
def Fb (V : World) : Type := { x : Ft × List Value // FtC V x.1 x.2 }
theorem FtC.zero (V : World) : FtC V ⟨0, [], []⟩ [.int .i64 0, .slice none 0 0, .slice none 0 0] := ⟨none, 0, 0, none, 0, 0, rfl, ⟨rfl, .inl rfl⟩, ⟨rfl, .inl rfl⟩, by omega, by omega, Nat.le_refl _, Nat.le_refl _, fun _ => rfl, fun _ => rfl, Nat.zero_le _, Nat.zero_le _⟩
instance (V : World) : Inhabited (Fb V) := ⟨⟨(⟨0, [], []⟩, [.int .i64 0, .slice none 0 0, .slice none 0 0]), FtC.zero V⟩⟩
def Fb.ft {V : World} (x : Fb V) : Ft := x.1.1
def Fb.enc {V : World} (x : Fb V) : List Value := x.1.2
def Fb.cf {V : World} (x y : Fb V) : Int := cF x.ft y.ft
theorem Fb.len {V : World} (x : Fb V) : x.enc.length = 3 := by
  obtain ⟨ap, np, cp, aq, nq, cq, e, -⟩ := x.2
  show x.1.2.length = 3
  rw [e]; rfl
theorem Fb.one {V : World} (x : Fb V) : ∀ v ∈ x.enc, v.oneCell' = true := by
  obtain ⟨ap, np, cp, aq, nq, cq, e, -⟩ := x.2
  show ∀ v ∈ x.1.2, _
  rw [e]
  simp [Value.oneCell']
theorem Fb.swo (V : World) : Go.Sort.SWO (ltOf (Fb.cf (V := V))) where
  irrefl x := by unfold ltOf Fb.cf; rw [cF_self]; simp
  trans x y z h1 h2 := by
    have t := Tr.cF x.ft y.ft z.ft
    have r1 := Rg.cF x.ft y.ft
    have r2 := Rg.cF y.ft z.ft
    have r3 := Rg.cF x.ft z.ft
    unfold ltOf Fb.cf at *
    unfold Tr at t
    unfold Rg at r1 r2 r3
    simp at *
    omega
  ntrans x y z h1 h2 := by
    have t := Tr.cF x.ft y.ft z.ft
    have r1 := Rg.cF x.ft y.ft
    have r2 := Rg.cF y.ft z.ft
    have r3 := Rg.cF x.ft z.ft
    unfold ltOf Fb.cf at *
    unfold Tr at t
    unfold Rg at r1 r2 r3
    simp at *
    omega
theorem below_sortWorld {α : Type} [Inhabited α] (enc : α → List Value) (size : Nat) (w : World) (p m : Nat) (d : Array α) (os : Array Obj) (hp : p < w.heap.size) : Below p w (sortWorldK enc size w p 0 m d os) := by
  refine ⟨rfl, rfl, rfl, size_sortWorldK_c _ _ _ _ _ _ _ _, fun k hk => ?_⟩
  show (Go.Sort.grow _ os).heap[k]? = _
  rw [Go.Sort.heap_grow_old _ _ (by rw [size_putRowK]; show k < w.heap.size; omega)]
  simp only [putRowK, Go.Sort.putRow, Go.Sort.mapBlock]
  rw [Array.getElem?_modify, if_neg (by omega)]
  rfl
theorem Fb.lays (V w0 : World) (p size : Nat) (hV : Below V.heap.size V w0) (hVp : V.heap.size ≤ p) (hp : p < w0.heap.size) : CmpLays Try.prog 40 #[] (Fb.enc (V := V)) 3 Fb.cf p 0 size w0 := by
  intro m os dk hdk x y
  have hb : Below V.heap.size V (sortWorldK Fb.enc 3 w0 p 0 m dk os) := hV.trans ((below_sortWorld _ _ _ _ _ _ _ hp).mono hVp)
  refine (faultG x.ft y.ft x.1.2 y.1.2 _ (x.2.below hb) (y.2.below hb)).mono ?_
  rintro e w' ⟨rfl, g⟩
  exact ⟨rfl, g.grow⟩
/-- a row of faults in a block of its own -/
structure RowB {V : World} (w : World) (p : Nat) (l : List (Fb V)) : Prop where
  row : ∀ (i : Nat) (x : Fb V), l[i]? = some x → w.rangeAt p (i * 3) x.enc
  thr : w.there p 0 (l.length * 3)
/-- no later one is ahead of an earlier one -/
def SrtB {V : World} (l : List (Fb V)) : Prop := ∀ (i j : Nat) (x y : Fb V), i < j → l[i]? = some x → l[j]? = some y → x.cf y ≤ 0
theorem flat_getB {V : World} (d : Array (Fb V)) (i j : Nat) (hi : i < d.size) (hj : j < 3) : (flatK Fb.enc 3 d)[i * 3 + j]! = (Fb.enc d[i]!)[j]! := by
  rw [get_flatK _ _ _ _ (by have := Nat.mul_le_mul_right 3 (show i + 1 ≤ d.size from hi); omega), show (i * 3 + j) / 3 = i by omega, show (i * 3 + j) % 3 = j by omega]
theorem holds_ofB {V w : World} {p : Nat} (l : List (Fb V)) (h : RowB w p l) : HoldsK Fb.enc 3 w p 0 l.toArray := by
  intro t htl
  rw [size_flatK] at htl
  simp only [List.size_toArray] at htl
  have hi : t / 3 < l.length := by omega
  refine ⟨?_, by have := (h.thr t htl).2; simpa using this⟩
  have hi' : t / 3 < l.toArray.size := by simpa using hi
  have e : l.toArray[t / 3]! = l[t / 3] := by rw [getElem!_pos l.toArray (t / 3) hi']; simp
  have hj : t % 3 < (Fb.enc l[t / 3]).length := by rw [Fb.len]; omega
  have h1 := h.row (t / 3) _ (List.getElem?_eq_getElem hi) (t % 3) _ (List.getElem?_eq_getElem hj)
  rw [show t / 3 * 3 + t % 3 = t by omega] at h1
  rw [Nat.zero_add, h1, get_flatK _ _ _ _ (by simpa using htl), e]
  simp only [id]
  rw [getElem!_pos (Fb.enc l[t / 3]) (t % 3) hj]
theorem of_holdsB {V w : World} {p : Nat} (d : Array (Fb V)) (h : HoldsK Fb.enc 3 w p 0 d) : RowB w p d.toList := by
  refine ⟨fun i x hx j u hu => ?_, fun t ht => ?_⟩
  · obtain ⟨li, ea⟩ := List.getElem?_eq_some_iff.1 hx
    simp only [Array.length_toList] at li
    have hj : j < 3 := by have := (List.getElem?_eq_some_iff.1 hu).1; rw [Fb.len] at this; exact this
    have h1 := (h (i * 3 + j) (by rw [size_flatK]; have := Nat.mul_le_mul_right 3 (show i + 1 ≤ d.size from li); omega)).1
    have e : d[i]! = x := by rw [getElem!_pos d i li, ← ea]; simp
    rw [Nat.zero_add, flat_getB d i j li hj, e] at h1
    rw [h1]
    obtain ⟨hl, e2⟩ := List.getElem?_eq_some_iff.1 hu
    rw [getElem!_pos (Fb.enc x) j hl, e2]
    rfl
  · have := h t (by rw [size_flatK]; simpa using ht)
    exact ⟨by rw [this.1]; rfl, by simpa using this.2⟩
set_option maxHeartbeats 2000000 in
theorem sortB_ok {V : World} (l : List (Fb V)) (p n c : Nat) (w : World) (hn : l.length = n) (hp : p < w.heap.size) (hV : Below V.heap.size V w) (hVp : V.heap.size ≤ p) (h : RowB w p l) (hb : n ≤ 1099511627776) :
    Calls Try.prog 39 #[.slice (some ⟨p, 0, none⟩) n c, .func (.func 40) #[] #[]] w fun e w' => e = .returned (.tuple #[]) ∧ ∃ l' : List (Fb V), l'.Perm l ∧ SrtB l' ∧ RowB w' p l' ∧ Below p w w' := by
  have hH := holds_ofB l h
  have eg : ∀ args w, (callFunc 40 args).run Try.prog w = .ok (.enter 40 args) w := enters_of Try.func40 (by kernel_rfl) rfl
  have aE : ∀ w, (isAgg 55).run Try.prog w = .ok true w := fun w => by kernel_rfl
  have zE : ∀ w, (Go.sizeOf 55).run Try.prog w = .ok 3 w := fun w => by kernel_rfl
  have hcon := AnyQ.slices_SortFunc Try.sortFlt 3 aE zE (Fb.enc (V := V)) Fb.len Fb.one Fb.cf (Fb.swo V) 40 #[] p 0 c l.toArray w eg (Fb.lays V w p _ hV hVp hp) hH hp (by simp [hn]; omega)
  rw [show (l.toArray.size : Nat) = n by simp [hn]] at hcon
  refine hcon.mono ?_
  rintro e' w' ⟨rfl, d', m, os, ⟨hds, -, hpm⟩, hst, rfl⟩
  have hds' : d'.size = n := by rw [hds]; simp [hn]
  have hH' : HoldsK Fb.enc 3 (sortWorldK Fb.enc 3 w p 0 m d' os) p 0 d' := holdsK_sortWorldK_c _ _ _ _ _ _ _ _ _ hH hp hds
  refine ⟨rfl, d'.toList, ?_, ?_, of_holdsB d' hH', below_sortWorld _ _ _ _ _ _ _ hp⟩
  · have h1 : (d'.extract 0 n).toList = d'.toList := by rw [← hds']; simp
    have h2 : (l.toArray.extract 0 n).toList = l := by rw [← hn]; simp
    rw [h1, h2] at hpm
    exact hpm
  · intro i j x y hij hx hy
    obtain ⟨li, ea⟩ := List.getElem?_eq_some_iff.1 hx
    obtain ⟨lj, eb⟩ := List.getElem?_eq_some_iff.1 hy
    simp only [Array.length_toList] at li lj
    have := hst i j (Nat.zero_le _) hij (by omega)
    rw [getElem!_pos d' i li, getElem!_pos d' j lj] at this
    rw [← Array.getElem_toList, ← Array.getElem_toList, ea, eb] at this
    unfold ltOf Fb.cf at this
    have t := Tr.cF x.ft y.ft x.ft
    have r1 := Rg.cF x.ft y.ft
    have r2 := Rg.cF y.ft x.ft
    rw [cF_self] at t
    unfold Fb.cf
    unfold Tr at t
    unfold Rg at r1 r2
    simp at this
    omega
end Go.Proofs.Ythpcpminikmcbaa.og
