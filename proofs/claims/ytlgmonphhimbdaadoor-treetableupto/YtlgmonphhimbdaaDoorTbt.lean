import Derived.Test.YtlgmonphhimbdaaDoorTbs
import Derived.LaidEqlPtr
namespace Go.Proofs.YtlgmonphhimbdaaDoor.tab
open Go.ChangeShapes Go.WideShapes Go.ChangeAt Go.RowKit Go.Maps Go.Shelf
set_option linter.unusedVariables false
set_option linter.unusedSimpArgs false
theorem bnd_eq : ∀ i, bnd i = 1 + i * 1048577
  | 0 => rfl
  | i + 1 => by rw [bnd, bnd_eq i, Nat.add_mul]; omega
theorem bnd_le {i : Nat} (h : i ≤ 1048576) : bnd i ≤ 1152921504605798400 := by
  rw [bnd_eq]
  have := Nat.mul_le_mul_right 1048577 h
  omega
theorem tb_ext {w : World} {B : Nat} {X : Nat → Prop} {b : Nat} {M : Option Nat} {rs rs' : List Rw} {nx nx' : Nat} (h : Tb w B X b M rs nx) (e1 : rs = rs') (e2 : nx = nx') : Tb w B X b M rs' nx' := e1 ▸ e2 ▸ h
theorem infoT : (Tryd.prog.info? 40).map (·.size) = some 3 := by kernel_rfl
theorem ptr_ne {w : World} {p q : Nat} {t t' : TypeId} {c c' : Array Value} (h : ¬ p = q) (hp : w.heap[p]? = some (.cells c t)) (hq : w.heap[q]? = some (.cells c' t')) : (binOp BinOp.eql 23 (.pointer (some ⟨p, 0, none⟩)) (.pointer (some ⟨q, 0, none⟩))).run Tryd.prog w = .ok (.bool false) w := by
  cases hi : Tryd.prog.info? 40 with
  | none => have := infoT; rw [hi] at this; cases this
  | some j =>
    have h3 : j.size = 3 := by have := infoT; rw [hi] at this; simpa using this
    exact run_eql_ptr_other w Tryd.underlying23 hi (by omega) (fun e => h (by cases e; rfl)) hp hq
set_option maxRecDepth 6000 in
set_option maxHeartbeats 1000000 in
theorem law_table (a : Option Addr) (n c : Nat) (w : World) (hS : Scr w a n) (hn : n ≤ 1048575) (hT : Tw w.heap.size w) :
    Calls Tryd.prog 3 #[.slice a n c] w fun e w' => e = .returned (.bool true) ∧ Below w.heap.size w w' := by
  have HS := hide hS
  have HT := hide hT
  clear hS hT
  go_enter Tryd.func3, Tryd.ntmps3
  go_wp2_with fail
  refine (new_tb _).mono ?_
  rintro e w1 ⟨rfl, hw1⟩
  have t1 := tb_new w w.heap.size (Nat.le_refl _)
  have s1 : w1.heap.size = w.heap.size + 1 := by rw [hw1]; simp
  have b1 : Below w.heap.size w w1 := by rw [hw1]; exact (Below.refl _ _).alloc (Nat.le_refl _) _
  have h1 : w1.heap[w.heap.size]? = some (.cells #[.slice none 0 0, .map none, .int .i64 0] 40) := by rw [hw1]; exact World.alloc_heap_new w _
  rw [← hw1] at t1
  have T1 := hide t1
  have B1 := hide b1
  have S1 := hide s1
  clear hw1 t1 b1 s1
  go_wp2_with fail
  refine (new_tb _).mono ?_
  rintro e w2 ⟨rfl, hw2⟩
  have t2 := tb_new w1 w.heap.size (by have := unhide S1; omega)
  have s2 : w2.heap.size = w.heap.size + 2 := by rw [hw2]; simp; have := unhide S1; omega
  have b2 : Below w1.heap.size w1 w2 := by rw [hw2]; exact (Below.refl _ _).alloc (Nat.le_refl _) _
  have h2 : w2.heap[w1.heap.size]? = some (.cells #[.slice none 0 0, .map none, .int .i64 0] 40) := by rw [hw2]; exact World.alloc_heap_new w1 _
  rw [← hw2] at t2
  have T2 := hide t2
  have B2 := hide b2
  have S2 := hide s2
  have ne : ¬ w.heap.size = w1.heap.size := by have := unhide S1; omega
  have pe := ptr_ne ne ((b2.block _ (by have := unhide S1; omega)).trans h1) h2
  clear hw2 t2 b2 s2 h1 h2
  go_wp2_with fail
  clear pe
  have n1 := hide nm1
  have n2 := hide nm2
  have T12 := hide ((unhide T1).below (unhide B2))
  have bw2 : Below w.heap.size w w2 := (unhide B1).trans ((unhide B2).mono (unhide B1).size)
  have P1 := hide (put_tb (unhide T12) (nm (-1)) 5 (by have := nm_size (-1) (by decide); simp only [maxLen]; omega) (by decide) (by decide))
  rw [nm1] at P1
  refine (unhide P1).mono ?_
  rintro e w3 ⟨he, X, Mx, t3, x1, x2, k3, m3⟩
  rw [← nm1, gt_first] at he
  subst he
  rw [← nm1, put_first', nx_first] at t3
  have yX : ∀ j, j = w1.heap.size → ¬ j = w.heap.size := fun j h1 h2 => ne (h2.symm.trans h1)
  have t23 : Tb w3 w.heap.size (fun k => k = w1.heap.size) w1.heap.size none [] 0 := (unhide T2).kx k3 yX
  have T3 := hide t3
  have T23 := hide t23
  have LY := hide (len_tb t23)
  have LX := hide (len_tb t3)
  have K3 := hide k3
  have X2 := hide x2
  have BW2 := hide bw2
  clear t3 t23 k3 x1 x2 m3 bw2 P1
  go_wp2_with fail
  refine (unhide LY).mono ?_
  rintro e w3' ⟨rfl, hw3⟩
  subst w3'
  go_wp2_with fail
  refine (unhide LX).mono ?_
  rintro e w3' ⟨rfl, hw3⟩
  subst w3'
  go_wp2_with fail
  have P2 := hide (put_tb (unhide T23) (nm (-2)) 6 (by have := nm_size (-2) (by decide); simp only [maxLen]; omega) (by decide) (by decide))
  rw [nm2] at P2
  refine (unhide P2).mono ?_
  rintro e w4 ⟨he, Y, My, t4, y1, y2, k4, m4⟩
  rw [← nm2, gt_first] at he
  subst he
  rw [← nm2, put_first', nx_first] at t4
  have T4 := hide t4
  have K4 := hide k4
  have Y2 := hide y2
  clear t4 k4 y1 y2 m4 P2 LX LY
  go_wp2_with fail
  have I0 : TtI w 0 ((w4.alloc (.cells #[.int .i64 (-1), .int .i64 5] 28)).alloc (.cells #[.int .i64 (-2), .int .i64 6] 28)) w.heap.size w1.heap.size (.slice (some ⟨w4.heap.size, 0, none⟩) 1 1) (.slice (some ⟨w4.heap.size + 1, 0, none⟩) 1 1) X Y Mx My [(0, nm (-1), 5)] [(0, nm (-2), 6)] 1 1 [(-1, 5)] [(-2, 6)] := by
    have k3 := unhide K3
    have k4 := unhide K4
    have s1 := unhide S1
    have s2 := unhide S2
    have s3 := k3.size
    have s4 := k4.size
    have xl : ∀ j, X j → j < w3.heap.size := (unhide T3).lt'
    have yl : ∀ j, Y j → j < w4.heap.size := (unhide T4).lt'
    have dis : ∀ j, X j → ¬ Y j := fun j hx hy => by
      rcases unhide Y2 j hy with h | h
      · rcases unhide X2 j hx with h' | h'
        · exact ne (h'.symm.trans h)
        · omega
      · have := xl j hx; omega
    have xw1 : ∀ j, X j → ¬ j = w1.heap.size := fun j hx e => by
      rcases unhide X2 j hx with h' | h'
      · exact ne (h'.symm.trans e)
      · omega
    have t34 : Tb w4 w.heap.size X w.heap.size Mx [(0, nm (-1), 5)] 1 := (unhide T3).kx k4 xw1
    have b24 : Below w.heap.size w w4 := ((unhide BW2).trans (k3.below (by omega) (fun j hj => by have : j = w.heap.size := hj; omega))).trans (k4.below (by omega) (fun j hj => by have : j = w1.heap.size := hj; omega))
    have bb := bel2 w4 (.cells #[.int .i64 (-1), .int .i64 5] 28) (.cells #[.int .i64 (-2), .int .i64 6] 28)
    have la := (rl_lit w4 (-1) 5 28).below (bel1 _ (.cells #[.int .i64 (-2), .int .i64 6] 28))
    have lb := rl_lit (w4.alloc (.cells #[.int .i64 (-1), .int .i64 5] 28)) (-2) 6 28
    rw [World.size_alloc] at lb
    exact ⟨b24.trans (bb.mono b24.size), t34.below bb, (unhide T4).below bb, rel_one _ _ _ (by decide), rel_one _ _ _ (by decide), la.mono (fun j _ hj => ⟨fun hx => by have := xl j hx; omega, fun hy => by have := yl j hy; omega⟩), lb.mono (fun j _ hj => ⟨fun hx => by have := xl j hx; omega, fun hy => by have := yl j hy; omega⟩), dis, Nat.le_refl _, Nat.le_refl _, Nat.le_refl _, Nat.le_refl _⟩
  have HI0 := hide I0
  clear I0 T1 T2 T12 T3 T23 T4 K3 K4 X2 Y2 BW2 B1 B2 S1 S2 ne n1 n2 yX
  go_loopw [3, 4, 5, 6, 7] (fun vx vy vl vm vi wr => ∃ (i bx by_ : Nat) (al am : Option Addr) (nl cl nm_ cm : Nat) (X Y : Nat → Prop) (Mx My : Option Nat) (rx ry : List Rw) (nx ny : Nat) (px py : List Pr), i ≤ n ∧ vi = .int .i64 i ∧ vx = .pointer (some ⟨bx, 0, none⟩) ∧ vy = .pointer (some ⟨by_, 0, none⟩) ∧ vl = .slice al nl cl ∧ vm = .slice am nm_ cm ∧ Hid (TtI w i wr bx by_ (.slice al nl cl) (.slice am nm_ cm) X Y Mx My rx ry nx ny px py)) (fun _ _ _ _ vi _ => n - (intOf vi).toNat)
  case atStart => exact ⟨0, _, _, _, _, _, _, _, _, _, _, _, _, _, _, _, _, _, _, Nat.zero_le _, rfl, rfl, rfl, rfl, rfl, HI0⟩
  case round =>
    obtain ⟨i, bx, by_, al, am, nl, cl, nm_, cm, X, Y, Mx, My, rx, ry, nx, ny, px, py, hi, rfl, rfl, rfl, rfl, rfl, HI⟩ := hrel
    clear HI0
    by_cases hlt : i < n
    · have ki : (i : Int) < (n : Int) := by omega
      rcases unhide HS with h0 | ⟨g, off, rfl, hg, hcell⟩
      · omega
      obtain ⟨kd, K, V, hK, z0, z1, z2⟩ := hcell i hlt
      have bw := (unhide HI).bel
      have c0 := (bw.cell (p := ⟨g, off + i * 3, none⟩) hg).trans z0
      have c1 := (bw.cell (p := ⟨g, off + i * 3 + 1, none⟩) hg).trans z1
      have c2 := (bw.cell (p := ⟨g, off + i * 3 + 2, none⟩) hg).trans z2
      have ST := hide (step_ok kd K V hK (unhide HI).tx (unhide HI).sx (unhide HI).lx (fun j hj => hj.1) (by have := (unhide HI).px1; omega) (Nat.le_trans (unhide HI).nx1 (bnd_le (by omega))) ((unhide HT).step bw) bw.size)
      clear hcell z0 z1 z2 bw
      by_cases k9 : kd = 9
      · subst k9
        clear ST
        go_wp2
        go_roundw
        case rel => exact ⟨i + 1, by_, bx, am, al, nm_, cm, nl, cl, Y, X, My, Mx, ry, rx, ny, nx, py, px, by omega, by go_num, rfl, rfl, rfl, rfl, hide (unhide HI).swap⟩
        case measure => simp [intOf]; omega
      · go_wp2_with fail
        refine (unhide ST).mono ?_
        rintro e W2 ⟨v', X', M', r', n', p', rfl, t', s', l', pl, nl', x', k'⟩
        obtain ⟨al', nl2, cl', rfl⟩ := l'.shape
        have HJ := hide ((unhide HI).step t' s' l' pl nl' x' k')
        clear t' s' l' pl nl' x' k' ST c0 c1 c2
        go_wp2
        go_roundw
        case rel => exact ⟨i + 1, bx, by_, al', am, nl2, cl', nm_, cm, X', Y, M', My, r', ry, n', ny, p', py, by omega, by go_num, rfl, rfl, rfl, rfl, HJ⟩
        case measure => simp [intOf]; omega
    · obtain rfl : i = n := by omega
      have ki : ¬ (i : Int) < (i : Int) := by omega
      have bw := (unhide HI).bel
      have HX := hide (fun W (hW : Below wr.heap.size wr W) => holds_ok ((unhide HI).tx.below hW) (unhide HI).sx ((unhide HI).lx.below hW) (by have := (unhide HI).px1; omega) (tw_big ((unhide HT).step (bw.trans (hW.mono bw.size))) (Nat.le_trans bw.size hW.size)))
      have HY := hide (fun W (hW : Below wr.heap.size wr W) => holds_ok ((unhide HI).ty.below hW) (unhide HI).sy ((unhide HI).ly.below hW) (by have := (unhide HI).py1; omega) (tw_big ((unhide HT).step (bw.trans (hW.mono bw.size))) (Nat.le_trans bw.size hW.size)))
      have HR := hide (fun W (hW : Below wr.heap.size wr W) => ranged_ok (-1) ((unhide HI).tx.below hW) (unhide HI).sx ((unhide HI).lx.below hW) (by have := (unhide HI).px1; omega) (tw_big ((unhide HT).step (bw.trans (hW.mono bw.size))) (Nat.le_trans bw.size hW.size)))
      have BW := hide bw
      clear bw HI HS HT
      go_wp2_with fail
      refine (unhide HX wr (Below.refl _ _)).mono ?_
      rintro e W2 ⟨rfl, b2⟩
      go_wp2_with fail
      refine (unhide HY W2 b2).mono ?_
      rintro e W3 ⟨rfl, b3⟩
      have b3' := b2.trans (b3.mono b2.size)
      go_wp2_with fail
      refine (unhide HR W3 b3').mono ?_
      rintro e W4 ⟨rfl, b4⟩
      have b4' := hide ((unhide BW).trans ((b3'.trans (b4.mono b3'.size)).mono (unhide BW).size))
      clear b2 b3 b3' b4 HX HY HR
      go_wp2
      go_ret
      exact ⟨rfl, unhide b4'⟩
end Go.Proofs.YtlgmonphhimbdaaDoor.tab
