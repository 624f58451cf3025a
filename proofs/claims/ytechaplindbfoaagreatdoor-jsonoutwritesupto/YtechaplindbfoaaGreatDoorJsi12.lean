import Derived.Test.YtechaplindbfoaaGreatDoorJsi11
namespace Go.Proofs.YtechaplindbfoaaGreatDoor.mem
open Go.ChangeShapes Go.WideShapes Go.ChangeAt Go.RowKit
open ints (hide unhide)
set_option linter.unusedVariables false
set_option maxRecDepth 4000 in
/-- the reference's dec at a power that is not above nought -/
theorem dec_neg (s : ByteArray) (x : Int) (w : World) (hs : s.size ≤ 100000) (hd : dig (bytesZ s)) (hx : x ≤ 0) (hx0 : -10000 ≤ x) :
    Calls Tryz.prog 120 #[.string s, .int .i64 x] w fun e w' => ∃ aT nT cT aB nB cB, e = .returned (.agg #[.slice aT nT cT, .slice aB nB cB]) ∧ Big w' aT nT cT (dT (bytesZ s) s.size) ∧ Big w' aB nB cB (10 ^ (-x).toNat) ∧ nB ≤ (-x).toNat + 1 ∧ Below w.heap.size w w' := by
  have HO := hide (fun W => ofDigits_any s W hs hd)
  have HT := hide (fun W => ten_any (-x) W (by omega) (by omega))
  have g0 : ¬ (0 : Int) < x := by omega
  go_enter Tryz.func120, Tryz.ntmps120
  go_wp2_with fail
  refine (unhide HO _).mono ?_
  rintro e w1 ⟨aT, nT, cT, rfl, B1, b1⟩
  go_wp2_with fail
  refine (unhide HT _).mono ?_
  rintro e w2 ⟨aB, nB, cB, rfl, hnB, B2, b2⟩
  have B1 := B1.below b2
  have hb1 : Below w.heap.size w w1 := ((Below.refl w.heap.size w).alloc (Nat.le_refl _) _).trans (b1.mono (by simp))
  have hb2 := hb1.trans (b2.mono hb1.size)
  have bx : Box2 w2 w.heap.size (.slice none 0 0) (.slice none 0 0) 160 := ((box2_new w _ _ _).below b1).below b2
  obtain ⟨W3, HW⟩ : ∃ W3, W3 = w2.alloc (.cells #[.slice aT nT cT, .slice aB nB cB] 160) := ⟨_, rfl⟩
  have al : Below w2.heap.size w2 W3 := by rw [HW]; exact (Below.refl _ _).alloc (Nat.le_refl _) _
  have bx3 := bx.below al
  have BT := (B1.below al).set2 bx3 (.slice aT nT cT) (.slice aB nB cB)
  have BB := (B2.below al).set2 bx3 (.slice aT nT cT) (.slice aB nB cB)
  have bxs := bx3.set (.slice aT nT cT) (.slice aB nB cB)
  have hb3 := hb2.trans (al.mono hb2.size)
  have hbF : Below w.heap.size w ((W3.setCell ⟨w.heap.size, 0, none⟩ (.slice aT nT cT)).setCell ⟨w.heap.size, 1, none⟩ (.slice aB nB cB)) := (hb3.setCell (Nat.le_refl _) _).setCell (Nat.le_refl _) _
  obtain ⟨q0, q1, _, _⟩ := bxs.cells
  rw [HW] at bx3 q0 q1
  obtain ⟨r0, r1, r2, r3⟩ := bx3.cells
  have Q0 := hide q0
  have Q1 := hide q1
  have HW' := hide HW
  have HN := hide hnB
  have HBB := hide BB
  clear HO HT b1 b2 hb1 q0 q1 HW bx bx3 bxs al hb2 hb3 B1 B2 hnB BB
  go_wp2
  exact bodyPost_ret (v := .agg #[.slice aT nT cT, .slice aB nB cB]) (by simp [results, Tryz.results120, go_sem, unhide Q0, unhide Q1]) rfl ⟨aT, nT, cT, aB, nB, cB, rfl, by rw [← unhide HW']; exact BT, by rw [← unhide HW']; exact unhide HBB, unhide HN, by rw [← unhide HW']; exact hbF⟩
theorem Big.set1 {w : World} {a : Option Addr} {n c N B k : Nat} {v : Value} (h : Big w a n c N) (hv : w.cell? ⟨B, k, none⟩ = some v) (hn : ∀ t z, v ≠ .int t z) (x : Value) : Big (w.setCell ⟨B, k, none⟩ x) a n c N := by
  obtain ⟨zs, rw0, rest⟩ := h
  refine ⟨zs, ⟨rw0.len, rw0.le, rw0.nil, ?_⟩, rest⟩
  rcases rw0.at_ with h0 | ⟨b, off, ha, hlt, hc⟩
  · exact .inl h0
  · refine .inr ⟨b, off, ha, by simpa using hlt, fun i hi => ?_⟩
    have h0 : (⟨b, off + i, none⟩ : Addr) ≠ ⟨B, k, none⟩ := by
      intro e
      have := hc i hi
      rw [e, hv] at this
      exact hn _ _ (Option.some.inj this)
    rw [World.cell?_setCell_other _ _ _ _ h0.symm]
    exact hc i hi
theorem Box2.set0 {w : World} {B : Nat} {x y : Value} {t : TypeId} (h : Box2 w B x y t) (x' : Value) : Box2 (w.setCell ⟨B, 0, none⟩ x') B x' y t := by
  unfold Box2 at *
  simp [World.setCell, Array.getElem?_modify, h]
theorem Box2.other {w : World} {B C : Nat} {x y v : Value} {t : TypeId} {k : Nat} (h : Box2 w B x y t) (hne : B ≠ C) : Box2 (w.setCell ⟨C, k, none⟩ v) B x y t := by
  unfold Box2 at *
  rw [Below.heap_setCell w ⟨C, k, none⟩ v B hne]
  exact h
/-- what the loops of dec keep -/
structure DcI (w wr : World) (T : Nat) (x : Int) (D : Nat) (aB : Option Addr) (nB cB nT : Nat) (y : Int) (a : Option Addr) (n c : Nat) : Prop where
  y0 : 0 ≤ y
  yx : y ≤ x
  bx : Box2 wr D (.slice a n c) (.slice aB nB cB) 160
  top : Big wr a n c (T * 10 ^ (x - y).toNat)
  bot : Big wr aB nB cB 1
  out : Box2 wr w.heap.size (.slice none 0 0) (.slice none 0 0) 160
  len : n ≤ nT + (x - y).toNat
  bel : Below w.heap.size w wr
theorem DcI.step {w wr w1 : World} {T : Nat} {x y : Int} {D nB cB nT n c n1 c1 k : Nat} {aB a a1 : Option Addr} (h : DcI w wr T x D aB nB cB nT y a n c) (hne : D ≠ w.heap.size) (hle : w.heap.size ≤ D) (b1 : Below wr.heap.size wr w1) (B1 : Big w1 a1 n1 c1 (T * 10 ^ (x - y).toNat * 10 ^ k)) (hk : (k : Int) ≤ y) (hn1 : n1 ≤ n + k) :
    DcI w (w1.setCell ⟨D, 0, none⟩ (.slice a1 n1 c1)) T x D aB nB cB nT (y - k) a1 n1 c1 := by
  have bx1 := h.bx.below b1
  have hc0 := bx1.cells.1
  have hbel := h.bel.trans (b1.mono h.bel.size)
  refine ⟨by omega, by have := h.yx; omega, bx1.set0 _, ?_, (h.bot.below b1).set1 hc0 (fun _ _ e => by cases e) _, (h.out.below b1).other hne.symm, by have := h.len; have := h.yx; omega, hbel.setCell hle _⟩
  have e : (x - (y - k)).toNat = (x - y).toNat + k := by have := h.yx; omega
  rw [e, Nat.pow_add, ← Nat.mul_assoc]
  exact B1.set1 hc0 (fun _ _ e => by cases e) _
set_option maxHeartbeats 1000000 in
set_option maxRecDepth 4000 in
/-- the reference's dec at a power above nought -/
theorem dec_pos (s : ByteArray) (T : Nat) (x : Int) (w : World) (hs : s.size ≤ 100000) (hd : dig (bytesZ s)) (hT : dT (bytesZ s) s.size = T) (M : Nat) (hM : M ≤ 100) (hTl : T < 2 ^ (32 * M)) (hx : 0 < x) (hx0 : x ≤ 10000) :
    Calls Tryz.prog 120 #[.string s, .int .i64 x] w fun e w' => ∃ aT nT cT aB nB cB, e = .returned (.agg #[.slice aT nT cT, .slice aB nB cB]) ∧ Big w' aT nT cT (T * 10 ^ x.toNat) ∧ nT ≤ M + x.toNat ∧ Big w' aB nB cB 1 ∧ nB ≤ 1 ∧ Below w.heap.size w w' := by
  have HO := hide (fun W => ofDigits_any s W hs hd)
  rw [hT] at HO
  have HT := hide (fun W => ten_any (-x) W (by omega) (by omega))
  have g0 : (0 : Int) < x := by omega
  go_enter Tryz.func120, Tryz.ntmps120
  go_wp2_with fail
  refine (unhide HO _).mono ?_
  rintro e w1 ⟨aT, nT, cT, rfl, B1, b1⟩
  go_wp2_with fail
  refine (unhide HT _).mono ?_
  rintro e w2 ⟨aB, nB, cB, rfl, hnB, B2, b2⟩
  rw [show (-x).toNat = 0 by omega] at B2 hnB
  rw [Nat.pow_zero] at B2
  have B1 := B1.below b2
  have hb1 : Below w.heap.size w w1 := ((Below.refl w.heap.size w).alloc (Nat.le_refl _) _).trans (b1.mono (by simp))
  have hb2 := hb1.trans (b2.mono hb1.size)
  have bx : Box2 w2 w.heap.size (.slice none 0 0) (.slice none 0 0) 160 := ((box2_new w _ _ _).below b1).below b2
  obtain ⟨W3, HW⟩ : ∃ W3, w2.alloc (.cells #[.slice aT nT cT, .slice aB nB cB] 160) = W3 := ⟨_, rfl⟩
  have al : Below w2.heap.size w2 W3 := by rw [← HW]; exact (Below.refl _ _).alloc (Nat.le_refl _) _
  obtain ⟨D, hD⟩ : ∃ D, w2.heap.size = D := ⟨_, rfl⟩
  have hDl : w.heap.size < D := by have := bx.lt; omega
  have hlen : nT ≤ M := B1.len hTl
  have I0 : DcI w W3 T x D aB nB cB nT x aT nT cT := ⟨by omega, by omega, by rw [← HW, ← hD]; exact box2_new w2 _ _ _, by rw [Int.sub_self]; exact (by simpa using B1.below al), B2.below al, bx.below al, by omega, hb2.trans (al.mono hb2.size)⟩
  have HI := hide I0
  have HN := hide hnB
  clear HO HT b1 b2 hb1 bx al hb2 B1 B2 I0 hT hTl hnB hs hd
  go_wp2
  clear HW hD
  go_loopw [1] (fun v wr => ∃ (y : Int) (a : Option Addr) (n c : Nat), v = .int .i64 y ∧ DcI w wr T x D aB nB cB nT y a n c) (fun v _ => (intOf v).toNat)
  case atStart => exact ⟨x, aT, nT, cT, rfl, unhide HI⟩
  case round =>
    obtain ⟨y, a, n, c, rfl, hi⟩ := hrel
    obtain ⟨q0, q1, f0, f1⟩ := hi.bx.cells
    have yx := hi.yx
    have y0 := hi.y0
    have nl := hi.len
    by_cases hgo : 9 ≤ y
    · have TB := hide (times_big a n c _ 1000000000 0 wr hi.top (by omega) (by omega) (by omega))
      have HH := hide hi
      clear hi
      go_wp2_with fail
      refine (unhide TB).mono ?_
      rintro e w1 ⟨a1, n1, c1, rfl, B1, b1⟩
      have hl := times_len (unhide HH).top B1 (by decide) (by decide)
      have hi2 := (unhide HH).step (k := 9) (by omega) (by omega) b1 (by
        have e : (1000000000 : Int).toNat = 10 ^ 9 := by decide
        rw [e, show (0 : Int).toNat = 0 from rfl, Nat.add_zero] at B1
        exact B1) (by omega) (by omega)
      have bx1 := (unhide HH).bx.below b1
      obtain ⟨q0, q1, f0, f1⟩ := bx1.cells
      have H2 := hide hi2
      clear hi2 bx1 B1 b1 TB hl HH
      go_wp2
      go_roundw
      case rel => exact ⟨y - 9, a1, n1, c1, by go_num, unhide H2⟩
      case measure => simp [intOf]; omega
    · have HH := hide hi
      clear hi HI
      go_wp2
      go_loopw [1] (fun v wr => ∃ (y : Int) (a : Option Addr) (n c : Nat), v = .int .i64 y ∧ DcI w wr T x D aB nB cB nT y a n c) (fun v _ => (intOf v).toNat)
      case atStart => exact ⟨y, a, n, c, rfl, unhide HH⟩
      case round =>
        clear HH nl y0 yx hgo q0 q1 f0 f1
        obtain ⟨y, a, n, c, rfl, hi⟩ := hrel
        obtain ⟨q0, q1, f0, f1⟩ := hi.bx.cells
        have yx := hi.yx
        have y0 := hi.y0
        have nl := hi.len
        by_cases hgo : 1 ≤ y
        · have g1 : (0 : Int) < y := by omega
          have TB := hide (times_big a n c _ 10 0 wr hi.top (by omega) (by omega) (by omega))
          have HH := hide hi
          clear hi
          go_wp2_with fail
          refine (unhide TB).mono ?_
          rintro e w1 ⟨a1, n1, c1, rfl, B1, b1⟩
          have hl := times_len (unhide HH).top B1 (by decide) (by decide)
          have hi2 := (unhide HH).step (k := 1) (by omega) (by omega) b1 (by
            have e : (10 : Int).toNat = 10 ^ 1 := by decide
            rw [e, show (0 : Int).toNat = 0 from rfl, Nat.add_zero] at B1
            exact B1) (by omega) (by omega)
          have bx1 := (unhide HH).bx.below b1
          obtain ⟨q0, q1, f0, f1⟩ := bx1.cells
          have H2 := hide hi2
          clear hi2 bx1 B1 b1 TB hl HH
          go_wp2
          go_roundw
          case rel => exact ⟨y - 1, a1, n1, c1, by go_num, unhide H2⟩
          case measure => simp [intOf]; omega
        · have g1 : ¬ (0 : Int) < y := by omega
          have ey : y = 0 := by omega
          have BT := (hi.top.set2 hi.out (.slice a n c) (.slice aB nB cB))
          have BB := (hi.bot.set2 hi.out (.slice a n c) (.slice aB nB cB))
          have bxs := hi.out.set (.slice a n c) (.slice aB nB cB)
          have hbF : Below w.heap.size w ((wr.setCell ⟨w.heap.size, 0, none⟩ (.slice a n c)).setCell ⟨w.heap.size, 1, none⟩ (.slice aB nB cB)) := (hi.bel.setCell (Nat.le_refl _) _).setCell (Nat.le_refl _) _
          obtain ⟨r0, r1, r2, r3⟩ := hi.out.cells
          obtain ⟨s0, s1, _, _⟩ := bxs.cells
          rw [show x - y = x by omega] at BT nl
          have Q0 := hide s0
          have Q1 := hide s1
          have HBT := hide BT
          have HBB := hide BB
          have HBF := hide hbF
          clear hi s0 s1 bxs BT BB hbF
          go_wp2
          exact bodyPost_ret (v := .agg #[.slice a n c, .slice aB nB cB]) (by simp [results, Tryz.results120, go_sem, unhide Q0, unhide Q1]) rfl ⟨a, n, c, aB, nB, cB, rfl, unhide HBT, by omega, unhide HBB, unhide HN, unhide HBF⟩
end Go.Proofs.YtechaplindbfoaaGreatDoor.mem
