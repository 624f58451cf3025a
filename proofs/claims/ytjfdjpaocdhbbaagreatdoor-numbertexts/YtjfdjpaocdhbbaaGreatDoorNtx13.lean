import Derived.Test.YtjfdjpaocdhbbaaGreatDoorNtx12
namespace Go.Proofs.YtjfdjpaocdhbbaaGreatDoor.mem
open Go.ChangeShapes Go.WideShapes Go.ChangeAt Go.RowKit
open ints (hide unhide)
set_option linter.unusedVariables false

def Box2 (w : World) (B : Nat) (x y : Value) (t : TypeId) : Prop := w.heap[B]? = some (.cells #[x, y] t (0, 0))
theorem Box2.cells {w : World} {B : Nat} {x y : Value} {t : TypeId} (h : Box2 w B x y t) : w.cell? ⟨B, 0, none⟩ = some x ∧ w.cell? ⟨B, 1, none⟩ = some y ∧ w.frozen? ⟨B, 0, none⟩ = false ∧ w.frozen? ⟨B, 1, none⟩ = false := by
  unfold Box2 at h
  refine ⟨?_, ?_, ?_, ?_⟩
  · simp [World.cell?, h]
  · simp [World.cell?, h]
  · simp [World.frozen?, h]
  · simp [World.frozen?, h]
theorem Box2.lt {w : World} {B : Nat} {x y : Value} {t : TypeId} (h : Box2 w B x y t) : B < w.heap.size := (Array.getElem?_eq_some_iff.1 h).1
theorem Box2.below {w w' : World} {B : Nat} {x y : Value} {t : TypeId} (h : Box2 w B x y t) (hb : Below w.heap.size w w') : Box2 w' B x y t := (hb.block B h.lt).trans h
theorem Box2.set {w : World} {B : Nat} {x y : Value} {t : TypeId} (h : Box2 w B x y t) (x' y' : Value) : Box2 ((w.setCell ⟨B, 0, none⟩ x').setCell ⟨B, 1, none⟩ y') B x' y' t := by
  unfold Box2 at *
  simp [World.setCell, Array.getElem?_modify, h]
theorem box2_new (w : World) (x y : Value) (t : TypeId) : Box2 (w.alloc (.cells #[x, y] t)) w.heap.size x y t := heap_alloc_new w _
theorem Big.set2 {w : World} {a : Option Addr} {n c N B : Nat} {p p' : Option Addr} {q r q' r' : Nat} {t : TypeId} (h : Big w a n c N) (hb : Box2 w B (.slice p q r) (.slice p' q' r') t) (x y : Value) : Big ((w.setCell ⟨B, 0, none⟩ x).setCell ⟨B, 1, none⟩ y) a n c N := by
  obtain ⟨zs, rw0, rest⟩ := h
  refine ⟨zs, ⟨rw0.len, rw0.le, rw0.nil, ?_⟩, rest⟩
  rcases rw0.at_ with h0 | ⟨b, off, ha, hlt, hc⟩
  · exact .inl h0
  · refine .inr ⟨b, off, ha, by simpa using hlt, fun i hi => ?_⟩
    obtain ⟨c0, c1, _, _⟩ := hb.cells
    have h0 : (⟨b, off + i, none⟩ : Addr) ≠ ⟨B, 0, none⟩ := by
      intro e
      have := hc i hi
      rw [e, c0] at this
      cases this
    have h1 : (⟨b, off + i, none⟩ : Addr) ≠ ⟨B, 1, none⟩ := by
      intro e
      have := hc i hi
      rw [e, c1] at this
      cases this
    rw [World.cell?_setCell_other _ _ _ _ h1.symm, World.cell?_setCell_other _ _ _ _ h0.symm]
    exact hc i hi
set_option maxRecDepth 4000 in
theorem dec_zero (s : ByteArray) (w : World) (hs : s.size ≤ 100000) (hd : dig (bytesZ s)) :
    Calls Tryz.prog 40 #[.string s, .int .i64 0] w fun e w' => ∃ aT nT cT aB nB cB, e = .returned (.agg #[.slice aT nT cT, .slice aB nB cB]) ∧ Big w' aT nT cT (dT (bytesZ s) s.size) ∧ Big w' aB nB cB 1 ∧ Below w.heap.size w w' := by
  have HO := hide (fun W => ofDigits_any s W hs hd)
  have HT := hide (fun W => ten_any 0 W (by decide) (by decide))
  go_enter Tryz.func40, Tryz.ntmps40
  go_wp2_with fail
  refine (unhide HO _).mono ?_
  rintro e w1 ⟨aT, nT, cT, rfl, B1, b1⟩
  go_wp2_with fail
  refine (unhide HT _).mono ?_
  rintro e w2 ⟨aB, nB, cB, rfl, hnB, B2, b2⟩
  rw [show 10 ^ (0 : Int).toNat = 1 from rfl] at B2
  have B1 := B1.below b2
  have hb1 : Below w.heap.size w w1 := ((Below.refl w.heap.size w).alloc (Nat.le_refl _) _).trans (b1.mono (by simp))
  have hb2 := hb1.trans (b2.mono hb1.size)
  have bx : Box2 w2 w.heap.size (.slice none 0 0) (.slice none 0 0) 74 := ((box2_new w _ _ _).below b1).below b2
  obtain ⟨W3, HW⟩ : ∃ W3, W3 = w2.alloc (.cells #[.slice aT nT cT, .slice aB nB cB] 74) := ⟨_, rfl⟩
  have al : Below w2.heap.size w2 W3 := by rw [HW]; exact (Below.refl _ _).alloc (Nat.le_refl _) _
  have bx3 := bx.below al
  have BT := (B1.below al).set2 bx3 (.slice aT nT cT) (.slice aB nB cB)
  have BB := (B2.below al).set2 bx3 (.slice aT nT cT) (.slice aB nB cB)
  have bxs := bx3.set (.slice aT nT cT) (.slice aB nB cB)
  have hb3 := hb2.trans (al.mono hb2.size)
  have hbF : Below w.heap.size w ((W3.setCell ⟨w.heap.size, 0, none⟩ (.slice aT nT cT)).setCell ⟨w.heap.size, 1, none⟩ (.slice aB nB cB)) := (hb3.setCell (Nat.le_refl _) _).setCell (Nat.le_refl _) _
  obtain ⟨q0, q1, _, _⟩ := bxs.cells
  rw [HW] at bx3 q0 q1
  obtain ⟨r0, r1, r2, r3⟩ := bx3.cells
  have Q0 := hide q0
  have Q1 := hide q1
  have HW' := hide HW
  clear HO HT b1 b2 hb1 q0 q1 HW bx bx3 bxs al hb2 hb3 B1 B2
  go_wp2
  exact bodyPost_ret (v := .agg #[.slice aT nT cT, .slice aB nB cB]) (by simp [results, Tryz.results40, go_sem, unhide Q0, unhide Q1]) rfl ⟨aT, nT, cT, aB, nB, cB, rfl, by rw [← unhide HW']; exact BT, by rw [← unhide HW']; exact BB, by rw [← unhide HW']; exact hbF⟩
end Go.Proofs.YtjfdjpaocdhbbaaGreatDoor.mem
