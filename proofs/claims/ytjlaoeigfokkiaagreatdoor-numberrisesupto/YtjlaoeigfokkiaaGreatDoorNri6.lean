import Derived.Test.YtjlaoeigfokkiaaGreatDoorNri5
import Derived.Lib.MinMax
namespace Go.Proofs.YtjlaoeigfokkiaaGreatDoor.fto
open Go.ChangeShapes Go.WideShapes Go.ChangeAt Go.RowKit
open mem Go.Sort
open ints (hide unhide)
set_option linter.unusedVariables false
set_option linter.unusedSimpArgs false
theorem run_max3 {P : Program} (w : World) (ts : Array TypeId) (t : TypeId) (x y N : Int) (h : max (max x y) 1 = N) :
    (Builtin.max_ ts t #[.int .i64 x, .int .i64 y, .int .i64 1]).run P w = .ok (.int .i64 N) w := by
  have e : ∀ a b : Int, (if b > a then b else a) = max a b := by
    intro a b
    rw [Int.max_def]
    split <;> split <;> omega
  simp [Builtin.max_, Builtin.max2, e, h]
set_option maxHeartbeats 1000000 in
set_option maxRecDepth 100000 in
/-- the law, by what its calls answer -/
theorem rises_in (a a' : Option Addr) (n c n' c' N R1 R2 : Nat) (p : Int) (X Y I T X2 Y2 S1 S2 : ByteArray) (w : World) (hW : dcm.Fz w)
    (hn : n ≤ 1100000) (hn' : n' ≤ 1100000) (hN : max (max (n : Int) n') 1 = (N : Int)) (hp : -2147483648 ≤ p ∧ p ≤ 2147483647)
    (zX : X.size ≤ 1100000) (zY : Y.size ≤ 1100000) (zI : I.size ≤ 30)
    (hT : (⟨#[101]⟩ : ByteArray) ++ I = T) (hX2 : (⟨#[48, 46]⟩ : ByteArray) ++ X = X2) (hY2 : (⟨#[48, 46]⟩ : ByteArray) ++ Y = Y2) (hS1 : X2 ++ T = S1) (hS2 : Y2 ++ T = S2)
    (D1 : ∀ W, Below w.heap.size w W → w.heap.size ≤ W.heap.size → Calls Tryz.prog 16 #[.slice a n c, .int .i64 N] W fun e w' => e = .returned (.string X) ∧ Below W.heap.size W w')
    (D2 : ∀ W, Below w.heap.size w W → w.heap.size ≤ W.heap.size → Calls Tryz.prog 16 #[.slice a' n' c', .int .i64 N] W fun e w' => e = .returned (.string Y) ∧ Below W.heap.size W w')
    (WT : ∀ W, dcm.Fz W → Calls Tryz.prog 17 #[.int .i64 p] W fun e w' => e = .returned (.string I) ∧ Below W.heap.size W w')
    (F1 : ∀ W, dcm.Fz W → Calls Tryz.prog 18 #[.string S1] W fun e w' => e = .returned (.tuple #[.float .f64 R1, .bool true]) ∧ Below W.heap.size W w')
    (F2 : ∀ W, dcm.Fz W → Calls Tryz.prog 18 #[.string S2] W fun e w' => e = .returned (.tuple #[.float .f64 R2, .bool true]) ∧ Below W.heap.size W w')
    (hc : (Op.bytesLess X.toList Y.toList = true ∧ (FloatKind.f64.format.order R1 R2 = some .lt ∨ FloatKind.f64.format.order R1 R2 = some .eq)) ∨
      (Op.bytesLess X.toList Y.toList = false ∧ (X.toList == Y.toList) = false ∧ (FloatKind.f64.format.order R2 R1 = some .lt ∨ FloatKind.f64.format.order R2 R1 = some .eq)) ∨
      (Op.bytesLess X.toList Y.toList = false ∧ (X.toList == Y.toList) = true ∧ FloatKind.f64.format.order R2 R1 = some .eq ∧ FloatKind.f64.format.order R1 R2 = some .eq)) :
    Calls Tryz.prog 6 #[.slice a n c, .slice a' n' c', .int .i32 p] w fun e w' => e = .returned (.bool true) ∧ Below w.heap.size w w' := by
  have zT : T.size ≤ 100 := by have := congrArg ByteArray.size hT; rw [ByteArray.size_append] at this; have e : (⟨#[101]⟩ : ByteArray).size = 1 := rfl; omega
  have zX2 : X2.size ≤ 1100010 := by have := congrArg ByteArray.size hX2; rw [ByteArray.size_append] at this; have e : (⟨#[48, 46]⟩ : ByteArray).size = 2 := rfl; omega
  have zY2 : Y2.size ≤ 1100010 := by have := congrArg ByteArray.size hY2; rw [ByteArray.size_append] at this; have e : (⟨#[48, 46]⟩ : ByteArray).size = 2 := rfl; omega
  have A1 := hide (fixed_ok w hW.fy)
  have H1 := hide D1
  have H2 := hide D2
  have H3 := hide WT
  have H4 := hide F1
  have H5 := hide F2
  have HF := hide hW
  have HC := hide hc
  have hm := fun W ts t => run_max3 (P := Tryz.prog) W ts t (n : Int) (n' : Int) (N : Int) hN
  clear D1 D2 WT F1 F2 hW hc hN
  go_enter Tryz.func6, Tryz.ntmps6
  go_wp2_with fail
  refine (unhide A1).mono ?_
  rintro e w1 ⟨rfl, b1⟩
  have B1 := hide b1
  clear b1 A1
  go_wp2_with fail
  refine (unhide H1 w1 (unhide B1) (unhide B1).size).mono ?_
  rintro e w2 ⟨rfl, b2⟩
  have B2 := hide ((unhide B1).trans (b2.mono (unhide B1).size))
  clear b2 H1 B1
  go_wp2_with fail
  refine (unhide H2 w2 (unhide B2) (unhide B2).size).mono ?_
  rintro e w3 ⟨rfl, b3⟩
  have B3 := hide ((unhide B2).trans (b3.mono (unhide B2).size))
  clear b3 H2 B2
  go_wp2_with fail
  refine (unhide H3 w3 ((unhide HF).below (unhide B3))).mono ?_
  rintro e w4 ⟨rfl, b4⟩
  have B4 := hide ((unhide B3).trans (b4.mono (unhide B3).size))
  clear b4 H3 B3
  go_wp2_with fail
  refine (unhide H4 w4 ((unhide HF).below (unhide B4))).mono ?_
  rintro e w5 ⟨rfl, b5⟩
  have B5 := hide ((unhide B4).trans (b5.mono (unhide B4).size))
  clear b5 H4 B4
  go_wp2_with fail
  refine (unhide H5 w5 ((unhide HF).below (unhide B5))).mono ?_
  rintro e w6 ⟨rfl, b6⟩
  have B6 := hide ((unhide B5).trans (b6.mono (unhide B5).size))
  clear b6 H5 B5
  rcases unhide HC with ⟨l1, o1⟩ | ⟨l1, l2, o1⟩ | ⟨l1, l2, o1, o2⟩
  · clear HC
    rcases o1 with o1 | o1
    · go_wp2
      go_ret
      exact ⟨rfl, unhide B6⟩
    · go_wp2
      go_ret
      exact ⟨rfl, unhide B6⟩
  · clear HC
    rcases o1 with o1 | o1
    · go_wp2
      go_ret
      first | exact ⟨rfl, unhide B6⟩ | exact ⟨rfl, (unhide B6).drew⟩
    · go_wp2
      go_ret
      first | exact ⟨rfl, unhide B6⟩ | exact ⟨rfl, (unhide B6).drew⟩
  · clear HC
    go_wp2
    go_ret
    first | exact ⟨rfl, unhide B6⟩ | exact ⟨rfl, (unhide B6).drew⟩
end Go.Proofs.YtjlaoeigfokkiaaGreatDoor.fto
