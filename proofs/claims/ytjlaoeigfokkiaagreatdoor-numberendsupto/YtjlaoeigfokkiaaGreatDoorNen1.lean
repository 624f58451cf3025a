import Derived.Test.YtjlaoeigfokkiaaGreatDoorBs30
import Derived.Test.YtjlaoeigfokkiaaGreatDoorBs29
namespace Go.Proofs.YtjlaoeigfokkiaaGreatDoor.fto
open Go.ChangeShapes Go.WideShapes Go.ChangeAt Go.RowKit
open mem Go.Sort
open ints (hide unhide)
set_option linter.unusedVariables false
set_option linter.unusedSimpArgs false
/-- a piece of a function's code -/
def nav : Code → List Nat → Code
  | c, [] => c
  | .seq a _, 0 :: r => nav a r
  | .seq _ b, 1 :: r => nav b r
  | .cond _ a _, 0 :: r => nav a r
  | .cond _ _ b, 1 :: r => nav b r
  | .block _ a, 0 :: r => nav a r
  | .loop a, 0 :: r => nav a r
  | .rangeFunc _ _ a _, 0 :: r => nav a r
  | .rangeFunc _ _ _ b, 1 :: r => nav b r
  | c, _ => c
def lawOf (f : Func) : Code := f.body.getD .skip
/-- a piece of a text -/
def cutS (s : ByteArray) (a b : Nat) : ByteArray := ⟨((s.data.toList.drop a).take (b - a)).toArray⟩
theorem run_cutS (s : ByteArray) (a b : Nat) (bz : Int) (hb : bz = b) (h1 : a ≤ b) (h2 : b ≤ s.size) (w : World) : (Instr.slice 9 (.string s) (some (.int .i64 (a : Int))) (some (.int .i64 bz)) none).run Tryz.prog w = .ok (.string (cutS s a b)) w := by
  subst hb
  rw [run_slice_string w 9 s .i64 .i64 a b Tryz.underlying9 (by omega) (by omega) (by omega)]
  congr 2
  refine bytes_inj ?_
  rw [Int.toNat_natCast, Int.toNat_natCast, ← ByteArray.toList_eq, Lib.extract_toList]
  simp [cutS]
theorem bytZ_cut (s : ByteArray) (a b : Nat) : bytZ (cutS s a b) = ((bytZ s).drop a).take (b - a) := by
  unfold bytZ cutS
  show List.map _ (((s.data.toList.drop a).take (b - a)).toArray.toList) = _
  rw [List.toList_toArray, List.map_take, List.map_drop]
theorem cutS_size (s : ByteArray) (a b : Nat) : (cutS s a b).size ≤ s.size := by
  rw [← bytZ_len, bytZ_cut, ← bytZ_len, List.length_take, List.length_drop]
  omega
theorem bytZ_app0 (s : ByteArray) : bytZ (s ++ ⟨#[48]⟩) = bytZ s ++ [48] := by
  unfold bytZ
  simp
theorem el_eq : Tryz.f5.body = some (.seq (nav (lawOf Tryz.f5) [0]) (.seq (nav (lawOf Tryz.f5) [1, 0]) (.seq (nav (lawOf Tryz.f5) [1, 1, 0]) (.seq (nav (lawOf Tryz.f5) [1, 1, 1, 0]) (.seq (nav (lawOf Tryz.f5) [1, 1, 1, 1, 0]) (.seq (nav (lawOf Tryz.f5) [1, 1, 1, 1, 1, 0]) (nav (lawOf Tryz.f5) [1, 1, 1, 1, 1, 1]))))))) := by kernel_rfl
theorem er_eq : nav (lawOf Tryz.f5) [1, 1, 1, 1, 1, 1] = .seq (nav (lawOf Tryz.f5) [1, 1, 1, 1, 1, 1, 0]) (.seq (nav (lawOf Tryz.f5) [1, 1, 1, 1, 1, 1, 1, 0]) (.seq (nav (lawOf Tryz.f5) [1, 1, 1, 1, 1, 1, 1, 1, 0]) (.seq (nav (lawOf Tryz.f5) [1, 1, 1, 1, 1, 1, 1, 1, 1, 0]) (.seq (nav (lawOf Tryz.f5) [1, 1, 1, 1, 1, 1, 1, 1, 1, 1, 0]) (.ret))))) := by kernel_rfl
end Go.Proofs.YtjlaoeigfokkiaaGreatDoor.fto
