import Derived.Test.YtcehhkjlbhodeaaDoorLinU
import Derived.Test.YtcehhkjlbhodeaaDoorPlcU
import Derived.Test.YtcehhkjlbhodeaaDoorDecB
import Derived.Lib.SlBytesConst
namespace Go.Proofs.YtcehhkjlbhodeaaDoor.mem
open Go.ChangeShapes Go.WideShapes Go.ChangeAt Go.RowKit
open ints (hide unhide)
set_option linter.unusedVariables false

theorem row_lit (k : IntKind) (e : TypeId) (fr : Nat × Nat) (W : World) (zs : List Int) : Row k (W.alloc (.cells (zs.map (Value.int k)).toArray e fr)) (some ⟨W.heap.size, 0, none⟩) zs.length zs.length zs := by
  refine ⟨rfl, Nat.le_refl _, (fun h => by cases h), .inr ⟨W.heap.size, 0, rfl, by simp, fun i hi => ?_⟩⟩
  rw [World.cell?_alloc_mark]
  simp [List.getD, hi]
theorem line_row {w : World} {base g : Nat} {ln : List Int} (h : w.ownsRow base 21 1 (lineVal g ln) ln.length (ln.map (Value.int .i32))) : Row .i32 w (some ⟨g, 0, none⟩) ln.length ln.length ln := by
  obtain ⟨a, cap, e, hr⟩ := own_row h
  simp only [lineVal, Value.slice.injEq] at e
  obtain ⟨rfl, _, rfl⟩ := e
  exact hr
/-- What a reader finds in lines: the outer cells, the inner rows. -/
theorem LinesAt.get {w : World} {base : Nat} {v : Value} {gs : List Nat} {lns : List (List Int)} (h : LinesAt w base v gs lns) (hne : 0 < lns.length) :
    ∃ G cap, v = .slice (some ⟨G, 0, none⟩) lns.length cap ∧ G < w.heap.size ∧ ∀ i, i < lns.length → w.cell? ⟨G, i, none⟩ = some (lineVal (gs.getD i 0) (lns.getD i [])) ∧ Row .i32 w (some ⟨gs.getD i 0, 0, none⟩) (lns.getD i []).length (lns.getD i []).length (lns.getD i []) := by
  rcases h.own.2 with ⟨_, h2⟩ | ⟨G, cap, cur, rfl, hg, hh, r⟩
  · omega
  · refine ⟨G, cap, rfl, (Array.getElem?_eq_some_iff.1 hh).1, fun i hi => ⟨?_, line_row (h.each i hi)⟩⟩
    rw [World.ownsRow.cellAt h.own i (by omega)]
    have hgi : i < gs.length := by rw [h.len]; exact hi
    simp [List.getD, List.getElem?_zipWith, hi, hgi]
theorem dec_awake : decZ [97, 195, 169, 195] = ([97, 233], 3) := by decide +kernel
theorem cln_awake : ((((decZ (bytesZ ⟨#[195, 169]⟩)).2 : Nat) : Int) == ((⟨#[195, 169]⟩ : ByteArray).size : Int)) = true := by decide +kernel
theorem enc_awake : encS [97, 128512] = ⟨#[97, 240, 159, 152, 128]⟩ := by decide +kernel
theorem all_awake : ([97, 128512] : List Int).all scB = true := by decide +kernel
theorem lin_awake : linesL [97, 13, 10, 98] = [[97], [98]] := by decide +kernel
theorem plc_awake : posCells (plist [97, 10] 3) = [.int .i64 1, .int .i64 1, .int .i64 1, .int .i64 2, .int .i64 2, .int .i64 1] := rfl
end Go.Proofs.YtcehhkjlbhodeaaDoor.mem
