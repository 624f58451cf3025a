import Derived.Test.YtfjoaifcfmcnfabGreatDoorJoW
import Derived.Test.YtfjoaifcfmcnfabGreatDoorJsnP
namespace Go.Proofs.YtfjoaifcfmcnfabGreatDoor.jsn
open Go.ChangeShapes Go.WideShapes Go.ChangeAt Go.RowKit
open mem vl Go.Maps
open ints (hide unhide)
set_option linter.unusedVariables false
def N0 : Nums := ⟨fun _ => False, fun _ => [], fun _ => False, fun _ => []⟩
theorem n0_ok : N0.Ok := ⟨fun _ _ h => h.elim, fun _ _ h => h.elim, fun _ h => h.elim⟩
def emV (kd : Int) : Vl := .mk kd false 0 0 ⟨#[]⟩ ⟨#[]⟩ .nil .nil
def exV : Vl := .mk 6 false 0 0 ⟨#[]⟩ ⟨#[]⟩ .nil (.cons ⟨#[98]⟩ (emV 5) (.cons ⟨#[97]⟩ (emV 6) (.cons ⟨#[]⟩ (emV 0) .nil)))
theorem ex_ok : okV N0 exV := by
  unfold exV okV
  refine .inr (.inr (.inr (.inr (.inr (.inr ⟨rfl, ?_, ?_, ?_⟩)))))
  · intro p hp
    simp only [Fls.list, List.mem_cons, List.not_mem_nil, or_false] at hp
    rcases hp with rfl | rfl | rfl <;> decide +kernel
  · show (nms _).Nodup
    simp [nms, Fls.list]
  · simp [okF, okV, okL, emV, Fls.list, nms]
theorem ex_js : js N0 exV = [123, 34, 98, 34, 58, 91, 93, 44, 34, 97, 34, 58, 123, 125, 44, 34, 34, 58, 110, 117, 108, 108, 125] := by decide +kernel
theorem em_at (w : World) (kd : Int) (hk : (Lit.int .i64 kd).wf = true) : VlC w (emV kd) [.int .i64 kd, .bool false, .int .i64 0, .float .f64 0, .string ⟨#[]⟩, .string ⟨#[]⟩, .slice none 0 0, .slice none 0 0] := by
  unfold emV VlC
  exact ⟨none, 0, 0, none, 0, 0, rfl, by unfold VlsAt; rfl, by unfold FlsAt; rfl, Nat.le_refl _, Nat.le_refl _, fun _ => rfl, fun _ => rfl, hk, rfl, Nat.zero_le _, Nat.zero_le _, Nat.zero_le _, Nat.zero_le _⟩
theorem heap_alloc_at {w : World} {o : Obj} {n : Nat} (h : n = w.heap.size) : (w.alloc o).heap[n]? = some o := by subst h; exact heap_alloc_new _ _
theorem row8_cut {W : World} {b : Nat} {arr : Array Value} {T : TypeId} {fr : Nat × Nat} (h : W.heap[b]? = some (.cells arr T fr)) (off : Nat) : Row8 W b off ((arr.toList.drop off).take 8) := by
  intro i u hu
  rw [Lib.cell_of_heap h]
  rw [List.getElem?_take] at hu
  split at hu
  · rw [List.getElem?_drop] at hu
    simpa using hu
  · cases hu
theorem ex_at {W : World} {b : Nat} {T : TypeId} {fr : Nat × Nat} (h : W.heap[b]? = some (.cells #[.string ⟨#[98]⟩, .int .i64 5, .bool false, .int .i64 0, .float .f64 0, .string ⟨#[]⟩, .string ⟨#[]⟩, .slice none 0 0, .slice none 0 0,
    .string ⟨#[97]⟩, .int .i64 6, .bool false, .int .i64 0, .float .f64 0, .string ⟨#[]⟩, .string ⟨#[]⟩, .slice none 0 0, .slice none 0 0,
    .string ⟨#[]⟩, .int .i64 0, .bool false, .int .i64 0, .float .f64 0, .string ⟨#[]⟩, .string ⟨#[]⟩, .slice none 0 0, .slice none 0 0] T fr)) :
    VlC W exV [.int .i64 6, .bool false, .int .i64 0, .float .f64 0, .string ⟨#[]⟩, .string ⟨#[]⟩, .slice none 0 0, .slice (some ⟨b, 0, none⟩) 3 3] := by
  unfold exV VlC
  refine ⟨none, 0, 0, some ⟨b, 0, none⟩, 3, 3, rfl, by unfold VlsAt; rfl, ?_, Nat.le_refl _, Nat.le_refl _, fun _ => rfl, (fun h => by cases h), by decide, rfl, Nat.zero_le _, Nat.zero_le _, Nat.zero_le _, by unfold maxLen; omega⟩
  unfold FlsAt
  refine ⟨b, 0, 2, _, rfl, rfl, by rw [Lib.cell_of_heap h]; rfl, by unfold maxLen; decide, row8_cut h 1, em_at W 5 (by decide), ?_⟩
  unfold FlsAt
  refine ⟨b, 9, 1, _, rfl, rfl, by rw [Lib.cell_of_heap h]; rfl, by unfold maxLen; decide, row8_cut h 10, em_at W 6 (by decide), ?_⟩
  unfold FlsAt
  refine ⟨b, 18, 0, _, rfl, rfl, by rw [Lib.cell_of_heap h]; rfl, by unfold maxLen; decide, row8_cut h 19, em_at W 0 (by decide), ?_⟩
  unfold FlsAt
  rfl
set_option maxHeartbeats 4000000 in
set_option maxRecDepth 100000 in
theorem example_ok (w : World) :
    Calls Tryz.prog 15 #[] w fun e w' => ∃ cs, e = .returned (.agg cs.toArray) ∧ VlC w' exV cs ∧ Below w.heap.size w w' := by
  have hsf := storeF
  go_enter Tryz.func15, Tryz.ntmps15
  go_wp2
  refine bodyPost_ret (v := .agg #[.int .i64 6, .bool false, .int .i64 0, .float .f64 0, .string ⟨#[]⟩, .string ⟨#[]⟩, .slice none 0 0, .slice (some ⟨w.heap.size + 1 + 1 + 1, 0, none⟩) 3 3]) (by simp [results, Tryz.results15, go_sem]) rfl ?_
  refine ⟨[.int .i64 6, .bool false, .int .i64 0, .float .f64 0, .string ⟨#[]⟩, .string ⟨#[]⟩, .slice none 0 0, .slice (some ⟨w.heap.size + 1 + 1 + 1, 0, none⟩) 3 3], rfl, ex_at (T := 37) (fr := (0, 0)) ?_, ((((Below.refl _ _).alloc (Nat.le_refl _) _).alloc (by simp) _).alloc (by simp; omega) _).alloc (by simp; omega) _⟩
  exact heap_alloc_at (by simp)
theorem tx_ex : txS ⟨#[97, 34, 92, 47, 8, 11]⟩ = ⟨#[34, 97, 92, 34, 92, 92, 47, 92, 98, 92, 117, 48, 48, 48, 98, 34]⟩ := by decide +kernel
theorem te_ex : txE ⟨#[97, 34, 92, 47, 8, 11]⟩ = 0 := by decide +kernel
theorem cells_z (l : List UInt8) : Lib.byteCells l = (zB l).map (Value.int .u8) := by simp [Lib.byteCells, zB]
theorem str_ex : strOfNums (zB [123, 34, 98, 34, 58, 91, 93, 44, 34, 97, 34, 58, 123, 125, 44, 34, 34, 58, 110, 117, 108, 108, 125]) = ⟨#[123, 34, 98, 34, 58, 91, 93, 44, 34, 97, 34, 58, 123, 125, 44, 34, 34, 58, 110, 117, 108, 108, 125]⟩ := by decide +kernel
set_option maxHeartbeats 4000000 in
set_option maxRecDepth 100000 in
theorem awake_ok (w : World) : Calls Tryz.prog 7 #[] w fun e w' => e = .returned (.bool true) ∧ Below w.heap.size w w' := by
  have hx := hide ex_js
  go_enter Tryz.func7, Tryz.ntmps7
  go_wp2_with fail
  refine (example_ok w).mono ?_
  rintro e w1 ⟨cs, rfl, hv, b1⟩
  have HV := hide hv
  clear hv
  go_wp2_with fail
  refine (write_ok N0 n0_ok exV cs w1 (unhide HV) ex_ok (by rw [unhide hx]; decide)).mono ?_
  rintro e w2 ⟨r, rfl, ho, b2⟩
  rw [unhide hx] at ho
  have ho : w2.ownsRow w1.heap.size 5 1 r 23 (Lib.byteCells [123, 34, 98, 34, 58, 91, 93, 44, 34, 97, 34, 58, 123, 125, 44, 34, 34, 58, 110, 117, 108, 108, 125]) := ho
  have HO := hide ho
  have HB2 := hide (b1.trans (b2.mono b1.size))
  clear HV ho b1 b2
  go_wp2_with fail
  refine (text_any ⟨#[97, 34, 92, 47, 8, 11]⟩ w2 (by decide)).mono ?_
  rw [tx_ex, te_ex]
  rintro e w3 ⟨rfl, b3⟩
  have HO3 := hide (own_below (unhide HO) b3)
  have HB3 := hide ((unhide HB2).trans (b3.mono (unhide HB2).size))
  clear HO HB2 b3
  go_wp2_with fail
  refine (example_ok w3).mono ?_
  rintro e w4 ⟨cs2, rfl, hv2, b4⟩
  have HV2 := hide hv2
  have HO4 := hide (own_below (unhide HO3) b4)
  have HB4 := hide ((unhide HB3).trans (b4.mono (unhide HB3).size))
  clear hv2 HO3 HB3 b4
  go_wp2_with fail
  refine (size_ok N0 n0_ok exV cs2 w4 (unhide HV2) ex_ok (by rw [unhide hx]; decide)).mono ?_
  rw [unhide hx]
  rintro e w5 ⟨rfl, b5⟩
  have ho5 := own_below (unhide HO4) b5
  have HB5 := hide ((unhide HB4).trans (b5.mono (unhide HB4).size))
  rw [cells_z] at ho5
  obtain ⟨a, c, rfl, hr⟩ := own_row ho5
  have hconv := row_string (P := Tryz.prog) hr 30 9 5 Tryz.underlying30 Tryz.underlying5 Tryz.underlying9
  rw [str_ex] at hconv
  clear HV2 HO4 HB4 b5 ho5 hr
  go_wp2_with fail
  go_ret
  exact ⟨rfl, unhide HB5⟩
end Go.Proofs.YtfjoaifcfmcnfabGreatDoor.jsn
