import Derived.Test.YtechaplindbfoaaGreatDoorJsi31
import Derived.Test.YtechaplindbfoaaGreatDoorJpa13
namespace Go.Proofs.YtechaplindbfoaaGreatDoor.jsn
open Go.ChangeShapes Go.WideShapes Go.ChangeAt Go.RowKit
open mem
open vl hiding hide unhide Hid
open ints (hide unhide)
set_option linter.unusedVariables false
set_option linter.unusedSimpArgs false
theorem itB_pos (n : Int) : 1 ≤ (fto.itB n).size := by
  show 1 ≤ (Lib.itoa n).toArray.size
  rw [List.size_toArray]
  have hn : ∀ u, 1 ≤ Lib.nDigits u := fun u => by rw [Lib.nDigits]; split <;> omega
  unfold Lib.itoa
  split
  · rw [List.length_cons]; omega
  · rw [Lib.decDigits_length]; exact hn _
theorem js_pos (v : Vl) (hf : FlV v) (h : jfE v = 0) : 1 ≤ (js NZ v).length := by
  obtain ⟨kd, b, n, f, tx, ty, its, fls⟩ := v
  have hok := okV_of _ hf h
  unfold okV at hok
  unfold js
  rcases hok with rfl | rfl | ⟨rfl, hp⟩ | ⟨rfl, hp⟩ | ⟨rfl, hc⟩ | ⟨rfl, hL⟩ | ⟨rfl, hc, hd, hO⟩
  · simp
  · have e : 1 ≤ ((if b then [116, 114, 117, 101] else [102, 97, 108, 115, 101] : List UInt8)).length := by split <;> simp
    simpa only [show ¬ ((1 : Int) = 0) by decide, if_false, if_true] using e
  · have e : 1 ≤ (NZ.wt n).length := by
      show 1 ≤ (fto.itB n).data.toList.length
      rw [size_list]
      exact itB_pos n
    simpa only [show ¬ ((2 : Int) = 0) by decide, show ¬ ((2 : Int) = 1) by decide, if_false, if_true] using e
  · have e : 1 ≤ (NZ.ft f).length := by
      show 1 ≤ (ftZ f).data.toList.length
      rw [size_list]
      exact (ftZ_ok hp.1 hp.2).2.1
    simpa only [show ¬ ((3 : Int) = 0) by decide, show ¬ ((3 : Int) = 1) by decide, show ¬ ((3 : Int) = 2) by decide, if_false, if_true] using e
  · have e : 1 ≤ (txt tx.data.toList).length := by rw [txt_len]; omega
    simpa only [show ¬ ((4 : Int) = 0) by decide, show ¬ ((4 : Int) = 1) by decide, show ¬ ((4 : Int) = 2) by decide, show ¬ ((4 : Int) = 3) by decide, if_false, if_true] using e
  · simp only [show ¬ ((5 : Int) = 0) by decide, show ¬ ((5 : Int) = 1) by decide, show ¬ ((5 : Int) = 2) by decide, show ¬ ((5 : Int) = 3) by decide, show ¬ ((5 : Int) = 4) by decide, if_false, if_true, List.length_append, List.length_cons, List.length_nil]
    omega
  · simp only [show ¬ ((6 : Int) = 0) by decide, show ¬ ((6 : Int) = 1) by decide, show ¬ ((6 : Int) = 2) by decide, show ¬ ((6 : Int) = 3) by decide, show ¬ ((6 : Int) = 4) by decide, show ¬ ((6 : Int) = 5) by decide, if_false, List.length_append, List.length_cons, List.length_nil]
    omega
/-- put at every value without a fault -/
theorem put_ok (w0 : World) (hE : fto.Fx w0) : ∀ v : Vl, FlV v → jfE v = 0 → wtV v ≤ 1048576 → PH w0 v := by
  refine Vl.all ?_
  intro kd b n f tx ty its fls ihI ihF hf h hwt
  have hok := okV_of _ hf h
  unfold FlV at hf
  obtain ⟨hn, hfl, hI, hF⟩ := hf
  unfold okV at hok
  rw [wtV] at hwt
  have l1 : its.list.length ≤ wtI its := by rw [wtI_sum]; exact take_ge wtV wt_pos _
  have l2 : fls.list.length ≤ wtF fls := by rw [wtF_sum]; exact take_ge (fun q : ByteArray × Vl => q.1.size + wtV q.2) (fun q => by have := wt_pos q.2; omega) _
  rcases hok with rfl | rfl | ⟨rfl, hp⟩ | ⟨rfl, hp⟩ | ⟨rfl, hc⟩ | ⟨rfl, hL⟩ | ⟨rfl, hc, hd, hO⟩
  · exact put_plain w0 0 b n f tx ty its fls (.inl rfl)
  · exact put_plain w0 1 b n f tx ty its fls (.inr rfl)
  · exact put_whole w0 b n f tx ty its fls hn.1 hn.2
  · exact put_float w0 b n f tx ty its fls hE hfl hp.2
  · exact put_text w0 b n f tx ty its fls hc (by omega)
  · have hz : jfL its = 0 := by simpa [jfE] using h
    have hm : ∀ (i : Nat) (v : Vl), its.list[i]? = some v → FlV v ∧ jfE v = 0 ∧ wtV v ≤ 1048576 := fun i v hv => ⟨hI.all v (List.mem_of_getElem? hv), jfL_all.1 hz v (List.mem_of_getElem? hv), by have := wtI_mem (List.mem_of_getElem? hv); omega⟩
    exact put_list w0 b n f tx ty its fls (by omega) (fun i v hv => ihI v (List.mem_of_getElem? hv) (hm i v hv).1 (hm i v hv).2.1 (hm i v hv).2.2) (fun i v hv => ⟨js_len v (hm i v hv).1 (hm i v hv).2.1, js_pos v (hm i v hv).1 (hm i v hv).2.1⟩)
  · have hz : jfF fls = 0 := by
      have h6 : (if nmJ [] (fls.list.map (·.1)) = 0 then jfF fls else nmJ [] (fls.list.map (·.1))) = 0 := by simpa [jfE] using h
      split at h6
      · exact h6
      · rename_i hh; exact absurd h6 hh
    have hm : ∀ (i : Nat) (q : ByteArray × Vl), fls.list[i]? = some q → FlV q.2 ∧ jfE q.2 = 0 ∧ q.1.size + wtV q.2 ≤ 1048576 := fun i q hv => ⟨hF.all q (List.mem_of_getElem? hv), jfF_all.1 hz q (List.mem_of_getElem? hv), by have := wtF_mem (List.mem_of_getElem? hv); omega⟩
    exact put_obj w0 b n f tx ty its fls (by omega) (fun i q hv => ihF q (List.mem_of_getElem? hv) (hm i q hv).1 (hm i q hv).2.1 (by have := (hm i q hv).2.2; omega)) (fun i q hv => ⟨js_len q.2 (hm i q hv).1 (hm i q hv).2.1, hc q (List.mem_of_getElem? hv), by have := (hm i q hv).2.2; omega⟩)
end Go.Proofs.YtechaplindbfoaaGreatDoor.jsn
