import Derived.Test.YtjicabpeohpbpabDoorPRd3
import Derived.Test.YtjicabpeohpbpabDoorOrdW
namespace Go.Proofs.YtjicabpeohpbpabDoor.stp
open Go.ChangeShapes Go.WideShapes Go.ChangeAt Go.RowKit
set_option linter.unusedVariables false
theorem plk {ss : List St} {k : Nat} {s : St} (h : ss[k]? = some s) : (ss.take (k + 1)).map plS = (ss.take k).map plS ++ [plS s] := by
  rw [List.take_add_one, h]
  simp
/-- how clean answers -/
def ClPost (n : Nat) (ss : List St) (w : World) (e : Ending) (w' : World) : Prop := ∃ a' c', e = .returned (.slice a' n c') ∧ Pth w' a' n (ss.map plS) ∧ Below w.heap.size w w'
theorem rdQ_ptx (ss : List St) (hf : Fit ss) : rdQ ⟨(ptx ss).toArray⟩ = ss.map plS := by
  have h := pcs_data ⟨(ptx ss).toArray⟩
  have e : (⟨(ptx ss).toArray⟩ : ByteArray).data.toList = [] ++ ptx ss := rfl
  have hc : Lib.count (⟨(ptx ss).toArray⟩ : ByteArray).data.toList [47] = ss.length := by rw [e]; exact count_ptx ss [] (by simp)
  rw [hc, e, split_ptx ss [] ss.length (by simp) (Nat.le_refl _)] at h
  unfold rdQ
  have h2 : (pcs ⟨(ptx ss).toArray⟩).tail.map (fun x => x.data.toList) = ss.map encS := by
    rw [List.map_tail, h]
    rfl
  have h3 : (pcs ⟨(ptx ss).toArray⟩).tail.map (fun x => rdS x.data.toList) = ((pcs ⟨(ptx ss).toArray⟩).tail.map (fun x => x.data.toList)).map rdS := by
    rw [List.map_map]
    rfl
  rw [h3, h2, List.map_map]
  apply List.map_congr_left
  intro s hs
  have hw := wf_range (hf s hs)
  exact rd_enc s hw.1 hw.2
set_option maxHeartbeats 1000000 in
set_option maxRecDepth 6000 in
theorem same_any (aA aB : Option Addr) (n cA cB : Nat) (ss : List St) (w : World) (hA : Pth w aA n ss) (hB : Pth w aB n ss) (bn : n ≤ 8388608) :
    Calls Tryd.prog 8 #[.slice aA n cA, .slice aB n cB] w fun e w' => e = .returned (.bool true) ∧ Below w.heap.size w w' := by
  go_enter Tryd.func8, Tryd.ntmps8
  go_wp2_with fail
  go_loopw [5] (fun vk wr => ∃ k : Nat, k ≤ n ∧ vk = .int .i64 k ∧ Below w.heap.size w wr) (fun vk _ => n - (intOf vk).toNat)
  case atStart => exact ⟨0, Nat.zero_le _, rfl, Below.refl _ _⟩
  case round =>
    obtain ⟨k, hk, rfl, hbk⟩ := hrel
    by_cases hlt : k < n
    · have ki : (k : Int) < (n : Int) := by omega
      rcases (hA.below hbk).at_ with h0 | ⟨b, off, rfl, hbw, hcell⟩
      · omega
      rcases (hB.below hbk).at_ with h0 | ⟨b', off', rfl, hbw', hcell'⟩
      · omega
      obtain ⟨s, hs, u0, u1, u2⟩ := hcell k hlt
      obtain ⟨s', hs', v0, v1, v2⟩ := hcell' k hlt
      obtain rfl : s = s' := Option.some.inj (hs.symm.trans hs')
      obtain ⟨nm, ix, it⟩ := s
      clear hcell hs hcell' hs'
      simp only at u0 u1 u2 v0 v1 v2
      go_wp2_with fail
      go_region
      go_wp2
      go_roundw
      case rel => exact ⟨k + 1, by omega, by go_num, hbk.drew⟩
      case measure => simp [intOf]; omega
    · have ki : ¬ (k : Int) < (n : Int) := by omega
      go_wp2
      go_ret
      exact ⟨rfl, hbk⟩
end Go.Proofs.YtjicabpeohpbpabDoor.stp
