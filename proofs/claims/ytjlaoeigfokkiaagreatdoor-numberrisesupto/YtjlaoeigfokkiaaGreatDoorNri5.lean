import Derived.Test.YtjlaoeigfokkiaaGreatDoorBs30
import Derived.Test.YtjlaoeigfokkiaaGreatDoorBs29
import Derived.Test.YtjlaoeigfokkiaaGreatDoorNri4
namespace Go.Proofs.YtjlaoeigfokkiaaGreatDoor.fto
open Go.ChangeShapes Go.WideShapes Go.ChangeAt Go.RowKit
open mem Go.Sort
open ints (hide unhide)
set_option linter.unusedVariables false
set_option linter.unusedSimpArgs false
/-- the law's digits of some bytes -/
def dO (zs : List Int) (N : Nat) : List Int := (List.range N).map fun i => 48 + (if i < zs.length then zs.getD i 0 % 10 else 0)
theorem dO_len (zs : List Int) (N : Nat) : (dO zs N).length = N := by simp [dO]
theorem dO_succ (zs : List Int) (N : Nat) : dO zs (N + 1) = dO zs N ++ [48 + (if N < zs.length then zs.getD N 0 % 10 else 0)] := by simp [dO, List.range_succ]
theorem dO_dg (zs : List Int) (N : Nat) : Dg (dO zs N) := by
  intro z hz
  simp only [dO, List.mem_map] at hz
  obtain ⟨i, _, rfl⟩ := hz
  split <;> omega
set_option maxHeartbeats 1000000 in
set_option maxRecDepth 20000 in
theorem digitsOf_ok (a : Option Addr) (n c : Nat) (zs : List Int) (N : Nat) (w : World) (h : Row .u8 w a n c zs) (hz : ∀ z ∈ zs, 0 ≤ z ∧ z ≤ 255) (hN : 1 ≤ N) (hN2 : N ≤ 2000000) (hn : n ≤ 2000000) :
    Calls Tryz.prog 16 #[.slice a n c, .int .i64 N] w fun e w' => e = .returned (.string (strOfNums (dO zs N))) ∧ Below w.heap.size w w' := by
  obtain ⟨i0, hi, hz0, hz1, hz2⟩ := info_parts info8
  have HL := hide h.len
  have HR := hide h
  have HZ := hide hz
  clear h hz
  go_enter Tryz.func16, Tryz.ntmps16
  go_wp2
  go_loopw [6, 5] (fun x v wr => ∃ k : Nat, k ≤ N ∧ x = .int .i64 k ∧ wr.ownsRow w.heap.size 5 1 v k ((dO zs k).map (Value.int .u8)) ∧ Below w.heap.size w wr) (fun x _ _ => N - (intOf x).toNat)
  case atStart => exact ⟨0, Nat.zero_le _, rfl, World.ownsRow_nil _ _ _ _, Below.refl _ _⟩
  case round =>
    obtain ⟨k, hk, rfl, hown, hbel⟩ := hrel
    have hsz := hbel.size
    by_cases hlt : k < N
    · have ki : (k : Int) < (N : Int) := by omega
      by_cases hkn : k < n
      · have kn : (k : Int) < (n : Int) := by omega
        rcases (unhide HR).at_ with h0 | ⟨b, off, rfl, hbw, hcell⟩
        · omega
        have c1 := (hbel.cell (p := ⟨b, off + k, none⟩) hbw).trans (hcell k hkn)
        have z1 := (unhide HZ) _ (gd_mem (zs := zs) (k := k) (by rw [unhide HL]; exact hkn))
        obtain ⟨Z, hZ⟩ : ∃ Z : Nat, zs.getD k 0 = (Z : Int) := ⟨(zs.getD k 0).toNat, by omega⟩
        have hds := hide (dO_succ zs k)
        rw [if_pos (by rw [unhide HL]; exact hkn), hZ] at hds
        rw [hZ] at c1 z1
        have zb : (Z : Int) ≤ 255 := z1.2
        have zm : (Z : Int) % 10 ≤ 9 := by omega
        have zm0 : (0 : Int) ≤ (Z : Int) % 10 := by omega
        clear hcell hZ z1
        go_wp2_with (at_builtin; refine wpList_append_one _ rfl _ _ 45 rfl w.heap.size 5 i0 .u8 1 Tryz.underlying45 hi hz0 hz1 hz2 _ _ _ rfl hown _ rfl (by unfold maxLen; omega) (by omega) (by omega) ?_; intro v' wC hown' hbC)
        go_roundw
        case rel =>
          refine ⟨k + 1, by omega, by go_num, ?_, hbel.trans hbC⟩
          rw [unhide hds, List.map_append]
          exact hown'
        case measure => simp [intOf]; omega
      · have kn : ¬ (k : Int) < (n : Int) := by omega
        have hds := hide (dO_succ zs k)
        rw [if_neg (by rw [unhide HL]; exact hkn)] at hds
        go_wp2_with (at_builtin; refine wpList_append_one _ rfl _ _ 45 rfl w.heap.size 5 i0 .u8 1 Tryz.underlying45 hi hz0 hz1 hz2 _ _ _ rfl hown _ rfl (by unfold maxLen; omega) (by omega) (by omega) ?_; intro v' wC hown' hbC)
        go_roundw
        case rel =>
          refine ⟨k + 1, by omega, by go_num, ?_, hbel.trans hbC⟩
          rw [unhide hds, List.map_append]
          exact hown'
        case measure => simp [intOf]; omega
    · have ki : ¬ (k : Int) < (N : Int) := by omega
      obtain rfl : k = N := by omega
      obtain ⟨g, cap, rfl, hnc, hg, hgl, hcm⟩ := own_some hown (by omega)
      have hcv := row_string (P := Tryz.prog) (mem.row_at hown) 45 9 5 Tryz.underlying45 Tryz.underlying5 Tryz.underlying9
      clear hown
      obtain ⟨TD, hTD⟩ : ∃ TD, TD = dO zs k := ⟨_, rfl⟩
      rw [← hTD] at hcv
      have HTD := hide hTD
      clear hTD
      go_wp2
      go_ret
      exact ⟨by rw [← unhide HTD]; rfl, hbel⟩
end Go.Proofs.YtjlaoeigfokkiaaGreatDoor.fto
