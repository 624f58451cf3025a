import Derived.Test.YtechaplindbfoaaGreatDoorJbu1
import Derived.Deep.RegionHeld3
namespace Go.Proofs.YtechaplindbfoaaGreatDoor.jsn
open Go.ChangeShapes Go.WideShapes Go.ChangeAt Go.RowKit
open mem
open vl hiding hide unhide Hid
open ints (hide unhide)
set_option linter.unusedVariables false
set_option linter.unusedSimpArgs false
theorem str_neJ {s t : ByteArray} (h : s.data.toList ≠ t.data.toList) : (s.toList == t.toList) = false := by
  rw [ByteArray.toList_eq, ByteArray.toList_eq]
  simpa using h
/-- what twice answers -/
def TwP (L : List (List UInt8)) (b : Bool) : Prop := (b = true) = ¬ L.Nodup
set_option maxHeartbeats 4000000 in
set_option maxRecDepth 100000 in
theorem twice_ok (fls : Fls) (a : Option Addr) (n c : Nat) (w : World) (h : FlsAt w fls a n) (hn : n ≤ 1099511627776) (hnc : n ≤ c) :
    Calls Tryz.prog 17 #[.slice a n c] w fun e w' => ∃ b : Bool, e = .returned (.bool b) ∧ TwP (fls.list.map (fun q => q.1.data.toList)) b ∧ Below w.heap.size w w' := by
  have hlen := FlsAt.len fls a n h
  have HF := hide h
  have HL := hide hlen
  clear h hlen
  go_enter Tryz.func17, Tryz.ntmps17
  go_wp2_with fail
  go_loopw [3, 4] (fun vi vj wr => ∃ k : Nat, k ≤ n ∧ vi = .int .i64 k ∧ Hid (((fls.list.map (fun q => q.1.data.toList)).take k).Nodup) ∧ Below w.heap.size w wr) (fun vi _ _ => n - (intOf vi).toNat)
  case atStart => exact ⟨0, Nat.zero_le _, rfl, hide (by simp), Below.refl _ _⟩
  case round =>
    obtain ⟨k, hk, rfl, hnd, hb⟩ := hrel
    by_cases hlt : k < n
    · have ki : (k : Int) < (n : Int) := by omega
      obtain ⟨b, off, nm, v, cs, rfl, hg, hc0, hnm, -, -⟩ := FlsAt.get fls _ n (unhide HF) k hlt
      have hbw : b < w.heap.size := World.block_lt_of_cell? w _ hc0
      have hc0 := hide hc0
      have hgk := hide (show (fls.list.map (fun q => q.1.data.toList))[k]? = some nm.data.toList by rw [List.getElem?_map, hg]; rfl)
      clear hg
      obtain ⟨G, hG⟩ : ∃ G, G = n - k := ⟨_, rfl⟩
      have HG := hide hG
      clear hG
      go_wp2_with fail
      go_loopw [4] (fun vj wr' => ∃ j : Nat, j ≤ k ∧ vj = .int .i64 j ∧ Hid (nm.data.toList ∉ (fls.list.map (fun q => q.1.data.toList)).take j) ∧ Below w.heap.size w wr') (fun vj _ => k - (intOf vj).toNat)
      case atStart => exact ⟨0, Nat.zero_le _, rfl, hide (by simp), hb⟩
      case round =>
        clear hb
        obtain ⟨j, hj, rfl, hni, hb⟩ := hrel
        by_cases hjk : j < k
        · have kj : (j : Int) < (k : Int) := by omega
          obtain ⟨b', off', nm', v', cs', e', hg', hc0', hnm', -, -⟩ := FlsAt.get fls _ n (unhide HF) j (by omega)
          simp only [Option.some.injEq, Addr.mk.injEq, and_true] at e'
          obtain ⟨rfl, rfl⟩ := e'
          have q0 : wr.cell? ⟨b, off + k * 9, none⟩ = some (.string nm) := (hb.cell (p := ⟨b, off + k * 9, none⟩) hbw).trans (unhide hc0)
          have q1 : wr.cell? ⟨b, off + j * 9, none⟩ = some (.string nm') := (hb.cell (p := ⟨b, off + j * 9, none⟩) hbw).trans hc0'
          have hgj : (fls.list.map (fun q => q.1.data.toList))[j]? = some nm'.data.toList := by rw [List.getElem?_map, hg']; rfl
          have HGJ := hide hgj
          clear hg' hc0' hgj
          by_cases he : nm.data.toList = nm'.data.toList
          · have hee : nm = nm' := by
              have := congrArg List.toArray he
              simp at this
              cases nm; cases nm'
              simpa using this
            subst hee
            have hdup := hide (show ¬ (fls.list.map (fun q => q.1.data.toList)).Nodup from fun hN => by
              have h1 := unhide hgk
              have h2 := unhide HGJ
              have := (List.getElem?_inj (List.getElem?_eq_some_iff.1 h1).1 hN).1 (h1.trans h2.symm)
              omega)
            clear he
            go_wp2_with fail
            go_quiet (fail)
            go_wp2
            go_ret
            first
              | exact ⟨true, rfl, by unfold TwP; simp [unhide hdup], below_drewN hb _⟩
              | exact ⟨by unfold TwP; simp [unhide hdup], below_drewN hb _⟩
          · have hne := str_neJ he
            have HE := hide he
            clear he
            go_wp2_with fail
            go_quiet (fail)
            go_wp2
            refine ⟨⟨j + 1, by omega, by go_num, hide ?_, below_drewN hb _⟩, by simp only [intOf]; omega⟩
            rw [List.take_add_one, unhide HGJ]
            simp only [Option.toList_some, List.mem_append, List.mem_singleton, not_or]
            exact ⟨unhide hni, unhide HE⟩
        · obtain rfl : j = k := by omega
          have kj : ¬ (j : Int) < (j : Int) := by omega
          go_wp2
          refine ⟨⟨j + 1, by omega, by go_num, hide ?_, hb⟩, by simp only [intOf]; omega⟩
          rw [List.take_add_one, unhide hgk]
          simp only [Option.toList_some]
          rw [List.nodup_append]
          refine ⟨unhide hnd, by simp, fun x hx y hy e => ?_⟩
          simp only [List.mem_singleton] at hy
          subst hy
          exact unhide hni (e ▸ hx)
    · obtain rfl : k = n := by omega
      have ki : ¬ (k : Int) < (k : Int) := by omega
      have hfull : ((fls.list.map (fun q => q.1.data.toList))).Nodup := by
        have := unhide hnd
        rwa [List.take_of_length_le (by rw [List.length_map, unhide HL]; exact Nat.le_refl _)] at this
      go_wp2
      go_ret
      first
        | exact ⟨false, rfl, by unfold TwP; simp [hfull], hb⟩
        | exact .inl ⟨rfl, by unfold TwP; simp [hfull], hb⟩
end Go.Proofs.YtechaplindbfoaaGreatDoor.jsn
