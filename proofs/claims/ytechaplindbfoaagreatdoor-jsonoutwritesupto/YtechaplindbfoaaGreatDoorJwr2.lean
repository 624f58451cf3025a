import Derived.Test.YtechaplindbfoaaGreatDoorJwr1
namespace Go.Proofs.YtechaplindbfoaaGreatDoor.jsn
open Go.ChangeShapes Go.WideShapes Go.ChangeAt Go.RowKit
open mem
open vl hiding hide unhide Hid
open ints (hide unhide)
set_option linter.unusedVariables false
set_option linter.unusedSimpArgs false
set_option maxHeartbeats 4000000 in
set_option maxRecDepth 100000 in
theorem law_writes (a0 : Option Addr) (n0 c0 : Nat) (its : Vls) (w : World) (hE : fto.Fx w) (hv : VlsAt w its a0 n0) (hfl : FlI its) (hwt : wtI its ≤ 1048576) (hn0 : n0 ≤ 1048576) (hc0 : n0 ≤ c0) :
    Calls Tryz.prog 3 #[.slice a0 n0 c0] w fun e w' => e = .returned (.bool true) ∧ Below w.heap.size w w' := by
  have ST : ∀ k, k < n0 → ∃ (p off : Nat) (us : List Value), a0 = some ⟨p, off, none⟩ ∧ Row8 w p (off + k * 8) us ∧ (Tryz.prog.info? 29).map (·.size) = some us.length ∧ ∀ W, Below w.heap.size w W → Calls Tryz.prog 10 #[.agg us.toArray] W fun e w' => e = .returned (.bool true) ∧ Below W.heap.size W w' := by
    intro k hk
    obtain ⟨p, off, v, us, ha, hg, hr, hc⟩ := VlsAt.get its a0 n0 hv k hk
    have hm := List.mem_of_getElem? hg
    refine ⟨p, off, us, ha, hr, by rw [hc.cells]; exact infoV, fun W hb => ?_⟩
    exact writes_ok v us W (hE.below hb) (VlC.below hb v us hc) (hfl.all v hm) (Nat.le_trans (wtI_mem hm) hwt)
  have SS := hide ST
  clear ST hv hfl hwt hE
  go_enter Tryz.func3, Tryz.ntmps3
  go_wp2_with fail
  refine (awake_ok w).mono ?_
  rintro e w1 ⟨rfl, b1⟩
  go_wp2_with fail
  go_loopw [3] (fun vi wr => ∃ k : Nat, k ≤ n0 ∧ vi = .int .i64 k ∧ Below w.heap.size w wr) (fun vi _ => n0 - (intOf vi).toNat)
  case atStart => exact ⟨0, Nat.zero_le _, rfl, b1⟩
  case round =>
    clear b1
    obtain ⟨k, hk, rfl, hb⟩ := hrel
    by_cases hlt : k < n0
    · have ki : (k : Int) < (n0 : Int) := by omega
      obtain ⟨p, off, us, rfl, hr, i8, HC⟩ := unhide SS k hlt
      have hr' := Row8.below hr hb
      have HC' := hide (HC wr hb)
      have I8 := hide i8
      clear hr HC i8
      go_wp2_with (first
        | refine wpList_load_mid (by rfl) 29 _ (by rfl) p (off + k * 8) (by rfl) us _ hr' Tryz.underlying29 (by rfl) (unhide I8) ?_)
      refine (unhide HC').mono ?_
      rintro e w2 ⟨rfl, b2⟩
      clear HC' hr'
      go_wp2_with fail
      go_roundw
      case rel => exact ⟨k + 1, by omega, by go_num, hb.trans (b2.mono hb.size)⟩
      case measure => simp [intOf]; omega
    · have ki : ¬ (k : Int) < (n0 : Int) := by omega
      go_wp2_with fail
      go_loopw [4] (fun vi ws => ∃ j : Nat, j ≤ n0 ∧ vi = .int .i64 ((j : Int) - 1) ∧ Below w.heap.size w ws) (fun vi _ => (intOf vi + 1).toNat)
      case atStart => exact ⟨n0, Nat.le_refl _, by go_num, hb⟩
      case round =>
        obtain ⟨j, hj, rfl, hb2⟩ := hrel
        by_cases hlt2 : 0 < j
        · obtain ⟨q, rfl⟩ : ∃ q, j = q + 1 := ⟨j - 1, by omega⟩
          have e1 : ((q + 1 : Nat) : Int) - 1 = (q : Int) := by omega
          rw [e1]
          have qi : (0 : Int) ≤ (q : Int) := by omega
          have qi2 : (q : Int) < (n0 : Int) := by omega
          obtain ⟨p, off, us, rfl, hr, i8, HC⟩ := unhide SS q (by omega)
          have hr' := Row8.below hr hb2
          have HC' := hide (HC wr hb2)
          have I8 := hide i8
          clear hr HC i8 e1
          go_wp2_with (first
            | refine wpList_load_mid (by rfl) 29 _ (by rfl) p (off + q * 8) (by rfl) us _ hr' Tryz.underlying29 (by rfl) (unhide I8) ?_)
          refine (unhide HC').mono ?_
          rintro e w2 ⟨rfl, b2⟩
          clear HC' hr'
          go_wp2_with fail
          go_roundw
          case rel => exact ⟨q, by omega, by go_num, hb2.trans (b2.mono hb2.size)⟩
          case measure => first | (simp [intOf]; done) | (simp [intOf]; omega)
        · obtain rfl : j = 0 := by omega
          go_wp2_with fail
          go_ret
          exact ⟨rfl, hb2⟩
end Go.Proofs.YtechaplindbfoaaGreatDoor.jsn
