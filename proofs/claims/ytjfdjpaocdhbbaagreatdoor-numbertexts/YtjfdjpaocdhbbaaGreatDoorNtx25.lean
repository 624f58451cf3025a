import Derived.Test.YtjfdjpaocdhbbaaGreatDoorNtx24
import Derived.Deep.RegionHeld3
namespace Go.Proofs.YtjfdjpaocdhbbaaGreatDoor.fto
open Go.ChangeShapes Go.WideShapes Go.ChangeAt Go.RowKit
open mem Go.Sort
open ints (hide unhide)
set_option linter.unusedVariables false
set_option linter.unusedSimpArgs false
theorem mixedT : Tryz.prog.follows .mixedOrders = true := by kernel_rfl
set_option maxRecDepth 100000 in
set_option maxHeartbeats 4000000 in
theorem law_texts (a a' : Option Addr) (n c n' c' : Nat) (zs ys : List Int) (w : World) (hW : Fy w) (h : Row .u64 w a n c zs) (h' : Row .i64 w a' n' c' ys)
    (hz : ∀ z ∈ zs, 0 ≤ z ∧ z < 18446744073709551616) (hy : ∀ z ∈ ys, -9223372036854775808 ≤ z ∧ z ≤ 9223372036854775807) (hn : n ≤ 140737488351232) (hn' : n' ≤ 140737488351232) :
    Calls Tryz.prog 3 #[.slice a n c, .slice a' n' c'] w fun e w' => e = .returned (.bool true) ∧ Below w.heap.size w w' := by
  have A1 := hide (fixed_ok w hW)
  have HZ := hide hz
  have HY := hide hy
  have HL := hide h.len
  have HL' := hide h'.len
  have HF := hide hW
  have HR := hide h
  have HR' := hide h'
  clear hz hy hW h h'
  go_enter Tryz.func3, Tryz.ntmps3
  go_wp2_with fail
  refine (unhide A1).mono ?_
  rintro e w1 ⟨rfl, b1⟩
  have HB1 := hide b1
  clear A1 b1
  go_wp2
  go_loopw [5] (fun x wr => ∃ k : Nat, k ≤ n ∧ x = .int .i64 k ∧ Below w.heap.size w wr) (fun x _ => n - (intOf x).toNat)
  case atStart => exact ⟨0, Nat.zero_le _, rfl, unhide HB1⟩
  case round =>
    obtain ⟨k, hk, rfl, hbel⟩ := hrel
    by_cases hlt : k < n
    · have ki : (k : Int) < (n : Int) := by omega
      have hF1 := ((unhide HF).below hbel).fx
      rcases (unhide HR).at_ with h0 | ⟨b, off, rfl, hbw, hcell⟩
      · omega
      have c1 := (hbel.cell (p := ⟨b, off + k, none⟩) hbw).trans (hcell k hlt)
      have z1 := (unhide HZ) _ (gd_mem (zs := zs) (k := k) (by rw [unhide HL]; exact hlt))
      obtain ⟨A, hA⟩ : ∃ A : Nat, zs.getD k 0 = (A : Int) := ⟨(zs.getD k 0).toNat, by omega⟩
      rw [hA] at c1 z1
      have hA1 : A < 18446744073709551616 := by omega
      have FA := fun W => run_frombits (A : Int) W
      have hb0 : b < wr.heap.size := Nat.lt_of_lt_of_le hbw hbel.size
      have T1 := hide (ft_tb A hA1 wr.drew (hF1.below ((Below.refl _ _).drew)))
      have HBL := hide hbel
      have kz : (0 : Int) ≤ (k : Int) := by omega
      clear hcell hA z1 hA1 hF1 hbel
      go_wp2_with fail
      refine wp_region_noPanic ?_
      refine wp_region_held (S := fun w' => w'.cell? ⟨b, off + k, none⟩ = some (.int .u64 (A : Int))) mixedT ?_
      have hS0 : wr.drew.cell? ⟨b, off + k, none⟩ = some (.int .u64 (A : Int)) := c1
      refine wpAnyH_take (i := 0) (v := ?v1) rfl (by kernel_rfl) (by kernel_rfl) (by kernel_rfl) (fun _ _ _ h => h) (Or.inl ⟨by rfl, ?hy1⟩) hS0 ?_
      case hy1 => (intro w' hw'; skip; go_simp; try with_reducible rfl)
      simp only [List.getElem_toArray, List.getElem_cons_zero, List.getElem_cons_succ, Act.put, List.setIfInBounds_toArray, List.set_cons_zero, List.set_cons_succ]
      refine wpAnyH_take (i := 1) (v := ?v2) rfl (by kernel_rfl) (by kernel_rfl) (by kernel_rfl) (fun _ _ _ h => h) (Or.inl ⟨by rfl, ?hy2⟩) hS0 ?_
      case hy2 => (intro w' hw'; skip; go_simp; try with_reducible rfl)
      simp only [List.getElem_toArray, List.getElem_cons_zero, List.getElem_cons_succ, Act.put, List.setIfInBounds_toArray, List.set_cons_zero, List.set_cons_succ]
      refine wpAnyH_take (i := 2) (v := ?v3) rfl (by kernel_rfl) (by kernel_rfl) (by kernel_rfl) (fun _ _ _ h => h) (Or.inl ⟨by rfl, ?hy3⟩) hS0 ?_
      case hy3 => (intro w' hw'; skip; go_simp; try with_reducible rfl)
      simp only [List.getElem_toArray, List.getElem_cons_zero, List.getElem_cons_succ, Act.put, List.setIfInBounds_toArray, List.set_cons_zero, List.set_cons_succ]
      refine wpAnyH_take (i := 3) (v := ?v4) rfl (by kernel_rfl) (by kernel_rfl) (by kernel_rfl) (fun _ _ _ h => h) (Or.inl ⟨by rfl, ?hy4⟩) hS0 ?_
      case hy4 => (intro w' hw'; skip; go_simp; try with_reducible rfl)
      simp only [List.getElem_toArray, List.getElem_cons_zero, List.getElem_cons_succ, Act.put, List.setIfInBounds_toArray, List.set_cons_zero, List.set_cons_succ]
      refine wpAnyH_take (i := 4) (v := ?v5) rfl (by kernel_rfl) (by kernel_rfl) (by kernel_rfl) (fun _ _ _ h => h) (Or.inl ⟨by rfl, ?hy5⟩) hS0 ?_
      case hy5 => (intro w' hw'; skip; go_simp; try with_reducible rfl)
      simp only [List.getElem_toArray, List.getElem_cons_zero, List.getElem_cons_succ, Act.put, List.setIfInBounds_toArray, List.set_cons_zero, List.set_cons_succ]
      refine wpAnyH_take (i := 6) (v := ?v6) rfl (by kernel_rfl) (by kernel_rfl) (by kernel_rfl) (fun _ _ _ h => h) (Or.inl ⟨by rfl, ?hy6⟩) hS0 ?_
      case hy6 => (intro w' hw'; skip; go_simp; try with_reducible rfl)
      simp only [List.getElem_toArray, List.getElem_cons_zero, List.getElem_cons_succ, Act.put, List.setIfInBounds_toArray, List.set_cons_zero, List.set_cons_succ]
      refine wpAnyH_take (i := 7) (v := ?v7) rfl (by kernel_rfl) (by kernel_rfl) (by kernel_rfl) (fun _ _ _ h => h) (Or.inl ⟨by rfl, ?hy7⟩) hS0 ?_
      case hy7 => (intro w' hw'; skip; go_simp; try with_reducible rfl)
      simp only [List.getElem_toArray, List.getElem_cons_zero, List.getElem_cons_succ, Act.put, List.setIfInBounds_toArray, List.set_cons_zero, List.set_cons_succ]
      refine wpAnyH_take (i := 8) (v := ?v8) rfl (by kernel_rfl) (by kernel_rfl) (by kernel_rfl) (fun _ _ _ h => h) (Or.inl ⟨by rfl, ?hy8⟩) hS0 ?_
      case hy8 => (intro w' hw'; skip; go_simp; try with_reducible rfl)
      simp only [List.getElem_toArray, List.getElem_cons_zero, List.getElem_cons_succ, Act.put, List.setIfInBounds_toArray, List.set_cons_zero, List.set_cons_succ]
      refine wpAnyH_take (i := 9) (v := ?v9) rfl (by kernel_rfl) (by kernel_rfl) (by kernel_rfl) (fun _ _ _ h => h) (Or.inl ⟨by rfl, ?hy9⟩) hS0 ?_
      case hy9 => (intro w' hw'; skip; go_simp; try with_reducible rfl)
      simp only [List.getElem_toArray, List.getElem_cons_zero, List.getElem_cons_succ, Act.put, List.setIfInBounds_toArray, List.set_cons_zero, List.set_cons_succ]
      refine rgn.one (i := 5) _ rfl (by kernel_rfl) (by rfl) ?_
      simp only [List.getElem_toArray, List.getElem_cons_zero, List.getElem_cons_succ, Act.put, List.setIfInBounds_toArray, List.set_cons_zero, List.set_cons_succ]
      refine callW _ _ _ _ rfl Tryz.func7 (by kernel_rfl) (by kernel_rfl) #[.float .f64 A] (by first | kernel_rfl | (simp only [List.map_toArray, List.map_cons, List.map_nil]; rfl)) ?_
      refine (unhide T1).mono ?_
      rintro e w3 ⟨s, rfl, ht, b3⟩
      have b3' : Below wr.heap.size wr w3 := ((Below.refl _ _).drew : Below wr.heap.size wr wr.drew).trans b3
      have c3 := (b3'.cell (p := ⟨b, off + k, none⟩) hb0).trans c1
      refine ⟨_, rfl, c3, ?_⟩
      have hS0 := c3
      try simp only [List.getElem_toArray, List.getElem_cons_zero, List.getElem_cons_succ, Act.put, List.setIfInBounds_toArray, List.set_cons_zero, List.set_cons_succ]
      refine rgn.one (i := 10) _ rfl (by kernel_rfl) (by rfl) ?_
      simp only [List.getElem_toArray, List.getElem_cons_zero, List.getElem_cons_succ, Act.put, List.setIfInBounds_toArray, List.set_cons_zero, List.set_cons_succ]
      refine callW _ _ _ _ rfl Tryz.func9 (by kernel_rfl) (by kernel_rfl) #[.int .u64 (A : Int)] (by first | kernel_rfl | (simp only [List.map_toArray, List.map_cons, List.map_nil]; rfl)) ?_
      refine (ht w3).mono ?_
      rintro e w4 ⟨rfl, b4⟩
      have b4' := b3'.trans (b4.mono b3'.size)
      have c4 := (b4'.cell (p := ⟨b, off + k, none⟩) hb0).trans c1
      refine ⟨_, rfl, c4, ?_⟩
      have hS0 := c4
      try simp only [List.getElem_toArray, List.getElem_cons_zero, List.getElem_cons_succ, Act.put, List.setIfInBounds_toArray, List.set_cons_zero, List.set_cons_succ]
      refine wpAnyH_take (i := 11) (v := ?v10) rfl (by kernel_rfl) (by kernel_rfl) (by kernel_rfl) (fun _ _ _ h => h) (Or.inl ⟨by rfl, ?hy10⟩) hS0 ?_
      case hy10 => (intro w' hw'; skip; go_simp; try with_reducible rfl)
      simp only [List.getElem_toArray, List.getElem_cons_zero, List.getElem_cons_succ, Act.put, List.setIfInBounds_toArray, List.set_cons_zero, List.set_cons_succ]
      refine wpAnyH_done (by kernel_rfl) ?_ _; refine NoPanic.normal ?_
      have HB4 := hide ((unhide HBL).trans (b4'.mono (unhide HBL).size))
      clear hS0 c3 c4 c1 b3 b3' b4 b4' ht T1 HBL FA
      go_wp2
      go_roundw
      case rel => exact ⟨k + 1, by omega, by go_num, unhide HB4⟩
      case measure => simp [intOf]; omega
    · have ki : ¬ (k : Int) < (n : Int) := by omega
      have HBL := hide hbel
      clear hbel
      go_wp2
      go_loopw [6] (fun x wr => ∃ k : Nat, k ≤ n' ∧ x = .int .i64 k ∧ Below w.heap.size w wr) (fun x _ => n' - (intOf x).toNat)
      case atStart => exact ⟨0, Nat.zero_le _, rfl, unhide HBL⟩
      case round =>
        obtain ⟨k, hk, rfl, hbel⟩ := hrel
        by_cases hlt : k < n'
        · have ki : (k : Int) < (n' : Int) := by omega
          have hF1 := ((unhide HF).below hbel).fx
          rcases (unhide HR').at_ with h0 | ⟨b, off, rfl, hbw, hcell⟩
          · omega
          have c1 := (hbel.cell (p := ⟨b, off + k, none⟩) hbw).trans (hcell k hlt)
          have z1 := (unhide HY) _ (gd_mem (zs := ys) (k := k) (by rw [unhide HL']; exact hlt))
          generalize ys.getD k 0 = A at *
          have hb0 : b < wr.heap.size := Nat.lt_of_lt_of_le hbw hbel.size
          have T1 := hide (whole_ok A z1.1 z1.2 wr.drew (hF1.below ((Below.refl _ _).drew)))
          have R1 := hide (fun W => refWhole A W z1.1 z1.2)
          obtain ⟨S, hS⟩ : ∃ S, S = itB A := ⟨_, rfl⟩
          rw [← hS] at T1 R1
          have HBL2 := hide hbel
          have kz : (0 : Int) ≤ (k : Int) := by omega
          clear hS hcell hF1 hbel
          go_wp2_with fail
          refine wp_region_noPanic ?_
          refine wp_region_held (S := fun w' => w'.cell? ⟨b, off + k, none⟩ = some (.int .i64 A)) mixedT ?_
          have hS0 : wr.drew.cell? ⟨b, off + k, none⟩ = some (.int .i64 A) := c1
          refine wpAnyH_take (i := 0) (v := ?v11) rfl (by kernel_rfl) (by kernel_rfl) (by kernel_rfl) (fun _ _ _ h => h) (Or.inl ⟨by rfl, ?hy11⟩) hS0 ?_
          case hy11 => (intro w' hw'; skip; go_simp; try with_reducible rfl)
          simp only [List.getElem_toArray, List.getElem_cons_zero, List.getElem_cons_succ, Act.put, List.setIfInBounds_toArray, List.set_cons_zero, List.set_cons_succ]
          refine wpAnyH_take (i := 1) (v := ?v12) rfl (by kernel_rfl) (by kernel_rfl) (by kernel_rfl) (fun _ _ _ h => h) (Or.inl ⟨by rfl, ?hy12⟩) hS0 ?_
          case hy12 => (intro w' hw'; skip; go_simp; try with_reducible rfl)
          simp only [List.getElem_toArray, List.getElem_cons_zero, List.getElem_cons_succ, Act.put, List.setIfInBounds_toArray, List.set_cons_zero, List.set_cons_succ]
          refine wpAnyH_take (i := 2) (v := ?v13) rfl (by kernel_rfl) (by kernel_rfl) (by kernel_rfl) (fun _ _ _ h => h) (Or.inl ⟨by rfl, ?hy13⟩) hS0 ?_
          case hy13 => (intro w' hw'; skip; go_simp; try with_reducible rfl)
          simp only [List.getElem_toArray, List.getElem_cons_zero, List.getElem_cons_succ, Act.put, List.setIfInBounds_toArray, List.set_cons_zero, List.set_cons_succ]
          refine wpAnyH_take (i := 3) (v := ?v14) rfl (by kernel_rfl) (by kernel_rfl) (by kernel_rfl) (fun _ _ _ h => h) (Or.inl ⟨by rfl, ?hy14⟩) hS0 ?_
          case hy14 => (intro w' hw'; skip; go_simp; try with_reducible rfl)
          simp only [List.getElem_toArray, List.getElem_cons_zero, List.getElem_cons_succ, Act.put, List.setIfInBounds_toArray, List.set_cons_zero, List.set_cons_succ]
          refine wpAnyH_take (i := 5) (v := ?v15) rfl (by kernel_rfl) (by kernel_rfl) (by kernel_rfl) (fun _ _ _ h => h) (Or.inl ⟨by rfl, ?hy15⟩) hS0 ?_
          case hy15 => (intro w' hw'; skip; go_simp; try with_reducible rfl)
          simp only [List.getElem_toArray, List.getElem_cons_zero, List.getElem_cons_succ, Act.put, List.setIfInBounds_toArray, List.set_cons_zero, List.set_cons_succ]
          refine wpAnyH_take (i := 6) (v := ?v16) rfl (by kernel_rfl) (by kernel_rfl) (by kernel_rfl) (fun _ _ _ h => h) (Or.inl ⟨by rfl, ?hy16⟩) hS0 ?_
          case hy16 => (intro w' hw'; skip; go_simp; try with_reducible rfl)
          simp only [List.getElem_toArray, List.getElem_cons_zero, List.getElem_cons_succ, Act.put, List.setIfInBounds_toArray, List.set_cons_zero, List.set_cons_succ]
          refine wpAnyH_take (i := 7) (v := ?v17) rfl (by kernel_rfl) (by kernel_rfl) (by kernel_rfl) (fun _ _ _ h => h) (Or.inl ⟨by rfl, ?hy17⟩) hS0 ?_
          case hy17 => (intro w' hw'; skip; go_simp; try with_reducible rfl)
          simp only [List.getElem_toArray, List.getElem_cons_zero, List.getElem_cons_succ, Act.put, List.setIfInBounds_toArray, List.set_cons_zero, List.set_cons_succ]
          refine wpAnyH_take (i := 8) (v := ?v18) rfl (by kernel_rfl) (by kernel_rfl) (by kernel_rfl) (fun _ _ _ h => h) (Or.inl ⟨by rfl, ?hy18⟩) hS0 ?_
          case hy18 => (intro w' hw'; skip; go_simp; try with_reducible rfl)
          simp only [List.getElem_toArray, List.getElem_cons_zero, List.getElem_cons_succ, Act.put, List.setIfInBounds_toArray, List.set_cons_zero, List.set_cons_succ]
          refine rgn.one (i := 4) _ rfl (by kernel_rfl) (by rfl) ?_
          simp only [List.getElem_toArray, List.getElem_cons_zero, List.getElem_cons_succ, Act.put, List.setIfInBounds_toArray, List.set_cons_zero, List.set_cons_succ]
          refine callW _ _ _ _ rfl Tryz.func10 (by kernel_rfl) (by kernel_rfl) #[.int .i64 A] (by first | kernel_rfl | (simp only [List.map_toArray, List.map_cons, List.map_nil]; rfl)) ?_
          refine (unhide T1).mono ?_
          rintro e w3 ⟨rfl, b3⟩
          have b3' : Below wr.heap.size wr w3 := ((Below.refl _ _).drew : Below wr.heap.size wr wr.drew).trans b3
          have c3 := (b3'.cell (p := ⟨b, off + k, none⟩) hb0).trans c1
          refine ⟨_, rfl, c3, ?_⟩
          have hS0 := c3
          try simp only [List.getElem_toArray, List.getElem_cons_zero, List.getElem_cons_succ, Act.put, List.setIfInBounds_toArray, List.set_cons_zero, List.set_cons_succ]
          refine rgn.one (i := 9) _ rfl (by kernel_rfl) (by rfl) ?_
          simp only [List.getElem_toArray, List.getElem_cons_zero, List.getElem_cons_succ, Act.put, List.setIfInBounds_toArray, List.set_cons_zero, List.set_cons_succ]
          refine callW _ _ _ _ rfl Tryz.func11 (by kernel_rfl) (by kernel_rfl) #[.int .i64 A] (by first | kernel_rfl | (simp only [List.map_toArray, List.map_cons, List.map_nil]; rfl)) ?_
          refine (unhide R1 w3).mono ?_
          rintro e w4 ⟨rfl, b4⟩
          have b4' := b3'.trans (b4.mono b3'.size)
          have c4 := (b4'.cell (p := ⟨b, off + k, none⟩) hb0).trans c1
          refine ⟨_, rfl, c4, ?_⟩
          have hS0 := c4
          try simp only [List.getElem_toArray, List.getElem_cons_zero, List.getElem_cons_succ, Act.put, List.setIfInBounds_toArray, List.set_cons_zero, List.set_cons_succ]
          refine wpAnyH_take (i := 10) (v := ?v19) rfl (by kernel_rfl) (by kernel_rfl) (by kernel_rfl) (fun _ _ _ h => h) (Or.inl ⟨by rfl, ?hy19⟩) hS0 ?_
          case hy19 => (intro w' hw'; skip; go_simp; try with_reducible rfl)
          simp only [List.getElem_toArray, List.getElem_cons_zero, List.getElem_cons_succ, Act.put, List.setIfInBounds_toArray, List.set_cons_zero, List.set_cons_succ]
          refine wpAnyH_done (by kernel_rfl) ?_ _; refine NoPanic.normal ?_
          have HB4 := hide ((unhide HBL2).trans (b4'.mono (unhide HBL2).size))
          clear hS0 c3 c4 c1 b3 b3' b4 b4' R1 T1 HBL2
          go_wp2
          go_roundw
          case rel => exact ⟨k + 1, by omega, by go_num, unhide HB4⟩
          case measure => simp [intOf]; omega
        · have ki : ¬ (k : Int) < (n' : Int) := by omega
          have HBL2 := hide hbel
          clear hbel
          go_wp2
          go_ret
          exact ⟨rfl, unhide HBL2⟩
end Go.Proofs.YtjfdjpaocdhbbaaGreatDoor.fto
