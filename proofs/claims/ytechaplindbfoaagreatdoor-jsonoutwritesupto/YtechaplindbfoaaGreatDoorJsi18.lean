import Derived.Test.YtechaplindbfoaaGreatDoorJsi17
namespace Go.Proofs.YtechaplindbfoaaGreatDoor.fto
open Go.ChangeShapes Go.WideShapes Go.ChangeAt Go.RowKit
open mem Go.Sort
open ints (hide unhide)
set_option linter.unusedVariables false
set_option linter.unusedSimpArgs false
theorem dec10_nd {N m : Nat} (h : Dec10 N m) (hN : 1 ≤ N) : Lib.nDigits N = m := by
  obtain ⟨k, rfl⟩ : ∃ k, m = k + 1 := ⟨m - 1, by have := h.pos; omega⟩
  refine Lib.nDigits_unique k N ?_ h.lt
  rcases h.low with h1 | h1
  · have : k = 0 := by omega
    subst this
    exact hN
  · exact h1
theorem topD_dgs {N m : Nat} (h : Dec10 N m) (hN : 1 ≤ N) (k : Nat) (hk : k ≤ m) : (topD N m).take k = dgs N k := by
  have hn := dec10_nd h hN
  unfold topD dgs
  rw [hn, ← List.map_take]
  have e : (List.range m).take k = List.range k := by rw [List.take_range, Nat.min_eq_left hk]
  rw [e]
  apply List.map_congr_left
  intro i _
  rw [dgt_eq]
  rfl
def slen (v : Value) : Nat := match v with | .string s => s.size | _ => 0
theorem slen_str (s : ByteArray) : slen (.string s) = s.size := rfl
/-- what bare answers -/
def Res (N : Nat) (x : Int) (D : ByteArray) (P : Int) : Prop := ∃ k, Kept N k ∧ D = strOfNums (dgs N k) ∧ P = (Lib.nDigits N : Int) + x
theorem kept_of {N k : Nat} (hN : 1 ≤ N) (k1 : 1 ≤ k) (hk : k ≤ Lib.nDigits N) (h0 : ∀ j, k ≤ j → j < Lib.nDigits N → dgt N (Lib.nDigits N) j = 48) (hl : k = 1 ∨ dgt N (Lib.nDigits N) (k - 1) ≠ 48) : Kept N k := by
  refine ⟨k1, hk, h0, ?_⟩
  rcases hl with h | h
  · subst h
    intro e
    have := dgs_first N 1 hN (by omega) []
    rw [dgs_cons N 1 (by omega)] at this
    apply this
    rw [show 1 - 1 = 0 from rfl] at e
    rw [e]
    rfl
  · exact h
set_option maxHeartbeats 1000000 in
set_option maxRecDepth 100000 in
theorem bare_ok (N : Nat) (x : Int) (m : Nat) (w : World) (hN : 1 ≤ N) (hNl : N ≤ 100000000000000000) (hd : Dec10 N m) (x0 : -1000 ≤ x) (x1 : x ≤ 1000) :
    Calls Tryz.prog 122 #[.string (strOfNums (topD N m)), .int .i64 x] w fun e w' => ∃ D P, e = .returned (.tuple #[.string D, .int .i64 P]) ∧ Res N x D P ∧ Below w.heap.size w w' := by
  have hn := dec10_nd hd hN
  have hm20 := hd.le
  have e0 : topD N m = dgs N m := by rw [← topD_dgs hd hN m (Nat.le_refl _), List.take_of_length_le (by rw [topD_len]; exact Nat.le_refl _)]
  rw [e0]
  have hsz : (strOfNums (dgs N m)).size = m := by rw [str_size, dgs_len]
  obtain ⟨s0, hs0⟩ : ∃ s0, s0 = strOfNums (dgs N m) := ⟨_, rfl⟩
  rw [← hs0] at hsz ⊢
  have hszi : (s0.size : Int) = m := by omega
  have HS := hide hs0
  have HK := hide (fun k h1 h2 h3 h4 => kept_of (N := N) (k := k) hN h1 h2 h3 h4)
  have HNN := hide hn
  have HB := hide (dgs_rng N)
  have HP := hd.pos
  clear hs0 e0 hd hn hNl
  go_enter Tryz.func122, Tryz.ntmps122
  go_wp2
  go_loopw [0] (fun v wr => ∃ (k : Nat) (s : ByteArray), v = .string s ∧ s = strOfNums (dgs N k) ∧ 1 ≤ k ∧ k ≤ m ∧ (∀ j, k ≤ j → j < m → dgt N m j = 48) ∧ wr = w) (fun v _ => slen v)
  case atStart => exact ⟨m, s0, rfl, unhide HS, HP, Nat.le_refl _, fun j h1 h2 => by omega, rfl⟩
  case round =>
    obtain ⟨k, s, rfl, hs, k1, km, hz, rfl⟩ := hrel
    have hks : s.size = k := by rw [hs, str_size, dgs_len]
    have hksi : (s.size : Int) = k := by omega
    have HZ := hide hz
    have HSS := hide hs
    have hbt : Bt (dgs N k) := fun z hz => by have := (unhide HB k) z hz; omega
    by_cases hk1 : 1 < k
    · have hki : (1 : Int) < (s.size : Int) := by omega
      have hlast : k - 1 < s.size := by omega
      have hb : ((s[k - 1]'hlast).toNat : Int) = dgt N m (k - 1) := by
        rw [← bz_at, hs, bz_str _ hbt]
        unfold dgs
        rw [List.getD_eq_getElem?_getD, List.getElem?_map, List.getElem?_range (by omega), unhide HNN]
        rfl
      have hidx : ((s.size : Int) - 1).toNat = k - 1 := by omega
      have hlt : (s.size : Int) - 1 < (s.size : Int) := by omega
      have hge : (0 : Int) ≤ (s.size : Int) - 1 := by omega
      have hle : s.extract 0 (k - 1) = strOfNums (dgs N (k - 1)) := by
        have e1 : dgs N k = dgs N (k - 1) ++ [dgt N (Lib.nDigits N) (k - 1)] := by
          obtain ⟨j, hj⟩ : ∃ j, k = j + 1 := ⟨k - 1, by omega⟩
          subst hj
          simp [dgs, List.range_succ]
        have := ext_left (dgs N (k - 1)) [dgt N (Lib.nDigits N) (k - 1)]
        rw [← e1, dgs_len] at this
        rw [hs]
        exact this
      have hiN : s.size - 1 < s.size := by omega
      have hb2 : ((s[s.size - 1]'hiN).toNat : Int) = dgt N m (k - 1) := by
        rw [← hb]
        congr 3
        omega
      rw [← hks] at hle
      have HLE := hide hle
      have hsb : s.size ≤ 20 := by omega
      have HKS := hide hks
      clear hs hz hks hksi hb hidx hle hlast
      obtain ⟨c, hc⟩ : ∃ c, c = dgt N m (k - 1) := ⟨_, rfl⟩
      rw [← hc] at hb2
      have HC := hide hc
      clear hc
      by_cases hc48 : c = 48
      · have hbq : (((s[s.size - 1]'hiN).toNat : Int) == 48) = true := by rw [hb2, hc48]; rfl
        clear hb2
        go_wp2
        go_roundw
        case rel => exact ⟨k - 1, _, rfl, by rw [unhide HLE, unhide HKS], by omega, by omega, fun j h1 h2 => by
          rcases Nat.lt_or_ge j k with g | g
          · obtain rfl : j = k - 1 := by omega
            rw [← unhide HC]; exact hc48
          · exact unhide HZ j g h2, trivial⟩
        case measure =>
          rw [slen_str, slen_str, unhide HLE, str_size, dgs_len]
          omega
      · have hbq : (((s[s.size - 1]'hiN).toNat : Int) == 48) = false := by rw [hb2, beq_eq_false_iff_ne]; exact hc48
        clear hb2
        go_wp2
        go_ret2
        exact ⟨_, _, rfl, ⟨k, unhide HK k k1 (by rw [unhide HNN]; exact km) (by rw [unhide HNN]; exact unhide HZ) (Or.inr (by rw [unhide HNN, ← unhide HC]; exact hc48)), unhide HSS, by rw [unhide HNN]⟩, Below.refl _ _⟩
    · have hki : ¬ (1 : Int) < (s.size : Int) := by omega
      have ek : k = 1 := by omega
      clear hs hz hks hksi
      go_wp2
      go_ret2
      exact ⟨_, _, rfl, ⟨k, unhide HK k k1 (by rw [unhide HNN]; exact km) (by rw [unhide HNN]; exact unhide HZ) (Or.inl ek), unhide HSS, by rw [unhide HNN]⟩, Below.refl _ _⟩
set_option maxHeartbeats 1000000 in
set_option maxRecDepth 100000 in
/-- the reference's noughts -/
theorem noughts_ok (n : Nat) (w : World) (hn : n ≤ 1000) : Calls Tryz.prog 101 #[.int .i64 (n : Int)] w fun e w' => e = .returned (.string (rpB n)) ∧ w' = w := by
  go_enter Tryz.func101, Tryz.ntmps101
  go_wp2
  go_loopw [3, 4] (fun v x wr => ∃ (k : Nat) (s : ByteArray), v = .string s ∧ x = .int .i64 (k : Int) ∧ s = rpB k ∧ k ≤ n ∧ wr = w) (fun _ x _ => n - (intOf x).toNat)
  case atStart => exact ⟨0, ⟨#[]⟩, rfl, rfl, rfl, by omega, rfl⟩
  case round =>
    obtain ⟨k, s, rfl, rfl, hs, kn, rfl⟩ := hrel
    have hsz : s.size = k := by rw [hs, rpB_size]
    have HS := hide hs
    have hsl : s.size ≤ 1000 := by omega
    clear hs hsz
    by_cases hk : k < n
    · have hki : (k : Int) < (n : Int) := by omega
      have h1 : s ++ (⟨#[48]⟩ : ByteArray) = rpB (k + 1) := by
        rw [unhide HS, rpB_eq, rpB_eq, show (⟨#[48]⟩ : ByteArray) = strOfNums [48] from rfl, str_app, List.replicate_succ']
      have H1 := hide h1
      clear h1
      go_wp2
      go_roundw
      case rel => exact ⟨k + 1, _, rfl, by go_num, unhide H1, by omega, trivial⟩
      case measure => simp [intOf]; omega
    · have hki : ¬ (k : Int) < (n : Int) := by omega
      have e : k = n := by omega
      subst e
      go_wp2
      go_ret
      exact ⟨by rw [← unhide HS]; rfl, rfl⟩
end Go.Proofs.YtechaplindbfoaaGreatDoor.fto
