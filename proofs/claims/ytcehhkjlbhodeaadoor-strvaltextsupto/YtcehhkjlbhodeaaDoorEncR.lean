import Derived.Test.YtcehhkjlbhodeaaDoorEncU
namespace Go.Proofs.YtcehhkjlbhodeaaDoor.mem
open Go.ChangeShapes Go.WideShapes Go.ChangeAt Go.RowKit
open ints (hide unhide)
set_option linter.unusedVariables false

theorem rsc_yes (c : Int) (w : World) (h : scP c) :
    Calls Tryd.prog 43 #[.int .i32 c] w fun e w' => e = .returned (.bool true) ∧ w' = w := by
  rcases h with ⟨h1, h2⟩ | ⟨h1, h2⟩
  · have a1 : ¬ 55296 ≤ c := by omega
    have a2 : c ≤ 1114111 := by omega
    go_enter Tryd.func43, Tryd.ntmps43
    go_wp2
    go_ret
    exact ⟨rfl, rfl⟩
  · have a1 : 55296 ≤ c := by omega
    have a2 : ¬ c ≤ 57343 := by omega
    have a3 : 0 ≤ c := by omega
    go_enter Tryd.func43, Tryd.ntmps43
    go_wp2
    go_ret
    exact ⟨rfl, rfl⟩
theorem rsc_no (c : Int) (w : World) (h : ¬ scP c) :
    Calls Tryd.prog 43 #[.int .i32 c] w fun e w' => e = .returned (.bool false) ∧ w' = w := by
  unfold scP at h
  by_cases h1 : c < 0
  · have a1 : ¬ 55296 ≤ c := by omega
    have a2 : ¬ 0 ≤ c := by omega
    go_enter Tryd.func43, Tryd.ntmps43
    go_wp2
    go_ret
    exact ⟨rfl, rfl⟩
  by_cases h2 : c ≤ 57343
  · have a1 : 55296 ≤ c := by omega
    go_enter Tryd.func43, Tryd.ntmps43
    go_wp2
    go_ret
    exact ⟨rfl, rfl⟩
  have a1 : 55296 ≤ c := by omega
  have a2 : 0 ≤ c := by omega
  have a3 : ¬ c ≤ 1114111 := by omega
  go_enter Tryd.func43, Tryd.ntmps43
  go_wp2
  go_ret
  exact ⟨rfl, rfl⟩

theorem put_no (c : Int) (w : World) (h : ¬ scP c) :
    Calls Tryd.prog 47 #[.int .i32 c] w fun e w' => e = .returned (.slice none 0 0) ∧ w' = w := by
  go_enter Tryd.func47, Tryd.ntmps47
  go_wp2_with fail
  refine (rsc_no _ _ h).mono ?_
  rintro e w' ⟨rfl, rfl⟩
  go_wp2
  go_ret
  exact ⟨rfl, rfl⟩
theorem put_lit (w : World) (zs : List Int) (m : Nat) (hm : m ≤ maxLen) (hl : zs.length = m) :
    (w.alloc (.cells (zs.map (Value.int .u8)).toArray 5)).ownsRow w.heap.size 5 1 (.slice (some ⟨w.heap.size, 0, none⟩) m m) m (zs.map (Value.int .u8)) := by
  have := World.ownsRow_lit (base := w.heap.size) (e := 5) (size := 1) w (zs.map (Value.int .u8)).toArray m (Nat.le_refl _) hm (by simp [hl])
  simpa using this
set_option maxHeartbeats 1000000 in
theorem put_yes (c : Int) (w : World) (h : scP c) :
    Calls Tryd.prog 47 #[.int .i32 c] w fun e w' => e = .returned (.slice (some ⟨w.heap.size, 0, none⟩) (putB c).length (putB c).length) ∧ w' = w.alloc (.cells ((putB c).map (Value.int .u8)).toArray 5) := by
  have hc0 : 0 ≤ c := by unfold scP at h; omega
  have hc1 : c ≤ 1114111 := by unfold scP at h; omega
  by_cases h1 : c < 128
  · rw [putB_1 h1]
    go_enter Tryd.func47, Tryd.ntmps47
    go_wp2_with fail
    refine (rsc_yes _ _ h).mono ?_
    rintro e w' ⟨rfl, rfl⟩
    go_wp2
    go_ret
    exact ⟨rfl, rfl⟩
  by_cases h2 : c < 2048
  · rw [putB_2 (by omega) h2]
    go_enter Tryd.func47, Tryd.ntmps47
    go_wp2_with fail
    refine (rsc_yes _ _ h).mono ?_
    rintro e w' ⟨rfl, rfl⟩
    go_wp2
    go_ret
    exact ⟨rfl, rfl⟩
  by_cases h3 : c < 65536
  · rw [putB_3 (by omega) h3]
    go_enter Tryd.func47, Tryd.ntmps47
    go_wp2_with fail
    refine (rsc_yes _ _ h).mono ?_
    rintro e w' ⟨rfl, rfl⟩
    go_wp2
    go_ret
    exact ⟨rfl, rfl⟩
  rw [putB_4 (by omega)]
  go_enter Tryd.func47, Tryd.ntmps47
  go_wp2_with fail
  refine (rsc_yes _ _ h).mono ?_
  rintro e w' ⟨rfl, rfl⟩
  go_wp2
  go_ret
  exact ⟨rfl, rfl⟩

set_option maxHeartbeats 1000000 in
theorem rencode_any (a : Option Addr) (n c : Nat) (zs : List Int) (w : World) (h : Row .i32 w a n c zs) (hn : 4 * n ≤ 140737488355328) :
    Calls Tryd.prog 25 #[.slice a n c] w fun e w' => e = .returned (.tuple #[.string (encS zs), .bool (zs.all scB)]) ∧ Below w.heap.size w w' := by
  obtain ⟨i0, hi, hz0, hz1, hz2⟩ := info_parts info8
  go_enter Tryd.func25, Tryd.ntmps25
  go_wp2
  go_loopw [4, 5] (fun v i wr => ∃ k : Nat, k ≤ n ∧ i = .int .i64 k ∧ wr.ownsRow w.heap.size 5 1 v (flat zs k).length ((flat zs k).map (Value.int .u8)) ∧ Below w.heap.size w wr ∧ Hid (∀ j, j < k → scP (zs.getD j 0))) (fun _ i _ => n - (intOf i).toNat)
  case atStart => exact ⟨0, Nat.zero_le _, rfl, World.ownsRow_nil _ _ _ _, Below.refl _ _, hide (fun j hj => by omega)⟩
  case round =>
    obtain ⟨k, hk, rfl, hown, hbel, hall⟩ := hrel
    have hlen := h.len
    have HL := hide hlen
    clear hlen
    by_cases hlt : k < n
    · rcases h.at_ with h0 | ⟨b, off, rfl, hbw, hcell⟩
      · omega
      have c1 := (hbel.cell (p := ⟨b, off + k, none⟩) hbw).trans (hcell k hlt)
      obtain ⟨x, hx⟩ : ∃ x, x = zs.getD k 0 := ⟨_, rfl⟩
      rw [← hx] at c1
      have Hx := hide hx
      clear hx hcell
      by_cases hs : scP x
      · have hfl := flat_len zs k
        have hpl := putB_len x
        obtain ⟨o, ho⟩ : ∃ o, o = Obj.cells ((putB x).map (Value.int .u8)).toArray 5 (0, 0) := ⟨_, rfl⟩
        have R := hide (put_yes x wr hs)
        have hlit := put_lit wr (putB x) (putB x).length (by unfold maxLen; omega) rfl
        rw [← ho] at R hlit
        have Hcells := hide ((own_row hlit).choose_spec.choose_spec)
        obtain ⟨P, hP⟩ : ∃ P, P = putB x := ⟨_, rfl⟩
        rw [← hP] at R hlit hpl
        have HP := hide hP
        have hcel : ∀ j u, (P.map (Value.int .u8))[j]? = some u → (wr.alloc o).cell? ((⟨wr.heap.size, 0, none⟩ : Addr).add j) = some u := by
          obtain ⟨a', cap', e', hr⟩ := own_row hlit
          simp only [Value.slice.injEq] at e'
          obtain ⟨rfl, _, rfl⟩ := e'
          exact hr.cells _ rfl
        have hne : ((P.length : Int) == 0) = false := by simp; intro e; rw [e] at hpl; simp at hpl
        have hownA := hown.alloc o
        have Hlt := hide hown.lt
        clear hown hlit Hcells ho hP
        go_wp2_with fail
        refine (unhide R).mono ?_
        rintro e w' ⟨rfl, rfl⟩
        clear R
        go_wp2_with (at_builtin; refine wpList_append_own _ rfl _ _ 29 rfl w.heap.size 5 i0 (.int .u8 0) 1 1 Tryd.underlying29 hi hz0 hz1 hz2 rfl (by decide) _ _ _ rfl hownA ⟨wr.heap.size, 0, none⟩ P.length P.length (P.map (Value.int .u8)) rfl (by simp) hcel (ints_oneCell _ _) (by unfold maxLen; omega) (by omega) (by have := hbel.size; simp; omega) ?_; intro v' w2 hown' hgrow _)
        go_roundw
        case rel =>
          refine ⟨k + 1, by omega, by go_num, ?_, ?_, hide (fun j hj => ?_)⟩
          · rw [flat_succ zs k (by rw [unhide HL]; exact hlt), ← unhide Hx, ← unhide HP]
            simpa using hown'
          · exact (hbel.alloc hbel.size o).grown hgrow (by have := hbel.size; simp; omega) (fun k hk => (unhide Hlt k hk).1)
          · by_cases hjk : j < k
            · exact unhide hall j hjk
            · obtain rfl : j = k := by omega
              rw [← unhide Hx]; exact hs
        case measure => simp [intOf]; omega
      · have hnot := hide (not_all zs k (by rw [unhide HL]; exact hlt) (by rw [← unhide Hx]; exact hs))
        go_wp2_with fail
        refine (put_no _ _ hs).mono ?_
        rintro e w' ⟨rfl, rfl⟩
        go_wp2
        go_ret2
        rw [unhide hnot, encS_no (unhide hnot)]
        exact ⟨rfl, hbel⟩
    · have hyes := hide (all_of zs (fun j hj => unhide hall j (by rw [unhide HL] at hj; omega)))
      have hfl := hide (flat_all zs k (by rw [unhide HL]; omega))
      obtain ⟨a', cap', rfl, hrow⟩ := own_row hown
      have hconv := row_string (P := Tryd.prog) hrow 29 9 5 Tryd.underlying29 Tryd.underlying5 Tryd.underlying9
      clear hown
      go_wp2
      go_ret2
      rw [unhide hyes, encS_yes (unhide hyes), ← unhide hfl]
      exact ⟨rfl, hbel⟩
end Go.Proofs.YtcehhkjlbhodeaaDoor.mem
