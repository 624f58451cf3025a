import Derived.Test.YtcehhkjlbhodeaaDoorPlcI
import Derived.Test.YtcehhkjlbhodeaaDoorLinU
namespace Go.Proofs.YtcehhkjlbhodeaaDoor.mem
open Go.ChangeShapes Go.WideShapes Go.ChangeAt Go.RowKit
open ints (hide unhide)
set_option linter.unusedVariables false

/-- The numbers at which lines begin, after k characters. -/
def staTo (l : List Int) : Nat → List Int
  | 0 => [0]
  | k + 1 => if enB l k then staTo l k ++ [(k : Int) + 1] else staTo l k
theorem staTo_pos (l : List Int) (k : Nat) : 1 ≤ (staTo l k).length ∧ (staTo l k).length ≤ k + 1 := by
  induction k with
  | zero => simp [staTo]
  | succ k ih =>
    simp only [staTo]
    split
    · rw [List.length_append, List.length_singleton]; omega
    · omega
theorem infoInt : (Tryd.prog.info? 3).map (fun i => (i.zero, i.size, i.bytes)) = some (some (.int .i64 0), 1, 8) := by kernel_rfl
theorem staTo_yes {l : List Int} {k : Nat} (h : enB l k = true) : staTo l (k + 1) = staTo l k ++ [(k : Int) + 1] := by simp [staTo, h]
theorem staTo_no {l : List Int} {k : Nat} (h : enB l k = false) : staTo l (k + 1) = staTo l k := by simp [staTo, h]
set_option maxHeartbeats 2000000 in
theorem starts_any (a : Option Addr) (n c : Nat) (l : List Int) (w : World) (h : Row .i32 w a n c l) (hn : n ≤ 1099511627776) :
    Calls Tryd.prog 44 #[.slice a n c] w fun e w' => ∃ v, e = .returned v ∧ w'.ownsRow w.heap.size 3 1 v (staTo l n).length ((staTo l n).map (Value.int .i64)) ∧ Below w.heap.size w w' := by
  obtain ⟨i0, hi, hz0, hz1, hz2⟩ := info_parts infoInt
  have hlit := World.ownsRow_lit (base := w.heap.size) (e := 3) (size := 1) w #[Value.int .i64 0] 1 (Nat.le_refl _) (by unfold maxLen; omega) rfl
  have HLit := hide hlit
  clear hlit
  go_enter Tryd.func44, Tryd.ntmps44
  go_wp2
  go_loopw [3, 4] (fun v i wr => ∃ k : Nat, k ≤ n ∧ i = .int .i64 k ∧ wr.ownsRow w.heap.size 3 1 v (staTo l k).length ((staTo l k).map (Value.int .i64)) ∧ Below w.heap.size w wr) (fun _ i _ => n - (intOf i).toNat)
  case atStart => exact ⟨0, Nat.zero_le _, rfl, unhide HLit, (Below.refl _ _).alloc (Nat.le_refl _) _⟩
  case round =>
    obtain ⟨k, hk, rfl, hown, hbel⟩ := hrel
    clear HLit
    by_cases hlt : k < n
    · rcases h.at_ with h0 | ⟨b, off, rfl, hbw, hcell⟩
      · omega
      have c1 := (hbel.cell (p := ⟨b, off + k, none⟩) hbw).trans (hcell k hlt)
      obtain ⟨x, hx⟩ : ∃ x, x = l.getD k 0 := ⟨_, rfl⟩
      rw [← hx] at c1
      have Hx := hide hx
      have ki : (k : Int) < (n : Int) := by omega
      have hlp := (staTo_pos l k).2
      have HL := hide h.len
      clear hx
      cases e10 : (x == 10)
      · cases e13 : (x == 13)
        · have hno := hide (show enB l k = false from by unfold enB; rw [← unhide Hx, e10, e13]; rfl)
          have n10 : (x != 10) = true := by simp only [bne, e10]; rfl
          have n13 : (x != 13) = true := by simp only [bne, e13]; rfl
          clear hcell
          go_wp2
          go_roundw
          case rel => exact ⟨k + 1, by omega, by go_num, by rw [staTo_no (unhide hno)]; exact hown, hbel⟩
          case measure => simp [intOf]; omega
        · have n13 : (x != 13) = false := by simp only [bne, e13]; rfl
          by_cases h1 : k + 1 < n
          · have c2 := (hbel.cell (p := ⟨b, off + (k + 1), none⟩) hbw).trans (hcell (k + 1) h1)
            obtain ⟨y, hy⟩ : ∃ y, y = l.getD (k + 1) 0 := ⟨_, rfl⟩
            rw [← hy] at c2
            have Hy := hide hy
            have k1i : (k : Int) + 1 < (n : Int) := by omega
            clear hy hcell
            cases f10 : (y == 10)
            · have hyes := hide (show enB l k = true from by unfold enB prB; rw [← unhide Hx, ← unhide Hy, e10, e13, f10]; simp)
              have HLT := hide hown.lt
              have hcel := cellv wr (.int .i64 ((k : Int) + 1)) 3
              go_wp2_with (at_builtin; refine wpList_append_own _ rfl (.tmp 44) (.tmp 47) 64 rfl w.heap.size 3 i0 (.int .i64 0) 1 8 Tryd.underlying64 hi hz0 hz1 hz2 rfl (by decide) _ _ _ rfl (hown.alloc _) ⟨wr.heap.size, 0, none⟩ 1 1 [.int .i64 ((k : Int) + 1)] rfl rfl hcel (by intro u hu; simp at hu; subst hu; rfl) (by unfold maxLen; omega) (by omega) (by have := hbel.size; simp; omega) ?_; intro v' w2 hown' hgrow _)
              go_roundw
              case rel => exact ⟨k + 1, by omega, by go_num, by rw [staTo_yes (unhide hyes)]; simpa using hown', (hbel.alloc hbel.size _).grown hgrow (by have := hbel.size; simp; omega) (fun k hk => (unhide HLT k hk).1)⟩
              case measure => simp [intOf]; omega
            · have hno := hide (show enB l k = false from by unfold enB prB; rw [← unhide Hx, ← unhide Hy, e10, e13, f10, unhide HL]; simp [h1])
              go_wp2
              go_roundw
              case rel => exact ⟨k + 1, by omega, by go_num, by rw [staTo_no (unhide hno)]; exact hown, hbel⟩
              case measure => simp [intOf]; omega
          · have k1i : ¬ (k : Int) + 1 < (n : Int) := by omega
            have hyes := hide (show enB l k = true from by unfold enB prB; rw [← unhide Hx, e10, e13, unhide HL]; simp [h1])
            have HLT := hide hown.lt
            have hcel := cellv wr (.int .i64 ((k : Int) + 1)) 3
            clear hcell
            go_wp2_with (at_builtin; refine wpList_append_own _ rfl (.tmp 44) (.tmp 47) 64 rfl w.heap.size 3 i0 (.int .i64 0) 1 8 Tryd.underlying64 hi hz0 hz1 hz2 rfl (by decide) _ _ _ rfl (hown.alloc _) ⟨wr.heap.size, 0, none⟩ 1 1 [.int .i64 ((k : Int) + 1)] rfl rfl hcel (by intro u hu; simp at hu; subst hu; rfl) (by unfold maxLen; omega) (by omega) (by have := hbel.size; simp; omega) ?_; intro v' w2 hown' hgrow _)
            go_roundw
            case rel => exact ⟨k + 1, by omega, by go_num, by rw [staTo_yes (unhide hyes)]; simpa using hown', (hbel.alloc hbel.size _).grown hgrow (by have := hbel.size; simp; omega) (fun k hk => (unhide HLT k hk).1)⟩
            case measure => simp [intOf]; omega
      · have n10 : (x != 10) = false := by simp only [bne, e10]; rfl
        have e13 : (x == 13) = false := by simp at e10 ⊢; omega
        have n13 : (x != 13) = true := by simp only [bne, e13]; rfl
        have hyes := hide (show enB l k = true from by unfold enB; rw [← unhide Hx, e10]; rfl)
        have HLT := hide hown.lt
        have hcel := cellv wr (.int .i64 ((k : Int) + 1)) 3
        clear hcell
        go_wp2_with (at_builtin; refine wpList_append_own _ rfl (.tmp 44) (.tmp 47) 64 rfl w.heap.size 3 i0 (.int .i64 0) 1 8 Tryd.underlying64 hi hz0 hz1 hz2 rfl (by decide) _ _ _ rfl (hown.alloc _) ⟨wr.heap.size, 0, none⟩ 1 1 [.int .i64 ((k : Int) + 1)] rfl rfl hcel (by intro u hu; simp at hu; subst hu; rfl) (by unfold maxLen; omega) (by omega) (by have := hbel.size; simp; omega) ?_; intro v' w2 hown' hgrow _)
        go_roundw
        case rel => exact ⟨k + 1, by omega, by go_num, by rw [staTo_yes (unhide hyes)]; simpa using hown', (hbel.alloc hbel.size _).grown hgrow (by have := hbel.size; simp; omega) (fun k hk => (unhide HLT k hk).1)⟩
        case measure => simp [intOf]; omega
    · have ek : k = n := by omega
      subst ek
      go_wp2
      go_ret
      exact ⟨_, rfl, hown, hbel⟩
end Go.Proofs.YtcehhkjlbhodeaaDoor.mem
