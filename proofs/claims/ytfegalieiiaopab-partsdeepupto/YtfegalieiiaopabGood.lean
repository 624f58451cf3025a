import Derived.Test.YtfegalieiiaopabDec
namespace Go.Proofs.Ytfegalieiiaopab.mem
open Go.ChangeShapes Go.WideShapes Go.ChangeAt Go.RowKit
open ints (hide unhide)
set_option linter.unusedVariables false

def hpB (t p : ByteArray) : Bool := decide (p.size ≤ t.size) && ((t.extract 0 p.size).toList == p.toList)
theorem hp_in (t p : ByteArray) (w : World) (ht : t.size ≤ 9223372036854775807) (hp : p.size ≤ 9223372036854775807) :
    Calls Try.prog 66 #[.string t, .string p] w fun e w' => e = .returned (.bool (hpB t p)) ∧ w' = w := by
  by_cases h : p.size ≤ t.size
  · have hb := hide (show hpB t p = ((t.extract 0 p.size).toList == p.toList) from by simp [hpB, h])
    have h1 : (p.size : Int) ≤ (t.size : Int) := by omega
    go_enter Try.func66, Try.ntmps66
    go_wp2
    go_ret
    rw [unhide hb]
    exact ⟨rfl, rfl⟩
  · have hb := hide (show hpB t p = false from by simp [hpB, h])
    have h1 : ¬ (p.size : Int) ≤ (t.size : Int) := by omega
    go_enter Try.func66, Try.ntmps66
    go_wp2
    go_ret
    rw [unhide hb]
    exact ⟨rfl, rfl⟩
theorem hp_any (t p : ByteArray) (w : World) (ht : t.size ≤ 9223372036854775807) (hp : p.size ≤ 9223372036854775807) :
    Calls Try.prog 44 #[.string t, .string p] w fun e w' => e = .returned (.bool (hpB t p)) ∧ w' = w := by
  go_enter Try.func44, Try.ntmps44
  go_wp2_with fail
  refine (hp_in _ _ _ ht hp).mono ?_
  rintro e w' ⟨rfl, rfl⟩
  go_wp2
  go_ret
  exact ⟨rfl, rfl⟩

theorem extract_list (s : ByteArray) (a b : Nat) : (s.extract a b).data.toList = (s.data.toList.drop a).take (b - a) := by
  rw [ByteArray.data_extract, Array.toList_extract]
theorem bytesZ_extract (s : ByteArray) (a b : Nat) : bytesZ (s.extract a b) = ((bytesZ s).drop a).take (b - a) := by
  unfold bytesZ
  rw [extract_list, List.map_take, List.map_drop]
theorem hp_fffd (s : ByteArray) (p : Nat) (h : p ≤ s.size) : hpB (s.extract p s.size) ⟨#[239, 191, 189]⟩ = decide (((bytesZ s).drop p).take 3 = [239, 191, 189]) := by
  have hz : (s.extract p s.size).size = s.size - p := by simp
  have hp3 : (⟨#[239, 191, 189]⟩ : ByteArray).size = 3 := rfl
  have hl : s.data.toList.length = s.size := by rw [Array.length_toList]; rfl
  unfold hpB
  rw [hz, hp3, ByteArray.toList_eq, ByteArray.toList_eq, extract_list, extract_list]
  rw [List.take_of_length_le (l := s.data.toList.drop p) (by simp)]
  unfold bytesZ
  rw [← List.map_drop]
  have hd : (s.data.toList.drop p).length = s.size - p := by rw [List.length_drop, hl]
  rw [← hd]
  generalize s.data.toList.drop p = L
  rw [Bool.eq_iff_iff]
  match L with
  | [] => simp
  | [a] => simp
  | [a, b] => simp
  | a :: b :: c :: r =>
    simp only [List.drop_zero, Nat.sub_zero, List.length_cons, List.take_succ_cons, List.take_zero, List.map_cons, Bool.and_eq_true, decide_eq_true_eq, beq_iff_eq, List.cons.injEq, and_true]
    constructor
    · rintro ⟨_, rfl, rfl, rfl⟩
      exact ⟨rfl, rfl, rfl⟩
    · rintro ⟨h1, h2, h3⟩
      refine ⟨by omega, ?_, ?_, ?_⟩
      all_goals apply UInt8.toNat_inj.1
      · show _ = 239
        omega
      · show _ = 191
        omega
      · show _ = 189
        omega
theorem put_fffd : putB 65533 = [239, 191, 189] := by decide
theorem hp_yes (s : ByteArray) (p : Nat) (h : p ≤ s.size) (ho : (oneL ((bytesZ s).drop p)).2 ≠ 0) (hc : (oneL ((bytesZ s).drop p)).1 = 65533) : hpB (s.extract p s.size) ⟨#[239, 191, 189]⟩ = true := by
  rw [hp_fffd s p h, decide_eq_true_iff]
  obtain ⟨h1, h2, h3⟩ := one_back _ (byt_drop (bytesZ_byt s) p) ho
  rw [hc, put_fffd] at h2
  rw [h2]
  rfl
theorem hp_no (s : ByteArray) (p : Nat) (h : p ≤ s.size) (ho : (oneL ((bytesZ s).drop p)).2 = 0) : hpB (s.extract p s.size) ⟨#[239, 191, 189]⟩ = false := by
  rw [hp_fffd s p h, decide_eq_false_iff_not]
  intro e
  have h1 : (oneL (putB 65533 ++ ((bytesZ s).drop p).drop 3)).2 = 3 := by rw [one_put 65533 (by unfold scP; omega)]; rfl
  rw [put_fffd, ← e, List.take_append_drop, ho] at h1
  cases h1
theorem below_iter (w : World) (s : ByteArray) (p : Nat) : Below w.heap.size w (w.iter s p) := (Below.refl _ _).alloc (Nat.le_refl _) _
set_option maxHeartbeats 1000000 in
theorem good_any (s : ByteArray) (w : World) (hs : s.size ≤ 9223372036854775807) :
    Calls Try.prog 30 #[.string s] w fun e w' => e = .returned (.int .i64 ((decZ (bytesZ s)).2 : Int)) ∧ Below w.heap.size w w' := by
  go_enter Try.func30, Try.ntmps30
  go_wp2
  go_loopw [3] (fun _ wr => ∃ pos f : Nat, wr = w.iter s pos ∧ pos ≤ s.size ∧ s.size - pos ≤ f ∧ Hid (pos + (decF f ((bytesZ s).drop pos)).2 = (decZ (bytesZ s)).2)) (fun _ wr => s.size - wr.iterPos w.heap.size)
  case atStart => exact ⟨0, (bytesZ s).length, rfl, Nat.zero_le _, by rw [bytesZ_len]; omega, hide (by simp [decZ])⟩
  case round =>
    obtain ⟨pos, f, rfl, hpl, hf, hr⟩ := hrel
    by_cases hp : pos < s.size
    · have hd := hide (decode_one s pos hp)
      obtain ⟨ch, wd, hdec⟩ : ∃ ch wd : Nat, Utf8.decode s pos = (ch, wd) := ⟨_, _, rfl⟩
      have hnx : ∀ ty, (Instr.next (.pointer (some ⟨w.heap.size, 0, none⟩)) true ty).run Try.prog (w.iter s pos) = .ok (.tuple #[.bool true, .int .i64 pos, .int .i32 (ch : Int)]) (w.iter s (pos + wd)) := fun ty => by
        have := run_next_any (P := Try.prog) w s pos ty hp
        rw [hdec] at this
        exact this
      rw [hdec] at hd
      have hex : (s.extract pos s.size).size ≤ 9223372036854775807 := by simp; omega
      by_cases ho : (oneL ((bytesZ s).drop pos)).2 = 0
      · have hd' := unhide hd
        rw [if_pos ho] at hd'
        simp only [Prod.mk.injEq] at hd'
        obtain ⟨rfl, rfl⟩ := hd'
        have hfin := hide (show (decZ (bytesZ s)).2 = pos from by have := unhide hr; rw [decF_end _ _ ho] at this; simpa using this.symm)
        have hh := hide (hp_no s pos (by omega) ho)
        clear hd hdec ho hr
        go_wp2_with fail
        refine (hp_any _ _ _ hex (by show 3 ≤ _; omega)).mono ?_
        rintro e w' ⟨rfl, rfl⟩
        rw [unhide hh]
        go_wp2
        go_ret
        rw [unhide hfin]
        exact ⟨rfl, below_iter _ _ _⟩
      · have hd' := unhide hd
        rw [if_neg ho] at hd'
        simp only [Prod.mk.injEq] at hd'
        obtain ⟨hch, hwd⟩ := hd'
        obtain ⟨f', rfl⟩ : ∃ f', f = f' + 1 := ⟨f - 1, by omega⟩
        obtain ⟨hsc, _, _⟩ := one_back _ (byt_drop (bytesZ_byt s) pos) ho
        have hle := oneL_le ((bytesZ s).drop pos)
        rw [List.length_drop, bytesZ_len] at hle
        have hstep := hide (show pos + wd + (decF f' ((bytesZ s).drop (pos + wd))).2 = (decZ (bytesZ s)).2 from by
          have := unhide hr
          rw [decF_go _ _ ho] at this
          simp only at this
          rw [← hwd, List.drop_drop] at this
          omega)
        have w1 : 1 ≤ wd := by omega
        have w2 : pos + wd ≤ s.size := by omega
        have hcz : (ch : Int) = (oneL ((bytesZ s).drop pos)).1 := by unfold scP at hsc; omega
        by_cases hff : ch = 65533
        · have hh := hide (hp_yes s pos (by omega) ho (by omega))
          have hb : ((ch : Int) == 65533) = true := by simp; omega
          clear hd hdec ho hr hch hwd hsc hcz hle hff
          go_wp2_with fail
          refine (hp_any _ _ _ hex (by show 3 ≤ _; omega)).mono ?_
          rintro e w' ⟨rfl, rfl⟩
          rw [unhide hh]
          go_wp2
          go_roundw
          case rel => exact ⟨pos + wd, f', rfl, w2, by omega, hstep⟩
          case measure => simp; omega
        · have hb : ((ch : Int) == 65533) = false := by simp; omega
          clear hd hdec ho hr hch hwd hsc hcz hle hff
          go_wp2
          go_roundw
          case rel => exact ⟨pos + wd, f', rfl, w2, by omega, hstep⟩
          case measure => simp; omega
    · have hfin := hide (show (decZ (bytesZ s)).2 = s.size from by
        have := unhide hr
        have e : (bytesZ s).drop pos = [] := List.drop_eq_nil_of_le (by rw [bytesZ_len]; omega)
        rw [decF_end _ _ (by rw [e]; rfl)] at this
        simp at this
        omega)
      have hnx : ∀ ty, (Instr.next (.pointer (some ⟨w.heap.size, 0, none⟩)) true ty).run Try.prog (w.iter s pos) = .ok (.tuple #[.bool false]) (w.iter s pos) := fun ty => run_next_end w s pos ty hp
      clear hr
      go_wp2
      go_ret
      rw [unhide hfin]
      exact ⟨rfl, below_iter _ _ _⟩
end Go.Proofs.Ytfegalieiiaopab.mem
