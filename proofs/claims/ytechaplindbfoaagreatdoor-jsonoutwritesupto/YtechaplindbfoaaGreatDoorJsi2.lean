import Derived.Test.YtechaplindbfoaaGreatDoorJpa13
import Derived.Test.YtechaplindbfoaaGreatDoorJsi1
namespace Go.Proofs.YtechaplindbfoaaGreatDoor.mem
open Go.ChangeShapes Go.WideShapes Go.ChangeAt Go.RowKit
open ints (hide unhide)
set_option linter.unusedVariables false

theorem same_any (a a' : Option Addr) (n n' c c' : Nat) (zs zs' : List Int) (w : World) (h : Row .u8 w a n c zs) (h' : Row .u8 w a' n' c' zs') (hn : n ≤ 9223372036854775807) :
    Calls Tryz.prog 124 #[.slice a n c, .slice a' n' c'] w fun e w' => e = .returned (.bool (decide (zs = zs'))) ∧ Below w.heap.size w w' := by
  by_cases hl : n = n'
  · subst hl
    have hne : ((n : Int) != (n : Int)) = false := by simp
    go_enter Tryz.func124, Tryz.ntmps124
    go_wp2
    go_loopw [5] (fun i wr => ∃ k : Nat, k ≤ n ∧ i = .int .i64 k ∧ Hid (∀ j, j < k → zs.getD j 0 = zs'.getD j 0) ∧ Below w.heap.size w wr) (fun i _ => n - (intOf i).toNat)
    case atStart => exact ⟨0, Nat.zero_le _, rfl, hide (fun j hj => by omega), Below.refl _ _⟩
    case round =>
      obtain ⟨k, hk, rfl, heq, hbel⟩ := hrel
      by_cases hlt : k < n
      · rcases h.at_ with h0 | ⟨b, off, rfl, hbw, hcell⟩
        · omega
        rcases h'.at_ with h0 | ⟨b', off', rfl, hbw', hcell'⟩
        · omega
        have c1 := (hbel.cell (p := ⟨b, off + k, none⟩) hbw).trans (hcell k hlt)
        have c2 := (hbel.cell (p := ⟨b', off' + k, none⟩) hbw').trans (hcell' k hlt)
        obtain ⟨x, hx⟩ : ∃ x, x = zs.getD k 0 := ⟨_, rfl⟩
        obtain ⟨y, hy⟩ : ∃ y, y = zs'.getD k 0 := ⟨_, rfl⟩
        rw [← hx] at c1
        rw [← hy] at c2
        have Hx := hide hx
        have Hy := hide hy
        have ki : (k : Int) < (n : Int) := by omega
        clear hx hy hcell hcell'
        by_cases hxy : x = y
        · have hb : (x != y) = false := by simpa using hxy
          have Hxy := hide hxy
          clear hxy
          go_wp2
          go_quiet (fail)
          go_wp2
          go_roundw
          case rel =>
            refine ⟨k + 1, by omega, by go_num, hide (fun j hj => ?_), below_drewN hbel _⟩
            by_cases hjk : j < k
            · exact unhide heq j hjk
            · obtain rfl : j = k := by omega
              rw [← unhide Hx, ← unhide Hy, unhide Hxy]
          case measure => simp [intOf]; omega
        · have hb : (x != y) = true := by simpa using hxy
          have Hxy := hide hxy
          clear hxy
          go_wp2
          go_quiet (fail)
          go_wp2
          go_ret
          have hd : decide (zs = zs') = false := by
            rw [decide_eq_false_iff_not]
            intro e
            apply unhide Hxy
            rw [unhide Hx, unhide Hy, e]
          rw [hd]
          exact ⟨rfl, below_drewN hbel _⟩
      · have hd := hide (show decide (zs = zs') = true from by
          rw [decide_eq_true_iff]
          exact getD_ext (by rw [h.len, h'.len]) (fun j hj => unhide heq j (by have := h.len; omega)))
        go_wp2
        go_ret
        rw [unhide hd]
        exact ⟨rfl, hbel⟩
  · have hne : ((n : Int) != (n' : Int)) = true := by simp; omega
    have hd := hide (show decide (zs = zs') = false from by
      rw [decide_eq_false_iff_not]
      intro e
      apply hl
      rw [← h.len, ← h'.len, e])
    go_enter Tryz.func124, Tryz.ntmps124
    go_wp2
    go_ret
    rw [unhide hd]
    exact ⟨rfl, Below.refl _ _⟩

def numTo (m : Int) (g : List Int) : Nat → Int
  | 0 => g.getD 0 0 % m
  | j + 1 => numTo m g j * 64 + g.getD (j + 1) 0 % 64
theorem numTo_bd (m : Int) (hm0 : 1 ≤ m) (hm : m ≤ 128) (g : List Int) (hg : Byt g) (j : Nat) (hj : j ≤ 3) : 0 ≤ numTo m g j ∧ numTo m g j ≤ 33554431 := by
  have h0 := byt_getD hg 0
  have e0 : 0 ≤ g.getD 0 0 % m ∧ g.getD 0 0 % m ≤ 127 := ⟨Int.emod_nonneg _ (by omega), by have := Int.emod_lt_of_pos (g.getD 0 0) (show 0 < m by omega); omega⟩
  match j, hj with
  | 0, _ => unfold numTo; omega
  | 1, _ => unfold numTo numTo; omega
  | 2, _ => unfold numTo numTo numTo; omega
  | 3, _ => unfold numTo numTo numTo numTo; omega
set_option maxHeartbeats 1000000 in
theorem number_any (a : Option Addr) (k m c : Nat) (g : List Int) (w : World) (h : Row .u8 w a k c g) (hg : Byt g) (hkm : (k = 1 ∧ m = 128) ∨ (k = 2 ∧ m = 32) ∨ (k = 3 ∧ m = 16) ∨ (k = 4 ∧ m = 8)) :
    Calls Tryz.prog 123 #[.slice a k c] w fun e w' => e = .returned (.int .i32 (numTo m g (k - 1))) ∧ Below w.heap.size w w' := by
  have k1 : 1 ≤ k := by omega
  have k4 : k ≤ 4 := by omega
  have m0 : 1 ≤ m := by omega
  have m1 : m ≤ 128 := by omega
  rcases h.at_ with h0 | ⟨b, off, rfl, hbw, hcell⟩
  · omega
  obtain ⟨o, ho⟩ : ∃ o, o = Obj.cells #[.int .i64 0, .int .i64 128, .int .i64 32, .int .i64 16, .int .i64 8] 3 (0, 0) := ⟨_, rfl⟩
  have hf : (w.alloc o).cell? ⟨w.heap.size, k, none⟩ = some (.int .i64 (m : Int)) := by
    rw [ho, World.cell?_alloc_at _ _ _ _ rfl]
    rcases hkm with ⟨rfl, rfl⟩ | ⟨rfl, rfl⟩ | ⟨rfl, rfl⟩ | ⟨rfl, rfl⟩ <;> rfl
  have hbel0 : Below w.heap.size w (w.alloc o) := (Below.refl _ _).alloc (Nat.le_refl _) o
  have hc0 := (hbel0.cell (p := ⟨b, off + 0, none⟩) hbw).trans (hcell 0 (by omega))
  rw [Nat.add_zero] at hc0
  have hb0 := byt_getD hg 0
  obtain ⟨x, hx⟩ : ∃ x, x = g.getD 0 0 := ⟨_, rfl⟩
  rw [← hx] at hc0 hb0
  have x0 := hb0.1
  have x1 := hb0.2
  have Hx := hide hx
  have ki1 : (0 : Int) < (k : Int) := by omega
  have ki5 : (k : Int) < 5 := by omega
  have kn : 0 < k := by omega
  have mi0 : (1 : Int) ≤ (m : Int) := by omega
  have mne : ((m : Int) == 0) = false := by simp; omega
  have HC := hide hcell
  have HK := hide hkm
  have HO := hide ho
  clear hx hb0 hcell hkm ho
  go_enter Tryz.func123, Tryz.ntmps123
  go_wp2
  rw [← unhide HO]
  go_quiet (fail)
  clear HO
  go_wp2
  go_loopw [4, 5] (fun nv i wr => ∃ j : Nat, j + 1 ≤ k ∧ i = .int .i64 ((j : Int) + 1) ∧ nv = .int .i64 (numTo m g j) ∧ Below w.heap.size w wr) (fun _ i _ => k - (intOf i).toNat)
  case atStart => exact ⟨0, by omega, rfl, by rw [unhide Hx]; rfl, below_drewN hbel0 _⟩
  case round =>
    obtain ⟨j, hj, rfl, rfl, hbel⟩ := hrel
    have hbd := numTo_bd m (by omega) (by omega) g hg j (by omega)
    have p0 := hbd.1
    have p1 := hbd.2
    by_cases hlt : j + 1 < k
    · have hc := (hbel.cell (p := ⟨b, off + (j + 1), none⟩) hbw).trans (unhide HC (j + 1) hlt)
      have hyb := byt_getD hg (j + 1)
      have hnext := hide (show numTo m g (j + 1) = numTo m g j * 64 + g.getD (j + 1) 0 % 64 from rfl)
      generalize numTo m g j = N at *
      generalize g.getD (j + 1) 0 = y at *
      have y0 := hyb.1
      have y1 := hyb.2
      have hlti : (j : Int) + 1 < (k : Int) := by omega
      clear hyb hbd hf hc0
      go_wp2
      go_roundw
      case rel => exact ⟨j + 1, by omega, by go_num, by rw [unhide hnext], hbel⟩
      case measure => simp [intOf]; omega
    · have ej := hide (show k - 1 = j from by omega)
      have hlti : ¬ (j : Int) + 1 < (k : Int) := by omega
      clear hf hc0
      go_wp2
      go_ret
      rw [unhide ej]
      exact ⟨rfl, hbel⟩

theorem Row.take {k : IntKind} {w : World} {a : Option Addr} {n c : Nat} {l : List Int} (h : Row k w a n c l) {m : Nat} (hm : m ≤ n) : Row k w a m c (l.take m) := by
  refine ⟨by simp [h.len]; omega, Nat.le_trans hm h.le, h.nil, ?_⟩
  rcases h.at_ with h0 | ⟨b, off, ha, hb, hc⟩
  · exact .inl (by omega)
  · exact .inr ⟨b, off, ha, hb, fun i hi => by rw [hc i (by omega)]; simp [List.getD, hi]⟩
def mOf (k : Nat) : Nat := if k = 1 then 128 else if k = 2 then 32 else if k = 3 then 16 else 8
theorem mOf_cases (k : Nat) (h1 : 1 ≤ k) (h4 : k ≤ 4) : (k = 1 ∧ mOf k = 128) ∨ (k = 2 ∧ mOf k = 32) ∨ (k = 3 ∧ mOf k = 16) ∨ (k = 4 ∧ mOf k = 8) := by
  unfold mOf; repeat' split
  all_goals omega
def numK (l : List Int) (k : Nat) : Int := numTo (mOf k) (l.take k) (k - 1)
def hit (l : List Int) (k : Nat) : Prop := scP (numK l k) ∧ putB (numK l k) = l.take k
theorem num_put (c : Int) (h : scP c) : numTo (mOf (putB c).length) (putB c) ((putB c).length - 1) = c := by
  unfold scP at h
  by_cases h1 : c < 128
  · rw [putB_1 h1]
    show c % 128 = c
    omega
  by_cases h2 : c < 2048
  · rw [putB_2 (by omega) h2]
    show (192 + c / 64) % 32 * 64 + (128 + c % 64) % 64 = c
    omega
  by_cases h3 : c < 65536
  · rw [putB_3 (by omega) h3]
    show ((224 + c / 4096) % 16 * 64 + (128 + c / 64 % 64) % 64) * 64 + (128 + c % 64) % 64 = c
    omega
  · rw [putB_4 (by omega)]
    show (((240 + c / 262144) % 8 * 64 + (128 + c / 4096 % 64) % 64) * 64 + (128 + c / 64 % 64) % 64) * 64 + (128 + c % 64) % 64 = c
    omega
theorem oneL_zero (l : List Int) (h : (oneL l).2 = 0) : oneL l = (0, 0) := by
  unfold oneL oneQ at h ⊢
  repeat' split at h
  all_goals first | (simp at h; done) | skip
  rw [if_neg ‹_›, if_neg ‹_›, if_neg ‹_›, if_neg ‹_›]
theorem hit_one (l : List Int) (k : Nat) (hk : k ≤ l.length) (h : hit l k) : oneL l = (numK l k, k) := by
  obtain ⟨h1, h2⟩ := h
  have e : l = putB (numK l k) ++ l.drop k := by rw [h2, List.take_append_drop]
  have hl : (putB (numK l k)).length = k := by rw [h2]; simp; omega
  have := one_put (numK l k) h1 (l.drop k)
  rw [← e, hl] at this
  exact this
theorem no_hit (l : List Int) (hb : Byt l) (h : ∀ j, 1 ≤ j → j ≤ 4 → j ≤ l.length → ¬ hit l j) : oneL l = (0, 0) := by
  by_cases h0 : (oneL l).2 = 0
  · exact oneL_zero l h0
  · exfalso
    obtain ⟨h1, h2, h3⟩ := one_back l hb h0
    have ht := take_of l _ _ _ h2 h3
    refine h (oneL l).2 (by omega) (oneL_4 l) (oneL_le l) ?_
    have hn : numK l (oneL l).2 = (oneL l).1 := by
      unfold numK
      rw [ht]
      have := num_put _ h1
      rw [← h3] at this
      exact this
    exact ⟨by rw [hn]; exact h1, by rw [hn, ht]⟩
theorem no_more {l : List Int} {k : Nat} (h : ∀ j, 1 ≤ j → j < k → ¬ hit l j) (hk : ¬ hit l k) : ∀ j, 1 ≤ j → j < k + 1 → ¬ hit l j := by
  intro j h1 h2
  by_cases e : j = k
  · subst e; exact hk
  · exact h j h1 (by omega)
set_option maxHeartbeats 2000000 in
theorem one_any (a : Option Addr) (n c : Nat) (l : List Int) (w : World) (h : Row .u8 w a n c l) (hz : Byt l) (hn : n ≤ 9223372036854775807) :
    Calls Tryz.prog 102 #[.slice a n c] w fun e w' => e = .returned (.tuple #[.int .i32 (oneL l).1, .int .i64 ((oneL l).2 : Int)]) ∧ Below w.heap.size w w' := by
  go_enter Tryz.func102, Tryz.ntmps102
  go_wp2
  go_loopw [4] (fun i wr => ∃ k : Nat, 1 ≤ k ∧ k ≤ 5 ∧ k ≤ n + 1 ∧ i = .int .i64 k ∧ Hid (∀ j, 1 ≤ j → j < k → ¬ hit l j) ∧ Below w.heap.size w wr) (fun i _ => 5 - (intOf i).toNat)
  case atStart => exact ⟨1, by omega, by omega, by omega, rfl, hide (fun j h1 h2 => by omega), Below.refl _ _⟩
  case round =>
    obtain ⟨k, k1, k5, kn, rfl, hno, hbel⟩ := hrel
    by_cases h4 : k ≤ 4
    · by_cases hkn : k ≤ n
      · have hr := (h.below hbel).take hkn
        rcases h.at_ with h0 | ⟨b, off, rfl, hbw, hcell⟩
        · omega
        have kc := h.le
        have kci : (k : Int) ≤ (c : Int) := by omega
        have hN := hide (number_any _ k (mOf k) c (l.take k) wr hr (fun z hz' => hz z (List.mem_of_mem_take hz')) (mOf_cases k k1 h4))
        obtain ⟨C, hC⟩ : ∃ C, C = numK l k := ⟨_, rfl⟩
        have hnx := hide (show numTo (mOf k) (l.take k) (k - 1) = C from by rw [hC]; rfl)
        rw [unhide hnx] at hN
        have HC := hide hC
        clear hC hcell
        go_wp2_with fail
        refine (unhide hN).mono ?_
        rintro e w1 ⟨rfl, hb1⟩
        have hbel1 := hbel.trans (hb1.mono hbel.size)
        have hr1 := hr.below hb1
        clear hN hr hb1 hbel
        by_cases hs : scP C
        · have hpl := putB_len C
          obtain ⟨P, hP⟩ : ∃ P, P = putB C := ⟨_, rfl⟩
          have R := hide (put_yes C w1 hs)
          obtain ⟨o, ho⟩ : ∃ o, o = Obj.cells ((putB C).map (Value.int .u8)).toArray 5 (0, 0) := ⟨_, rfl⟩
          have hlit := put_lit w1 (putB C) (putB C).length (by unfold maxLen; omega) rfl
          rw [← ho] at R hlit
          rw [← hP] at R hlit hpl
          have hbo : Below w1.heap.size w1 (w1.alloc o) := (Below.refl _ _).alloc (Nat.le_refl _) o
          have hrp : Row .u8 (w1.alloc o) (some ⟨w1.heap.size, 0, none⟩) P.length P.length P := by
            obtain ⟨a', cap', e', hr'⟩ := own_row hlit
            simp only [Value.slice.injEq] at e'
            obtain ⟨rfl, _, rfl⟩ := e'
            exact hr'
          have hr2 := hr1.below hbo
          have hbel2 : Below w.heap.size w (w1.alloc o) := hbel1.trans (hbo.mono hbel1.size)
          have HP := hide hP
          clear ho hP hlit hbo
          by_cases hlen : P.length = k
          · have hb : ((P.length : Int) == (k : Int)) = true := by simp; omega
            by_cases heq : P = l.take k
            · have hone := hide (hit_one l k (by rw [h.len]; exact hkn) ⟨by rw [← unhide HC]; exact hs, by rw [← unhide HC, ← unhide HP]; exact heq⟩)
              have S := hide (same_any _ _ P.length k _ _ P (l.take k) (w1.alloc o) hrp hr2 (by omega))
              have hd : decide (P = l.take k) = true := by simpa using heq
              rw [hd] at S
              clear hlen heq hd
              go_wp2_with fail
              refine (unhide R).mono ?_
              rintro e w' ⟨rfl, rfl⟩
              clear R
              go_wp2_with fail
              refine (unhide S).mono ?_
              rintro e w3 ⟨rfl, hb3⟩
              clear S
              go_wp2
              go_ret2
              rw [unhide hone, ← unhide HC]
              exact ⟨rfl, hbel2.trans (hb3.mono hbel2.size)⟩
            · have hnot := hide (show ¬ hit l k from fun hh => heq (by rw [unhide HP, unhide HC]; exact hh.2))
              have S := hide (same_any _ _ P.length k _ _ P (l.take k) (w1.alloc o) hrp hr2 (by omega))
              have hd : decide (P = l.take k) = false := by simpa using heq
              rw [hd] at S
              clear hlen heq hd
              go_wp2_with fail
              refine (unhide R).mono ?_
              rintro e w' ⟨rfl, rfl⟩
              clear R
              go_wp2_with fail
              refine (unhide S).mono ?_
              rintro e w3 ⟨rfl, hb3⟩
              clear S
              go_wp2
              go_roundw
              case rel => exact ⟨k + 1, by omega, by omega, by omega, by go_num, hide (no_more (unhide hno) (unhide hnot)), hbel2.trans (hb3.mono hbel2.size)⟩
              case measure => simp [intOf]; omega
          · have hb : ((P.length : Int) == (k : Int)) = false := by simp; omega
            have hnot := hide (show ¬ hit l k from fun hh => hlen (by rw [unhide HP, unhide HC, hh.2]; simp [h.len]; omega))
            clear hlen
            go_wp2_with fail
            refine (unhide R).mono ?_
            rintro e w' ⟨rfl, rfl⟩
            clear R
            go_wp2
            go_roundw
            case rel => exact ⟨k + 1, by omega, by omega, by omega, by go_num, hide (no_more (unhide hno) (unhide hnot)), hbel2⟩
            case measure => simp [intOf]; omega
        · have hnot := hide (show ¬ hit l k from fun hh => hs (by rw [unhide HC]; exact hh.1))
          have hb : ((0 : Int) == (k : Int)) = false := by simp; omega
          go_wp2_with fail
          refine (put_no C _ hs).mono ?_
          rintro e w' ⟨rfl, rfl⟩
          go_wp2
          go_roundw
          case rel => exact ⟨k + 1, by omega, by omega, by omega, by go_num, hide (no_more (unhide hno) (unhide hnot)), hbel1⟩
          case measure => simp [intOf]; omega
      · have hfin := hide (no_hit l hz (fun j h1 h2 h3 => unhide hno j h1 (by rw [h.len] at h3; omega)))
        go_wp2
        go_ret2
        rw [unhide hfin]
        exact ⟨rfl, hbel⟩
    · have hfin := hide (no_hit l hz (fun j h1 h2 h3 => unhide hno j h1 (by omega)))
      go_wp2
      go_ret2
      rw [unhide hfin]
      exact ⟨rfl, hbel⟩
end Go.Proofs.YtechaplindbfoaaGreatDoor.mem
