import Derived.Test.YtmlgbglaifnhgaaTso10
import Derived.Test.YtmlgbglaifnhgaaTso9
namespace Go.Proofs.Ytmlgbglaifnhgaa.og
open Go.ChangeShapes Go.WideShapes Go.ChangeAt Go.RowKit
open vl hiding cB cFl cS cF cI cK cIt
open stp (St Pth St3)
set_option linter.unusedVariables false
set_option linter.unusedSimpArgs false
set_option maxHeartbeats 4000000 in
set_option maxRecDepth 100000 in
theorem sound_ok (v : Vl) (cs : List Value) (w : World) (hv : VlC w v cs) (hsm : Small v) (hc : cnt v ≤ 1048576) : Calls Try.prog 9 #[.agg cs.toArray] w fun e w' => ∃ aj nj cj, e = .returned (.tuple #[.slice aj nj cj, .int .i64 (ffE v)]) ∧ Pth w' aj nj (ffP v) ∧ Below w.heap.size w w' := by
  have FF := hide (fun W (hb : Below w.heap.size w W) => ff_ok v hsm cs W (VlC.below hb _ _ hv) hc)
  have hl := hide (show (ffP v).reverse.length ≤ 1048577 by have := ffP_len v; simp; omega)
  obtain ⟨P, hP⟩ : ∃ P, P = ffP v := ⟨_, rfl⟩
  obtain ⟨E, hE⟩ : ∃ E, E = ffE v := ⟨_, rfl⟩
  rw [← hP] at hl FF
  rw [← hE] at FF
  rw [← hP, ← hE]
  clear hP hE
  obtain ⟨kd, b, m, f, tx, ty, its, fls⟩ := v
  unfold VlC at hv
  obtain ⟨ai, ni, ci, af, nf, cf, rfl, -⟩ := hv
  have hsf := storeF
  clear hsm hc
  go_enter Try.func9, Try.ntmps9
  go_wp2_with fail
  refine (unhide FF _ ((Below.refl _ _).alloc (Nat.le_refl _) _)).mono ?_
  rintro e w1 ⟨aj, nj, cj, rfl, hG, b1⟩
  have hb1 : Below w.heap.size w w1 := ((Below.refl _ _).alloc (Nat.le_refl _) _).trans (b1.mono (by simp))
  have R := hide (rev_grs hG (unhide hl))
  clear FF b1 hG hsf
  go_wp2_with fail
  refine (unhide R).mono ?_
  rintro e w2 ⟨rfl, hp, b2⟩
  clear R
  rw [List.reverse_reverse] at hp
  go_wp2
  go_ret2
  exact ⟨aj, nj, cj, rfl, hp, hb1.trans (b2.mono (by simp))⟩
end Go.Proofs.Ytmlgbglaifnhgaa.og
namespace Go.Proofs.Ytmlgbglaifnhgaa.mem
open Go.ChangeShapes Go.WideShapes Go.ChangeAt Go.RowKit
open ints (hide unhide)
set_option linter.unusedVariables false

theorem rsc_yes (c : Int) (w : World) (h : scP c) :
    Calls Try.prog 138 #[.int .i32 c] w fun e w' => e = .returned (.bool true) ∧ w' = w := by
  rcases h with ⟨h1, h2⟩ | ⟨h1, h2⟩
  · have a1 : ¬ 55296 ≤ c := by omega
    have a2 : c ≤ 1114111 := by omega
    go_enter Try.func138, Try.ntmps138
    go_wp2
    go_ret
    exact ⟨rfl, rfl⟩
  · have a1 : 55296 ≤ c := by omega
    have a2 : ¬ c ≤ 57343 := by omega
    have a3 : 0 ≤ c := by omega
    go_enter Try.func138, Try.ntmps138
    go_wp2
    go_ret
    exact ⟨rfl, rfl⟩
theorem rsc_no (c : Int) (w : World) (h : ¬ scP c) :
    Calls Try.prog 138 #[.int .i32 c] w fun e w' => e = .returned (.bool false) ∧ w' = w := by
  unfold scP at h
  by_cases h1 : c < 0
  · have a1 : ¬ 55296 ≤ c := by omega
    have a2 : ¬ 0 ≤ c := by omega
    go_enter Try.func138, Try.ntmps138
    go_wp2
    go_ret
    exact ⟨rfl, rfl⟩
  by_cases h2 : c ≤ 57343
  · have a1 : 55296 ≤ c := by omega
    go_enter Try.func138, Try.ntmps138
    go_wp2
    go_ret
    exact ⟨rfl, rfl⟩
  have a1 : 55296 ≤ c := by omega
  have a2 : 0 ≤ c := by omega
  have a3 : ¬ c ≤ 1114111 := by omega
  go_enter Try.func138, Try.ntmps138
  go_wp2
  go_ret
  exact ⟨rfl, rfl⟩

theorem put_no (c : Int) (w : World) (h : ¬ scP c) :
    Calls Try.prog 126 #[.int .i32 c] w fun e w' => e = .returned (.slice none 0 0) ∧ w' = w := by
  go_enter Try.func126, Try.ntmps126
  go_wp2_with fail
  refine (rsc_no _ _ h).mono ?_
  rintro e w' ⟨rfl, rfl⟩
  go_wp2
  go_ret
  exact ⟨rfl, rfl⟩
theorem put_lit (w : World) (zs : List Int) (m : Nat) (hm : m ≤ maxLen) (hl : zs.length = m) :
    (w.alloc (.cells (zs.map (Value.int .u8)).toArray 5)).ownsRow w.heap.size 5 1 (.slice (some ⟨w.heap.size, 0, none⟩) m m) m (zs.map (Value.int .u8)) := by
  have := World.ownsRow_lit (base := w.heap.size) (e := 5) (size := 1) w (zs.map (Value.int .u8)).toArray m (Nat.le_refl _) hm (by simp [hl])
  simpa using this
set_option maxHeartbeats 1000000 in
theorem put_yes (c : Int) (w : World) (h : scP c) :
    Calls Try.prog 126 #[.int .i32 c] w fun e w' => e = .returned (.slice (some ⟨w.heap.size, 0, none⟩) (putB c).length (putB c).length) ∧ w' = w.alloc (.cells ((putB c).map (Value.int .u8)).toArray 5) := by
  have hc0 : 0 ≤ c := by unfold scP at h; omega
  have hc1 : c ≤ 1114111 := by unfold scP at h; omega
  by_cases h1 : c < 128
  · rw [putB_1 h1]
    go_enter Try.func126, Try.ntmps126
    go_wp2_with fail
    refine (rsc_yes _ _ h).mono ?_
    rintro e w' ⟨rfl, rfl⟩
    go_wp2
    go_ret
    exact ⟨rfl, rfl⟩
  by_cases h2 : c < 2048
  · rw [putB_2 (by omega) h2]
    go_enter Try.func126, Try.ntmps126
    go_wp2_with fail
    refine (rsc_yes _ _ h).mono ?_
    rintro e w' ⟨rfl, rfl⟩
    go_wp2
    go_ret
    exact ⟨rfl, rfl⟩
  by_cases h3 : c < 65536
  · rw [putB_3 (by omega) h3]
    go_enter Try.func126, Try.ntmps126
    go_wp2_with fail
    refine (rsc_yes _ _ h).mono ?_
    rintro e w' ⟨rfl, rfl⟩
    go_wp2
    go_ret
    exact ⟨rfl, rfl⟩
  rw [putB_4 (by omega)]
  go_enter Try.func126, Try.ntmps126
  go_wp2_with fail
  refine (rsc_yes _ _ h).mono ?_
  rintro e w' ⟨rfl, rfl⟩
  go_wp2
  go_ret
  exact ⟨rfl, rfl⟩

end Go.Proofs.Ytmlgbglaifnhgaa.mem
namespace Go.Proofs.Ytmlgbglaifnhgaa.mem
open Go.ChangeShapes Go.WideShapes Go.ChangeAt Go.RowKit
open ints (hide unhide)
set_option linter.unusedVariables false

theorem same_any (a a' : Option Addr) (n n' c c' : Nat) (zs zs' : List Int) (w : World) (h : Row .u8 w a n c zs) (h' : Row .u8 w a' n' c' zs') (hn : n ≤ 9223372036854775807) :
    Calls Try.prog 127 #[.slice a n c, .slice a' n' c'] w fun e w' => e = .returned (.bool (decide (zs = zs'))) ∧ Below w.heap.size w w' := by
  by_cases hl : n = n'
  · subst hl
    have hne : ((n : Int) != (n : Int)) = false := by simp
    go_enter Try.func127, Try.ntmps127
    go_wp2
    go_loopw [5] (fun i wr => ∃ k : Nat, k ≤ n ∧ i = .int .i64 k ∧ Hid (∀ j, j < k → zs.getD j 0 = zs'.getD j 0) ∧ Below w.heap.size w wr) (fun i _ => n - (intOf i).toNat)
    case atStart => exact ⟨0, Nat.zero_le _, rfl, hide (fun j hj => by omega), Below.refl _ _⟩
    case round =>
      obtain ⟨k, hk, rfl, heq, hbel⟩ := hrel
      by_cases hlt : k < n
      · rcases h.at_ with h0 | ⟨b, off, rfl, hbw, hcell⟩
        · omega
        rcases h'.at_ with h0 | ⟨b', off', rfl, hbw', hcell'⟩
        · omega
        have c1 := (hbel.cell (p := ⟨b, off + k, none⟩) hbw).trans (hcell k hlt)
        have c2 := (hbel.cell (p := ⟨b', off' + k, none⟩) hbw').trans (hcell' k hlt)
        obtain ⟨x, hx⟩ : ∃ x, x = zs.getD k 0 := ⟨_, rfl⟩
        obtain ⟨y, hy⟩ : ∃ y, y = zs'.getD k 0 := ⟨_, rfl⟩
        rw [← hx] at c1
        rw [← hy] at c2
        have Hx := hide hx
        have Hy := hide hy
        have ki : (k : Int) < (n : Int) := by omega
        clear hx hy hcell hcell'
        by_cases hxy : x = y
        · have hb : (x != y) = false := by simpa using hxy
          have Hxy := hide hxy
          clear hxy
          go_wp2
          go_quiet (fail)
          go_wp2
          go_roundw
          case rel =>
            refine ⟨k + 1, by omega, by go_num, hide (fun j hj => ?_), below_drewN hbel _⟩
            by_cases hjk : j < k
            · exact unhide heq j hjk
            · obtain rfl : j = k := by omega
              rw [← unhide Hx, ← unhide Hy, unhide Hxy]
          case measure => simp [intOf]; omega
        · have hb : (x != y) = true := by simpa using hxy
          have Hxy := hide hxy
          clear hxy
          go_wp2
          go_quiet (fail)
          go_wp2
          go_ret
          have hd : decide (zs = zs') = false := by
            rw [decide_eq_false_iff_not]
            intro e
            apply unhide Hxy
            rw [unhide Hx, unhide Hy, e]
          rw [hd]
          exact ⟨rfl, below_drewN hbel _⟩
      · have hd := hide (show decide (zs = zs') = true from by
          rw [decide_eq_true_iff]
          exact getD_ext (by rw [h.len, h'.len]) (fun j hj => unhide heq j (by have := h.len; omega)))
        go_wp2
        go_ret
        rw [unhide hd]
        exact ⟨rfl, hbel⟩
  · have hne : ((n : Int) != (n' : Int)) = true := by simp; omega
    have hd := hide (show decide (zs = zs') = false from by
      rw [decide_eq_false_iff_not]
      intro e
      apply hl
      rw [← h.len, ← h'.len, e])
    go_enter Try.func127, Try.ntmps127
    go_wp2
    go_ret
    rw [unhide hd]
    exact ⟨rfl, Below.refl _ _⟩

def numTo (m : Int) (g : List Int) : Nat → Int
  | 0 => g.getD 0 0 % m
  | j + 1 => numTo m g j * 64 + g.getD (j + 1) 0 % 64
theorem numTo_bd (m : Int) (hm0 : 1 ≤ m) (hm : m ≤ 128) (g : List Int) (hg : Byt g) (j : Nat) (hj : j ≤ 3) : 0 ≤ numTo m g j ∧ numTo m g j ≤ 33554431 := by
  have h0 := byt_getD hg 0
  have e0 : 0 ≤ g.getD 0 0 % m ∧ g.getD 0 0 % m ≤ 127 := ⟨Int.emod_nonneg _ (by omega), by have := Int.emod_lt_of_pos (g.getD 0 0) (show 0 < m by omega); omega⟩
  match j, hj with
  | 0, _ => unfold numTo; omega
  | 1, _ => unfold numTo numTo; omega
  | 2, _ => unfold numTo numTo numTo; omega
  | 3, _ => unfold numTo numTo numTo numTo; omega
set_option maxHeartbeats 1000000 in
theorem number_any (a : Option Addr) (k m c : Nat) (g : List Int) (w : World) (h : Row .u8 w a k c g) (hg : Byt g) (hkm : (k = 1 ∧ m = 128) ∨ (k = 2 ∧ m = 32) ∨ (k = 3 ∧ m = 16) ∨ (k = 4 ∧ m = 8)) :
    Calls Try.prog 125 #[.slice a k c] w fun e w' => e = .returned (.int .i32 (numTo m g (k - 1))) ∧ Below w.heap.size w w' := by
  have k1 : 1 ≤ k := by omega
  have k4 : k ≤ 4 := by omega
  have m0 : 1 ≤ m := by omega
  have m1 : m ≤ 128 := by omega
  rcases h.at_ with h0 | ⟨b, off, rfl, hbw, hcell⟩
  · omega
  obtain ⟨o, ho⟩ : ∃ o, o = Obj.cells #[.int .i64 0, .int .i64 128, .int .i64 32, .int .i64 16, .int .i64 8] 3 (0, 0) := ⟨_, rfl⟩
  have hf : (w.alloc o).cell? ⟨w.heap.size, k, none⟩ = some (.int .i64 (m : Int)) := by
    rw [ho, World.cell?_alloc_at _ _ _ _ rfl]
    rcases hkm with ⟨rfl, rfl⟩ | ⟨rfl, rfl⟩ | ⟨rfl, rfl⟩ | ⟨rfl, rfl⟩ <;> rfl
  have hbel0 : Below w.heap.size w (w.alloc o) := (Below.refl _ _).alloc (Nat.le_refl _) o
  have hc0 := (hbel0.cell (p := ⟨b, off + 0, none⟩) hbw).trans (hcell 0 (by omega))
  rw [Nat.add_zero] at hc0
  have hb0 := byt_getD hg 0
  obtain ⟨x, hx⟩ : ∃ x, x = g.getD 0 0 := ⟨_, rfl⟩
  rw [← hx] at hc0 hb0
  have x0 := hb0.1
  have x1 := hb0.2
  have Hx := hide hx
  have ki1 : (0 : Int) < (k : Int) := by omega
  have ki5 : (k : Int) < 5 := by omega
  have kn : 0 < k := by omega
  have mi0 : (1 : Int) ≤ (m : Int) := by omega
  have mne : ((m : Int) == 0) = false := by simp; omega
  have HC := hide hcell
  have HK := hide hkm
  have HO := hide ho
  clear hx hb0 hcell hkm ho
  go_enter Try.func125, Try.ntmps125
  go_wp2
  rw [← unhide HO]
  go_quiet (fail)
  clear HO
  go_wp2
  go_loopw [4, 5] (fun nv i wr => ∃ j : Nat, j + 1 ≤ k ∧ i = .int .i64 ((j : Int) + 1) ∧ nv = .int .i64 (numTo m g j) ∧ Below w.heap.size w wr) (fun _ i _ => k - (intOf i).toNat)
  case atStart => exact ⟨0, by omega, rfl, by rw [unhide Hx]; rfl, below_drewN hbel0 _⟩
  case round =>
    obtain ⟨j, hj, rfl, rfl, hbel⟩ := hrel
    have hbd := numTo_bd m (by omega) (by omega) g hg j (by omega)
    have p0 := hbd.1
    have p1 := hbd.2
    by_cases hlt : j + 1 < k
    · have hc := (hbel.cell (p := ⟨b, off + (j + 1), none⟩) hbw).trans (unhide HC (j + 1) hlt)
      have hyb := byt_getD hg (j + 1)
      have hnext := hide (show numTo m g (j + 1) = numTo m g j * 64 + g.getD (j + 1) 0 % 64 from rfl)
      generalize numTo m g j = N at *
      generalize g.getD (j + 1) 0 = y at *
      have y0 := hyb.1
      have y1 := hyb.2
      have hlti : (j : Int) + 1 < (k : Int) := by omega
      clear hyb hbd hf hc0
      go_wp2
      go_roundw
      case rel => exact ⟨j + 1, by omega, by go_num, by rw [unhide hnext], hbel⟩
      case measure => simp [intOf]; omega
    · have ej := hide (show k - 1 = j from by omega)
      have hlti : ¬ (j : Int) + 1 < (k : Int) := by omega
      clear hf hc0
      go_wp2
      go_ret
      rw [unhide ej]
      exact ⟨rfl, hbel⟩

theorem Row.take {k : IntKind} {w : World} {a : Option Addr} {n c : Nat} {l : List Int} (h : Row k w a n c l) {m : Nat} (hm : m ≤ n) : Row k w a m c (l.take m) := by
  refine ⟨by simp [h.len]; omega, Nat.le_trans hm h.le, h.nil, ?_⟩
  rcases h.at_ with h0 | ⟨b, off, ha, hb, hc⟩
  · exact .inl (by omega)
  · exact .inr ⟨b, off, ha, hb, fun i hi => by rw [hc i (by omega)]; simp [List.getD, hi]⟩
def mOf (k : Nat) : Nat := if k = 1 then 128 else if k = 2 then 32 else if k = 3 then 16 else 8
theorem mOf_cases (k : Nat) (h1 : 1 ≤ k) (h4 : k ≤ 4) : (k = 1 ∧ mOf k = 128) ∨ (k = 2 ∧ mOf k = 32) ∨ (k = 3 ∧ mOf k = 16) ∨ (k = 4 ∧ mOf k = 8) := by
  unfold mOf; repeat' split
  all_goals omega
def numK (l : List Int) (k : Nat) : Int := numTo (mOf k) (l.take k) (k - 1)
def hit (l : List Int) (k : Nat) : Prop := scP (numK l k) ∧ putB (numK l k) = l.take k
theorem num_put (c : Int) (h : scP c) : numTo (mOf (putB c).length) (putB c) ((putB c).length - 1) = c := by
  unfold scP at h
  by_cases h1 : c < 128
  · rw [putB_1 h1]
    show c % 128 = c
    omega
  by_cases h2 : c < 2048
  · rw [putB_2 (by omega) h2]
    show (192 + c / 64) % 32 * 64 + (128 + c % 64) % 64 = c
    omega
  by_cases h3 : c < 65536
  · rw [putB_3 (by omega) h3]
    show ((224 + c / 4096) % 16 * 64 + (128 + c / 64 % 64) % 64) * 64 + (128 + c % 64) % 64 = c
    omega
  · rw [putB_4 (by omega)]
    show (((240 + c / 262144) % 8 * 64 + (128 + c / 4096 % 64) % 64) * 64 + (128 + c / 64 % 64) % 64) * 64 + (128 + c % 64) % 64 = c
    omega
theorem oneL_zero (l : List Int) (h : (oneL l).2 = 0) : oneL l = (0, 0) := by
  unfold oneL oneQ at h ⊢
  repeat' split at h
  all_goals first | (simp at h; done) | skip
  rw [if_neg ‹_›, if_neg ‹_›, if_neg ‹_›, if_neg ‹_›]
theorem hit_one (l : List Int) (k : Nat) (hk : k ≤ l.length) (h : hit l k) : oneL l = (numK l k, k) := by
  obtain ⟨h1, h2⟩ := h
  have e : l = putB (numK l k) ++ l.drop k := by rw [h2, List.take_append_drop]
  have hl : (putB (numK l k)).length = k := by rw [h2]; simp; omega
  have := one_put (numK l k) h1 (l.drop k)
  rw [← e, hl] at this
  exact this
theorem no_hit (l : List Int) (hb : Byt l) (h : ∀ j, 1 ≤ j → j ≤ 4 → j ≤ l.length → ¬ hit l j) : oneL l = (0, 0) := by
  by_cases h0 : (oneL l).2 = 0
  · exact oneL_zero l h0
  · exfalso
    obtain ⟨h1, h2, h3⟩ := one_back l hb h0
    have ht := take_of l _ _ _ h2 h3
    refine h (oneL l).2 (by omega) (oneL_4 l) (oneL_le l) ?_
    have hn : numK l (oneL l).2 = (oneL l).1 := by
      unfold numK
      rw [ht]
      have := num_put _ h1
      rw [← h3] at this
      exact this
    exact ⟨by rw [hn]; exact h1, by rw [hn, ht]⟩
theorem no_more {l : List Int} {k : Nat} (h : ∀ j, 1 ≤ j → j < k → ¬ hit l j) (hk : ¬ hit l k) : ∀ j, 1 ≤ j → j < k + 1 → ¬ hit l j := by
  intro j h1 h2
  by_cases e : j = k
  · subst e; exact hk
  · exact h j h1 (by omega)
set_option maxHeartbeats 2000000 in
theorem one_any (a : Option Addr) (n c : Nat) (l : List Int) (w : World) (h : Row .u8 w a n c l) (hz : Byt l) (hn : n ≤ 9223372036854775807) :
    Calls Try.prog 111 #[.slice a n c] w fun e w' => e = .returned (.tuple #[.int .i32 (oneL l).1, .int .i64 ((oneL l).2 : Int)]) ∧ Below w.heap.size w w' := by
  go_enter Try.func111, Try.ntmps111
  go_wp2
  go_loopw [4] (fun i wr => ∃ k : Nat, 1 ≤ k ∧ k ≤ 5 ∧ k ≤ n + 1 ∧ i = .int .i64 k ∧ Hid (∀ j, 1 ≤ j → j < k → ¬ hit l j) ∧ Below w.heap.size w wr) (fun i _ => 5 - (intOf i).toNat)
  case atStart => exact ⟨1, by omega, by omega, by omega, rfl, hide (fun j h1 h2 => by omega), Below.refl _ _⟩
  case round =>
    obtain ⟨k, k1, k5, kn, rfl, hno, hbel⟩ := hrel
    by_cases h4 : k ≤ 4
    · by_cases hkn : k ≤ n
      · have hr := (h.below hbel).take hkn
        rcases h.at_ with h0 | ⟨b, off, rfl, hbw, hcell⟩
        · omega
        have kc := h.le
        have kci : (k : Int) ≤ (c : Int) := by omega
        have hN := hide (number_any _ k (mOf k) c (l.take k) wr hr (fun z hz' => hz z (List.mem_of_mem_take hz')) (mOf_cases k k1 h4))
        obtain ⟨C, hC⟩ : ∃ C, C = numK l k := ⟨_, rfl⟩
        have hnx := hide (show numTo (mOf k) (l.take k) (k - 1) = C from by rw [hC]; rfl)
        rw [unhide hnx] at hN
        have HC := hide hC
        clear hC hcell
        go_wp2_with fail
        refine (unhide hN).mono ?_
        rintro e w1 ⟨rfl, hb1⟩
        have hbel1 := hbel.trans (hb1.mono hbel.size)
        have hr1 := hr.below hb1
        clear hN hr hb1 hbel
        by_cases hs : scP C
        · have hpl := putB_len C
          obtain ⟨P, hP⟩ : ∃ P, P = putB C := ⟨_, rfl⟩
          have R := hide (put_yes C w1 hs)
          obtain ⟨o, ho⟩ : ∃ o, o = Obj.cells ((putB C).map (Value.int .u8)).toArray 5 (0, 0) := ⟨_, rfl⟩
          have hlit := put_lit w1 (putB C) (putB C).length (by unfold maxLen; omega) rfl
          rw [← ho] at R hlit
          rw [← hP] at R hlit hpl
          have hbo : Below w1.heap.size w1 (w1.alloc o) := (Below.refl _ _).alloc (Nat.le_refl _) o
          have hrp : Row .u8 (w1.alloc o) (some ⟨w1.heap.size, 0, none⟩) P.length P.length P := by
            obtain ⟨a', cap', e', hr'⟩ := own_row hlit
            simp only [Value.slice.injEq] at e'
            obtain ⟨rfl, _, rfl⟩ := e'
            exact hr'
          have hr2 := hr1.below hbo
          have hbel2 : Below w.heap.size w (w1.alloc o) := hbel1.trans (hbo.mono hbel1.size)
          have HP := hide hP
          clear ho hP hlit hbo
          by_cases hlen : P.length = k
          · have hb : ((P.length : Int) == (k : Int)) = true := by simp; omega
            by_cases heq : P = l.take k
            · have hone := hide (hit_one l k (by rw [h.len]; exact hkn) ⟨by rw [← unhide HC]; exact hs, by rw [← unhide HC, ← unhide HP]; exact heq⟩)
              have S := hide (same_any _ _ P.length k _ _ P (l.take k) (w1.alloc o) hrp hr2 (by omega))
              have hd : decide (P = l.take k) = true := by simpa using heq
              rw [hd] at S
              clear hlen heq hd
              go_wp2_with fail
              refine (unhide R).mono ?_
              rintro e w' ⟨rfl, rfl⟩
              clear R
              go_wp2_with fail
              refine (unhide S).mono ?_
              rintro e w3 ⟨rfl, hb3⟩
              clear S
              go_wp2
              go_ret2
              rw [unhide hone, ← unhide HC]
              exact ⟨rfl, hbel2.trans (hb3.mono hbel2.size)⟩
            · have hnot := hide (show ¬ hit l k from fun hh => heq (by rw [unhide HP, unhide HC]; exact hh.2))
              have S := hide (same_any _ _ P.length k _ _ P (l.take k) (w1.alloc o) hrp hr2 (by omega))
              have hd : decide (P = l.take k) = false := by simpa using heq
              rw [hd] at S
              clear hlen heq hd
              go_wp2_with fail
              refine (unhide R).mono ?_
              rintro e w' ⟨rfl, rfl⟩
              clear R
              go_wp2_with fail
              refine (unhide S).mono ?_
              rintro e w3 ⟨rfl, hb3⟩
              clear S
              go_wp2
              go_roundw
              case rel => exact ⟨k + 1, by omega, by omega, by omega, by go_num, hide (no_more (unhide hno) (unhide hnot)), hbel2.trans (hb3.mono hbel2.size)⟩
              case measure => simp [intOf]; omega
          · have hb : ((P.length : Int) == (k : Int)) = false := by simp; omega
            have hnot := hide (show ¬ hit l k from fun hh => hlen (by rw [unhide HP, unhide HC, hh.2]; simp [h.len]; omega))
            clear hlen
            go_wp2_with fail
            refine (unhide R).mono ?_
            rintro e w' ⟨rfl, rfl⟩
            clear R
            go_wp2
            go_roundw
            case rel => exact ⟨k + 1, by omega, by omega, by omega, by go_num, hide (no_more (unhide hno) (unhide hnot)), hbel2⟩
            case measure => simp [intOf]; omega
        · have hnot := hide (show ¬ hit l k from fun hh => hs (by rw [unhide HC]; exact hh.1))
          have hb : ((0 : Int) == (k : Int)) = false := by simp; omega
          go_wp2_with fail
          refine (put_no C _ hs).mono ?_
          rintro e w' ⟨rfl, rfl⟩
          go_wp2
          go_roundw
          case rel => exact ⟨k + 1, by omega, by omega, by omega, by go_num, hide (no_more (unhide hno) (unhide hnot)), hbel1⟩
          case measure => simp [intOf]; omega
      · have hfin := hide (no_hit l hz (fun j h1 h2 h3 => unhide hno j h1 (by rw [h.len] at h3; omega)))
        go_wp2
        go_ret2
        rw [unhide hfin]
        exact ⟨rfl, hbel⟩
    · have hfin := hide (no_hit l hz (fun j h1 h2 h3 => unhide hno j h1 (by omega)))
      go_wp2
      go_ret2
      rw [unhide hfin]
      exact ⟨rfl, hbel⟩
end Go.Proofs.Ytmlgbglaifnhgaa.mem
namespace Go.Proofs.Ytmlgbglaifnhgaa.mem
open Go.ChangeShapes Go.WideShapes Go.ChangeAt Go.RowKit
open ints (hide unhide)
set_option linter.unusedVariables false

theorem Row.drop {k : IntKind} {w : World} {b off n c : Nat} {l : List Int} (h : Row k w (some ⟨b, off, none⟩) n c l) {m : Nat} (hm : m ≤ n) (hbw : b < w.heap.size) (hcell : ∀ i, i < n → w.cell? ⟨b, off + i, none⟩ = some (.int k (l.getD i 0))) :
    Row k w (some ⟨b, off + m, none⟩) (n - m) (c - m) (l.drop m) := by
  refine ⟨by simp [h.len], by have := h.le; omega, (fun e => by cases e), .inr ⟨b, off + m, rfl, hbw, fun i hi => ?_⟩⟩
  rw [Nat.add_assoc, hcell (m + i) (by omega), drop_getD]
theorem cell_one (w : World) (x : Value) (t : TypeId) : ∀ j u, [x][j]? = some u → (w.alloc (.cells #[x] t)).cell? ((⟨w.heap.size, 0, none⟩ : Addr).add j) = some u := by
  intro j u hj
  match j, hj with
  | 0, hj => simp at hj; subst hj; simp [Addr.add]
  | (j + 1), hj => simp at hj
set_option maxHeartbeats 2000000 in
theorem rdecode_any (a : Option Addr) (n c : Nat) (l : List Int) (w : World) (h : Row .u8 w a n c l) (hz : Byt l) (hn : 4 * n ≤ 140737488355328) :
    Calls Try.prog 85 #[.slice a n c] w fun e w' => ∃ v, e = .returned (.tuple #[v, .int .i64 ((decZ l).2 : Int)]) ∧
      w'.ownsRow w.heap.size 21 1 v (decZ l).1.length ((decZ l).1.map (Value.int .i32)) ∧ Below w.heap.size w w' := by
  obtain ⟨i0, hi, hz0, hz1, hz2⟩ := info_parts info32
  go_enter Try.func85, Try.ntmps85
  go_wp2
  go_loopw [4, 5] (fun v i wr => ∃ (pos f : Nat) (acc : List Int), pos ≤ n ∧ n - pos ≤ f ∧ i = .int .i64 pos ∧ wr.ownsRow w.heap.size 21 1 v acc.length (acc.map (Value.int .i32)) ∧ acc.length ≤ pos ∧
      Hid (acc ++ (decF f (l.drop pos)).1 = (decZ l).1) ∧ Hid (pos + (decF f (l.drop pos)).2 = (decZ l).2) ∧ Below w.heap.size w wr) (fun _ i _ => n - (intOf i).toNat)
  case atStart => exact ⟨0, l.length, [], Nat.zero_le _, by rw [h.len]; omega, rfl, World.ownsRow_nil _ _ _ _, Nat.le_refl _, hide (by simp [decZ]), hide (by simp [decZ]), Below.refl _ _⟩
  case round =>
    obtain ⟨pos, f, acc, hpn, hf, rfl, hown, hacc, hA, hB, hbel⟩ := hrel
    by_cases hlt : pos < n
    · rcases h.at_ with h0 | ⟨b, off, rfl, hbw, hcell⟩
      · omega
      have hr := (h.below hbel).drop (m := pos) (by omega) (Nat.lt_of_lt_of_le hbw hbel.size) (fun i hi => (hbel.cell (p := ⟨b, off + i, none⟩) hbw).trans (hcell i hi))
      have hle := h.le
      have O := hide (one_any _ _ _ _ wr hr (byt_drop hz pos) (by omega))
      obtain ⟨x, hx⟩ : ∃ x, x = (oneL (l.drop pos)).1 := ⟨_, rfl⟩
      obtain ⟨d, hd⟩ : ∃ d, d = (oneL (l.drop pos)).2 := ⟨_, rfl⟩
      rw [← hx, ← hd] at O
      have hdl := oneL_le (l.drop pos)
      rw [← hd, List.length_drop, h.len] at hdl
      have hcp : ¬ c = pos := by omega
      have pni : (pos : Int) < (n : Int) := by omega
      by_cases h0 : d = 0
      · have hfin := hide (show decF f (l.drop pos) = ([], 0) from decF_end _ _ (by rw [← hd]; exact h0))
        have hbz : ((d : Int) == 0) = true := by simp; omega
        have e1 := hide (show (decZ l).1 = acc from by have := unhide hA; rw [unhide hfin] at this; simpa using this.symm)
        have e2 := hide (show (decZ l).2 = pos from by have := unhide hB; rw [unhide hfin] at this; simpa using this.symm)
        have Hown := hide hown
        clear hx hd h0 hcell hr hA hB hfin hown
        go_wp2_with fail
        refine (unhide O).mono ?_
        rintro e w1 ⟨rfl, hb1⟩
        clear O
        go_wp2
        go_ret2
        rw [unhide e1, unhide e2]
        exact ⟨_, rfl, own_below (unhide Hown) hb1, hbel.trans (hb1.mono hbel.size)⟩
      · have hbz : ((d : Int) == 0) = false := by simp; omega
        obtain ⟨f', rfl⟩ : ∃ f', f = f' + 1 := ⟨f - 1, by omega⟩
        have hgo := decF_go f' (l.drop pos) (by rw [← hd]; exact h0)
        rw [← hd, ← hx, List.drop_drop] at hgo
        have e1 := hide (show (acc ++ [x]) ++ (decF f' (l.drop (pos + d))).1 = (decZ l).1 from by have := unhide hA; rw [hgo] at this; simpa using this)
        have e2 := hide (show pos + d + (decF f' (l.drop (pos + d))).2 = (decZ l).2 from by have := unhide hB; rw [hgo] at this; simp only at this; omega)
        have Hown := hide hown
        have d1 : 1 ≤ d := by omega
        clear hx hd h0 hcell hr hA hB hgo hown
        go_wp2_with fail
        refine (unhide O).mono ?_
        rintro e w1 ⟨rfl, hb1⟩
        clear O
        have hown1 := own_below (unhide Hown) hb1
        have hbel1 := hbel.trans (hb1.mono hbel.size)
        have hcel := cell_one w1 (.int .i32 x) 21
        have Hlt := hide hown1.lt
        clear Hown hb1 hbel
        go_wp2_with (at_builtin; refine wpList_append_own _ rfl _ _ 121 rfl w.heap.size 21 i0 (.int .i32 0) 1 4 Try.underlying121 hi hz0 hz1 hz2 rfl (by decide) _ _ _ rfl (hown1.alloc _) ⟨w1.heap.size, 0, none⟩ 1 1 [.int .i32 x] rfl (by simp) hcel (by intro u hu; simp at hu; subst hu; rfl) (by unfold maxLen; omega) (by omega) (by have := hbel1.size; simp; omega) ?_; intro v' w2 hown' hgrow _)
        go_roundw
        case rel =>
          refine ⟨pos + d, f', acc ++ [x], by omega, by omega, by go_num, by simpa using hown', by simp; omega, e1, e2, ?_⟩
          exact (hbel1.alloc hbel1.size _).grown hgrow (by have := hbel1.size; simp; omega) (fun k hk => (unhide Hlt k hk).1)
        case measure => simp [intOf]; omega
    · have hnil : l.drop pos = [] := List.drop_eq_nil_of_le (by rw [h.len]; omega)
      have hfin := hide (show decF f (l.drop pos) = ([], 0) from decF_end _ _ (by rw [hnil]; rfl))
      have e1 := hide (show (decZ l).1 = acc from by have := unhide hA; rw [unhide hfin] at this; simpa using this.symm)
      have e2 := hide (show (decZ l).2 = pos from by have := unhide hB; rw [unhide hfin] at this; simpa using this.symm)
      clear hnil hA hB hfin
      go_wp2
      go_ret2
      rw [unhide e1, unhide e2]
      exact ⟨_, rfl, hown, hbel⟩
end Go.Proofs.Ytmlgbglaifnhgaa.mem
namespace Go.Proofs.Ytmlgbglaifnhgaa.og
open Go.ChangeShapes Go.WideShapes Go.ChangeAt Go.RowKit
open vl hiding cB cFl cS cF cI cK cIt
open stp (St Pth St3)
set_option linter.unusedVariables false
set_option linter.unusedSimpArgs false
mutual
/-- a value's bulk: its parts, their texts and names -/
def wtV : Vl → Nat
  | .mk _ _ _ _ tx _ its fls => 1 + tx.size + wtI its + wtF fls
def wtI : Vls → Nat
  | .nil => 0
  | .cons v r => wtV v + wtI r
def wtF : Fls → Nat
  | .nil => 0
  | .cons nm v r => nm.size + wtV v + wtF r
end
theorem wtI_mem {v : Vl} : ∀ {l : Vls}, v ∈ l.list → wtV v ≤ wtI l
  | .nil, h => by simp [Vls.list] at h
  | .cons u r, h => by
    simp only [Vls.list, List.mem_cons] at h
    rw [wtI]
    rcases h with rfl | h
    · omega
    · have := wtI_mem h; omega
theorem wtF_mem {q : ByteArray × Vl} : ∀ {l : Fls}, q ∈ l.list → q.1.size + wtV q.2 ≤ wtF l
  | .nil, h => by simp [Fls.list] at h
  | .cons nm u r, h => by
    simp only [Fls.list, List.mem_cons] at h
    rw [wtF]
    rcases h with rfl | h
    · simp only; omega
    · have := wtF_mem h; omega
mutual
theorem cnt_wt : ∀ v : Vl, cnt v ≤ wtV v
  | .mk kd _ _ _ tx _ its fls => by
    have h1 := cntI_wt its
    have h2 := cntF_wt fls
    rw [cnt, wtV]
    split
    · omega
    · split <;> omega
theorem cntI_wt : ∀ l : Vls, cntI l ≤ wtI l
  | .nil => Nat.le_refl _
  | .cons v r => by have h1 := cnt_wt v; have h2 := cntI_wt r; rw [cntI, wtI]; omega
theorem cntF_wt : ∀ l : Fls, cntF l ≤ wtF l
  | .nil => Nat.le_refl _
  | .cons _ v r => by have h1 := cnt_wt v; have h2 := cntF_wt r; rw [cntF, wtF]; omega
end
theorem kid_wt {v : Vl} : ∀ p ∈ kids v, wtV p.2 ≤ wtV v := by
  obtain ⟨kd, b, n, f, tx, ty, its, fls⟩ := v
  refine mem_kids (P := fun u => wtV u ≤ wtV (.mk kd b n f tx ty its fls)) (fun u hu => ?_) (fun q hq => ?_)
  · have := wtI_mem hu; rw [wtV]; omega
  · have := wtF_mem hq; rw [wtV]; omega
theorem conv_bytes (s : ByteArray) (w : World) : ∃ cap W2, (convert 9 87 (.string s)).run Try.prog w = .ok (.slice (some ⟨w.heap.size, 0, none⟩) s.size cap) W2 ∧
    mem.Row .u8 W2 (some ⟨w.heap.size, 0, none⟩) s.size cap (mem.bytesZ s) ∧ Below w.heap.size w W2 := by
  have h := run_bytes_of_string (P := Try.prog) w 9 87 5 s Try.underlying9 Try.underlying87 Try.underlying5
  refine ⟨_, _, h, ⟨mem.bytesZ_len s, grownCap_ge _ _ _ _, (fun e => by cases e), .inr ⟨w.heap.size, 0, rfl, by simp, fun i hi => ?_⟩⟩, (Below.refl _ _).drew.alloc (Nat.le_refl _) _⟩
  have e : (w.drew.alloc (.cells (bytesRow s (grownCap w s.size 0 5)) 5 ((bytesRow s (grownCap w s.size 0 5)).size, (bytesRow s (grownCap w s.size 0 5)).size + 1))).cell? ⟨w.drew.heap.size, 0 + i, none⟩ = (bytesRow s (grownCap w s.size 0 5))[0 + i]? := World.cell?_alloc_mark _ _ _ _ _
  refine e.trans ?_
  have hi' : i < s.data.size := hi
  unfold bytesRow mem.bytesZ
  rw [Nat.zero_add, Array.getElem?_append_left (by simpa using hi')]
  have e2 : (s.data.toList.map fun b => (b.toNat : Int)).getD i 0 = ((s.data[i]'hi').toNat : Int) := by simp [List.getD, Array.getElem?_eq_getElem hi']
  rw [e2, Array.getElem?_map, Array.getElem?_eq_getElem hi']
  rfl
theorem rclean_ok (s : ByteArray) (a : Option Addr) (c : Nat) (w : World) (h : mem.Row .u8 w a s.size c (mem.bytesZ s)) (hs : s.size ≤ 1048576) : Calls Try.prog 50 #[.slice a s.size c] w fun e w' => e = .returned (.bool (clnS s)) ∧ Below w.heap.size w w' := by
  have D := hide (mem.rdecode_any a s.size c _ w h (mem.bytesZ_byt s) (by omega))
  have hC := hide (show clnS s = ((((mem.decZ (mem.bytesZ s)).2 : Nat) : Int) == (s.size : Int)) from rfl)
  generalize clnS s = C at *
  generalize (mem.decZ (mem.bytesZ s)).2 = d at *
  generalize s.size = n at *
  clear h
  go_enter Try.func50, Try.ntmps50
  go_wp2_with fail
  refine (unhide D).mono ?_
  rintro e w1 ⟨v, rfl, -, b1⟩
  clear D
  go_wp2
  go_ret
  exact ⟨by rw [unhide hC]; rfl, b1⟩
end Go.Proofs.Ytmlgbglaifnhgaa.og
namespace Go.Proofs.Ytmlgbglaifnhgaa.og
open Go.ChangeShapes Go.WideShapes Go.ChangeAt Go.RowKit
open vl hiding cB cFl cS cF cI cK cIt
set_option linter.unusedVariables false
set_option linter.unusedSimpArgs false
/-- the name of member k -/
def nmK (fls : Fls) (k : Nat) : ByteArray := ((fls.list.map (·.1))[k]?).getD ⟨#[]⟩
theorem nmK_of {fls : Fls} {k : Nat} {nm : ByteArray} {v : Vl} (h : fls.list[k]? = some (nm, v)) : nmK fls k = nm := by
  unfold nmK
  rw [List.getElem?_map, h]
  rfl
theorem seen_no {fls : Fls} {k : Nat} {nm : ByteArray} (hk : k ≤ fls.list.length) (h : ∀ j, j < k → ((nmK fls j).toList == nm.toList) = false) : (seenN fls k).contains nm.data.toList = false := by
  rw [Bool.eq_false_iff]
  intro hc
  rw [List.contains_iff_exists_mem_beq] at hc
  obtain ⟨x, hx, e⟩ := hc
  have e : nm.data.toList = x := by simpa using e
  unfold seenN at hx
  rw [List.mem_map] at hx
  obtain ⟨s, hs, rfl⟩ := hx
  obtain ⟨j, hj, hjs⟩ := List.mem_take_iff_getElem.1 hs
  have h2 := h j (by simp at hj; omega)
  have h3 : nmK fls j = s := by
    unfold nmK
    rw [List.getElem?_eq_getElem (by simp at hj ⊢; omega), hjs]
    rfl
  rw [h3, stp.toList_data, stp.toList_data, e] at h2
  simp at h2
theorem seen_yes {fls : Fls} {k j : Nat} {nm : ByteArray} (hk : k ≤ fls.list.length) (hj : j < k) (h : ((nmK fls j).toList == nm.toList) = true) : (seenN fls k).contains nm.data.toList = true := by
  rw [List.contains_iff_exists_mem_beq]
  have hjl : j < (fls.list.map (·.1)).length := by simp; omega
  refine ⟨(nmK fls j).data.toList, ?_, ?_⟩
  · unfold seenN
    refine List.mem_map.2 ⟨nmK fls j, List.mem_take_iff_getElem.2 ⟨j, by simp; omega, ?_⟩, rfl⟩
    unfold nmK
    rw [List.getElem?_eq_getElem hjl]
    rfl
  · rw [stp.toList_data, stp.toList_data] at h
    have : (nmK fls j).data.toList = nm.data.toList := by simpa using h
    rw [this]
    simp
set_option maxHeartbeats 8000000 in
set_option maxRecDepth 100000 in
theorem flaw6 (b : Bool) (m : Int) (f : Nat) (tx ty : ByteArray) (its : Vls) (fls : Fls) (cs : List Value) (w : World) (hv : VlC w (.mk 6 b m f tx ty its fls) cs) (hwt : wtV (.mk 6 b m f tx ty its fls) ≤ 1048576) (hn : fls.list.length ≤ 1099511627776) :
    Calls Try.prog 26 #[.agg cs.toArray] w fun e w' => e = .returned (.int .i64 (nmF [] (fls.list.map (·.1)))) ∧ Below w.heap.size w w' := by
  unfold VlC at hv
  obtain ⟨ai, ni, ci, af, nf, cf, rfl, -, hFl, -, hnf, -, -, -, -, -, -, -, -⟩ := hv
  have hsf := storeF
  have hlen := FlsAt.len fls _ _ hFl
  obtain ⟨R, hR⟩ : ∃ R, nmF [] (fls.list.map (·.1)) = R := ⟨_, rfl⟩
  rw [hR]
  have HR := hide hR
  have HL := hide hlen
  have hnn : nf ≤ 1099511627776 := by omega
  have hsz := hide (show ∀ q ∈ fls.list, q.1.size ≤ 1048576 from fun q hq => by have := wtF_mem hq; rw [wtV] at hwt; omega)
  clear hR hlen hn hwt
  have HF := hide hFl
  clear hFl
  go_enter Try.func26, Try.ntmps26
  go_wp2_with fail
  obtain ⟨W0, hW0⟩ : ∃ W0, W0 = w.alloc (.cells #[Value.int IntKind.i64 6, Value.bool b, Value.int IntKind.i64 m, Value.float FloatKind.f64 f, Value.string tx, Value.string ty, Value.slice ai ni ci, Value.slice af nf cf] 27) := ⟨_, rfl⟩
  have hB0 : Below w.heap.size w W0 := by rw [hW0]; exact (Below.refl _ _).alloc (Nat.le_refl _) _
  have s0 : w.heap.size < W0.heap.size := by rw [hW0]; simp
  have z7 : W0.cell? ⟨w.heap.size, 7, none⟩ = some (.slice af nf cf) := by rw [hW0, World.cell?_alloc_at _ _ _ _ rfl]; rfl
  rw [← hW0]
  have Z7 := hide z7
  clear hW0 z7
  go_loopw [3] (fun vi wr => ∃ k : Nat, k ≤ nf ∧ vi = .int .i64 k ∧ vl.Hid (nmF (seenN fls k) ((fls.list.map (·.1)).drop k) = R) ∧ Below W0.heap.size W0 wr) (fun vi _ => nf - (intOf vi).toNat)
  case atStart => exact ⟨0, Nat.zero_le _, rfl, HR, Below.refl _ _⟩
  case round =>
    obtain ⟨k, hk, rfl, hres, hb⟩ := hrel
    have z7 : wr.cell? ⟨w.heap.size, 7, none⟩ = some (.slice af nf cf) := (hb.cell (p := ⟨w.heap.size, 7, none⟩) s0).trans (unhide Z7)
    by_cases hlt : k < nf
    · obtain ⟨p, off, nm, v, us, rfl, hg, hc0, hnm, -, -⟩ := FlsAt.get fls _ nf (unhide HF) k hlt
      have hpl : p < w.heap.size := World.block_lt_of_cell? w _ hc0
      have c0 : wr.cell? ⟨p, off + k * 9, none⟩ = some (.string nm) := ((hB0.trans (hb.mono hB0.size)).cell (p := ⟨p, off + k * 9, none⟩) hpl).trans hc0
      have hstep := nmF_step hg
      rw [unhide hres] at hstep
      have HS := hide hstep
      have hss : nm.size ≤ 1048576 := unhide hsz _ (List.mem_of_getElem? hg)
      have HG := hide hg
      obtain ⟨cap, W2, hconv, hrow, b2⟩ := conv_bytes nm wr
      have C := hide (rclean_ok nm _ cap W2 hrow hss)
      have ki : (k : Int) < (nf : Int) := by omega
      have C0 := hide hc0
      clear hstep hg hrow hres hc0
      go_wp2_with fail
      refine (unhide C).mono ?_
      rintro e w3 ⟨rfl, b3⟩
      have hb3 : Below W0.heap.size W0 w3 := (hb.trans (b2.mono hb.size)).trans (b3.mono (Nat.le_trans hb.size b2.size))
      generalize clnS nm = L at *
      clear C b2 b3 hconv c0 z7 hb
      cases L with
      | false =>
        go_wp2
        go_ret
        exact ⟨by rw [unhide HS]; try rfl, hB0.trans (hb3.mono hB0.size)⟩
      | true =>
        go_wp2_with fail
        go_loopw [4] (fun vj ws => ∃ j : Nat, j ≤ k ∧ vj = .int .i64 j ∧ vl.Hid (∀ t, t < j → ((nmK fls t).toList == nm.toList) = false) ∧ Below W0.heap.size W0 ws) (fun vj _ => k - (intOf vj).toNat)
        case atStart => exact ⟨0, Nat.zero_le _, rfl, hide (fun t ht => absurd ht (Nat.not_lt_zero _)), hb3⟩
        case round =>
          obtain ⟨j, hj, rfl, hno, hbj⟩ := hrel
          have z7 : wr.cell? ⟨w.heap.size, 7, none⟩ = some (.slice (some ⟨p, off, none⟩) nf cf) := (hbj.cell (p := ⟨w.heap.size, 7, none⟩) s0).trans (unhide Z7)
          by_cases hlj : j < k
          · obtain ⟨p', off', nmj, v', us', e', hgj, hcj, -, -, -⟩ := FlsAt.get fls _ nf (unhide HF) j (by omega)
            simp only [Option.some.injEq, Addr.mk.injEq, and_true] at e'
            obtain ⟨rfl, rfl⟩ := e'
            have hBw : Below w.heap.size w wr := hB0.trans (hbj.mono hB0.size)
            have c0 : wr.cell? ⟨p, off + j * 9, none⟩ = some (.string nmj) := (hBw.cell (p := ⟨p, off + j * 9, none⟩) hpl).trans hcj
            have c1 : wr.cell? ⟨p, off + k * 9, none⟩ = some (.string nm) := (hBw.cell (p := ⟨p, off + k * 9, none⟩) hpl).trans (unhide C0)
            have hkj := nmK_of hgj
            obtain ⟨B, hB⟩ : ∃ B, (nmj.toList == nm.toList) = B := ⟨_, rfl⟩
            have HB := hide (show ((nmK fls j).toList == nm.toList) = B by rw [hkj]; exact hB)
            have kj : (j : Int) < (k : Int) := by omega
            have jn : (j : Int) < (nf : Int) := by omega
            have hmx := vl.mixed
            clear hkj hgj hcj
            cases B with
            | true =>
              go_wp2_with fail
              go_region
              go_wp2
              go_ret
              refine ⟨?_, hBw.drew⟩
              rw [unhide HS, seen_yes (by rw [unhide HL]; omega) hlj (unhide HB)]
              rfl
            | false =>
              go_wp2_with fail
              go_region
              go_wp2
              go_roundw
              case rel => exact ⟨j + 1, by omega, by simp, hide (fun t ht => by by_cases h : t = j; · rw [h]; exact unhide HB
                                                                                · exact unhide hno t (by omega)), hbj.drew⟩
              case measure => simp [intOf]; omega
          · obtain rfl : j = k := by omega
            have hns := seen_no (by rw [unhide HL]; omega) (unhide hno)
            have hS2 := unhide HS
            rw [hns] at hS2
            have HS2 := hide (show nmF (seenN fls (j + 1)) ((fls.list.map (·.1)).drop (j + 1)) = R by rw [hS2]; rfl)
            clear hns hS2
            go_wp2
            go_roundw
            case rel => exact ⟨j + 1, by omega, by simp, HS2, hbj⟩
            case measure => simp [intOf]; omega
    · have hfin : R = 0 := by
        have := unhide hres
        rw [List.drop_eq_nil_of_le (by rw [List.length_map, unhide HL]; omega)] at this
        rw [← this, nmF]
      subst hfin
      go_wp2
      go_ret
      exact ⟨rfl, hB0.trans (hb.mono hB0.size)⟩
end Go.Proofs.Ytmlgbglaifnhgaa.og
namespace Go.Proofs.Ytmlgbglaifnhgaa.og
open Go.ChangeShapes Go.WideShapes Go.ChangeAt Go.RowKit
open vl hiding cB cFl cS cF cI cK cIt
set_option linter.unusedVariables false
set_option linter.unusedSimpArgs false
set_option maxHeartbeats 8000000 in
set_option maxRecDepth 100000 in
theorem flaw_ok (v : Vl) (cs : List Value) (w : World) (hv : VlC w v cs) (hsm : Small v) (hwt : wtV v ≤ 1048576) : Calls Try.prog 26 #[.agg cs.toArray] w fun e w' => e = .returned (.int .i64 (flw v)) ∧ Below w.heap.size w w' := by
  have hc0 := hv
  obtain ⟨kd, b, m, f, tx, ty, its, fls⟩ := v
  unfold Small at hsm
  obtain ⟨-, hlF, hf, -, -⟩ := hsm
  by_cases h6 : kd = 6
  · subst h6
    rw [show flw (.mk 6 b m f tx ty its fls) = nmF [] (fls.list.map (·.1)) by simp [flw]]
    exact flaw6 b m f tx ty its fls cs w hv hwt hlF
  unfold VlC at hc0
  obtain ⟨ai, ni, ci, af, nf, cf, rfl, -⟩ := hc0
  have htx : tx.size ≤ 1048576 := by rw [wtV] at hwt; omega
  have hsf := storeF
  clear hv hlF hwt
  have bb := hide ((Below.refl w.heap.size w).alloc (Nat.le_refl _) (.cells #[Value.int IntKind.i64 kd, Value.bool b, Value.int IntKind.i64 m, Value.float FloatKind.f64 f, Value.string tx, Value.string ty, Value.slice ai ni ci, Value.slice af nf cf] 27))
  by_cases hlo : kd < 0
  · have HE := hide (show flw (.mk kd b m f tx ty its fls) = 2 by rw [flw, if_pos (.inl hlo)])
    clear h6
    go_enter Try.func26, Try.ntmps26
    go_wp2
    go_ret
    exact ⟨by rw [unhide HE]; try rfl, unhide bb⟩
  by_cases hhi : 7 ≤ kd
  · have HE := hide (show flw (.mk kd b m f tx ty its fls) = 2 by rw [flw, if_pos (.inr hhi)])
    clear h6
    go_enter Try.func26, Try.ntmps26
    go_wp2
    go_ret
    exact ⟨by rw [unhide HE]; try rfl, unhide bb⟩
  by_cases h3 : kd = 3
  · subst h3
    have HE := hide (show flw (.mk 3 b m f tx ty its fls) = if badF f = true then 6 else 0 by simp [flw])
    have sa := (ordSelf f hf).1
    cases hn : nanF f with
    | true =>
      have hb : badF f = true := by unfold nanF at hn; unfold badF; simp at hn ⊢; omega
      have HE := hide (show flw (.mk 3 b m f tx ty its fls) = 6 by rw [unhide HE, if_pos hb])
      rw [hn] at sa
      clear hn hb h6 hlo hhi hf
      go_enter Try.func26, Try.ntmps26
      go_wp2
      go_ret
      exact ⟨by rw [unhide HE]; try rfl, unhide bb⟩
    | false =>
      rw [hn] at sa
      cases hb : badF f with
      | false =>
        have hs : ∀ W, (binOp .sub 23 (.float .f64 f) (.float .f64 f)).run Try.prog W = .ok (.float .f64 0) W := fun W => run_float_arith W _ _ _ _ _ _ (sub_fin f hf hb)
        have z0 : (FloatKind.f64.format.order 0 0 != some Ordering.eq) = false := by decide
        rw [hb] at HE
        clear hn hb h6 hlo hhi hf
        go_enter Try.func26, Try.ntmps26
        go_wp2
        go_ret
        exact ⟨by rw [unhide HE]; try rfl, unhide bb⟩
      | true =>
        obtain ⟨r, hr, hs⟩ := sub_inf f hf hb hn 23 (w.alloc (.cells #[Value.int IntKind.i64 3, Value.bool b, Value.int IntKind.i64 m, Value.float FloatKind.f64 f, Value.string tx, Value.string ty, Value.slice ai ni ci, Value.slice af nf cf] 27))
        rw [hb] at HE
        clear hn hb h6 hlo hhi hf
        go_enter Try.func26, Try.ntmps26
        go_wp2
        go_ret
        exact ⟨by rw [unhide HE]; try rfl, (unhide bb).drew⟩
  by_cases h4 : kd = 4
  · subst h4
    have HE := hide (show flw (.mk 4 b m f tx ty its fls) = if clnS tx = false then 1 else 0 by simp [flw])
    obtain ⟨cap, W2, hconv, hrow, b2⟩ := conv_bytes tx (w.alloc (.cells #[Value.int IntKind.i64 4, Value.bool b, Value.int IntKind.i64 m, Value.float FloatKind.f64 f, Value.string tx, Value.string ty, Value.slice ai ni ci, Value.slice af nf cf] 27))
    have C := hide (rclean_ok tx _ cap W2 hrow htx)
    have bW : Below w.heap.size w W2 := (unhide bb).trans (b2.mono (by simp))
    have y0 : W2.cell? ⟨w.heap.size, 0, none⟩ = some (.int .i64 4) := by rw [b2.cell (p := ⟨w.heap.size, 0, none⟩) (by simp), World.cell?_alloc_at _ _ _ _ rfl]; rfl
    have sW : w.heap.size < W2.heap.size := by have := b2.size; simp at this; omega
    generalize clnS tx = L at *
    have HC := hide hconv
    clear hrow h3 h6 hlo hhi b2
    go_enter Try.func26, Try.ntmps26
    have hcv := unhide HC
    simp only [World.size_alloc] at hcv C
    go_wp2_with fail
    refine (unhide C).mono ?_
    rintro e w3 ⟨rfl, b3⟩
    have y3 : w3.cell? ⟨w.heap.size, 0, none⟩ = some (.int .i64 4) := (b3.cell (p := ⟨w.heap.size, 0, none⟩) sW).trans y0
    have hb3 : Below w.heap.size w w3 := bW.trans (b3.mono bW.size)
    clear C b3 y0 hcv HC hconv
    cases L with
    | true =>
      go_wp2
      go_ret
      exact ⟨by rw [unhide HE]; try rfl, hb3⟩
    | false =>
      go_wp2
      go_ret
      exact ⟨by rw [unhide HE]; try rfl, hb3⟩
  have HE := hide (show flw (.mk kd b m f tx ty its fls) = 0 by rw [flw, if_neg (by omega), if_neg h3, if_neg h4, if_neg h6])
  rcases (show kd = 0 ∨ kd = 1 ∨ kd = 2 ∨ kd = 5 by omega) with rfl | rfl | rfl | rfl
  all_goals
    clear h3 h4 h6 hlo hhi
    go_enter Try.func26, Try.ntmps26
    go_wp2
    go_ret
    exact ⟨by rw [unhide HE]; try rfl, unhide bb⟩
end Go.Proofs.Ytmlgbglaifnhgaa.og
namespace Go.Proofs.Ytmlgbglaifnhgaa.og
open Go.ChangeShapes Go.WideShapes Go.ChangeAt Go.RowKit
open vl hiding cB cFl cS cF cI cK cIt
open stp (St Pth St3)
set_option linter.unusedVariables false
set_option linter.unusedSimpArgs false
theorem OwL.get {E : Type} {Ow : World → E → List Value → List Nat → Prop} {w : World} {size : Nat} (hz : ∀ e cs F, Ow w e cs F → cs.length = size) : ∀ {l : List E} {xss : List (List Value)} {G : List Nat} {k : Nat} {e : E}, OwL Ow w l xss G → l[k]? = some e → ∃ cs F, Ow w e cs F ∧ ∀ j u, cs[j]? = some u → xss.flatten[k * size + j]? = some u
  | [], xss, G, k, e, h, hk => by simp at hk
  | v :: r, xss, G, k, e, h, hk => by
    obtain ⟨cs, l, G1, G2, rfl, h1, h2, rfl⟩ := h
    cases k with
    | zero =>
      obtain rfl : v = e := by simpa using hk
      refine ⟨cs, G1, h1, fun j u hu => ?_⟩
      rw [List.flatten_cons, Nat.zero_mul, Nat.zero_add, List.getElem?_append_left (List.getElem?_eq_some_iff.1 hu).1]
      exact hu
    | succ k =>
      obtain ⟨ds, F, c1, c2⟩ := OwL.get hz h2 (by simpa using hk)
      refine ⟨ds, F, c1, fun j u hu => ?_⟩
      rw [List.flatten_cons, List.getElem?_append_right (by rw [hz _ _ _ h1, Nat.succ_mul]; omega), hz _ _ _ h1, show (k + 1) * size + j - size = k * size + j by rw [Nat.succ_mul]; omega]
      exact c2 j u hu
theorem OwP.nine {V w : World} {q : List St × Vl} {cs : List Value} {F : List Nat} (h : OwP V w q cs F) : cs.length = 9 := by
  obtain ⟨ap, n, c, us, rfl, hv, -⟩ := h
  simp [hv.cells]
/-- a part of the list of parts -/
theorem part_get {V w : World} {B : Nat} {l : List (List St × Vl)} {a : Option Addr} {n c : Nat} {G : List Nat} (h : Grow (OwP V) 44 9 w B l (.slice a n c) G) {k : Nat} {q : List St × Vl} (hk : l[k]? = some q) :
    ∃ g ap m cp us, a = some ⟨g, 0, none⟩ ∧ n = l.length ∧ g < w.heap.size ∧ VlC V q.2 us ∧ Pth w ap m q.1 ∧ w.cell? ⟨g, k * 9, none⟩ = some (.slice ap m cp) ∧ w.rangeAt g (k * 9 + 1) us := by
  obtain ⟨xss, hr, hl⟩ := h.row
  obtain ⟨cs, F, h1, h2⟩ := OwL.get (fun e cs F h => OwP.nine h) hl hk
  have hlt := (List.getElem?_eq_some_iff.1 hk).1
  obtain ⟨g, cap, e, -, hg⟩ := hr.form (by omega)
  simp only [Value.slice.injEq] at e
  obtain ⟨rfl, rfl, rfl⟩ := e
  have hc := hr.cells (v := .slice (some ⟨g, 0, none⟩) l.length c) rfl
  obtain ⟨ap, m, cp, us, rfl, hv, hm, hp⟩ := h1
  have cell : ∀ j u, (Value.slice ap m cp :: us)[j]? = some u → w.cell? ⟨g, k * 9 + j, none⟩ = some u := fun j u hu => by
    have := hc _ u (h2 j u hu)
    rw [Addr.add_mid, Nat.zero_add] at this
    exact this
  refine ⟨g, ap, m, cp, us, rfl, rfl, hg, hv, PO.pth ⟨hm, hp⟩, by simpa using cell 0 _ rfl, fun j u hu => ?_⟩
  rw [show k * 9 + 1 + j = k * 9 + (j + 1) by omega]
  exact cell (j + 1) u (by simpa using hu)
set_option maxHeartbeats 4000000 in
set_option maxRecDepth 100000 in
theorem rparts_ok (v : Vl) (cs : List Value) (w : World) (hv : VlC w v cs) (hsm : Small v) (hc : cnt v ≤ 1048576) : Calls Try.prog 13 #[.agg cs.toArray] w fun e w' => ∃ a n c G, e = .returned (.slice a n c) ∧ Grow (OwP w) 44 9 w' w.heap.size (pts v []) (.slice a n c) G ∧ Below w.heap.size w w' := by
  have P := hide (fun W (hb : Below w.heap.size w W) => parts_ok v hsm w cs W [] none 0 0 [] [] (.slice none 0 0) [] hv hb Grow.nil ⟨rfl, .inl ⟨rfl, rfl⟩⟩ ⟨List.nodup_nil, by simp, fun b hb => by simp at hb⟩ (by simpa using hc) (by simpa using hc))
  simp only [List.nil_append] at P
  generalize pts v [] = L at *
  obtain ⟨kd, b, m, f, tx, ty, its, fls⟩ := v
  unfold VlC at hv
  obtain ⟨ai, ni, ci, af, nf, cf, rfl, -⟩ := hv
  have hsf := storeF
  clear hsm hc
  go_enter Try.func13, Try.ntmps13
  go_wp2_with fail
  refine (unhide P _ ((Below.refl _ _).alloc (Nat.le_refl _) _)).mono ?_
  rintro e w1 ⟨sl, G, rfl, hG, b1, -, -⟩
  obtain ⟨a, n, c, rfl⟩ := hG.form
  clear P
  go_wp2
  go_ret
  exact ⟨a, n, c, G, rfl, hG, ((Below.refl _ _).alloc (Nat.le_refl _) _).trans b1⟩
theorem pts_small : ∀ (v : Vl), Small v → wtV v ≤ 1048576 → ∀ q ∈ pts v [], Small q.2 ∧ wtV q.2 ≤ 1048576 := by
  refine Vl.all ?_
  intro kd b n f tx ty its fls hI hF hsm hwt q hq
  have hs := hsm
  unfold Small at hs
  obtain ⟨-, -, -, hsI, hsF⟩ := hs
  have hk := mem_kids (P := fun v => wtV v ≤ 1048576 → ∀ q ∈ pts v [], Small q.2 ∧ wtV q.2 ≤ 1048576) (kd := kd) (b := b) (n := n) (f := f) (tx := tx) (ty := ty) (its := its) (fls := fls) (fun v hv => hI v hv (hsI.all v hv)) (fun q hq => hF q hq (hsF.all q hq))
  have hw := kid_wt (v := .mk kd b n f tx ty its fls)
  generalize Vl.mk kd b n f tx ty its fls = v at *
  rw [pts_kids v []] at hq
  rcases List.mem_cons.1 hq with rfl | hq
  · exact ⟨hsm, hwt⟩
  · rw [List.mem_flatMap] at hq
    obtain ⟨x, hx, hq⟩ := hq
    rw [pts_shift, List.mem_map] at hq
    obtain ⟨r, hr, rfl⟩ := hq
    exact hk x hx (Nat.le_trans (hw x hx) hwt) r hr
/-- what Sound answers: a path and a fault's number -/
def SnP (w : World) (E : Int) (PP : List St) (e : Ending) (w' : World) : Prop := ∃ aj nj cj, e = .returned (.tuple #[.slice aj nj cj, .int .i64 E]) ∧ Pth w' aj nj PP ∧ Below w.heap.size w w'
set_option maxHeartbeats 8000000 in
set_option maxRecDepth 100000 in
theorem rsound_ok (v : Vl) (cs : List Value) (w : World) (hv : VlC w v cs) (hsm : Small v) (hwt : wtV v ≤ 1048576) : Calls Try.prog 10 #[.agg cs.toArray] w (SnP w (ffE v) (ffP v)) := by
  have P := hide (fun W (hb : Below w.heap.size w W) => rparts_ok v cs W (VlC.below hb _ _ hv) hsm (Nat.le_trans (cnt_wt v) hwt))
  have HS := hide (pts_small v hsm hwt)
  have HLn := hide (show (pts v []).length ≤ 1048576 by rw [pts_len]; exact Nat.le_trans (cnt_wt v) hwt)
  have F1 := hide (fun (k : Nat) (q : List St × Vl) => ff_find (v := v) (k := k) (q := q))
  have F2 := hide (ff_none (v := v))
  generalize ffE v = E at *
  generalize ffP v = PP at *
  generalize pts v [] = L at *
  obtain ⟨kd, b, m, f, tx, ty, its, fls⟩ := v
  unfold VlC at hv
  obtain ⟨ai, ni, ci, af, nf, cf, rfl, -⟩ := hv
  have hsf := storeF
  clear hsm hwt
  go_enter Try.func10, Try.ntmps10
  go_wp2_with fail
  refine (unhide P _ ((Below.refl _ _).alloc (Nat.le_refl _) _)).mono ?_
  obtain ⟨W0, hW0⟩ : ∃ W0, W0 = w.alloc (.cells #[Value.int IntKind.i64 kd, Value.bool b, Value.int IntKind.i64 m, Value.float FloatKind.f64 f, Value.string tx, Value.string ty, Value.slice ai ni ci, Value.slice af nf cf] 27) := ⟨_, rfl⟩
  have hB0 : Below w.heap.size w W0 := by rw [hW0]; exact (Below.refl _ _).alloc (Nat.le_refl _) _
  rw [← hW0]
  clear hW0
  rintro e w1 ⟨a, n, c, G, rfl, hG, b1⟩
  have HG := hide hG
  have hn : n = L.length := by
    obtain ⟨xss, hr, -⟩ := hG.row
    rcases hr.2 with ⟨e, h0⟩ | ⟨g, cap, cur, e, -⟩
    · cases e; exact h0.symm
    · cases e; rfl
  have HN := hide hn
  have hnb : n ≤ 1048576 := by rw [hn]; exact unhide HLn
  clear P hG hn
  go_wp2_with fail
  go_loopw [5] (fun vi wr => ∃ k : Nat, k ≤ n ∧ vi = .int .i64 k ∧ vl.Hid (∀ j x, j < k → L[j]? = some x → flw x.2 = 0) ∧ Below w1.heap.size w1 wr) (fun vi _ => n - (intOf vi).toNat)
  case atStart => exact ⟨0, Nat.zero_le _, rfl, hide (fun j x hj => absurd hj (Nat.not_lt_zero _)), Below.refl _ _⟩
  case round =>
    obtain ⟨k, hk, rfl, hz, hb⟩ := hrel
    have hBw : Below w.heap.size w wr := (hB0.trans (b1.mono hB0.size)).trans (hb.mono (Nat.le_trans hB0.size b1.size))
    by_cases hlt : k < n
    · obtain ⟨q, hq⟩ : ∃ q, L[k]? = some q := ⟨_, List.getElem?_eq_getElem (by rw [← unhide HN]; exact hlt)⟩
      obtain ⟨g, ap, mp, cp, us, rfl, -, hg, hvq, hpq, hc, hr⟩ := part_get (unhide HG) hq
      obtain ⟨sq, wq⟩ := unhide HS q (List.mem_of_getElem? hq)
      have hB1 : Below W0.heap.size W0 wr := b1.trans (hb.mono b1.size)
      have FL := hide (fun W (hW : Below wr.heap.size wr W) => flaw_ok q.2 us W (VlC.below (hB1.trans (hW.mono hB1.size)) _ _ hvq) sq wq)
      have HP := hide (hpq.below hb)
      have HQ := hide hq
      have c0 : wr.cell? ⟨g, k * 9, none⟩ = some (.slice ap mp cp) := (hb.cell (p := ⟨g, k * 9, none⟩) hg).trans hc
      have hr' : wr.rangeAt g (k * 9 + 1) us := fun j u hu => (hb.cell (p := ⟨g, k * 9 + 1 + j, none⟩) hg).trans (hr j u hu)
      have hgr : g < wr.heap.size := Nat.lt_of_lt_of_le hg hb.size
      obtain ⟨pa, u⟩ := q
      simp only at hvq hpq
      clear hq hr hc sq wq hpq
      generalize hE : flw u = X at *
      have HX := hide hE
      clear hE
      obtain ⟨ukd, ub, um, uf, utx, uty, uits, ufls⟩ := u
      unfold VlC at hvq
      obtain ⟨uai, uni, uci, uaf, unf, ucf, rfl, -⟩ := hvq
      obtain ⟨z0, z1, z2, z3, z4, z5, z6, z7⟩ := Row8.eight hr'
      have ki : (k : Int) < (n : Int) := by omega
      clear hr'
      go_wp2_with fail
      refine (unhide FL _ (Below.refl _ _)).mono ?_
      rintro e w2 ⟨rfl, b2⟩
      have c2 : w2.cell? ⟨g, k * 9, none⟩ = some (.slice ap mp cp) := (b2.cell (p := ⟨g, k * 9, none⟩) hgr).trans c0
      clear FL z0 z1 z2 z3 z4 z5 z6 z7 c0
      have hb2 : Below w1.heap.size w1 w2 := hb.trans (b2.mono hb.size)
      have hBw2 : Below w.heap.size w w2 := hBw.trans (b2.mono hBw.size)
      by_cases h0 : X = 0
      · subst h0
        have HZ := hide (show ∀ j x, j < k + 1 → L[j]? = some x → flw x.2 = 0 from fun j x hj hx => by
          by_cases h : j = k
          · subst h
            rw [unhide HQ] at hx
            cases hx
            exact unhide HX
          · exact unhide hz j x (by omega) hx)
        clear hz
        go_wp2
        go_roundw
        case rel => exact ⟨k + 1, by omega, by simp, HZ, hb2⟩
        case measure => simp [intOf]; omega
      · obtain ⟨e1, e2⟩ := unhide F1 k (pa, .mk ukd ub um uf utx uty uits ufls) (unhide HQ) (unhide hz) (by show flw _ ≠ 0; rw [unhide HX]; exact h0)
        have hX : (X != 0) = true := by simpa using h0
        rw [show flw (pa, Vl.mk ukd ub um uf utx uty uits ufls).2 = X from unhide HX] at e2
        simp only at e1
        subst e1 e2
        have HP2 := hide ((unhide HP).below b2)
        clear F1 F2 hz h0
        go_wp2
        go_ret2
        exact ⟨ap, mp, cp, rfl, unhide HP2, hBw2⟩
    · obtain rfl : k = n := by omega
      obtain ⟨e1, e2⟩ := unhide F2 (fun j x hj hx => unhide hz j x (by rw [unhide HN]; exact hj) hx)
      subst e1 e2
      go_wp2
      go_ret2
      exact ⟨none, 0, 0, rfl, ⟨rfl, .inl rfl⟩, hBw⟩
end Go.Proofs.Ytmlgbglaifnhgaa.og
namespace Go.Proofs.Ytmlgbglaifnhgaa.og
open Go.ChangeShapes Go.WideShapes Go.ChangeAt Go.RowKit
open vl hiding cB cFl cS cF cI cK cIt
open stp (St Pth St3)
set_option linter.unusedVariables false
set_option linter.unusedSimpArgs false
set_option maxHeartbeats 1000000 in
set_option maxRecDepth 6000 in
theorem same_steps (aA aB : Option Addr) (n cA cB : Nat) (ss : List St) (w : World) (hA : Pth w aA n ss) (hB : Pth w aB n ss) (bn : n ≤ 8388608) :
    Calls Try.prog 11 #[.slice aA n cA, .slice aB n cB] w fun e w' => e = .returned (.bool true) ∧ Below w.heap.size w w' := by
  go_enter Try.func11, Try.ntmps11
  go_wp2_with fail
  go_loopw [5] (fun vk wr => ∃ k : Nat, k ≤ n ∧ vk = .int .i64 k ∧ Below w.heap.size w wr) (fun vk _ => n - (intOf vk).toNat)
  case atStart => exact ⟨0, Nat.zero_le _, rfl, Below.refl _ _⟩
  case round =>
    obtain ⟨k, hk, rfl, hbk⟩ := hrel
    by_cases hlt : k < n
    · have ki : (k : Int) < (n : Int) := by omega
      rcases (hA.below hbk).at_ with h0 | ⟨b, off, rfl, hbw, hcell⟩
      · omega
      rcases (hB.below hbk).at_ with h0 | ⟨b', off', rfl, hbw', hcell'⟩
      · omega
      obtain ⟨s, hs, u0, u1, u2⟩ := hcell k hlt
      obtain ⟨s', hs', v0, v1, v2⟩ := hcell' k hlt
      obtain rfl : s = s' := Option.some.inj (hs.symm.trans hs')
      obtain ⟨nm, ix, it⟩ := s
      clear hcell hs hcell' hs'
      simp only at u0 u1 u2 v0 v1 v2
      go_wp2_with fail
      go_region
      go_wp2
      go_roundw
      case rel => exact ⟨k + 1, by omega, by go_num, hbk.drew⟩
      case measure => simp [intOf]; omega
    · have ki : ¬ (k : Int) < (n : Int) := by omega
      go_wp2
      go_ret
      exact ⟨rfl, hbk⟩
/-- the fixed value of the statement -/
def badV : Vl := .mk 5 false 0 0 ⟨#[]⟩ ⟨#[]⟩ (.cons (.mk 2 false 1 0 ⟨#[]⟩ ⟨#[]⟩ .nil .nil) (.cons (.mk 7 false 0 0 ⟨#[]⟩ ⟨#[]⟩ .nil .nil) .nil)) .nil
theorem bad_ff : ffP badV = [⟨⟨#[]⟩, 1, true⟩] ∧ ffE badV = 2 := by
  have e : ffn badV = some ([⟨⟨#[]⟩, 1, true⟩], .mk 7 false 0 0 ⟨#[]⟩ ⟨#[]⟩ .nil .nil) := by
    simp [ffn, badV, pts, ptsI, ptsF, flw]
  unfold ffP ffE
  rw [e]
  exact ⟨rfl, by simp [flw]⟩
theorem bad_small : Small badV := by
  unfold badV Small
  simp [SmallI, SmallF, Small, Vls.list, Fls.list]
theorem bad_cnt : cnt badV ≤ 1048576 := by
  unfold badV
  simp [cnt, cntI, cntF]
theorem num1_ok (n : Int) (w : World) : Calls Try.prog 8 #[.int .i64 n] w fun e w' => e = .returned (.agg #[.int .i64 2, .bool false, .int .i64 n, .float .f64 0, .string ⟨#[]⟩, .string ⟨#[]⟩, .slice none 0 0, .slice none 0 0]) ∧ Below w.heap.size w w' := by
  have hsf := storeF
  go_enter Try.func8, Try.ntmps8
  go_wp2
  refine bodyPost_ret (results_cell_row rfl _ _ w.heap.size 27 _ (0, 0) _ rfl (heap_alloc_new _ _) Try.underlying27 rfl (by kernel_rfl)) rfl ?_
  exact ⟨rfl, (Below.refl _ _).alloc (Nat.le_refl _) _⟩
theorem leaf_vl (W : World) (kd n : Int) (hk : (Lit.int .i64 kd).wf = true) (hn : (Lit.int .i64 n).wf = true) : VlC W (.mk kd false n 0 ⟨#[]⟩ ⟨#[]⟩ .nil .nil) [.int .i64 kd, .bool false, .int .i64 n, .float .f64 0, .string ⟨#[]⟩, .string ⟨#[]⟩, .slice none 0 0, .slice none 0 0] := by
  unfold VlC
  exact ⟨none, 0, 0, none, 0, 0, rfl, by unfold VlsAt; rfl, by unfold FlsAt; rfl, Nat.le_refl _, Nat.le_refl _, fun _ => rfl, fun _ => rfl, hk, hn, Nat.zero_le _, Nat.zero_le _, Nat.zero_le _, Nat.zero_le _⟩
def badC (B : Nat) : List Value := [.int .i64 5, .bool false, .int .i64 0, .float .f64 0, .string ⟨#[]⟩, .string ⟨#[]⟩, .slice (some ⟨B, 0, none⟩) 2 2, .slice none 0 0]
def badR : List Value := [.int .i64 2, .bool false, .int .i64 1, .float .f64 0, .string ⟨#[]⟩, .string ⟨#[]⟩, .slice none 0 0, .slice none 0 0, .int .i64 7, .bool false, .int .i64 0, .float .f64 0, .string ⟨#[]⟩, .string ⟨#[]⟩, .slice none 0 0, .slice none 0 0]
theorem bad_vl (W : World) (B : Nat) (h : W.rangeAt B 0 badR) : VlC W badV (badC B) := by
  unfold badV badC VlC
  refine ⟨some ⟨B, 0, none⟩, 2, 2, none, 0, 0, rfl, ?_, by unfold FlsAt; rfl, Nat.le_refl _, Nat.le_refl _, fun e => (by cases e), fun _ => rfl, by decide, by decide, Nat.zero_le _, Nat.zero_le _, by unfold maxLen; omega, Nat.zero_le _⟩
  unfold VlsAt
  refine ⟨B, 0, 1, _, rfl, rfl, fun j u hu => ?_, leaf_vl W 2 1 (by decide) (by decide), ?_⟩
  · refine h j u ?_
    have hj := (List.getElem?_eq_some_iff.1 hu).1
    have e : badR = [.int .i64 2, .bool false, .int .i64 1, .float .f64 0, .string ⟨#[]⟩, .string ⟨#[]⟩, .slice none 0 0, .slice none 0 0] ++ [.int .i64 7, .bool false, .int .i64 0, .float .f64 0, .string ⟨#[]⟩, .string ⟨#[]⟩, .slice none 0 0, .slice none 0 0] := rfl
    rw [e, List.getElem?_append_left hj]
    exact hu
  · unfold VlsAt
    refine ⟨B, 0 + 8, 0, _, rfl, rfl, fun j u hu => ?_, leaf_vl W 7 0 (by decide) (by decide), by unfold VlsAt; rfl⟩
    have := h (8 + j) u (by
      have e : badR = [.int .i64 2, .bool false, .int .i64 1, .float .f64 0, .string ⟨#[]⟩, .string ⟨#[]⟩, .slice none 0 0, .slice none 0 0] ++ [.int .i64 7, .bool false, .int .i64 0, .float .f64 0, .string ⟨#[]⟩, .string ⟨#[]⟩, .slice none 0 0, .slice none 0 0] := rfl
      rw [e, List.getElem?_append_right (by simp), show 8 + j - List.length [Value.int .i64 2, .bool false, .int .i64 1, .float .f64 0, .string ⟨#[]⟩, .string ⟨#[]⟩, .slice none 0 0, .slice none 0 0] = j by simp]
      exact hu)
    rw [show 0 + 8 + j = 0 + (8 + j) by omega]
    exact this
set_option maxHeartbeats 4000000 in
set_option maxRecDepth 100000 in
theorem law_sound (v : Vl) (cs : List Value) (w : World) (hv : VlC w v cs) (hsm : Small v) (hwt : wtV v ≤ 1048576) : Calls Try.prog 3 #[.agg cs.toArray] w fun e w' => e = .returned (.bool true) ∧ Below w.heap.size w w' := by
  have PS := hide (fun W (hb : Below w.heap.size w W) => sound_ok v cs W (VlC.below hb _ _ hv) hsm (Nat.le_trans (cnt_wt v) hwt))
  have RS := hide (fun W (hb : Below w.heap.size w W) => rsound_ok v cs W (VlC.below hb _ _ hv) hsm hwt)
  have hlen := hide (show (ffP v).length ≤ 8388608 by have := ffP_len v; have := cnt_wt v; omega)
  generalize ffE v = E at *
  generalize ffP v = PP at *
  obtain ⟨kd, b, m, f, tx, ty, its, fls⟩ := v
  unfold VlC at hv
  obtain ⟨ai, ni, ci, af, nf, cf, rfl, -⟩ := hv
  have hsf := storeF
  clear hsm hwt
  go_enter Try.func3, Try.ntmps3
  go_wp2_with fail
  obtain ⟨W0, hW0⟩ : ∃ W0, W0 = w.alloc (.cells #[Value.int IntKind.i64 kd, Value.bool b, Value.int IntKind.i64 m, Value.float FloatKind.f64 f, Value.string tx, Value.string ty, Value.slice ai ni ci, Value.slice af nf cf] 27) := ⟨_, rfl⟩
  have hB0 : Below w.heap.size w W0 := by rw [hW0]; exact (Below.refl _ _).alloc (Nat.le_refl _) _
  have s0 : w.heap.size < W0.heap.size := by rw [hW0]; simp
  have rV := hide (show W0.rangeAt w.heap.size 0 [Value.int IntKind.i64 kd, Value.bool b, Value.int IntKind.i64 m, Value.float FloatKind.f64 f, Value.string tx, Value.string ty, Value.slice ai ni ci, Value.slice af nf cf] from fun j x hx => by rw [hW0, Nat.zero_add, World.cell?_alloc_at _ _ _ _ rfl]; simpa using hx)
  rw [← hW0]
  clear hW0
  refine (num1_ok 1 _).mono ?_
  rintro e w1 ⟨rfl, b1⟩
  go_wp2_with fail
  obtain ⟨W2, hW2⟩ : ∃ W2, W2 = (w1.alloc (.cells badR.toArray 27)).alloc (.cells (badC w1.heap.size).toArray 27) := ⟨_, rfl⟩
  have b2 : Below w1.heap.size w1 W2 := by rw [hW2]; exact ((Below.refl _ _).alloc (Nat.le_refl _) _).alloc (by simp) _
  have hR : W2.rangeAt w1.heap.size 0 badR := fun j x hx => by
    rw [hW2, Nat.zero_add]
    refine (((Below.refl (w1.heap.size + 1) (w1.alloc _)).alloc (by simp) _).cell (p := ⟨w1.heap.size, j, none⟩) (Nat.lt_succ_self _)).trans ?_
    rw [World.cell?_alloc_at _ _ _ _ rfl]
    simpa using hx
  have BS := hide (sound_ok badV (badC w1.heap.size) W2 (bad_vl W2 _ hR) bad_small bad_cnt)
  rw [bad_ff.1, bad_ff.2] at BS
  simp only [badR, badC] at hW2 BS
  rw [← hW2]
  clear hW2 hR
  refine (unhide BS).mono ?_
  rintro e w3 ⟨aj, nj, cj, rfl, hp, b3⟩
  obtain rfl : nj = 1 := hp.len.symm
  have hB3 : Below W0.heap.size W0 w3 := (b1.trans (b2.mono b1.size)).trans (b3.mono (Nat.le_trans b1.size b2.size))
  rcases hp.at_ with h0 | ⟨g, off, rfl, hg, hcell⟩
  · omega
  obtain ⟨s, hs, u0, u1, u2⟩ := hcell 0 (by omega)
  obtain rfl : (⟨⟨#[]⟩, 1, true⟩ : St) = s := by simpa using hs
  have hr3 : w3.rangeAt w.heap.size 0 _ := fun j x hx => (hB3.cell (p := ⟨w.heap.size, 0 + j, none⟩) s0).trans (unhide rV j x hx)
  obtain ⟨z0, z1, z2, z3, z4, z5, z6, z7⟩ := Row8.eight hr3
  simp only [Nat.zero_add, Nat.zero_mul, Nat.add_zero] at z1 z2 z3 z4 z5 z6 z7 u0 u1 u2
  have hw3 : Below w.heap.size w w3 := hB0.trans (hB3.mono hB0.size)
  clear BS hcell hs hp b1 b2 b3 hr3
  go_wp2_with fail
  refine (unhide PS w3 hw3).mono ?_
  rintro e w4 ⟨a4, n4, c4, rfl, hp4, b4⟩
  have hB4 : Below W0.heap.size W0 w4 := hB3.trans (b4.mono hB3.size)
  have hw4 : Below w.heap.size w w4 := hB0.trans (hB4.mono hB0.size)
  have hr4 : w4.rangeAt w.heap.size 0 _ := fun j x hx => (hB4.cell (p := ⟨w.heap.size, 0 + j, none⟩) s0).trans (unhide rV j x hx)
  clear z0 z1 z2 z3 z4 z5 z6 z7 u0 u1 u2 PS
  obtain ⟨z0, z1, z2, z3, z4, z5, z6, z7⟩ := Row8.eight hr4
  simp only [Nat.zero_add] at z1 z2 z3 z4 z5 z6 z7
  have HP := hide hp4
  clear hp4 hr4 b4
  go_wp2_with fail
  refine (unhide RS w4 hw4).mono ?_
  rintro e w5 ⟨a5, n5, c5, rfl, hp5, b5⟩
  have hp4 := (unhide HP).below b5
  obtain rfl : n4 = n5 := hp4.len.symm.trans hp5.len
  have hn4 : n4 ≤ 8388608 := by rw [← hp5.len]; exact unhide hlen
  have SS := hide (same_steps a4 a5 n4 c4 c5 PP w5 hp4 hp5 hn4)
  have hw5 : Below w.heap.size w w5 := hw4.trans (b5.mono hw4.size)
  clear z0 z1 z2 z3 z4 z5 z6 z7 RS hp4 hp5 HP b5 hsf
  go_wp2_with fail
  refine (unhide SS).mono ?_
  rintro e w6 ⟨rfl, b6⟩
  clear SS
  go_wp2
  go_ret
  exact ⟨rfl, hw5.trans (b6.mono hw5.size)⟩
end Go.Proofs.Ytmlgbglaifnhgaa.og
