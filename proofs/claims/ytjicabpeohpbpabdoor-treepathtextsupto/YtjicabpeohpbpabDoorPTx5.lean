import Derived.Test.YtjicabpeohpbpabDoorPTx4
namespace Go.Proofs.YtjicabpeohpbpabDoor.stp
open Go.ChangeShapes Go.WideShapes Go.ChangeAt Go.RowKit
set_option linter.unusedVariables false
/-- how the reference's PathRead answers -/
def RfPost (s : ByteArray) (w : World) (e : Ending) (w' : World) : Prop :=
  ((∃ Q, s.data.toList = ptx Q ∧ Fit Q ∧ Q.map plS = Q ∧ ∃ a c, e = .returned (.tuple #[.slice a Q.length c, .bool true]) ∧ Pth w' a Q.length Q) ∨
    (¬ ptx (rdQ s) = s.data.toList ∧ e = .returned (.tuple #[.slice none 0 0, .bool false]))) ∧ Below w.heap.size w w'
theorem ptx_first {s : ByteArray} (h0 : 0 < s.size) (h : ¬ s[0]'h0 = 47) : ¬ ptx (rdQ s) = s.data.toList := by
  obtain ⟨_, r, hr⟩ := str_ne h0
  intro e
  rw [hr] at e
  rcases ptx_sl (rdQ s) with h1 | ⟨r', h1⟩
  · rw [h1] at e
    cases e
  · rw [h1] at e
    simp at e
    exact h e.1.symm
theorem piece_len (s : ByteArray) (f k : Nat) : (piece s f k).length ≤ s.size := by
  unfold piece
  rw [List.length_take, List.length_drop, Array.length_toList]
  have : s.data.size = s.size := rfl
  omega
theorem qlen {s : ByteArray} {k f : Nat} {Q : List St} (h : Far s k f Q) : Q.length ≤ s.size + 1 := by
  have h1 := congrArg List.length h.ahead
  have h2 : Q.length ≤ (ptx Q).length := by
    have : ∀ L : List St, L.length ≤ (ptx L).length := by
      intro L
      induction L with
      | nil => simp
      | cons x L ih => rw [ptx_cons]; simp; omega
    exact this Q
  have hl : s.data.toList.length = s.size := by rw [Array.length_toList]; rfl
  simp [hl] at h1
  omega
set_option maxHeartbeats 1000000 in
set_option maxRecDepth 6000 in
theorem refRead_any (s : ByteArray) (w : World) (htab : Lib.TabBelow Tryd.prog w.heap.size w "internal/strconv.uint64pow10" .u64 Lib.pow10Tab) (hs : s.size ≤ 8388608) : Calls Tryd.prog 6 #[.string s] w fun e w' => RfPost s w e w' := by
  obtain ⟨i0, hi, hz0, hz1, hz2⟩ := info_parts infoT
  by_cases h0 : 0 < s.size
  case neg =>
    have hz : s.size = 0 := by omega
    have hd : s.data.toList = [] := List.eq_nil_of_length_eq_zero (by rw [Array.length_toList]; exact hz)
    have hd2 := hide hd
    have he : s.toList = [] := by rw [toList_data]; exact hd
    clear hd hz
    go_enter Tryd.func6, Tryd.ntmps6
    go_wp2
    go_ret2
    exact ⟨.inl ⟨[], unhide hd2, (fun q hq => by simp at hq), rfl, none, 0, rfl, ⟨rfl, .inl rfl⟩⟩, Below.refl _ _⟩
  obtain ⟨he, r, hr⟩ := str_ne h0
  have hne : ¬ s.toList = [] := by intro e; rw [e] at he; cases he
  clear hr r
  by_cases c0 : ((s[0]'h0).toNat : Int) = 47
  case neg =>
    have hno := hide (ptx_first h0 (fun e => c0 (by rw [e]; rfl)))
    go_enter Tryd.func6, Tryd.ntmps6
    go_wp2
    go_ret2
    exact ⟨.inr ⟨unhide hno, rfl⟩, Below.refl _ _⟩
  have hF := hide (Far.start h0 (by apply UInt8.toNat_inj.1; simpa using (by omega : (s[0]'h0).toNat = 47)))
  go_enter Tryd.func6, Tryd.ntmps6
  go_wp2_with fail
  go_loopw [6, 5, 4] (fun vk vf vo wr => ∃ (k f : Nat) (Q : List St), k ≤ s.size + 1 ∧ vk = .int .i64 k ∧ vf = .int .i64 f ∧ f ≤ k ∧ OwnP wr w.heap.size vo Q ∧ Hid (Far s k f Q) ∧ Below w.heap.size w wr) (fun vk _ _ _ => s.size + 1 - (intOf vk).toNat)
  case atStart => exact ⟨1, 1, [], by omega, rfl, rfl, Nat.le_refl _, World.ownsRow_nil _ _ _ _, hF, Below.refl _ _⟩
  case round =>
    obtain ⟨k, f, Q, hk, rfl, rfl, hfk, ok, hfar, hbk⟩ := hrel
    by_cases hle : k ≤ s.size
    · have ki : (k : Int) ≤ (s.size : Int) := by omega
      have hsw := hbk.size
      have hql := hide (qlen (unhide hfar))
      by_cases hlt : k < s.size
      · have kl : (k : Int) < (s.size : Int) := by omega
        by_cases c1 : ((s[k]'hlt).toNat : Int) = 47
        · have hc := hide (show ∀ hk : k < s.size, s[k]'hk = 47 from fun _ => by apply UInt8.toNat_inj.1; simpa using (by omega : (s[k]'hlt).toNat = 47))
          have hcut := run_cut s f k hfk hle
          have hpp : Hid ((s.data.toList.drop f).take (k - f) = piece s f k) := rfl
          rw [unhide hpp] at hcut
          have hpl := hide (piece_len s f k)
          have hz := hide (show (⟨(piece s f k).toArray⟩ : ByteArray).size = (piece s f k).length from rfl)
          go_wp2_with fail
          refine (guess_any ⟨(piece s f k).toArray⟩ wr (by rw [unhide hz]; have := unhide hpl; omega)).mono ?_
          rintro e w2 ⟨rfl, b2⟩
          rw [show StV (gs (⟨(piece s f k).toArray⟩ : ByteArray).data.toList) = .agg #[.string (gs (piece s f k)).nm, .int .i64 (gs (piece s f k)).ix, .bool (gs (piece s f k)).it] from rfl]
          have B2 := hbk.trans (b2.mono hbk.size)
          have ok2 := ownP_below ok b2
          have hgz := hide (gs_size (piece s f k))
          go_wp2_with fail
          have b2a : Below w2.heap.size w2 (w2.alloc (.cells #[.string (gs (piece s f k)).nm, .int .i64 (gs (piece s f k)).ix, .bool (gs (piece s f k)).it] 25)) := (Below.refl _ _).alloc (Nat.le_refl _) _
          have B2a := B2.trans (b2a.mono B2.size)
          have ok2a := ownP_below ok2 b2a
          have k1 := one_step w2 (gs (piece s f k)).nm (gs (piece s f k)).ix (gs (piece s f k)).it 25
          refine (stepText_any (gs (piece s f k)) (w2.alloc (.cells #[.string (gs (piece s f k)).nm, .int .i64 (gs (piece s f k)).ix, .bool (gs (piece s f k)).it] 25)) (by have := unhide hgz; have := unhide hpl; omega) (gs_wf _) (tab_now (htab.on B2a) B2a.size)).mono ?_
          rintro e w3 ⟨rfl, b3⟩
          have B3 := B2a.trans (b3.mono B2a.size)
          have ok3 := ownP_below ok2a b3
          obtain ⟨y0, y1, y2⟩ := k1.below (by simp) b3
          simp only [Nat.zero_add] at y1 y2
          clear k1
          have hs3 := B3.size
          by_cases hE : encS (gs (piece s f k)) = piece s f k
          · have hE1 := eq_texts hE
            have hE2 : (encS (gs (piece s f k)) == piece s f k) = true := by rw [beq_iff_eq]; exact hE
            have hp := hide (Far.piece_ (unhide hfar) hle (unhide hc) hE)
            have hE := hide hE
            go_wp2_with (at_builtin; refine wp_step w3 rfl _ _ 22 rfl w.heap.size i0 Tryd.underlying22 hi hz0 hz1 hz2 _ _ (by rfl) ok3 (gs (piece s f k)) w3.heap.size (by rfl) rfl (by have := unhide hql; omega) hs3 ?_; intro v4 w4 o4 b4)
            go_roundw
            case rel => exact ⟨k + 1, k + 1, _, by omega, by go_num, by go_num, Nat.le_refl _, o4, hp, B3.trans b4⟩
            case measure => simp [intOf]; omega
          · have hE1 := ne_texts hE
            have hE2 : (encS (gs (piece s f k)) == piece s f k) = false := by rw [beq_eq_false_iff_ne]; exact hE
            obtain ⟨_, rest, hsp⟩ := (unhide hfar).split hle (unhide hc)
            have hno := hide (no_path (unhide hfar).plain hsp hE)
            clear hsp
            have hE := hide hE
            go_wp2
            go_ret2
            exact ⟨.inr ⟨unhide hno, rfl⟩, B3⟩
        · have hon := hide (Far.on (unhide hfar) hlt (fun e => c1 (by rw [e]; rfl)))
          go_wp2
          go_roundw
          case rel => exact ⟨k + 1, f, Q, by omega, by go_num, rfl, by omega, ok, hon, hbk⟩
          case measure => simp [intOf]; omega
      · have kl : ¬ (k : Int) < (s.size : Int) := by omega
        have hc := hide (show ∀ hk : k < s.size, s[k]'hk = 47 from fun h => absurd h hlt)
        have hcut := run_cut s f k hfk hle
        have hpp : Hid ((s.data.toList.drop f).take (k - f) = piece s f k) := rfl
        rw [unhide hpp] at hcut
        have hpl := hide (piece_len s f k)
        have hz := hide (show (⟨(piece s f k).toArray⟩ : ByteArray).size = (piece s f k).length from rfl)
        go_wp2_with fail
        refine (guess_any ⟨(piece s f k).toArray⟩ wr (by rw [unhide hz]; have := unhide hpl; omega)).mono ?_
        rintro e w2 ⟨rfl, b2⟩
        rw [show StV (gs (⟨(piece s f k).toArray⟩ : ByteArray).data.toList) = .agg #[.string (gs (piece s f k)).nm, .int .i64 (gs (piece s f k)).ix, .bool (gs (piece s f k)).it] from rfl]
        have B2 := hbk.trans (b2.mono hbk.size)
        have ok2 := ownP_below ok b2
        have hgz := hide (gs_size (piece s f k))
        go_wp2_with fail
        have b2a : Below w2.heap.size w2 (w2.alloc (.cells #[.string (gs (piece s f k)).nm, .int .i64 (gs (piece s f k)).ix, .bool (gs (piece s f k)).it] 25)) := (Below.refl _ _).alloc (Nat.le_refl _) _
        have B2a := B2.trans (b2a.mono B2.size)
        have ok2a := ownP_below ok2 b2a
        have k1 := one_step w2 (gs (piece s f k)).nm (gs (piece s f k)).ix (gs (piece s f k)).it 25
        refine (stepText_any (gs (piece s f k)) (w2.alloc (.cells #[.string (gs (piece s f k)).nm, .int .i64 (gs (piece s f k)).ix, .bool (gs (piece s f k)).it] 25)) (by have := unhide hgz; have := unhide hpl; omega) (gs_wf _) (tab_now (htab.on B2a) B2a.size)).mono ?_
        rintro e w3 ⟨rfl, b3⟩
        have B3 := B2a.trans (b3.mono B2a.size)
        have ok3 := ownP_below ok2a b3
        obtain ⟨y0, y1, y2⟩ := k1.below (by simp) b3
        simp only [Nat.zero_add] at y1 y2
        clear k1
        have hs3 := B3.size
        by_cases hE : encS (gs (piece s f k)) = piece s f k
        · have hE1 := eq_texts hE
          have hE2 : (encS (gs (piece s f k)) == piece s f k) = true := by rw [beq_iff_eq]; exact hE
          have hp := hide (Far.piece_ (unhide hfar) hle (unhide hc) hE)
          have hE := hide hE
          go_wp2_with (at_builtin; refine wp_step w3 rfl _ _ 22 rfl w.heap.size i0 Tryd.underlying22 hi hz0 hz1 hz2 _ _ (by rfl) ok3 (gs (piece s f k)) w3.heap.size (by rfl) rfl (by have := unhide hql; omega) hs3 ?_; intro v4 w4 o4 b4)
          go_roundw
          case rel => exact ⟨k + 1, k + 1, _, by omega, by go_num, by go_num, Nat.le_refl _, o4, hp, B3.trans b4⟩
          case measure => simp [intOf]; omega
        · have hE1 := ne_texts hE
          have hE2 : (encS (gs (piece s f k)) == piece s f k) = false := by rw [beq_eq_false_iff_ne]; exact hE
          obtain ⟨_, rest, hsp⟩ := (unhide hfar).split hle (unhide hc)
          have hno := hide (no_path (unhide hfar).plain hsp hE)
          clear hsp
          have hE := hide hE
          go_wp2
          go_ret2
          exact ⟨.inr ⟨unhide hno, rfl⟩, B3⟩
    · have ki : ¬ (k : Int) ≤ (s.size : Int) := by omega
      have hfin := hide (Far.done (unhide hfar) hle)
      obtain ⟨a, c, rfl, hP, hcap, hnil⟩ := ownP_pth ok
      go_wp2
      go_ret2
      exact ⟨.inl ⟨Q, unhide hfin, (unhide hfar).fit, (unhide hfar).pls, a, c, rfl, hP⟩, hbk⟩
end Go.Proofs.YtjicabpeohpbpabDoor.stp
