import Derived.Test.YtjicabpeohpbpacStp3
namespace Go.Proofs.Ytjicabpeohpbpac.stp
open Go.ChangeShapes Go.WideShapes Go.ChangeAt Go.RowKit
set_option linter.unusedVariables false
theorem compare_any (aA aB : Option Addr) (nA cA nB cB : Nat) (A B : List St) (w : World) (hA : Pth w aA nA A) (hB : Pth w aB nB B) (bA : nA ≤ 4611686018427387903) (bB : nB ≤ 4611686018427387903) :
    Calls Try.prog 6 #[.slice aA nA cA, .slice aB nB cB] w fun e w' => e = .returned (.int .i64 (lexS A B)) ∧ Below w.heap.size w w' := by
  go_enter Try.func6, Try.ntmps6
  go_wp2_with fail
  refine (cmpFunc_any aA aB nA cA nB cB A B w hA hB bA bB).mono ?_
  rintro e w2 ⟨rfl, hb2⟩
  go_wp2
  go_ret
  exact ⟨rfl, hb2⟩
theorem Pth.take {w : World} {a : Option Addr} {n m : Nat} {ss : List St} (h : Pth w a n ss) (hm : m ≤ n) : Pth w a m (ss.take m) := by
  refine ⟨by simp [h.len]; omega, ?_⟩
  rcases h.at_ with h0 | ⟨b, off, ha, hlt, hc⟩
  · exact .inl (by omega)
  · refine .inr ⟨b, off, ha, hlt, fun i hi => ?_⟩
    obtain ⟨s, hs, k⟩ := hc i (by omega)
    exact ⟨s, by rw [List.getElem?_take_of_lt hi]; exact hs, k⟩
/-- does A lie at B or beneath it? -/
def undS (A B : List St) : Bool := decide (B.length ≤ A.length) && lexS (A.take B.length) B == 0
theorem under_any (aA aB : Option Addr) (nA cA nB cB : Nat) (A B : List St) (w : World) (hA : Pth w aA nA A) (hB : Pth w aB nB B) (hc : nA ≤ cA) (hn : aA = none → cA = 0) (bA : nA ≤ 4611686018427387903) (bB : nB ≤ 4611686018427387903) :
    Calls Try.prog 7 #[.slice aA nA cA, .slice aB nB cB] w fun e w' => e = .returned (.bool (undS A B)) ∧ Below w.heap.size w w' := by
  by_cases hle : nB ≤ nA
  · have hl : (nB : Int) ≤ (nA : Int) := by omega
    have hu := hide (show undS A B = (lexS (A.take nB) B == 0) by unfold undS; rw [hA.len, hB.len]; simp [hle])
    go_enter Try.func7, Try.ntmps7
    go_wp2_with fail
    refine (eqFunc_any _ aB nB cA nB cB (A.take nB) B w (hA.take hle) hB bB bB).mono ?_
    rintro e w2 ⟨rfl, hb2⟩
    go_wp2
    go_ret
    exact ⟨by rw [unhide hu]; rfl, hb2⟩
  · have hl : ¬ (nB : Int) ≤ (nA : Int) := by omega
    have hu := hide (show undS A B = false by unfold undS; rw [hA.len, hB.len]; simp [hle])
    go_enter Try.func7, Try.ntmps7
    go_wp2
    go_ret
    exact ⟨by rw [unhide hu]; rfl, Below.refl _ _⟩
theorem refUnder_any (aA aB : Option Addr) (nA cA nB cB : Nat) (A B : List St) (w : World) (hA : Pth w aA nA A) (hB : Pth w aB nB B) (bA : nA ≤ 4611686018427387903) (bB : nB ≤ 4611686018427387903) :
    Calls Try.prog 9 #[.slice aA nA cA, .slice aB nB cB] w fun e w' => e = .returned (.bool (undS A B)) ∧ Below w.heap.size w w' := by
  by_cases hle : nB ≤ nA
  · have hl : ¬ (nA : Int) < (nB : Int) := by omega
    have hu := hide (show undS A B = (lexS (A.take nB) B == 0) by unfold undS; rw [hA.len, hB.len]; simp [hle])
    go_enter Try.func9, Try.ntmps9
    have hlen : (A.take nB).length = nB := by rw [List.length_take, hA.len]; omega
    have hT := hA.take hle
    go_wp2_with fail
    go_loopw [5] (fun v wr => ∃ k : Nat, k ≤ nB ∧ v = .int .i64 k ∧ Below w.heap.size w wr ∧ Hid (lexS (A.take nB) B = lexS ((A.take nB).drop k) (B.drop k))) (fun v _ => nB - (intOf v).toNat)
    case atStart => exact ⟨0, Nat.zero_le _, rfl, Below.refl _ _, rfl⟩
    case round =>
      obtain ⟨k, hkB, rfl, hbk, hl⟩ := hrel
      by_cases hlb : k < nB
      · have kb : (k : Int) < (nB : Int) := by omega
        have ka : (k : Int) < (nA : Int) := by omega
        rcases (hT.below hbk).at_ with h0 | ⟨b, off, rfl, hbw, hcell⟩
        · omega
        obtain ⟨s, hs, u0, u1, u2⟩ := hcell k hlb
        obtain ⟨n1, x1, t1⟩ := s
        have hs := hide hs
        clear hcell
        rcases (hB.below hbk).at_ with h0 | ⟨b', off', rfl, hbw', hcell⟩
        · omega
        obtain ⟨s', hs', v0, v1, v2⟩ := hcell k hlb
        obtain ⟨n2, x2, t2⟩ := s'
        have hs' := hide hs'
        clear hcell
        simp only at u0 u1 u2 v0 v1 v2
        have hst := hide (lex_step (unhide hs) (unhide hs'))
        have HC := refStep_any n1 n2 x1 x2 t1 t2
        clear hlen
        go_wp2_with fail
        go_region_with (go_at_call 19; refine (HC _).mono ?_; clear HC; rintro e w2 ⟨rfl, hb2⟩)
        all_goals (
          have hb2 : Below w.heap.size w w2 := (hbk.drew).trans (hb2.mono hbk.size)
          by_cases hc : cS ⟨n1, x1, t1⟩ ⟨n2, x2, t2⟩ = 0
          · have hc2 := hide hc
            rw [hc]
            clear hc
            go_wp2
            go_roundw
            case rel => exact ⟨k + 1, by omega, by go_num, hb2, (unhide hl).trans ((unhide hst).trans (if_pos (unhide hc2)))⟩
            case measure => simp [intOf]; omega
          · have hc2 := hide hc
            generalize hcv : cS ⟨n1, x1, t1⟩ ⟨n2, x2, t2⟩ = cv at *
            have hcv := hide hcv
            go_wp2
            go_ret
            exact ⟨by rw [unhide hu, unhide hl, unhide hst, if_neg (unhide hc2), show (cv == 0) = false by simpa using unhide hc2]; rfl, hb2⟩)
      · have kb : ¬ (k : Int) < (nB : Int) := by omega
        have hlen := hide hlen
        go_wp2
        go_ret
        exact ⟨by rw [unhide hu, unhide hl, lex_end0 (by rw [unhide hlen]; omega) (by rw [hB.len]; omega)]; rfl, hbk⟩
  · have hl : (nA : Int) < (nB : Int) := by omega
    have hu := hide (show undS A B = false by unfold undS; rw [hA.len, hB.len]; simp [hle])
    go_enter Try.func9, Try.ntmps9
    go_wp2
    go_ret
    exact ⟨by rw [unhide hu]; rfl, Below.refl _ _⟩
theorem lex_self : ∀ A : List St, lexS A A = 0
  | [] => rfl
  | a :: l => by
    have h : cS a a = 0 := by
      have := eqS_iff a.nm a.nm a.ix a.ix a.it a.it
      have e : eqS a.nm a.ix a.it a.nm a.ix a.it = true := by simp [eqS]
      rw [e] at this
      simpa using this.symm
    rw [lexS, if_pos h]
    exact lex_self l
theorem und_self (A : List St) : undS A A = true := by
  unfold undS
  rw [List.take_length, lex_self]
  simp
theorem pth_one (w : World) (b : Nat) (nm : ByteArray) (ix : Int) (it : Bool) (hb : b < w.heap.size) (h : St3 w b 0 nm ix it) : Pth w (some ⟨b, 0, none⟩) 1 [⟨nm, ix, it⟩] :=
  ⟨rfl, .inr ⟨b, 0, rfl, hb, fun i hi => by
    obtain rfl : i = 0 := by omega
    exact ⟨_, rfl, h⟩⟩⟩
theorem law_order (aA aB : Option Addr) (nA cA nB cB : Nat) (A B : List St) (w : World) (hA : Pth w aA nA A) (hB : Pth w aB nB B) (hc : nA ≤ cA) (hn : aA = none → cA = 0) (bA : nA ≤ 4611686018427387903) (bB : nB ≤ 4611686018427387903) :
    Calls Try.prog 3 #[.slice aA nA cA, .slice aB nB cB] w fun e w' => e = .returned (.bool true) ∧ Below w.heap.size w w' := by
  go_enter Try.func3, Try.ntmps3
  go_wp2_with fail
  obtain ⟨W, eW, sW, k1, k2, bW⟩ := two_steps w ⟨#[]⟩ ⟨#[]⟩ 10 9 true true 25
  rw [eW]
  clear eW
  refine (compare_any _ _ 1 1 1 1 [⟨⟨#[]⟩, 10, true⟩] [⟨⟨#[]⟩, 9, true⟩] W (pth_one W _ _ _ _ (by omega) k1) (pth_one W _ _ _ _ (by omega) k2) (by decide) (by decide)).mono ?_
  rintro e w2 ⟨rfl, hb2⟩
  rw [show lexS [⟨⟨#[]⟩, 10, true⟩] [⟨⟨#[]⟩, 9, true⟩] = 1 by decide]
  have B2 : Below w.heap.size w w2 := bW.trans (hb2.mono (by omega))
  clear hb2 bW k1 k2 sW
  go_wp2_with fail
  refine (compare_any aA aA nA cA nA cA A A w2 (hA.below B2) (hA.below B2) bA bA).mono ?_
  rintro e w3 ⟨rfl, hb3⟩
  rw [lex_self]
  have B3 := B2.trans (hb3.mono B2.size)
  clear hb3 B2
  go_wp2_with fail
  refine (under_any aA aA nA cA nA cA A A w3 (hA.below B3) (hA.below B3) hc hn bA bA).mono ?_
  rintro e w4 ⟨rfl, hb4⟩
  rw [und_self]
  have B4 := B3.trans (hb4.mono B3.size)
  clear hb4 B3
  go_wp2_with fail
  refine (compare_any aA aB nA cA nB cB A B w4 (hA.below B4) (hB.below B4) bA bB).mono ?_
  rintro e w5 ⟨rfl, hb5⟩
  have B5 := B4.trans (hb5.mono B4.size)
  clear hb5 B4
  go_wp2_with fail
  refine (refCmp_any aA aB nA cA nB cB A B w5 (hA.below B5) (hB.below B5) bA bB).mono ?_
  rintro e w6 ⟨rfl, hb6⟩
  have B6 := B5.trans (hb6.mono B5.size)
  clear hb6 B5
  generalize lexS A B = L
  go_wp2_with fail
  refine (under_any aA aB nA cA nB cB A B w6 (hA.below B6) (hB.below B6) hc hn bA bB).mono ?_
  rintro e w7 ⟨rfl, hb7⟩
  have B7 := B6.trans (hb7.mono B6.size)
  clear hb7 B6
  go_wp2_with fail
  refine (refUnder_any aA aB nA cA nB cB A B w7 (hA.below B7) (hB.below B7) bA bB).mono ?_
  rintro e w8 ⟨rfl, hb8⟩
  have B8 := B7.trans (hb8.mono B7.size)
  clear hb8 B7
  generalize undS A B = U
  go_wp2
  go_ret
  exact ⟨by simp, B8⟩
end Go.Proofs.Ytjicabpeohpbpac.stp
