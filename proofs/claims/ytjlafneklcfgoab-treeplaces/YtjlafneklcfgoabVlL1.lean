import Derived.Test.YtjlafneklcfgoabVlC3
namespace Go.Proofs.Ytjlafneklcfgoab.vl
open Go.ChangeShapes Go.WideShapes Go.ChangeAt Go.RowKit
open stp (St Pth St3)
set_option linter.unusedVariables false
set_option linter.unusedSimpArgs false
set_option maxHeartbeats 6000000 in
set_option maxRecDepth 6000 in
/-- tree.lead, whatever is known of the way -/
theorem lead_ok (J : Nat → Nat → Nat → Vl → List Value → Prop) (W : World) (ap : Option Addr) (n c : Nat) (ss : List St) (hp : Pth W ap n ss) (hn : n ≤ 4611686018427387903) (b0 o0 : Nat) (v0 : Vl) (cs0 : List Value) (h0 : J 0 b0 o0 v0 cs0)
    (hread : ∀ k b o u us, J k b o u us → Row8 W b o us ∧ VlC W u us)
    (hstep : ∀ k b o u us s i b' o', J k b o u us → ss[k]? = some s → chI u s = some i → Loc us s i b' o' → ∃ u' us', J (k + 1) b' o' u' us') :
    Calls Try.prog 28 #[.pointer (some ⟨b0, o0, none⟩), .slice ap n c] W fun e w' => Below W.heap.size W w' ∧ ((∃ k b o u us s, J k b o u us ∧ ss[k]? = some s ∧ chI u s = none ∧ e = .returned (.pointer none)) ∨ (∃ b o u us, J n b o u us ∧ e = .returned (.pointer (some ⟨b, o, none⟩)))) := by
  have HP := hide hp
  have HR := hide hread
  have HS := hide hstep
  have H0 := hide h0
  clear hp hread hstep h0
  have hnil : ∀ (w : World) (a : Option Addr), (binOp .eql 64 (.pointer a) (.pointer none)).run Try.prog w = .ok (.bool a.isNone) w := by
    intro w a
    cases a <;> go_simp
  go_enter Try.func28, Try.ntmps28
  go_wp2_with fail
  go_loopw [0, 9] (fun vp vi wr => ∃ (k b o : Nat) (u : Vl) (us : List Value), k ≤ n ∧ vp = .pointer (some ⟨b, o, none⟩) ∧ vi = .int .i64 k ∧ Hid (J k b o u us) ∧ Below W.heap.size W wr) (fun _ vi _ => n - (intOf vi).toNat)
  case atStart => exact ⟨0, b0, o0, v0, cs0, Nat.zero_le _, rfl, rfl, H0, Below.refl _ _⟩
  case round =>
    obtain ⟨k, b, o, u, us, hk, rfl, rfl, hJ, hB⟩ := hrel
    by_cases hlt : k < n
    · have ki : (k : Int) < (n : Int) := by omega
      obtain ⟨bp, off, rfl, hbp, hst⟩ : ∃ bp off, ap = some ⟨bp, off, none⟩ ∧ bp < W.heap.size ∧ ∀ i, i < n → ∃ s, ss[i]? = some s ∧ St3 W bp (off + i * 3) s.nm s.ix s.it := by
        rcases (unhide HP).at_ with h | h
        · omega
        · exact h
      obtain ⟨s, hs, h3⟩ := hst k hlt
      clear hst
      obtain ⟨q0, q1, q2⟩ := h3.below hbp hB
      obtain ⟨nm, ix, it⟩ := s
      simp only at q0 q1 q2
      have Hs := hide hs
      clear hs h3
      go_wp2_with fail
      have b1 : Below W.heap.size W (wr.alloc (.cells #[.string nm, .int .i64 ix, .bool it] 33)) := hB.alloc hB.size _
      obtain ⟨hrow, hval⟩ := unhide HR k b o u us (unhide hJ)
      refine (child_ok u us b o ⟨nm, ix, it⟩ _ (Row8.below hrow b1) (VlC.below b1 u us hval)).mono ?_
      rintro e w2 ⟨b2, h2⟩
      have b3 : Below W.heap.size W w2 := b1.trans (b2.mono b1.size)
      rcases h2 with ⟨hc, rfl⟩ | ⟨i, b', o', hc, hloc, rfl⟩
      · have Hc := hide hc
        clear hrow hval hc b2 b1
        go_wp2
        go_ret
        exact ⟨b3, .inl ⟨k, b, o, u, us, _, unhide hJ, unhide Hs, unhide Hc, rfl⟩⟩
      · obtain ⟨u', us', hJ'⟩ := unhide HS k b o u us _ i b' o' (unhide hJ) (unhide Hs) hc hloc
        have HJ' := hide hJ'
        clear hrow hval hc hloc b2 b1 hJ'
        go_wp2
        exact ⟨⟨k + 1, b', o', u', us', by omega, rfl, by go_num, HJ', b3⟩, by simp only [intOf]; omega⟩
    · obtain rfl : k = n := by omega
      go_wp2
      go_ret
      exact ⟨hB, .inr ⟨b, o, u, us, unhide hJ, rfl⟩⟩
end Go.Proofs.Ytjlafneklcfgoab.vl
