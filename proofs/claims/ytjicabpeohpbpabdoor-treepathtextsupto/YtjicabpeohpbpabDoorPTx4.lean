import Derived.Test.YtjicabpeohpbpabDoorPTx3
namespace Go.Proofs.YtjicabpeohpbpabDoor.stp
open Go.ChangeShapes Go.WideShapes Go.ChangeAt Go.RowKit
set_option linter.unusedVariables false
theorem find_q (p rest : List UInt8) (hp : (47 : UInt8) ∉ p) : ∀ (Q R : List St), ptx R ++ [47] = ptx Q ++ 47 :: (p ++ 47 :: rest) → ∃ q ∈ R, encS q = p
  | [], [], h => by simp [ptx] at h
  | [], q :: R, h => by
    rw [ptx_cons] at h
    simp only [ptx, List.flatMap_nil, List.nil_append, List.cons_append, List.cons.injEq, true_and, List.append_assoc] at h
    have := cut47 (encS_no q) hp (X := ptx R ++ [47]) (Y := 47 :: rest) (sl_app (ptx_sl R) (.inr ⟨_, rfl⟩)) (.inr ⟨_, rfl⟩) h
    exact ⟨q, List.mem_cons_self, this.1⟩
  | t :: Q, [], h => by
    have := congrArg List.length h
    rw [ptx_cons] at this
    simp [ptx] at this
  | t :: Q, q :: R, h => by
    rw [ptx_cons, ptx_cons] at h
    simp only [List.cons_append, List.cons.injEq, true_and, List.append_assoc] at h
    have := cut47 (encS_no q) (encS_no t) (X := ptx R ++ [47]) (Y := ptx Q ++ 47 :: (p ++ 47 :: rest)) (sl_app (ptx_sl R) (.inr ⟨_, rfl⟩)) (sl_app (ptx_sl Q) (.inr ⟨_, rfl⟩)) h
    obtain ⟨x, hx, e⟩ := find_q p rest hp Q R this.2
    exact ⟨x, List.mem_cons_of_mem _ hx, e⟩
/-- the reference stops at a piece that no step has as its text -/
theorem no_path {s : ByteArray} {Q : List St} {p rest : List UInt8} (hp : (47 : UInt8) ∉ p) (h : s.data.toList ++ [47] = ptx Q ++ 47 :: (p ++ 47 :: rest)) (hne : ¬ encS (gs p) = p) : ¬ ptx (rdQ s) = s.data.toList := by
  intro e
  rw [← e] at h
  obtain ⟨q, hq, rfl⟩ := find_q p rest hp Q (rdQ s) h
  have hw := wf_range (rdQ_fit s q hq)
  apply hne
  rw [gs_enc q hw.1 hw.2, enc_pl]
/-- how far the reference has come: the pieces ahead of f are the steps Q, and no slash lies between f and k -/
structure Far (s : ByteArray) (k f : Nat) (Q : List St) : Prop where
  f1 : 1 ≤ f
  fk : f ≤ k
  ks : k ≤ s.size + 1
  end_ : k = s.size + 1 → f = s.size + 1
  ahead : (s.data.toList ++ [47]).take f = ptx Q ++ [47]
  plain : (47 : UInt8) ∉ (s.data.toList.drop f).take (k - f)
  fit : Fit Q
  pls : Q.map plS = Q
theorem Far.start {s : ByteArray} (h0 : 0 < s.size) (h : s[0]'h0 = 47) : Far s 1 1 [] := by
  obtain ⟨_, r, hr⟩ := str_ne h0
  refine ⟨Nat.le_refl _, Nat.le_refl _, by omega, fun e => by omega, ?_, by simp, (fun q hq => by simp at hq), rfl⟩
  rw [hr, h]
  simp [ptx]
theorem Far.on {s : ByteArray} {k f : Nat} {Q : List St} (h : Far s k f Q) (hk : k < s.size) (hc : ¬ s[k]'hk = 47) : Far s (k + 1) f Q := by
  refine ⟨h.f1, by have := h.fk; omega, by omega, fun e => by omega, h.ahead, ?_, h.fit, h.pls⟩
  have hfk := h.fk
  have e : (s.data.toList.drop f).take (k + 1 - f) = (s.data.toList.drop f).take (k - f) ++ [s[k]'hk] := by
    rw [show k + 1 - f = (k - f) + 1 by omega, List.take_add_one, List.getElem?_drop, show f + (k - f) = k by omega, str_get s k hk]
    rfl
  rw [e]
  simp
  exact ⟨h.plain, fun e => hc e.symm⟩
def piece (s : ByteArray) (f k : Nat) : List UInt8 := (s.data.toList.drop f).take (k - f)
theorem Far.split {s : ByteArray} {k f : Nat} {Q : List St} (h : Far s k f Q) (hk : k ≤ s.size) (hc : ∀ hk : k < s.size, s[k]'hk = 47) : (s.data.toList ++ [47]).take (k + 1) = ptx Q ++ 47 :: (piece s f k ++ [47]) ∧ ∃ rest, s.data.toList ++ [47] = ptx Q ++ 47 :: (piece s f k ++ 47 :: rest) := by
  have hfk := h.fk
  have hl : s.data.toList.length = s.size := by rw [Array.length_toList]; rfl
  have e47 : (s.data.toList ++ [47])[k]? = some 47 := by
    rcases Nat.lt_or_ge k s.size with hlt | hge
    · rw [List.getElem?_append_left (by rw [hl]; exact hlt), str_get s k hlt, hc hlt]
    · rw [List.getElem?_append_right (by rw [hl]; exact hge), hl, show k - s.size = 0 by omega]
      rfl
  have ek : (s.data.toList ++ [47]).take k = (s.data.toList ++ [47]).take f ++ piece s f k := by
    unfold piece
    rw [← List.take_append_of_le_length (l₂ := [47]) (show k - f ≤ (s.data.toList.drop f).length by rw [List.length_drop, hl]; omega), ← List.drop_append_of_le_length (by rw [hl]; omega)]
    rw [← List.take_add, show f + (k - f) = k by omega]
  have e1 : (s.data.toList ++ [47]).take (k + 1) = ptx Q ++ 47 :: (piece s f k ++ [47]) := by
    rw [List.take_add_one, e47, ek, h.ahead]
    simp
  refine ⟨e1, (s.data.toList ++ [47]).drop (k + 1), (List.take_append_drop (k + 1) (s.data.toList ++ [47])).symm.trans ?_⟩
  rw [e1]
  simp
theorem Far.piece_ {s : ByteArray} {k f : Nat} {Q : List St} (h : Far s k f Q) (hk : k ≤ s.size) (hc : ∀ hk : k < s.size, s[k]'hk = 47) (hg : encS (gs (piece s f k)) = piece s f k) : Far s (k + 1) (k + 1) (Q ++ [gs (piece s f k)]) := by
  refine ⟨by omega, Nat.le_refl _, by omega, fun e => e, ?_, by simp, ?_, ?_⟩
  · rw [(h.split hk hc).1]
    rw [show ptx (Q ++ [gs (piece s f k)]) = ptx Q ++ 47 :: encS (gs (piece s f k)) by simp [ptx], hg]
    simp
  · intro q hq
    rcases List.mem_append.1 hq with hq | hq
    · exact h.fit q hq
    · simp at hq
      subst hq
      exact gs_wf _
  · rw [List.map_append, h.pls]
    simp [gs_pl]
theorem Far.done {s : ByteArray} {k f : Nat} {Q : List St} (h : Far s k f Q) (hk : ¬ k ≤ s.size) : s.data.toList = ptx Q := by
  have hl : s.data.toList.length = s.size := by rw [Array.length_toList]; rfl
  have hke : k = s.size + 1 := by have := h.ks; omega
  have hf := h.end_ hke
  have := h.ahead
  rw [List.take_of_length_le (by simp [hl, hf])] at this
  exact List.append_cancel_right this
end Go.Proofs.YtjicabpeohpbpabDoor.stp
