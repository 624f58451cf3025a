import Derived.Test.YtcehhkjlbhodeaaDoorSvB2
namespace Go.Proofs.YtcehhkjlbhodeaaDoor.sv
open Go.ChangeShapes Go.WideShapes Go.ChangeAt Go.RowKit
open mem
open ints (hide unhide soP)
set_option linter.unusedVariables false
theorem lst_zero_iff (L : List (List Int)) (h : ∃ x ∈ L, blk x = false) : (max (lsI L) 0 = 0) ↔ ∃ x ∈ L, blk x = false ∧ ind x = 0 := by
  unfold lsI
  cases hL : lst L with
  | none =>
    obtain ⟨x, hx, hb⟩ := h
    rw [lst_none hL x hx] at hb
    cases hb
  | some m =>
    obtain ⟨⟨x, hx, hb, hi⟩, h2⟩ := lst_some hL
    constructor
    · intro h3
      simp only at h3
      exact ⟨x, hx, hb, by omega⟩
    · rintro ⟨y, hy, hyb, hyi⟩
      have := h2 y hy hyb
      simp only
      omega
def kpB (L : List (List Int)) : Bool := !blk (L.getD 0 []) && !blk (L.getD (L.length - 1) []) && (decide (L.length = 1) || decide (max (lsI L) 0 = 0))
theorem last_at (x : List Int) (r : List (List Int)) : (x :: r).getLastD [] = (x :: r).getD ((x :: r).length - 1) [] := by
  rw [List.getLastD_eq_getLast?, List.getLast?_eq_getElem?]
  rfl
theorem kp_pos (L : List (List Int)) (hn : 0 < L.length) : kpB L = pos L := by
  cases L with
  | nil => simp at hn
  | cons x r =>
    unfold kpB pos
    rw [← last_at]
    simp only [List.getD_cons_zero]
    cases hx : blk x
    · cases hl : blk ((x :: r).getLastD [])
      · simp only [Bool.not_false, Bool.true_and]
        rw [Bool.or_comm]
        have hz := lst_zero_iff (x :: r) ⟨x, by simp, hx⟩
        congr 1
        · rw [Bool.eq_iff_iff, decide_eq_true_eq, hz, List.any_eq_true]
          constructor
          · rintro ⟨y, hy, h1, h2⟩
            exact ⟨y, hy, by rw [h1, h2]; rfl⟩
          · rintro ⟨y, hy, h1⟩
            rw [Bool.and_eq_true, beq_iff_eq, Bool.not_eq_true'] at h1
            exact ⟨y, hy, h1.2, h1.1⟩
        · cases r <;> simp
      · simp
    · simp
set_option maxHeartbeats 4000000 in
theorem keeps_ok (b n c : Nat) (L : List (List Int)) (w : World) (h : Lns w b n c L) (h0 : 0 < n) (hn : n ≤ 1099511627777) (hm : ∀ i, (L.getD i []).length ≤ 1099511627776) :
    Calls Tryd.prog 17 #[.slice (some ⟨b, 0, none⟩) n c] w fun e w' => e = .returned (.bool (pos L)) ∧ Below w.heap.size w w' := by
  have LI := hide (fun W (hW : Lns W b n c L) => least_ok b n c L W hW (by omega) hm)
  have ek : pos L = (!blk (L.getD 0 []) && !blk (L.getD (n - 1) []) && (decide (n = 1) || decide (max (lsI L) 0 = 0))) := by
    rw [← kp_pos L (by rw [h.len]; exact h0)]
    unfold kpB
    rw [h.len]
  rw [ek]
  clear ek
  obtain ⟨a1, c1, g1, r1⟩ := h.at_ 0 h0
  obtain ⟨a2, c2, g2, r2⟩ := h.at_ (n - 1) (by omega)
  have B1 := hide (fun W (hW : Below w.heap.size w W) => blank_ok a1 _ c1 _ W (r1.below hW) (by have := hm 0; omega))
  have B2 := hide (fun W (hW : Below w.heap.size w W) => blank_ok a2 _ c2 _ W (r2.below hW) (by have := hm (n - 1); omega))
  have HH := hide h
  have hle := h.le
  obtain ⟨T, hT⟩ : ∃ T, T = max (lsI L) 0 := ⟨_, rfl⟩
  rw [← hT] at LI ⊢
  obtain ⟨x1, hx1⟩ : ∃ x, x = blk (L.getD 0 []) := ⟨_, rfl⟩
  obtain ⟨x2, hx2⟩ : ∃ x, x = blk (L.getD (n - 1) []) := ⟨_, rfl⟩
  obtain ⟨q1, hq1⟩ : ∃ q, q = (L.getD 0 []).length := ⟨_, rfl⟩
  obtain ⟨q2, hq2⟩ : ∃ q, q = (L.getD (n - 1) []).length := ⟨_, rfl⟩
  rw [← hx1] at B1
  rw [← hx2] at B2
  rw [← hx1, ← hx2]
  rw [← hq1] at g1 B1
  rw [← hq2] at g2 B2
  clear hT hx1 hx2 hq1 hq2 r1 r2 h hm
  go_enter Tryd.func17, Tryd.ntmps17
  go_wp2_with fail
  refine (unhide B1 _ (Below.refl _ _)).mono ?_
  rintro e w1 ⟨rfl, rfl⟩
  cases x1
  · go_wp2_with fail
    refine (unhide B2 _ (Below.refl _ _)).mono ?_
    rintro e w2 ⟨rfl, rfl⟩
    cases x2
    · by_cases h1 : n = 1
      · subst h1
        go_wp2
        go_ret
        exact ⟨rfl, Below.refl _ _⟩
      · have e1 : ((n : Int) == 1) = false := by simp; omega
        have n1 : ¬ (n : Int) = 1 := by omega
        have e2 := hide (show (!false && !false && (decide (n = 1) || decide (T = 0))) = (T == 0) by simp [h1]; rfl)
        go_wp2_with fail
        refine (unhide LI _ (unhide HH)).mono ?_
        rintro e w2 ⟨rfl, b2⟩
        have HB := hide b2
        clear b2
        go_wp2
        go_ret
        refine ⟨?_, unhide HB⟩
        rw [unhide e2]
        rfl
    · go_wp2
      go_ret
      exact ⟨rfl, Below.refl _ _⟩
  · go_wp2
    go_ret
    exact ⟨rfl, Below.refl _ _⟩
end Go.Proofs.YtcehhkjlbhodeaaDoor.sv
