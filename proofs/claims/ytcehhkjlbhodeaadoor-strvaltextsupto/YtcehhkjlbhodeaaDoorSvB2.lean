import Derived.Test.YtcehhkjlbhodeaaDoorSvB1
namespace Go.Proofs.YtcehhkjlbhodeaaDoor.sv
open Go.ChangeShapes Go.WideShapes Go.ChangeAt Go.RowKit
open mem
open ints (hide unhide soP)
set_option linter.unusedVariables false
/-- lines that are read -/
structure Lns (w : World) (b n c : Nat) (L : List (List Int)) : Prop where
  len : L.length = n
  le : n ≤ c
  lt : b < w.heap.size
  at_ : ∀ i, i < n → ∃ ai ci, w.cell? ⟨b, i, none⟩ = some (.slice ai (L.getD i []).length ci) ∧ Row .i32 w ai (L.getD i []).length ci (L.getD i [])
theorem Lns.below {w w' : World} {b n c : Nat} {L : List (List Int)} (h : Lns w b n c L) (hb : Below w.heap.size w w') : Lns w' b n c L :=
  ⟨h.len, h.le, Nat.lt_of_lt_of_le h.lt hb.size, fun i hi => by
    obtain ⟨ai, ci, h1, h2⟩ := h.at_ i hi
    exact ⟨ai, ci, (hb.cell (p := ⟨b, i, none⟩) h.lt).trans h1, h2.below hb⟩⟩
theorem lns_of {w : World} {base : Nat} {v : Value} {gs : List Nat} {L : List (List Int)} (h : LinesAt w base v gs L) (hn : 0 < L.length) : ∃ b c, v = .slice (some ⟨b, 0, none⟩) L.length c ∧ Lns w b L.length c L := by
  obtain ⟨h1, h2⟩ := h.own
  rcases h2 with ⟨_, h0⟩ | ⟨g, cap, cur, rfl, hg, hh, hnc, hcm, hcs, hx⟩
  · omega
  refine ⟨g, cap, rfl, rfl, hnc, (by rcases Nat.lt_or_ge g w.heap.size with h | h; exact h; rw [Array.getElem?_eq_none h] at hh; cases hh), fun i hi => ?_⟩
  have hr := own_row (h.each i hi)
  obtain ⟨a, cp, e, hrow⟩ := hr
  refine ⟨a, cp, ?_, hrow⟩
  rw [World.ownsRow.cellAt (base := base) (e := 37) (size := 1) (n := L.length) (cap := cap) (xs := List.zipWith lineVal gs L) ⟨h1, .inr ⟨g, cap, cur, rfl, hg, hh, hnc, hcm, hcs, hx⟩⟩ _ (by omega)]
  rw [← e]
  have hl : i < gs.length := by rw [h.len]; exact hi
  rw [List.getElem?_zipWith]
  simp [List.getD, hi, hl]
theorem lst_snoc (L : List (List Int)) (x : List Int) : lst (L ++ [x]) = if blk x then lst L else some (match lst L with | none => ind x | some m => min (ind x) m) := by
  induction L with
  | nil => simp [lst]
  | cons y L ih =>
    rw [List.cons_append, lst, ih]
    cases hx : blk x
    · cases hy : blk y
      · simp only [Bool.false_eq_true, if_false]
        rw [lst, hy]
        cases lst L with
        | none => simp [Nat.min_comm]
        | some m => simp; omega
      · simp only [Bool.false_eq_true, if_false, if_true]
        rw [lst, hy, if_pos rfl]
    · cases hy : blk y
      · simp only [Bool.false_eq_true, if_false, if_true]
        rw [lst, hy]
        simp
      · simp only [if_true]
        rw [lst, hy, if_pos rfl]
/-- the least indent as the program holds it: -1 is none -/
def lsI (L : List (List Int)) : Int := match lst L with | none => -1 | some m => m
theorem lsI_snoc (L : List (List Int)) (x : List Int) : lsI (L ++ [x]) = if (ind x : Int) < (x.length : Int) ∧ (lsI L < 0 ∨ (ind x : Int) < lsI L) then (ind x : Int) else lsI L := by
  have hb := blk_ind x
  have hle := ind_le x
  unfold lsI
  rw [lst_snoc]
  cases hx : blk x
  · rw [hx] at hb
    have hlt : ind x < x.length := by
      have : ¬ ind x = x.length := fun e => by rw [e] at hb; simp at hb
      omega
    cases lst L with
    | none => simp only [Bool.false_eq_true, if_false]; rw [if_pos (by omega)]
    | some m =>
      simp only [Bool.false_eq_true, if_false]
      by_cases h : ind x < m
      · rw [if_pos (by omega)]; omega
      · rw [if_neg (by omega)]; omega
  · rw [hx] at hb
    have e : ind x = x.length := beq_iff_eq.1 hb.symm
    simp only [if_true]
    rw [if_neg (by omega)]
theorem take_snoc' (L : List (List Int)) (k : Nat) (h : k < L.length) : L.take (k + 1) = L.take k ++ [L.getD k []] := by
  rw [List.take_add_one]
  simp [List.getD, h]
theorem lsI_next (L : List (List Int)) (k : Nat) (h : k < L.length) : lsI (L.take (k + 1)) = if (ind (L.getD k []) : Int) < ((L.getD k []).length : Int) ∧ (lsI (L.take k) < 0 ∨ (ind (L.getD k []) : Int) < lsI (L.take k)) then (ind (L.getD k []) : Int) else lsI (L.take k) := by
  rw [take_snoc' L k h]
  exact lsI_snoc _ _
theorem lsI_ge (L : List (List Int)) : -1 ≤ lsI L := by
  unfold lsI
  cases lst L <;> simp only <;> omega
set_option maxHeartbeats 4000000 in
theorem least_ok (b n c : Nat) (L : List (List Int)) (w : World) (h : Lns w b n c L) (hn : n ≤ 9223372036854775806) (hm : ∀ i, (L.getD i []).length ≤ 1099511627776) :
    Calls Tryd.prog 40 #[.slice (some ⟨b, 0, none⟩) n c] w fun e w' => e = .returned (.int .i64 (max (lsI L) 0)) ∧ Below w.heap.size w w' := by
  have HL := hide h.len
  go_enter Tryd.func40, Tryd.ntmps40
  go_wp2
  go_loopw [3, 9] (fun t i wr => ∃ k : Nat, k ≤ n ∧ i = .int .i64 k ∧ t = .int .i64 (lsI (L.take k)) ∧ Below w.heap.size w wr) (fun _ i _ => n - (intOf i).toNat)
  case atStart => exact ⟨0, Nat.zero_le _, rfl, rfl, Below.refl _ _⟩
  case round =>
    obtain ⟨k, hk, rfl, rfl, hb⟩ := hrel
    by_cases hlt : k < n
    · obtain ⟨ai, ci, h1, h2⟩ := (h.below hb).at_ k hlt
      have I := hide (fun W (hW : Row .i32 W ai (L.getD k []).length ci (L.getD k [])) => indent_ok ai _ ci _ W hW (by have := hm k; omega))
      have hsn := hide (lsI_next L k (by rw [unhide HL]; exact hlt))
      have hge := lsI_ge (L.take k)
      have hmk := hm k
      have H2 := hide h2
      obtain ⟨x, hx⟩ : ∃ x, x = L.getD k [] := ⟨_, rfl⟩
      rw [← hx] at h1 I hsn hmk H2
      obtain ⟨T, hT⟩ : ∃ T, T = lsI (L.take k) := ⟨_, rfl⟩
      rw [← hT] at hsn hge ⊢
      have hil := ind_le x
      obtain ⟨m, hm2⟩ : ∃ m, m = ind x := ⟨_, rfl⟩
      rw [← hm2] at I hsn hil
      obtain ⟨q, hq⟩ : ∃ q, q = x.length := ⟨_, rfl⟩
      rw [← hq] at h1 I hsn hmk hil H2
      clear hx hT hm2 hq h2 hm
      have hle := h.le
      have HB := hide hb
      by_cases c1 : (m : Int) < (q : Int)
      · by_cases c2 : T < 0
        · have e := hide (show lsI (L.take (k + 1)) = (m : Int) by rw [unhide hsn, if_pos ⟨c1, .inl c2⟩])
          go_wp2_with fail
          refine (unhide I _ (unhide H2)).mono ?_
          rintro e w1 ⟨rfl, rfl⟩
          go_wp2
          refine ⟨⟨k + 1, by omega, rfl, by rw [unhide e], unhide HB⟩, by simp only [intOf]; omega⟩
        · by_cases c3 : (m : Int) < T
          · have e := hide (show lsI (L.take (k + 1)) = (m : Int) by rw [unhide hsn, if_pos ⟨c1, .inr c3⟩])
            go_wp2_with fail
            refine (unhide I _ (unhide H2)).mono ?_
            rintro e w1 ⟨rfl, rfl⟩
            go_wp2
            refine ⟨⟨k + 1, by omega, rfl, by rw [unhide e], unhide HB⟩, by simp only [intOf]; omega⟩
          · have e := hide (show lsI (L.take (k + 1)) = T by rw [unhide hsn, if_neg (by omega)])
            go_wp2_with fail
            refine (unhide I _ (unhide H2)).mono ?_
            rintro e w1 ⟨rfl, rfl⟩
            go_wp2
            refine ⟨⟨k + 1, by omega, rfl, by rw [unhide e], unhide HB⟩, by simp only [intOf]; omega⟩
      · have e := hide (show lsI (L.take (k + 1)) = T by rw [unhide hsn, if_neg (by omega)])
        go_wp2_with fail
        refine (unhide I _ (unhide H2)).mono ?_
        rintro e w1 ⟨rfl, rfl⟩
        go_wp2
        refine ⟨⟨k + 1, by omega, rfl, by rw [unhide e], unhide HB⟩, by simp only [intOf]; omega⟩
    · obtain rfl : k = n := by omega
      have e : L.take k = L := List.take_of_length_le (by rw [unhide HL]; omega)
      rw [e]
      have hge := lsI_ge L
      obtain ⟨T, hT⟩ : ∃ T, T = lsI L := ⟨_, rfl⟩
      rw [← hT] at hge ⊢
      have HT := hide hT
      clear hT
      have HB := hide hb
      by_cases c0 : T < 0
      · have e2 := hide (show max T 0 = 0 by omega)
        go_wp2
        go_ret
        rw [← unhide HT, unhide e2]
        exact ⟨rfl, unhide HB⟩
      · have e2 := hide (show max T 0 = T by omega)
        go_wp2
        go_ret
        rw [← unhide HT, unhide e2]
        exact ⟨rfl, unhide HB⟩
end Go.Proofs.YtcehhkjlbhodeaaDoor.sv
