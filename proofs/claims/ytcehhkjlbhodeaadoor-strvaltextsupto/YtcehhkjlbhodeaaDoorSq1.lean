import Derived.Test.YtcehhkjlbhodeaaDoorSv1
namespace Go.Proofs.YtcehhkjlbhodeaaDoor.sv
set_option linter.unusedVariables false

/-- Quoted strings: the pieces of an inside. -/
def hx (c : Int) : Int := if 48 ≤ c ∧ c ≤ 57 then c - 48 else if 65 ≤ c ∧ c ≤ 70 then c - 55 else if 97 ≤ c ∧ c ≤ 102 then c - 87 else -1
def plB (c : Int) : Bool := soB c && !(c == 34) && !(c == 92) && !(c == 10) && !(c == 13)
def sho (c : Int) : Int := if c = 34 then 34 else if c = 92 then 92 else if c = 47 then 47 else if c = 98 then 8 else if c = 102 then 12 else if c = 110 then 10 else if c = 114 then 13 else if c = 116 then 9 else -1
def untQ (n : Nat) (b0 b1 b2 b3 b4 b5 : Int) : Int := if 6 ≤ n ∧ b0 = 92 ∧ b1 = 117 ∧ 0 ≤ hx b2 ∧ 0 ≤ hx b3 ∧ 0 ≤ hx b4 ∧ 0 ≤ hx b5 then hx b2 * 4096 + hx b3 * 256 + hx b4 * 16 + hx b5 else -1
def unt (l : List Int) : Int := untQ l.length (l.getD 0 0) (l.getD 1 0) (l.getD 2 0) (l.getD 3 0) (l.getD 4 0) (l.getD 5 0)
def pcU (u low : Int) : Int × Nat := if u < 0 ∨ (56320 ≤ u ∧ u ≤ 57343) then (0, 0) else if 55296 ≤ u ∧ u ≤ 56319 then (if 56320 ≤ low ∧ low ≤ 57343 then (65536 + (u - 55296) * 1024 + (low - 56320), 12) else (0, 0)) else (u, 6)
def pc (l : List Int) : Int × Nat :=
  if l.length = 0 then (0, 0) else if plB (l.getD 0 0) then (l.getD 0 0, 1) else if l.getD 0 0 ≠ 92 ∨ l.length < 2 then (0, 0) else if 0 ≤ sho (l.getD 1 0) then (sho (l.getD 1 0), 2) else pcU (unt l) (unt (l.drop 6))
def quo (l : List Int) : Option (List Int) :=
  match l with
  | [] => some []
  | c :: r => if (pc (c :: r)).2 = 0 then none else (quo (r.drop ((pc (c :: r)).2 - 1))).map ((pc (c :: r)).1 :: ·)
termination_by l.length
decreasing_by all_goals (simp; try omega)
theorem quo_nil : quo [] = some [] := by rw [quo]
theorem quo_bad {l : List Int} (h0 : 0 < l.length) (h : (pc l).2 = 0) : quo l = none := by
  cases l with
  | nil => simp at h0
  | cons c r => rw [quo, if_pos h]
theorem quo_go {l : List Int} (h : (pc l).2 ≠ 0) : quo l = (quo (l.drop (pc l).2)).map ((pc l).1 :: ·) := by
  cases l with
  | nil => exact absurd rfl h
  | cons c r =>
    rw [quo, if_neg h]
    obtain ⟨k, hk⟩ : ∃ k, (pc (c :: r)).2 = k + 1 := ⟨(pc (c :: r)).2 - 1, by omega⟩
    rw [hk, List.drop_succ_cons, Nat.add_sub_cancel]
theorem hx_lt (c : Int) : -1 ≤ hx c ∧ hx c ≤ 15 := by unfold hx; repeat' split <;> omega
theorem unt_len {l : List Int} (h : 0 ≤ unt l) : 6 ≤ l.length := by
  unfold unt untQ at h
  split at h
  · rename_i h1; exact h1.1
  · omega
theorem unt_lt (l : List Int) : -1 ≤ unt l ∧ unt l ≤ 65535 := by
  unfold unt untQ
  have h2 := hx_lt (l.getD 2 0)
  have h3 := hx_lt (l.getD 3 0)
  have h4 := hx_lt (l.getD 4 0)
  have h5 := hx_lt (l.getD 5 0)
  split <;> omega
theorem pc_le (l : List Int) : (pc l).2 ≤ l.length := by
  unfold pc
  split
  · simp
  · split
    · simp only; omega
    · split
      · simp
      · split
        · simp only; omega
        · unfold pcU
          split
          · simp
          · have h6 : 6 ≤ l.length := unt_len (by omega)
            split
            · split
              · have : 6 ≤ (l.drop 6).length := unt_len (by omega)
                simp at this
                simp only; omega
              · simp
            · exact h6
theorem getD_app {l b : List Int} {i : Nat} (h : i < l.length) : (l ++ b).getD i 0 = l.getD i 0 := by
  simp [List.getD, List.getElem?_append_left h]
theorem unt_app {l : List Int} (b : List Int) (h : 6 ≤ l.length) : unt (l ++ b) = unt l := by
  unfold unt
  rw [getD_app (by omega), getD_app (by omega), getD_app (by omega), getD_app (by omega), getD_app (by omega), getD_app (by omega)]
  have e : ∀ n m : Nat, 6 ≤ n → 6 ≤ m → ∀ b0 b1 b2 b3 b4 b5 : Int, untQ n b0 b1 b2 b3 b4 b5 = untQ m b0 b1 b2 b3 b4 b5 := by
    intro n m hn hm b0 b1 b2 b3 b4 b5
    unfold untQ
    simp only [hn, hm]
  exact e _ _ (by rw [List.length_append]; omega) h _ _ _ _ _ _
theorem pc_app {l : List Int} (b : List Int) (h : (pc l).2 ≠ 0) : pc (l ++ b) = pc l := by
  have h0 : l.length ≠ 0 := fun e => h (by unfold pc; rw [if_pos e])
  have e0 : (l ++ b).getD 0 0 = l.getD 0 0 := getD_app (by omega)
  unfold pc at h ⊢
  rw [if_neg h0] at h ⊢
  have hl0 : ¬ (l ++ b).length = 0 := by rw [List.length_append]; omega
  rw [if_neg hl0, e0]
  split at h
  · rename_i h1
    rw [if_pos h1, if_pos h1]
  · rename_i h1
    rw [if_neg h1, if_neg h1]
    split at h
    · exact absurd rfl h
    · rename_i h2
      rw [if_neg h2, if_neg (by rw [List.length_append]; omega)]
      have e1 : (l ++ b).getD 1 0 = l.getD 1 0 := getD_app (by omega)
      rw [e1]
      split at h
      · rename_i h3
        rw [if_pos h3, if_pos h3]
      · rename_i h3
        rw [if_neg h3, if_neg h3]
        have hu : 6 ≤ l.length := by
          refine unt_len ?_
          unfold pcU at h
          split at h
          · exact absurd rfl h
          · omega
        rw [unt_app b hu]
        by_cases hs : 55296 ≤ unt l ∧ unt l ≤ 56319
        · have h12 : 6 ≤ (l.drop 6).length := by
            refine unt_len ?_
            unfold pcU at h
            rw [if_neg (by omega), if_pos hs] at h
            split at h
            · omega
            · exact absurd rfl h
          rw [List.drop_append_of_le_length hu, unt_app b h12]
        · unfold pcU
          rw [if_neg hs, if_neg hs]
/-- What stands behind a right inside is read as by itself. -/
theorem quo_app : ∀ (n : Nat) (a b x : List Int), a.length ≤ n → quo a = some x → quo (a ++ b) = (quo b).map (x ++ ·)
  | _, [], b, x, _, h => by
    rw [quo_nil] at h
    obtain rfl := Option.some.inj h
    simp
  | 0, c :: r, _, _, h, _ => by simp at h
  | n + 1, c :: r, b, x, hn, h => by
    by_cases hp : (pc (c :: r)).2 = 0
    · rw [quo_bad (by simp) hp] at h; cases h
    · rw [quo_go hp] at h
      cases hq : quo ((c :: r).drop (pc (c :: r)).2) with
      | none => rw [hq] at h; cases h
      | some y =>
        rw [hq] at h
        simp only [Option.map_some, Option.some.injEq] at h
        have hle := pc_le (c :: r)
        have ih := quo_app n ((c :: r).drop (pc (c :: r)).2) b y (by simp at hn hle ⊢; omega) hq
        have e := pc_app b hp
        rw [quo_go (by rw [e]; exact hp), e, List.drop_append_of_le_length hle, ih, ← h]
        cases quo b <;> simp
/-- The canonical quoted string. -/
def hd (d : Int) : Int := if d < 10 then 48 + d else 55 + d
def hex4 (c : Int) : List Int := [92, 117, hd (c / 4096 % 16), hd (c / 256 % 16), hd (c / 16 % 16), hd (c % 16)]
def wrR (c : Int) : List Int :=
  if c = 34 then [92, 34] else if c = 92 then [92, 92] else if c = 8 then [92, 98] else if c = 12 then [92, 102] else if c = 10 then [92, 110] else if c = 13 then [92, 114] else if c = 9 then [92, 116]
  else if c < 32 ∨ c = 127 then hex4 c else if 65536 ≤ c then hex4 (55296 + (c - 65536) / 1024) ++ hex4 (56320 + (c - 65536) % 1024) else [c]
theorem hx_hd (d : Int) (h : 0 ≤ d ∧ d ≤ 15) : hx (hd d) = d := by
  unfold hx hd
  repeat' split <;> omega
theorem unt_hex (c : Int) (r : List Int) (h : 0 ≤ c ∧ c ≤ 65535) : unt (hex4 c ++ r) = c := by
  unfold unt hex4 untQ
  simp only [List.cons_append, List.nil_append, List.getD_cons_zero, List.getD_cons_succ]
  rw [hx_hd _ (by omega), hx_hd _ (by omega), hx_hd _ (by omega), hx_hd _ (by omega), if_pos ⟨by simp, trivial, trivial, by omega, by omega, by omega, by omega⟩]
  omega
theorem hex4_len (c : Int) : (hex4 c).length = 6 := rfl
theorem pc_esc (e : Int) (r : List Int) (h : 0 ≤ sho e) : pc (92 :: e :: r) = (sho e, 2) := by
  unfold pc
  rw [if_neg (by simp), List.getD_cons_zero, if_neg (by decide), if_neg (by simp), List.getD_cons_succ, List.getD_cons_zero, if_pos h]
theorem pc_hex (u : Int) (r : List Int) (h : 0 ≤ u ∧ u ≤ 65535) : pc (hex4 u ++ r) = pcU u (unt r) := by
  unfold pc
  have e0 : (hex4 u ++ r).getD 0 0 = 92 := rfl
  have e1 : (hex4 u ++ r).getD 1 0 = 117 := rfl
  have ed : (hex4 u ++ r).drop 6 = r := rfl
  rw [e0, e1, unt_hex u r h, ed, if_neg (by simp [hex4]), if_neg (by decide), if_neg (by simp [hex4]), if_neg (by decide)]
theorem pc_wr (c : Int) (r : List Int) (h : (0 ≤ c ∧ c ≤ 55295) ∨ (57344 ≤ c ∧ c ≤ 1114111)) : pc (wrR c ++ r) = (c, (wrR c).length) := by
  unfold wrR
  by_cases h1 : c = 34
  · subst h1; exact pc_esc 34 r (by decide)
  rw [if_neg h1]
  by_cases h2 : c = 92
  · subst h2; exact pc_esc 92 r (by decide)
  rw [if_neg h2]
  by_cases h3 : c = 8
  · subst h3; exact pc_esc 98 r (by decide)
  rw [if_neg h3]
  by_cases h4 : c = 12
  · subst h4; exact pc_esc 102 r (by decide)
  rw [if_neg h4]
  by_cases h5 : c = 10
  · subst h5; exact pc_esc 110 r (by decide)
  rw [if_neg h5]
  by_cases h6 : c = 13
  · subst h6; exact pc_esc 114 r (by decide)
  rw [if_neg h6]
  by_cases h7 : c = 9
  · subst h7; exact pc_esc 116 r (by decide)
  rw [if_neg h7]
  by_cases h8 : c < 32 ∨ c = 127
  · rw [if_pos h8, pc_hex c r (by omega)]
    unfold pcU
    rw [if_neg (by omega), if_neg (by omega)]
    rfl
  rw [if_neg h8]
  by_cases h9 : 65536 ≤ c
  · rw [if_pos h9, List.append_assoc, pc_hex _ _ (by omega), unt_hex _ _ (by omega)]
    unfold pcU
    rw [if_neg (by omega), if_pos (by omega), if_pos (by omega)]
    refine Prod.ext ?_ rfl
    show _ = c
    omega
  rw [if_neg h9]
  unfold pc
  have e0 : ([c] ++ r).getD 0 0 = c := rfl
  have hp : plB c = true := by
    simp only [plB, soB, Bool.and_eq_true, Bool.or_eq_true, Bool.not_eq_true', beq_eq_false_iff_ne, decide_eq_true_eq, beq_iff_eq]
    omega
  rw [e0, if_neg (by simp), if_pos hp]
  rfl
/-- What is written quoted is read as it was. -/
theorem quo_wr : ∀ (cs : List Int), (∀ c ∈ cs, (0 ≤ c ∧ c ≤ 55295) ∨ (57344 ≤ c ∧ c ≤ 1114111)) → quo (cs.flatMap wrR) = some cs
  | [], _ => by rw [List.flatMap_nil, quo_nil]
  | c :: cs, h => by
    have hp := pc_wr c (cs.flatMap wrR) (h c (by simp))
    have hl : 0 < (wrR c).length := by
      unfold wrR
      repeat' split
      all_goals simp [hex4]
    rw [List.flatMap_cons, quo_go (by rw [hp]; simp only; omega), hp]
    simp only
    rw [List.drop_left' rfl, quo_wr cs (fun d hd => h d (by simp [hd]))]
    rfl
/-- ... by characters that may stand there: none below U+0020, no U+007F, none above U+FFFF. -/
theorem wr_good (c : Int) (h : (0 ≤ c ∧ c ≤ 55295) ∨ (57344 ≤ c ∧ c ≤ 1114111)) : ∀ d ∈ wrR c, 32 ≤ d ∧ d ≠ 127 ∧ d ≤ 65535 ∧ ((0 ≤ d ∧ d ≤ 55295) ∨ (57344 ≤ d ∧ d ≤ 1114111)) := by
  have hh : ∀ k : Int, 0 ≤ k ∧ k ≤ 15 → 48 ≤ hd k ∧ hd k ≤ 70 := fun k hk => by unfold hd; split <;> omega
  have h4 : ∀ u : Int, ∀ d ∈ hex4 u, 48 ≤ d ∧ d ≤ 117 := by
    intro u d hd
    have a1 := hh (u / 4096 % 16) (by omega)
    have a2 := hh (u / 256 % 16) (by omega)
    have a3 := hh (u / 16 % 16) (by omega)
    have a4 := hh (u % 16) (by omega)
    simp only [hex4, List.mem_cons, List.not_mem_nil, or_false] at hd
    rcases hd with rfl | rfl | rfl | rfl | rfl | rfl <;> omega
  intro d hd
  unfold wrR at hd
  repeat' split at hd
  all_goals first
    | (simp only [List.mem_cons, List.not_mem_nil, or_false] at hd; omega)
    | (have := h4 _ d hd; omega)
    | (rcases List.mem_append.1 hd with h5 | h5 <;> (have := h4 _ d h5; omega))
/-- The values of a right inside are characters. -/
theorem pc_sc (l : List Int) (h : (pc l).2 ≠ 0) : (0 ≤ (pc l).1 ∧ (pc l).1 ≤ 55295) ∨ (57344 ≤ (pc l).1 ∧ (pc l).1 ≤ 1114111) := by
  revert h
  unfold pc
  split
  · intro h; exact absurd rfl h
  · split
    · rename_i h1
      intro _
      simp only [plB, soB, Bool.and_eq_true, Bool.or_eq_true, Bool.not_eq_true', beq_eq_false_iff_ne, decide_eq_true_eq, beq_iff_eq] at h1
      simp only
      omega
    · split
      · intro h; exact absurd rfl h
      · split
        · intro _
          have : sho (l.getD 1 0) ≤ 92 := by unfold sho; repeat' split <;> omega
          simp only
          omega
        · have hu := unt_lt l
          unfold pcU
          split
          · intro h; exact absurd rfl h
          · split
            · split
              · intro _; simp only; omega
              · intro h; exact absurd rfl h
            · intro _; simp only; omega
theorem quo_sc : ∀ (n : Nat) (l x : List Int), l.length ≤ n → quo l = some x → ∀ c ∈ x, (0 ≤ c ∧ c ≤ 55295) ∨ (57344 ≤ c ∧ c ≤ 1114111)
  | _, [], x, _, h, c, hc => by
    rw [quo_nil] at h
    obtain rfl := Option.some.inj h
    cases hc
  | 0, d :: r, _, h, _, _, _ => by simp at h
  | n + 1, d :: r, x, hn, h, c, hc => by
    by_cases hp : (pc (d :: r)).2 = 0
    · rw [quo_bad (by simp) hp] at h; cases h
    · rw [quo_go hp] at h
      cases hq : quo ((d :: r).drop (pc (d :: r)).2) with
      | none => rw [hq] at h; cases h
      | some y =>
        rw [hq] at h
        simp only [Option.map_some, Option.some.injEq] at h
        rw [← h] at hc
        rcases List.mem_cons.1 hc with rfl | h2
        · exact pc_sc _ hp
        · exact quo_sc n _ y (by have := pc_le (d :: r); simp at hn this ⊢; omega) hq c h2
end Go.Proofs.YtcehhkjlbhodeaaDoor.sv
