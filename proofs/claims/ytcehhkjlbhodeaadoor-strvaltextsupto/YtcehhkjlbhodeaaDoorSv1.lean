import Derived.Test.YtcehhkjlbhodeaaDoorRows
namespace Go.Proofs.YtcehhkjlbhodeaaDoor.sv
set_option linter.unusedVariables false

def whB (c : Int) : Bool := c == 9 || c == 32
def soB (c : Int) : Bool := c == 9 || c == 10 || c == 13 || (decide (32 ≤ c) && decide (c ≤ 55295)) || (decide (57344 ≤ c) && decide (c ≤ 65535))
def ind (l : List Int) : Nat := (l.takeWhile whB).length
def blk (l : List Int) : Bool := l.all whB
/-- The lines: a line feed, a carriage return, or both together end one. -/
def pre (c : Int) : List (List Int) → List (List Int)
  | [] => [[c]]
  | x :: xs => (c :: x) :: xs
def lns : List Int → List (List Int)
  | [] => [[]]
  | c :: r => if c = 10 then [] :: lns r else if c = 13 then (if r.head? = some 10 then lns r else [] :: lns r) else pre c (lns r)
def jn : List (List Int) → List Int
  | [] => []
  | [x] => x
  | x :: y :: r => x ++ 10 :: jn (y :: r)
/-- A line that no line end stands in. -/
def flat (x : List Int) : Prop := ∀ c ∈ x, c ≠ 10 ∧ c ≠ 13
theorem flat_nil : flat [] := fun _ h => by cases h
theorem flat_cons {c : Int} {x : List Int} (h : c ≠ 10 ∧ c ≠ 13) (hx : flat x) : flat (c :: x) := fun d hd => by
  rcases List.mem_cons.1 hd with rfl | h2
  · exact h
  · exact hx d h2
theorem flat_tail {c : Int} {x : List Int} (h : flat (c :: x)) : flat x := fun d hd => h d (List.mem_cons_of_mem _ hd)
theorem pre_ne (c : Int) (L : List (List Int)) : pre c L ≠ [] := by cases L <;> simp [pre]
theorem lns_ne : ∀ l, lns l ≠ []
  | [] => by simp [lns]
  | c :: r => by
    rw [lns]
    split
    · simp
    · split
      · split
        · exact lns_ne r
        · simp
      · exact pre_ne _ _
theorem lns_flat : ∀ l, ∀ x ∈ lns l, flat x
  | [], x, h => by simp [lns] at h; subst h; exact flat_nil
  | c :: r, x, h => by
    rw [lns] at h
    split at h
    · rcases List.mem_cons.1 h with rfl | h2
      · exact flat_nil
      · exact lns_flat r x h2
    · split at h
      · split at h
        · exact lns_flat r x h
        · rcases List.mem_cons.1 h with rfl | h2
          · exact flat_nil
          · exact lns_flat r x h2
      · rename_i h1 h2
        have ih := lns_flat r
        have hne := lns_ne r
        revert h ih hne
        cases lns r with
        | nil => intro h ih hne; exact absurd rfl hne
        | cons y ys =>
          intro h ih hne
          rcases List.mem_cons.1 h with rfl | h3
          · exact flat_cons ⟨h1, h2⟩ (ih y (by simp))
          · exact ih x (by simp [h3])
theorem lns_mem : ∀ l, ∀ x ∈ lns l, ∀ c ∈ x, c ∈ l
  | [], x, h, c, hc => by simp [lns] at h; subst h; cases hc
  | d :: r, x, h, c, hc => by
    rw [lns] at h
    split at h
    · rcases List.mem_cons.1 h with rfl | h2
      · cases hc
      · exact List.mem_cons_of_mem _ (lns_mem r x h2 c hc)
    · split at h
      · split at h
        · exact List.mem_cons_of_mem _ (lns_mem r x h c hc)
        · rcases List.mem_cons.1 h with rfl | h2
          · cases hc
          · exact List.mem_cons_of_mem _ (lns_mem r x h2 c hc)
      · have ih := lns_mem r
        have hne := lns_ne r
        revert h ih hne
        cases lns r with
        | nil => intro h ih hne; exact absurd rfl hne
        | cons y ys =>
          intro h ih hne
          rcases List.mem_cons.1 h with rfl | h3
          · rcases List.mem_cons.1 hc with rfl | h4
            · simp
            · exact List.mem_cons_of_mem _ (ih y (by simp) c h4)
          · exact List.mem_cons_of_mem _ (ih x (by simp [h3]) c hc)
/-- A line and its end. -/
theorem lns_cut : ∀ (x r : List Int), flat x → lns (x ++ 10 :: r) = x :: lns r
  | [], r, _ => by simp [lns]
  | c :: x, r, h => by
    have hc := h c (by simp)
    rw [List.cons_append, lns, if_neg hc.1, if_neg hc.2, lns_cut x r (flat_tail h)]
    rfl
theorem lns_one : ∀ (x : List Int), flat x → lns x = [x]
  | [], _ => rfl
  | c :: x, h => by
    have hc := h c (by simp)
    rw [lns, if_neg hc.1, if_neg hc.2, lns_one x (flat_tail h)]
    rfl
theorem lns_jn : ∀ (L : List (List Int)), L ≠ [] → (∀ x ∈ L, flat x) → lns (jn L) = L
  | [], h, _ => absurd rfl h
  | [x], _, h => by rw [jn]; exact lns_one x (h x (by simp))
  | x :: y :: r, _, h => by
    rw [jn, lns_cut x _ (h x (by simp)), lns_jn (y :: r) (by simp) (fun z hz => h z (by simp [List.mem_cons.1 hz]))]
theorem jn_pre (c : Int) : ∀ (L : List (List Int)), L ≠ [] → jn (pre c L) = c :: jn L
  | [], h => absurd rfl h
  | [x], _ => rfl
  | x :: y :: r, _ => rfl
theorem jn_cons (x : List Int) (L : List (List Int)) (h : L ≠ []) : jn (x :: L) = x ++ 10 :: jn L := by
  cases L with
  | nil => exact absurd rfl h
  | cons y r => rfl
theorem jn_lns : ∀ (l : List Int), (∀ c ∈ l, c ≠ 13) → jn (lns l) = l
  | [], _ => rfl
  | c :: r, h => by
    have hc := h c (by simp)
    have ih := jn_lns r (fun d hd => h d (by simp [hd]))
    rw [lns]
    split
    · rename_i h1
      rw [jn_cons _ _ (lns_ne r), ih, h1]
      rfl
    · rw [jn_pre c _ (lns_ne r), ih]
/-- Lines with an end each, and what comes behind. -/
theorem lns_ends : ∀ (L : List (List Int)) (r : List Int), (∀ x ∈ L, flat x) → lns (L.flatMap (fun x => x ++ [10]) ++ r) = L ++ lns r
  | [], r, _ => by simp
  | x :: L, r, h => by
    rw [List.flatMap_cons, List.append_assoc, List.append_assoc, List.singleton_append, lns_cut x _ (h x (by simp)), lns_ends L r (fun z hz => h z (by simp [hz])), List.cons_append]
theorem jn_mem : ∀ (L : List (List Int)) (c : Int), c ∈ jn L → c = 10 ∨ ∃ x ∈ L, c ∈ x
  | [], c, h => by simp [jn] at h
  | [x], c, h => by rw [jn] at h; exact .inr ⟨x, by simp, h⟩
  | x :: y :: r, c, h => by
    rw [jn, List.mem_append, List.mem_cons] at h
    rcases h with h | h | h
    · exact .inr ⟨x, by simp, h⟩
    · exact .inl h
    · rcases jn_mem (y :: r) c h with h2 | ⟨z, hz, h2⟩
      · exact .inl h2
      · exact .inr ⟨z, by simp [List.mem_cons.1 hz], h2⟩

/-- Quotes: the escape, three of them, reading and guarding. -/
def esc4 (l : List Int) : Bool := l.take 4 == [92, 34, 34, 34]
def tri (l : List Int) : Bool := l.take 3 == [34, 34, 34]
def opn (l : List Int) : List Int :=
  match l with
  | [] => []
  | c :: r => if esc4 (c :: r) then 34 :: 34 :: 34 :: opn (r.drop 3) else c :: opn r
termination_by l.length
decreasing_by all_goals (simp; try omega)
def grd (l : List Int) : List Int :=
  match l with
  | [] => []
  | c :: r => if tri (c :: r) then 92 :: 34 :: 34 :: 34 :: grd (r.drop 2) else c :: grd r
termination_by l.length
decreasing_by all_goals (simp; try omega)
theorem opn_nil : opn [] = [] := by rw [opn]
theorem opn_yes {c : Int} {r : List Int} (h : esc4 (c :: r) = true) : opn (c :: r) = 34 :: 34 :: 34 :: opn (r.drop 3) := by rw [opn, if_pos h]
theorem opn_no {c : Int} {r : List Int} (h : esc4 (c :: r) = false) : opn (c :: r) = c :: opn r := by rw [opn, if_neg (by simp [h])]
theorem grd_nil : grd [] = [] := by rw [grd]
theorem grd_yes {c : Int} {r : List Int} (h : tri (c :: r) = true) : grd (c :: r) = 92 :: 34 :: 34 :: 34 :: grd (r.drop 2) := by rw [grd, if_pos h]
theorem grd_no {c : Int} {r : List Int} (h : tri (c :: r) = false) : grd (c :: r) = c :: grd r := by rw [grd, if_neg (by simp [h])]
theorem tri_form {l : List Int} (h : tri l = true) : ∃ r, l = 34 :: 34 :: 34 :: r := by
  match l, h with
  | a :: b :: c :: r, h =>
    simp [tri] at h
    obtain ⟨rfl, rfl, rfl⟩ := h
    exact ⟨r, rfl⟩
  | [], h => simp [tri] at h
  | [_], h => simp [tri] at h
  | [_, _], h => simp [tri] at h
theorem esc4_form {l : List Int} (h : esc4 l = true) : ∃ r, l = 92 :: 34 :: 34 :: 34 :: r := by
  match l, h with
  | a :: b :: c :: d :: r, h =>
    simp [esc4] at h
    obtain ⟨rfl, rfl, rfl, rfl⟩ := h
    exact ⟨r, rfl⟩
  | [], h => simp [esc4] at h
  | [_], h => simp [esc4] at h
  | [_, _], h => simp [esc4] at h
  | [_, _, _], h => simp [esc4] at h
theorem esc4_tri (c : Int) (l : List Int) : esc4 (c :: l) = (c == 92 && tri l) := by
  unfold esc4 tri
  rw [List.take_succ_cons]
  cases h : (c == 92) <;> simp_all
/-- What is guarded begins with a quote only where it did. -/
theorem grd_quote {l x : List Int} (h : grd l = 34 :: x) : ∃ r, l = 34 :: r ∧ tri l = false ∧ x = grd r := by
  cases l with
  | nil => rw [grd_nil] at h; cases h
  | cons c r =>
    cases ht : tri (c :: r)
    · rw [grd_no ht] at h
      injection h with h1 h2
      exact ⟨r, by rw [h1], rfl, h2.symm⟩
    · rw [grd_yes ht] at h
      injection h with h1 h2
      exact absurd h1 (by decide)
theorem grd_tri (l : List Int) : tri (grd l) = false := by
  cases h : tri (grd l)
  · rfl
  · exfalso
    obtain ⟨x, hx⟩ := tri_form h
    obtain ⟨r, h1, h2, h3⟩ := grd_quote hx
    obtain ⟨r2, h4, h5, h6⟩ := grd_quote h3.symm
    obtain ⟨r3, h7, h8, h9⟩ := grd_quote h6.symm
    rw [h1, h4, h7] at h2
    simp [tri] at h2
theorem opn_grd : ∀ (n : Nat) (l : List Int), l.length ≤ n → opn (grd l) = l
  | _, [], _ => by rw [grd_nil, opn_nil]
  | 0, c :: r, h => by simp at h
  | n + 1, c :: r, h => by
    cases ht : tri (c :: r)
    · rw [grd_no ht, opn_no, opn_grd n r (by simp at h; omega)]
      rw [esc4_tri, grd_tri]
      simp
    · rw [grd_yes ht, opn_yes (by simp [esc4])]
      obtain ⟨x, hx⟩ := tri_form ht
      injection hx with h1 h2
      have := opn_grd n (r.drop 2) (by simp at h ⊢; omega)
      simp only [List.drop_succ_cons, List.drop_zero]
      rw [this, h1, h2]
      rfl
theorem opn_grd' (l : List Int) : opn (grd l) = l := opn_grd l.length l (Nat.le_refl _)
theorem opn_mem : ∀ (n : Nat) (l : List Int), l.length ≤ n → ∀ c ∈ opn l, c ∈ l
  | _, [], _, c, h => by rw [opn_nil] at h; exact h
  | 0, d :: r, hl, _, _ => by simp at hl
  | n + 1, d :: r, hl, c, h => by
    cases he : esc4 (d :: r)
    · rw [opn_no he] at h
      rcases List.mem_cons.1 h with rfl | h2
      · simp
      · exact List.mem_cons_of_mem _ (opn_mem n r (by simp at hl; omega) c h2)
    · rw [opn_yes he] at h
      obtain ⟨x, hx⟩ := esc4_form he
      injection hx with h1 h2
      have ih := opn_mem n (r.drop 3) (by simp at hl ⊢; omega)
      simp only [List.mem_cons] at h
      rcases h with rfl | rfl | rfl | h
      · rw [h2]; simp
      · rw [h2]; simp
      · rw [h2]; simp
      · exact List.mem_cons_of_mem _ (List.mem_of_mem_drop (ih c h))
theorem grd_mem : ∀ (n : Nat) (l : List Int), l.length ≤ n → ∀ c ∈ grd l, c = 92 ∨ c ∈ l
  | _, [], _, c, h => by rw [grd_nil] at h; exact .inr h
  | 0, d :: r, hl, _, _ => by simp at hl
  | n + 1, d :: r, hl, c, h => by
    cases he : tri (d :: r)
    · rw [grd_no he] at h
      rcases List.mem_cons.1 h with rfl | h2
      · simp
      · rcases grd_mem n r (by simp at hl; omega) c h2 with h3 | h3
        · exact .inl h3
        · exact .inr (List.mem_cons_of_mem _ h3)
    · rw [grd_yes he] at h
      obtain ⟨x, hx⟩ := tri_form he
      injection hx with h1 h2
      have ih := grd_mem n (r.drop 2) (by simp at hl ⊢; omega)
      simp only [List.mem_cons] at h
      rcases h with rfl | rfl | rfl | rfl | h
      · exact .inl rfl
      · rw [h1]; simp
      · rw [h1]; simp
      · rw [h1]; simp
      · rcases ih c h with h3 | h3
        · exact .inl h3
        · exact .inr (List.mem_cons_of_mem _ (List.mem_of_mem_drop h3))
theorem grd_flat {l : List Int} (h : flat l) : flat (grd l) := fun c hc => by
  rcases grd_mem l.length l (Nat.le_refl _) c hc with rfl | h2
  · decide
  · exact h c h2
theorem opn_flat {l : List Int} (h : flat l) : flat (opn l) := fun c hc => h c (opn_mem l.length l (Nat.le_refl _) c hc)
/-- Which insides may stand. -/
def std (l : List Int) (q : Nat) (last : Int) : Bool :=
  match l with
  | [] => !(last == 34) && !(last == 92)
  | c :: r => soB c && if esc4 (c :: r) then std (r.drop 3) 0 0 else if (if c = 34 then q + 1 else 0) = 3 then false else std r (if c = 34 then q + 1 else 0) c
termination_by l.length
decreasing_by all_goals (simp; try omega)
theorem std_nil (q : Nat) (last : Int) : std [] q last = (!(last == 34) && !(last == 92)) := by rw [std]
theorem std_yes {c : Int} {r : List Int} (q : Nat) (last : Int) (h : esc4 (c :: r) = true) : std (c :: r) q last = std (r.drop 3) 0 0 := by
  rw [std, if_pos h]
  obtain ⟨x, hx⟩ := esc4_form h
  injection hx with h1 h2
  rw [h1]
  rfl
theorem std_no {c : Int} {r : List Int} (q : Nat) (last : Int) (h : esc4 (c :: r) = false) (hc : c ≠ 34) : std (c :: r) q last = (soB c && std r 0 c) := by
  rw [std, if_neg (by simp [h]), if_neg hc, if_neg (by decide)]
theorem std_quote {r : List Int} (q : Nat) (last : Int) : std (34 :: r) q last = (if q = 2 then false else std r (q + 1) 34) := by
  rw [std, if_neg (by rw [esc4_tri]; simp), if_pos rfl]
  have : soB 34 = true := by decide
  rw [this, Bool.true_and]
  by_cases h : q = 2
  · rw [if_pos h, if_pos (by omega)]
  · rw [if_neg h, if_neg (by omega)]
theorem std_grd : ∀ (n : Nat) (l t : List Int) (q : Nat) (last : Int), l.length ≤ n → q ≤ 2 → (q = 0 ∨ tri (List.replicate q 34 ++ l) = false) → (∀ c ∈ l, soB c = true) → std (grd l ++ 10 :: t) q last = std t 0 10
  | _, [], t, q, last, _, _, _, _ => by
    rw [grd_nil, List.nil_append, std_no q last (by rw [esc4_tri]; simp) (by decide)]
    rfl
  | 0, c :: r, _, _, _, h, _, _, _ => by simp at h
  | n + 1, c :: r, t, q, last, h, hq, hi, hs => by
    have hr : r.length ≤ n := by simp at h; omega
    cases ht : tri (c :: r)
    · rw [grd_no ht, List.cons_append]
      have he : esc4 (c :: (grd r ++ 10 :: t)) = false := by
        rw [esc4_tri]
        cases h3 : tri (grd r ++ 10 :: t)
        · simp
        · exfalso
          obtain ⟨x, hx⟩ := tri_form h3
          have hg := grd_tri r
          revert hx hg
          cases grd r with
          | nil => intro hx; simp at hx
          | cons a y =>
            cases y with
            | nil => intro hx; simp at hx
            | cons b z =>
              cases z with
              | nil => intro hx; simp at hx
              | cons d u =>
                intro hx hg
                simp at hx
                obtain ⟨rfl, rfl, rfl, _⟩ := hx
                simp [tri] at hg
      by_cases hc : c = 34
      · subst hc
        rw [std_quote]
        have hq2 : q ≠ 2 := by
          rintro rfl
          rcases hi with h0 | h0
          · cases h0
          · simp [tri] at h0
        rw [if_neg hq2]
        refine std_grd n r t (q + 1) 34 hr (by omega) (.inr ?_) (fun d hd => hs d (by simp [hd]))
        by_cases q0 : q = 0
        · subst q0
          exact ht
        · have q1 : q = 1 := by omega
          subst q1
          rcases hi with h0 | h0
          · cases h0
          · exact h0
      · rw [std_no q last he hc, hs c (by simp), Bool.true_and]
        exact std_grd n r t 0 c hr (by omega) (.inl rfl) (fun d hd => hs d (by simp [hd]))
    · rw [grd_yes ht, List.cons_append, std_yes q last (by simp [esc4])]
      simp only [List.cons_append, List.drop_succ_cons, List.drop_zero]
      exact std_grd n (r.drop 2) t 0 0 (by simp; omega) (by omega) (.inl rfl) (fun d hd => hs d (List.mem_cons_of_mem _ (List.mem_of_mem_drop hd)))
theorem std_ends : ∀ (L : List (List Int)) (q : Nat) (last : Int), q = 0 → last ≠ 34 → last ≠ 92 → (∀ x ∈ L, ∀ c ∈ x, soB c = true) → std (L.flatMap (fun x => grd x ++ [10])) q last = true
  | [], q, last, _, h1, h2, _ => by
    rw [List.flatMap_nil, std_nil]
    simp [h1, h2]
  | x :: L, q, last, hq, h1, h2, hs => by
    rw [List.flatMap_cons, List.append_assoc, List.singleton_append, std_grd x.length x _ q last (Nat.le_refl _) (by omega) (.inl hq) (hs x (by simp))]
    exact std_ends L 0 10 rfl (by decide) (by decide) (fun z hz => hs z (by simp [hz]))
theorem std_so : ∀ (n : Nat) (l : List Int) (q : Nat) (last : Int), l.length ≤ n → std l q last = true → ∀ c ∈ l, soB c = true
  | _, [], _, _, _, _, c, hc => by cases hc
  | 0, d :: r, _, _, h, _, _, _ => by simp at h
  | n + 1, d :: r, q, last, h, hs, c, hc => by
    cases he : esc4 (d :: r)
    · by_cases h34 : d = 34
      · subst h34
        rw [std_quote] at hs
        split at hs
        · cases hs
        · rcases List.mem_cons.1 hc with rfl | h2
          · decide
          · exact std_so n r _ _ (by simp at h; omega) hs c h2
      · rw [std_no q last he h34, Bool.and_eq_true] at hs
        rcases List.mem_cons.1 hc with rfl | h2
        · exact hs.1
        · exact std_so n r _ _ (by simp at h; omega) hs.2 c h2
    · rw [std_yes q last he] at hs
      obtain ⟨x, hx⟩ := esc4_form he
      rw [hx] at hc
      injection hx with h1 h2
      rw [h2] at hs h
      have ih := std_so n x 0 0 (by simp at h; omega) hs
      simp only [List.mem_cons] at hc
      rcases hc with rfl | rfl | rfl | rfl | hc
      · decide
      · decide
      · decide
      · decide
      · exact ih c hc
end Go.Proofs.YtcehhkjlbhodeaaDoor.sv
