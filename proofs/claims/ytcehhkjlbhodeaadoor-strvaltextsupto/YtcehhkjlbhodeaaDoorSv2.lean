import Derived.Test.YtcehhkjlbhodeaaDoorSv1
namespace Go.Proofs.YtcehhkjlbhodeaaDoor.sv
set_option linter.unusedVariables false

/-- The least of the indents of the lines that aren't blank; none: 0. -/
def lst : List (List Int) → Option Nat
  | [] => none
  | x :: L => if blk x then lst L else some (match lst L with | none => ind x | some m => min (ind x) m)
def cmn (L : List (List Int)) : Nat := (lst (L.drop 1)).getD 0
def cutL (n : Nat) : List (List Int) → List (List Int)
  | [] => []
  | x :: L => x :: L.map (List.drop n)
def trm (L : List (List Int)) : List (List Int) := ((L.dropWhile blk).reverse.dropWhile blk).reverse
def ddt (L : List (List Int)) : List (List Int) := trm (cutL (cmn L) L)
def blo (l : List Int) : Option (List Int) := if std l 0 0 then some (jn (ddt ((lns l).map opn))) else none
/-- Has a block string the value of these lines? -/
def pos (L : List (List Int)) : Bool := match L with
  | [] => false
  | x :: r => !blk x && !blk ((x :: r).getLastD []) && ((x :: r).any (fun l => ind l == 0 && !blk l) || r.isEmpty)
def ins (L : List (List Int)) : List Int :=
  if (L.length == 1 && whB ((L.headD []).headD 0)) = true then L.flatMap (fun x => grd x ++ [10]) else 10 :: L.flatMap (fun x => grd x ++ [10])
/-- The inside of a value's block string. -/
def btx (v : List Int) : Option (List Int) :=
  if (v.all soB && !v.contains 13) = false then none else if v = [] then some [] else if pos (lns v) then some (ins (lns v)) else none

theorem ind_le (l : List Int) : ind l ≤ l.length := by
  unfold ind
  exact (List.takeWhile_prefix whB).length_le
theorem blk_ind (l : List Int) : blk l = (ind l == l.length) := by
  induction l with
  | nil => rfl
  | cons c r ih =>
    unfold blk ind at ih ⊢
    rw [List.all_cons, List.takeWhile_cons]
    cases h : whB c
    · simp
    · simp [ih]
theorem blk_nil : blk [] = true := rfl
theorem ind0 {c : Int} {r : List Int} (h : whB c = false) : ind (c :: r) = 0 := by unfold ind; rw [List.takeWhile_cons, h]; rfl
/-- What is left of a line behind its own indent. -/
theorem ind_drop : ∀ (l : List Int) (n : Nat), n ≤ ind l → ind (l.drop n) = ind l - n
  | l, 0, _ => by simp
  | [], n + 1, h => by simp [ind] at h
  | c :: r, n + 1, h => by
    cases hc : whB c
    · rw [ind0 hc] at h; omega
    · have e : ind (c :: r) = ind r + 1 := by unfold ind; rw [List.takeWhile_cons, hc]; simp
      rw [e] at h ⊢
      rw [List.drop_succ_cons, ind_drop r n (by omega)]
      omega
theorem blk_drop (l : List Int) (n : Nat) (h : n ≤ ind l) : blk (l.drop n) = blk l := by
  rw [blk_ind, blk_ind, ind_drop l n h, List.length_drop]
  have := ind_le l
  rw [Bool.eq_iff_iff, beq_iff_eq, beq_iff_eq]
  omega
theorem blk_drop_yes (l : List Int) (n : Nat) (h : blk l = true) : blk (l.drop n) = true := by
  unfold blk at h ⊢
  rw [List.all_eq_true] at h ⊢
  exact fun c hc => h c (List.mem_of_mem_drop hc)
/-- The least: it is one of them, and none is less. -/
theorem lst_none {L : List (List Int)} (h : lst L = none) : ∀ x ∈ L, blk x = true := by
  induction L with
  | nil => intro x hx; cases hx
  | cons y L ih =>
    rw [lst] at h
    cases hb : blk y
    · rw [hb] at h; simp at h
    · rw [hb, if_pos rfl] at h
      intro x hx
      rcases List.mem_cons.1 hx with rfl | h2
      · exact hb
      · exact ih h x h2
theorem lst_some {L : List (List Int)} {m : Nat} (h : lst L = some m) : (∃ x ∈ L, blk x = false ∧ ind x = m) ∧ ∀ x ∈ L, blk x = false → m ≤ ind x := by
  induction L generalizing m with
  | nil => cases h
  | cons y L ih =>
    rw [lst] at h
    cases hb : blk y
    · rw [hb] at h
      simp only [Bool.false_eq_true, if_false, Option.some.injEq] at h
      cases hL : lst L with
      | none =>
        rw [hL] at h
        simp only at h
        refine ⟨⟨y, by simp, hb, h⟩, fun x hx hx2 => ?_⟩
        rcases List.mem_cons.1 hx with rfl | h2
        · omega
        · rw [lst_none hL x h2] at hx2; cases hx2
      | some k =>
        rw [hL] at h
        simp only at h
        obtain ⟨⟨z, hz, hz2, hz3⟩, h4⟩ := ih hL
        refine ⟨?_, fun x hx hx2 => ?_⟩
        · by_cases hle : ind y ≤ k
          · exact ⟨y, by simp, hb, by omega⟩
          · exact ⟨z, by simp [hz], hz2, by omega⟩
        · rcases List.mem_cons.1 hx with rfl | h2
          · omega
          · have := h4 x h2 hx2; omega
    · rw [hb, if_pos rfl] at h
      obtain ⟨⟨z, hz, hz2, hz3⟩, h4⟩ := ih h
      refine ⟨⟨z, by simp [hz], hz2, hz3⟩, fun x hx hx2 => ?_⟩
      rcases List.mem_cons.1 hx with rfl | h2
      · rw [hb] at hx2; cases hx2
      · exact h4 x h2 hx2
theorem lst_zero {L : List (List Int)} (h : ∃ x ∈ L, blk x = false ∧ ind x = 0) : lst L = some 0 := by
  cases hL : lst L with
  | none =>
    obtain ⟨x, hx, hx2, _⟩ := h
    rw [lst_none hL x hx] at hx2; cases hx2
  | some m =>
    obtain ⟨x, hx, hx2, hx3⟩ := h
    have := (lst_some hL).2 x hx hx2
    have : m = 0 := by omega
    rw [this]
/-- Trimming. -/
theorem dropWhile_all {α : Type} {p : α → Bool} : ∀ {l : List α}, (∀ x ∈ l, p x = true) → l.dropWhile p = []
  | [], _ => rfl
  | x :: l, h => by rw [List.dropWhile_cons, h x (by simp), if_pos rfl]; exact dropWhile_all (fun y hy => h y (by simp [hy]))
theorem dropWhile_app {α : Type} {p : α → Bool} : ∀ {a b : List α}, (∀ x ∈ a, p x = true) → (a ++ b).dropWhile p = b.dropWhile p
  | [], b, _ => rfl
  | x :: a, b, h => by rw [List.cons_append, List.dropWhile_cons, h x (by simp), if_pos rfl]; exact dropWhile_app (fun y hy => h y (by simp [hy]))
theorem dropWhile_no {α : Type} {p : α → Bool} {x : α} {l : List α} (h : p x = false) : (x :: l).dropWhile p = x :: l := by rw [List.dropWhile_cons, h]; rfl
theorem dropWhile_app_no {α : Type} {p : α → Bool} : ∀ {a b : List α}, (∃ x ∈ a, p x = false) → (a ++ b).dropWhile p = a.dropWhile p ++ b
  | [], b, h => by obtain ⟨x, hx, _⟩ := h; cases hx
  | y :: a, b, h => by
    rw [List.cons_append, List.dropWhile_cons, List.dropWhile_cons]
    cases hy : p y
    · simp
    · simp only [if_true]
      obtain ⟨x, hx, hx2⟩ := h
      rcases List.mem_cons.1 hx with rfl | h2
      · rw [hy] at hx2; cases hx2
      · exact dropWhile_app_no ⟨x, h2, hx2⟩
theorem dropWhile_head {α : Type} {p : α → Bool} : ∀ {l : List α} {x : α} {r : List α}, l.dropWhile p = x :: r → p x = false
  | [], x, r, h => by cases h
  | y :: l, x, r, h => by
    rw [List.dropWhile_cons] at h
    cases hy : p y
    · rw [hy] at h
      simp only [Bool.false_eq_true, if_false, List.cons.injEq] at h
      rw [← h.1]; exact hy
    · rw [hy, if_pos rfl] at h
      exact dropWhile_head h
theorem dropWhile_mem {α : Type} {p : α → Bool} {x : α} : ∀ {l : List α}, x ∈ l → p x = false → x ∈ l.dropWhile p
  | [], h, _ => by cases h
  | y :: l, h, hp => by
    rw [List.dropWhile_cons]
    cases hy : p y
    · simpa using h
    · rw [if_pos rfl]
      rcases List.mem_cons.1 h with rfl | h2
      · rw [hy] at hp; cases hp
      · exact dropWhile_mem h2 hp
theorem mem_dropWhile {α : Type} {p : α → Bool} {x : α} : ∀ {l : List α}, x ∈ l.dropWhile p → x ∈ l
  | [], h => h
  | y :: l, h => by
    rw [List.dropWhile_cons] at h
    cases hy : p y
    · rw [hy] at h; simpa using h
    · rw [hy, if_pos rfl] at h
      exact List.mem_cons_of_mem _ (mem_dropWhile h)
theorem trm_mem {L : List (List Int)} {x : List Int} (h : x ∈ L) (hb : blk x = false) : x ∈ trm L := by
  unfold trm
  rw [List.mem_reverse]
  exact dropWhile_mem (by rw [List.mem_reverse]; exact dropWhile_mem h hb) hb
theorem mem_trm {L : List (List Int)} {x : List Int} (h : x ∈ trm L) : x ∈ L := by
  unfold trm at h
  rw [List.mem_reverse] at h
  have := mem_dropWhile h
  rw [List.mem_reverse] at this
  exact mem_dropWhile this
/-- Blank lines at both ends, and lines between that are not blank at their ends. -/
theorem trm_mid {A B M : List (List Int)} (hA : ∀ x ∈ A, blk x = true) (hB : ∀ x ∈ B, blk x = true) (h1 : ∃ x r, M = x :: r ∧ blk x = false) (h2 : ∃ x r, M = r ++ [x] ∧ blk x = false) : trm (A ++ M ++ B) = M := by
  unfold trm
  rw [List.append_assoc, dropWhile_app hA]
  obtain ⟨x, r, e, hx⟩ := h1
  have e1 : (M ++ B).dropWhile blk = M ++ B := by rw [e, List.cons_append, dropWhile_no hx]
  rw [e1, List.reverse_append, dropWhile_app (fun y hy => hB y (by simpa using hy))]
  obtain ⟨y, s, e2, hy⟩ := h2
  rw [e2, List.reverse_append, List.reverse_singleton, List.singleton_append, dropWhile_no hy]
  simp
/-- Any lines: what is trimmed away, and what is left. -/
theorem trm_form (L : List (List Int)) : (trm L = [] ∧ ∀ x ∈ L, blk x = true) ∨ ∃ A B, L = A ++ trm L ++ B ∧ (∀ x ∈ A, blk x = true) ∧ (∀ x ∈ B, blk x = true) ∧ (∃ x r, trm L = x :: r ∧ blk x = false) ∧ (∃ x r, trm L = r ++ [x] ∧ blk x = false) := by
  by_cases h : ∃ x ∈ L, blk x = false
  · right
    have hA : ∀ (K : List (List Int)), ∃ A, K = A ++ K.dropWhile blk ∧ ∀ x ∈ A, blk x = true := fun K => ⟨K.takeWhile blk, (List.takeWhile_append_dropWhile).symm, fun x hx => by
      have := List.all_takeWhile (l := K) (p := blk)
      rw [List.all_eq_true] at this
      exact this x hx⟩
    obtain ⟨A, hA1, hA2⟩ := hA L
    obtain ⟨B, hB1, hB2⟩ := hA (L.dropWhile blk).reverse
    have hm : L.dropWhile blk = trm L ++ B.reverse := by
      have := congrArg List.reverse hB1
      rw [List.reverse_reverse, List.reverse_append] at this
      exact this
    obtain ⟨x, hx, hx2⟩ := h
    have hx3 := trm_mem hx hx2
    refine ⟨A, B.reverse, ?_, hA2, fun y hy => hB2 y (by simpa using hy), ?_, ?_⟩
    · rw [List.append_assoc, ← hm]; exact hA1
    · cases ht : trm L with
      | nil => rw [ht] at hx3; cases hx3
      | cons y r =>
        rw [ht, List.cons_append] at hm
        exact ⟨y, r, rfl, dropWhile_head hm⟩
    · unfold trm at hx3 ⊢
      cases ht : (L.dropWhile blk).reverse.dropWhile blk with
      | nil => rw [ht] at hx3; cases hx3
      | cons y r => exact ⟨y, r.reverse, by simp, dropWhile_head ht⟩
  · left
    have h2 : ∀ x ∈ L, blk x = true := fun x hx => by
      cases hb : blk x
      · exact absurd ⟨x, hx, hb⟩ h
      · rfl
    refine ⟨?_, h2⟩
    unfold trm
    rw [dropWhile_all h2]
    rfl
end Go.Proofs.YtcehhkjlbhodeaaDoor.sv
