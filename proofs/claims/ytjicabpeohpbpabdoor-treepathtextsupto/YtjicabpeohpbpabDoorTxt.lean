import Derived.Test.YtjicabpeohpbpabDoorStp4
import Derived.Lib.ItoaNum
namespace Go.Proofs.YtjicabpeohpbpabDoor.stp
open Go.ChangeShapes Go.WideShapes Go.ChangeAt Go.RowKit
set_option linter.unusedVariables false

theorem dec_step {u : Nat} (h : ¬ u < 10) : Lib.decDigits u = Lib.decDigits (u / 10) ++ [UInt8.ofNat (48 + u % 10)] := by
  rw [Lib.decDigits, dif_neg h]
theorem dec_dig (u : Nat) : ∀ c ∈ Lib.decDigits u, 48 ≤ c.toNat ∧ c.toNat ≤ 57 := by
  induction u using Nat.strongRecOn with
  | _ u ih =>
    by_cases h : u < 10
    · intro c hc
      rw [Lib.decDigits_one h] at hc
      rw [List.mem_singleton.1 hc, UInt8.toNat_ofNat']
      omega
    · intro c hc
      rw [dec_step h, List.mem_append] at hc
      rcases hc with hc | hc
      · exact ih (u / 10) (by omega) c hc
      · rw [List.mem_singleton.1 hc, UInt8.toNat_ofNat']
        omega
theorem dec_ne (u : Nat) : Lib.decDigits u ≠ [] := by
  intro e
  have := Lib.decDigits_length u
  have := Lib.nDigits_pos u
  rw [e] at *
  simp at *
  omega
def valD (l : List UInt8) : Nat := l.foldl (fun a c => a * 10 + (c.toNat - 48)) 0
theorem valD_dec (u : Nat) : valD (Lib.decDigits u) = u := by
  induction u using Nat.strongRecOn with
  | _ u ih =>
    by_cases h : u < 10
    · rw [Lib.decDigits_one h]
      simp only [valD, List.foldl_cons, List.foldl_nil]
      rw [UInt8.toNat_ofNat']
      omega
    · have := ih (u / 10) (by omega)
      unfold valD at this ⊢
      rw [dec_step h, List.foldl_append, this]
      simp only [List.foldl_cons, List.foldl_nil]
      rw [UInt8.toNat_ofNat']
      omega
theorem dec_inj {u v : Nat} (h : Lib.decDigits u = Lib.decDigits v) : u = v := by
  rw [← valD_dec u, ← valD_dec v, h]
theorem dec_head (u : Nat) : ∃ c r, Lib.decDigits u = c :: r ∧ 48 ≤ c.toNat ∧ c.toNat ≤ 57 := by
  cases e : Lib.decDigits u with
  | nil => exact absurd e (dec_ne u)
  | cons c r => exact ⟨c, r, rfl, dec_dig u c (by rw [e]; simp)⟩
theorem itoa_inj {m n : Int} (h : Lib.itoa m = Lib.itoa n) : m = n := by
  unfold Lib.itoa at h
  by_cases hm : m < 0
  · by_cases hn : n < 0
    · rw [if_pos hm, if_pos hn] at h
      simp only [List.cons.injEq, true_and] at h
      have := dec_inj h
      omega
    · rw [if_pos hm, if_neg hn] at h
      obtain ⟨c, r, e, h1, h2⟩ := dec_head n.toNat
      rw [e] at h
      simp only [List.cons.injEq] at h
      rw [← h.1] at h1
      exact absurd h1 (by decide)
  · by_cases hn : n < 0
    · rw [if_neg hm, if_pos hn] at h
      obtain ⟨c, r, e, h1, h2⟩ := dec_head m.toNat
      rw [e] at h
      simp only [List.cons.injEq] at h
      rw [h.1] at h1
      exact absurd h1 (by decide)
    · rw [if_neg hm, if_neg hn] at h
      have := dec_inj h
      omega
/-- does a byte begin a number? -/
def numB (c : UInt8) : Bool := c == 45 || (decide (48 ≤ c.toNat) && decide (c.toNat ≤ 57))
theorem itoa_head (n : Int) : ∃ c r, Lib.itoa n = c :: r ∧ numB c = true := by
  unfold Lib.itoa
  by_cases hn : n < 0
  · rw [if_pos hn]
    exact ⟨45, _, rfl, by decide⟩
  · rw [if_neg hn]
    obtain ⟨c, r, e, h1, h2⟩ := dec_head n.toNat
    exact ⟨c, r, e, by simp [numB, h1, h2]⟩
theorem itoa_no (n : Int) : (47 : UInt8) ∉ Lib.itoa n := by
  intro h
  unfold Lib.itoa at h
  by_cases hn : n < 0
  · rw [if_pos hn, List.mem_cons] at h
    rcases h with h | h
    · exact absurd h (by decide)
    · have := dec_dig _ _ h
      exact absurd this (by decide)
  · rw [if_neg hn] at h
    have := dec_dig _ _ h
    exact absurd this (by decide)
/-- a byte of a name, as a path's text has it -/
def escB (c : UInt8) : List UInt8 := if c = 126 then [126, 48] else if c = 47 then [126, 49] else [c]
def guardN (l : List UInt8) : Bool := match l with | [] => true | c :: _ => numB c
def encN (l : List UInt8) : List UInt8 := (if guardN l = true then [126, 50] else []) ++ l.flatMap escB
theorem esc_no (c : UInt8) : (47 : UInt8) ∉ escB c := by
  unfold escB
  split
  · decide
  · split
    · decide
    · rename_i h
      simp
      exact fun e => h e.symm
theorem encN_no (l : List UInt8) : (47 : UInt8) ∉ encN l := by
  unfold encN
  rw [List.mem_append]
  rintro (h | h)
  · split at h
    · exact absurd h (by decide)
    · simp at h
  · rw [List.mem_flatMap] at h
    obtain ⟨c, _, hc⟩ := h
    exact esc_no c hc
theorem esc_cons (c : UInt8) : ∃ r, (escB c = c :: r ∧ c ≠ 126 ∧ c ≠ 47 ∧ r = []) ∨ (c = 126 ∧ escB c = [126, 48]) ∨ (c = 47 ∧ escB c = [126, 49]) := by
  by_cases h1 : c = 126
  · exact ⟨[], .inr (.inl ⟨h1, by simp [escB, h1]⟩)⟩
  · by_cases h2 : c = 47
    · exact ⟨[], .inr (.inr ⟨h2, by simp [escB, h2]⟩)⟩
    · exact ⟨[], .inl ⟨by simp [escB, h1, h2], h1, h2, rfl⟩⟩
theorem encN_head (l : List UInt8) : ∃ c r, encN l = c :: r ∧ numB c = false := by
  unfold encN
  cases hg : guardN l
  · cases l with
    | nil => simp [guardN] at hg
    | cons c l =>
      rw [if_neg (by simp)]
      simp only [guardN] at hg
      obtain ⟨r, ⟨e, _, _, rfl⟩ | ⟨rfl, e⟩ | ⟨rfl, e⟩⟩ := esc_cons c
      · exact ⟨c, l.flatMap escB, by simp [List.flatMap_cons, e], hg⟩
      · exact ⟨126, 48 :: l.flatMap escB, by simp [List.flatMap_cons, e], by decide⟩
      · exact ⟨126, 49 :: l.flatMap escB, by simp [List.flatMap_cons, e], by decide⟩
  · rw [if_pos rfl]
    exact ⟨126, 50 :: l.flatMap escB, rfl, by decide⟩
theorem esc_inj2 {c d : UInt8} {X Y : List UInt8} (h : escB c ++ X = escB d ++ Y) : c = d ∧ X = Y := by
  obtain ⟨_, ⟨e1, a1, a2, rfl⟩ | ⟨rfl, e1⟩ | ⟨rfl, e1⟩⟩ := esc_cons c <;> obtain ⟨_, ⟨e2, b1, b2, rfl⟩ | ⟨rfl, e2⟩ | ⟨rfl, e2⟩⟩ := esc_cons d <;> simp only [e1, e2] at h <;> simp at h
  · exact h
  · exact absurd h.1 a1
  · exact absurd h.1 a1
  · exact absurd h.1.symm b1
  · exact ⟨rfl, h⟩
  · exact absurd h.1.symm b1
  · exact ⟨rfl, h⟩
theorem flat_inj : ∀ {l m : List UInt8}, l.flatMap escB = m.flatMap escB → l = m
  | [], [], _ => rfl
  | [], d :: m, h => by
    rw [List.flatMap_nil, List.flatMap_cons] at h
    obtain ⟨_, ⟨e2, _⟩ | ⟨_, e2⟩ | ⟨_, e2⟩⟩ := esc_cons d <;> rw [e2] at h <;> simp at h
  | c :: l, [], h => by
    rw [List.flatMap_nil, List.flatMap_cons] at h
    obtain ⟨_, ⟨e2, _⟩ | ⟨_, e2⟩ | ⟨_, e2⟩⟩ := esc_cons c <;> rw [e2] at h <;> simp at h
  | c :: l, d :: m, h => by
    rw [List.flatMap_cons, List.flatMap_cons] at h
    obtain ⟨rfl, h2⟩ := esc_inj2 h
    rw [flat_inj h2]
theorem flat_guard (m : List UInt8) (X : List UInt8) (h : m.flatMap escB = 126 :: 50 :: X) : False := by
  cases m with
  | nil => simp at h
  | cons d m =>
    rw [List.flatMap_cons] at h
    obtain ⟨_, ⟨e2, h1, _⟩ | ⟨_, e2⟩ | ⟨_, e2⟩⟩ := esc_cons d <;> rw [e2] at h <;> simp at h
    exact h1 h.1
theorem encN_inj {l m : List UInt8} (h : encN l = encN m) : l = m := by
  unfold encN at h
  cases hl : guardN l <;> cases hm : guardN m <;> rw [hl, hm] at h <;> simp at h
  · exact flat_inj h
  · exact (flat_guard l _ h).elim
  · exact (flat_guard m _ h.symm).elim
  · exact flat_inj h
/-- a step's text; a path's text -/
def encS (s : St) : List UInt8 := if s.it = true then Lib.itoa s.ix else encN s.nm.data.toList
def ptx (ss : List St) : List UInt8 := ss.flatMap fun s => 47 :: encS s
theorem encS_no (s : St) : (47 : UInt8) ∉ encS s := by
  unfold encS
  split
  · exact itoa_no _
  · exact encN_no _
theorem encS_iff (s t : St) : encS s = encS t ↔ cS s t = 0 := by
  unfold encS cS
  cases hs : s.it
  · cases ht : t.it
    · simp
      rcases cB_tri s.nm t.nm with ⟨h1, _, h3⟩ | ⟨h1, _, h3⟩ | ⟨h1, _, h3⟩
      · exact ⟨fun e => absurd (bytes_ext (by rw [toList_data, toList_data]; exact encN_inj e)) h3, fun e => by rw [h1] at e; cases e⟩
      · exact ⟨fun _ => h1, fun _ => by rw [h3]⟩
      · exact ⟨fun e => absurd (bytes_ext (by rw [toList_data, toList_data]; exact encN_inj e)) h3, fun e => by rw [h1] at e; cases e⟩
    · simp
      intro e
      obtain ⟨c, r, e1, h1⟩ := encN_head s.nm.data.toList
      obtain ⟨c', r', e2, h2⟩ := itoa_head t.ix
      rw [e1, e2] at e
      simp only [List.cons.injEq] at e
      rw [e.1, h2] at h1
      cases h1
  · cases ht : t.it
    · simp
      intro e
      obtain ⟨c, r, e1, h1⟩ := encN_head t.nm.data.toList
      obtain ⟨c', r', e2, h2⟩ := itoa_head s.ix
      rw [e1, e2] at e
      simp only [List.cons.injEq] at e
      rw [← e.1, h2] at h1
      cases h1
    · simp
      constructor
      · intro e
        exact c3_eq (itoa_inj e)
      · intro e
        have : s.ix = t.ix := by
          rcases Int.lt_trichotomy s.ix t.ix with h | h | h
          · rw [c3_lt h] at e; cases e
          · exact h
          · rw [c3_gt h] at e; cases e
        rw [this]
/-- nothing, or a slash first -/
def Sl (l : List UInt8) : Prop := l = [] ∨ ∃ r, l = 47 :: r
theorem cut47 : ∀ {x y X Y : List UInt8}, (47 : UInt8) ∉ x → (47 : UInt8) ∉ y → Sl X → Sl Y → x ++ X = y ++ Y → x = y ∧ X = Y
  | [], [], X, Y, _, _, _, _, h => ⟨rfl, by simpa using h⟩
  | [], d :: y, X, Y, _, hy, hX, _, h => by
    rcases hX with rfl | ⟨r, rfl⟩
    · simp at h
    · simp at h
      exact absurd (by rw [h.1]; simp) hy
  | c :: x, [], X, Y, hx, _, _, hY, h => by
    rcases hY with rfl | ⟨r, rfl⟩
    · simp at h
    · simp at h
      exact absurd (by rw [h.1]; simp) hx
  | c :: x, d :: y, X, Y, hx, hy, hX, hY, h => by
    simp only [List.cons_append, List.cons.injEq] at h
    obtain ⟨rfl, h⟩ := h
    obtain ⟨rfl, rfl⟩ := cut47 (fun e => hx (List.mem_cons_of_mem _ e)) (fun e => hy (List.mem_cons_of_mem _ e)) hX hY h
    exact ⟨rfl, rfl⟩
theorem ptx_sl (ss : List St) : Sl (ptx ss) := by
  cases ss with
  | nil => exact .inl rfl
  | cons s ss => exact .inr ⟨_, rfl⟩
theorem sl_app {l m : List UInt8} (h : Sl l) (k : Sl m) : Sl (l ++ m) := by
  rcases h with rfl | ⟨r, rfl⟩
  · simpa using k
  · exact .inr ⟨_, rfl⟩
theorem und_cons (s t : St) (a b : List St) : undS (s :: a) (t :: b) = (cS s t == 0 && undS a b) := by
  unfold undS
  simp only [List.length_cons, List.take_succ_cons, lexS, Nat.add_le_add_iff_right]
  by_cases h : cS s t = 0
  · simp [h]
  · have h' : (cS s t == 0) = false := by simpa using h
    simp [h, h']
theorem und_iff : ∀ (a b : List St), undS a b = true ↔ ∃ r, Sl r ∧ ptx a = ptx b ++ r
  | a, [] => by
    have : undS a [] = true := by simp [undS, lexS]
    simp only [this, true_iff]
    exact ⟨ptx a, ptx_sl a, rfl⟩
  | [], t :: b => by
    have : undS [] (t :: b) = false := by simp [undS]
    rw [this]
    simp [ptx, List.flatMap_cons]
  | s :: a, t :: b => by
    rw [und_cons, Bool.and_eq_true, beq_iff_eq, und_iff a b, ← encS_iff]
    have e1 : ptx (s :: a) = 47 :: (encS s ++ ptx a) := by simp [ptx, List.flatMap_cons]
    have e2 : ptx (t :: b) = 47 :: (encS t ++ ptx b) := by simp [ptx, List.flatMap_cons]
    rw [e1, e2]
    constructor
    · rintro ⟨h, r, hr, hp⟩
      exact ⟨r, hr, by rw [h, hp]; simp⟩
    · rintro ⟨r, hr, hp⟩
      simp only [List.cons_append, List.cons.injEq, true_and, List.append_assoc] at hp
      obtain ⟨h1, h2⟩ := cut47 (encS_no s) (encS_no t) (ptx_sl a) (sl_app (ptx_sl b) hr) hp
      exact ⟨h1, r, hr, h2⟩
theorem und_text (a b : List St) : undS a b = (decide (ptx a = ptx b) || Lib.hasPrefix (ptx a) (ptx b ++ [47])) := by
  rw [Bool.eq_iff_iff, und_iff, Bool.or_eq_true, decide_eq_true_iff]
  unfold Lib.hasPrefix
  rw [List.isPrefixOf_iff_prefix]
  constructor
  · rintro ⟨r, rfl | ⟨r', rfl⟩, h⟩
    · exact .inl (by simpa using h)
    · exact .inr ⟨r', by rw [h]; simp⟩
  · rintro (h | ⟨r, h⟩)
    · exact ⟨[], .inl rfl, by simpa using h⟩
    · exact ⟨47 :: r, .inr ⟨r, rfl⟩, by rw [← h]; simp⟩
end Go.Proofs.YtjicabpeohpbpabDoor.stp
