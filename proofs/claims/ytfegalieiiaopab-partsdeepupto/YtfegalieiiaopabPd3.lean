import Derived.Test.YtfegalieiiaopabPd2
namespace Go.Proofs.Ytfegalieiiaopab.cu
open dt (Dt)
open lx (cAt)
set_option linter.unusedVariables false
set_option linter.unusedSimpArgs false
def endC (c : Int) : Prop := c = 58 ∨ c = 93 ∨ c = 125
def gd : List Int → Prop
  | [] => True
  | c :: r => ((c = 97 ∨ c = 49) → match r with | [] => True | x :: _ => endC x) ∧ gd r
theorem gd_srcD : ∀ (ks : List Bool) (post : List Int), gd post → (match post with | [] => True | x :: _ => endC x) → gd (srcD ks ++ post)
  | [], post, h1, h2 => ⟨fun _ => by cases post with | nil => trivial | cons x r => exact h2, h1⟩
  | false :: r, post, h1, h2 => by
    have := gd_srcD r (93 :: post) ⟨fun e => by omega, h1⟩ (.inr (.inl rfl))
    show gd (91 :: (srcD r ++ [93]) ++ post)
    rw [List.cons_append, List.append_assoc]
    exact ⟨fun e => by omega, this⟩
  | true :: r, post, h1, h2 => by
    have := gd_srcD r (125 :: post) ⟨fun e => by omega, h1⟩ (.inr (.inr rfl))
    show gd (123 :: 97 :: 58 :: (srcD r ++ [125]) ++ post)
    simp only [List.cons_append, List.append_assoc]
    exact ⟨fun e => by omega, fun _ => .inl rfl, fun e => by omega, this⟩
theorem gd_nx : ∀ (l : List Int) (i : Nat), gd l → (cAt l i = 97 ∨ cAt l i = 49) → cAt l (i + 1) = 58 ∨ cAt l (i + 1) = 93 ∨ cAt l (i + 1) = 125 ∨ cAt l (i + 1) = -1
  | [], i, h, hc => by
    rw [lx.cAt_end (by simp)] at hc; omega
  | c :: r, 0, h, hc => by
    have e0 : cAt (c :: r) 0 = c := by rw [lx.cAt_in (by simp)]; rfl
    rw [e0] at hc
    have := h.1 hc
    cases r with
    | nil => right; right; right; exact lx.cAt_end (by simp)
    | cons x r' =>
      have e1 : cAt (c :: x :: r') 1 = x := by rw [lx.cAt_in (by simp)]; rfl
      rw [show 0 + 1 = 1 from rfl, e1]
      rcases this with e | e | e
      · exact .inl e
      · exact .inr (.inl e)
      · exact .inr (.inr (.inl e))
  | c :: r, i + 1, h, hc => by
    have e : ∀ j, cAt (c :: r) (j + 1) = cAt r j := fun j => by
      unfold cAt
      simp
    rw [e] at hc ⊢
    exact gd_nx r i h.2 hc
theorem srcD_ok : ∀ (ks : List Bool), ∀ c ∈ srcD ks, c = 91 ∨ c = 93 ∨ c = 123 ∨ c = 125 ∨ c = 58 ∨ c = 97 ∨ c = 49
  | [], c, h => by simp [srcD] at h; omega
  | false :: r, c, h => by
    simp only [srcD, List.mem_cons, List.mem_append, List.mem_nil_iff, or_false] at h
    rcases h with h | h | h
    · omega
    · exact srcD_ok r c h
    · omega
  | true :: r, c, h => by
    simp only [srcD, List.mem_cons, List.mem_append, List.mem_nil_iff, or_false] at h
    rcases h with h | h | h | h | h
    · omega
    · omega
    · omega
    · exact srcD_ok r c h
    · omega
theorem srcD_sg (ks : List Bool) : Sg (srcD ks) := ⟨srcD_ok ks, fun i h => gd_nx _ i (by have := gd_srcD ks [] trivial trivial; simpa using this) h⟩
theorem srcD_nl (ks : List Bool) : ∀ x ∈ srcD ks, x ≠ 10 ∧ x ≠ 13 := fun x hx => by have := srcD_ok ks x hx; omega
theorem srcD_plain (ks : List Bool) : lx.Plain (srcD ks) := fun x hx => by have := srcD_ok ks x hx; omega
theorem ks_len (ks : List Bool) : ks.length < (srcD ks).length := by
  induction ks with
  | nil => simp [srcD]
  | cons k r ih => cases k <;> simp [srcD] <;> omega
theorem srcD_le (ks : List Bool) : (srcD ks).length ≤ 4 * ks.length + 1 := by
  induction ks with
  | nil => simp [srcD]
  | cons k r ih => cases k <;> simp [srcD] <;> omega
theorem readD_yes (ks : List Bool) (d : Int) (h : ks.length ≤ mostS d) : (readL (srcD ks) true d).1 = some (dD 0 ks) ∧ (readL (srcD ks) true d).2.kd = 0 := by
  have hT := toks_ch (srcD_sg ks) (srcD_nl ks)
  have hl := lenT hT
  have hk := ks_len ks
  have e := lit_yes hT (mostS d) ks 0 0 (lx.tks (srcD ks) 0).length [] (by simp) (by omega) (by omega)
  have e' : litF true (lx.tks (srcD ks) 0).length (newS (srcD ks) d) = _ := e
  obtain ⟨t, h1, h2⟩ := hT.en
  rw [Nat.zero_add] at e'
  have hF : (⟨lx.tks (srcD ks) 0, (srcD ks).length, 0, mostS d, 0⟩ : Cu).finB = true := by
    unfold Cu.finB
    rw [tok_of (c := ⟨lx.tks (srcD ks) 0, (srcD ks).length, 0, mostS d, 0⟩) h1]
    simp [h2]
  unfold readL
  rw [e']
  simp only [Option.isSome_some, if_true]
  unfold Cu.fin
  rw [hF]
  exact ⟨rfl, rfl⟩
theorem readD_no (ks : List Bool) (d : Int) (h : mostS d < ks.length) : (readL (srcD ks) true d).1 = none ∧ (readL (srcD ks) true d).2.kd = 71 ∧ (readL (srcD ks) true d).2.tok.ln = 1 ∧ (readL (srcD ks) true d).2.tok.co = (offD ks (mostS d) : Int) + 1 := by
  have hT := toks_ch (srcD_sg ks) (srcD_nl ks)
  have hl := lenT hT
  have hk := ks_len ks
  obtain ⟨e, c, r, hc⟩ := lit_no hT (mostS d) ks 0 0 (lx.tks (srcD ks) 0).length [] (by simp) (by omega) (by omega) (by omega)
  rw [Nat.zero_add, Nat.sub_zero] at e hc
  have e' : litF true (lx.tks (srcD ks) 0).length (newS (srcD ks) d) = _ := e
  obtain ⟨k1, k2, k3, k4⟩ := tok_at hT (ix := offD ks (mostS d)) (j := mostS d) (M := mostS d) (k := 71) hc
  unfold readL
  rw [e']
  simp only [Option.isSome_none]
  exact ⟨rfl, rfl, k3, k4⟩
/-- the brackets that open, and those that close -/
def opD (ks : List Bool) : List Int := ks.flatMap (fun b => if b then [123, 97, 58] else [91])
def clD (ks : List Bool) : List Int := (ks.map (fun b => if b then (125 : Int) else 93)).reverse
theorem srcD_eq (ks : List Bool) : srcD ks = opD ks ++ [49] ++ clD ks := by
  induction ks with
  | nil => rfl
  | cons k r ih => cases k <;> simp [srcD, opD, clD, ih] <;> rfl
theorem offD_eq : ∀ (ks : List Bool) (m : Nat), m < ks.length → offD ks m = (opD (ks.take m)).length
  | [], m, h => by simp at h
  | k :: r, 0, h => by simp [offD, opD]
  | false :: r, m + 1, h => by
    have := offD_eq r m (by simpa using h)
    simp [offD, opD, this] at *
    omega
  | true :: r, m + 1, h => by
    have := offD_eq r m (by simpa using h)
    simp [offD, opD, this] at *
    omega
end Go.Proofs.Ytfegalieiiaopab.cu
