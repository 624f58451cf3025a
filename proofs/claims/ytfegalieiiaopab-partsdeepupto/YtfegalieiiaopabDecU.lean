import Derived.Test.YtfegalieiiaopabGood
namespace Go.Proofs.Ytfegalieiiaopab.mem
open Go.ChangeShapes Go.WideShapes Go.ChangeAt Go.RowKit
open ints (hide unhide)
set_option linter.unusedVariables false

theorem runes_flat : ∀ (zs : List Int) (s : ByteArray) (pre : List Int) (bound : Nat) (acc : Array Value), zs.all scB = true → bytesZ s = pre ++ zs.flatMap putB → zs.length ≤ bound →
    Conv.runesFrom s bound pre.length acc = acc ++ (zs.map (Value.int .i32)).toArray
  | [], s, pre, bound, acc, _, hb, _ => by
    have hz : pre.length = s.size := by rw [← bytesZ_len, hb]; simp
    cases bound with
    | zero => simp [Conv.runesFrom]
    | succ b => unfold Conv.runesFrom; rw [if_neg (by omega)]; simp
  | c :: zs, s, pre, 0, acc, _, _, hl => by simp at hl
  | c :: zs, s, pre, b + 1, acc, ha, hb, hl => by
    simp only [List.all_cons, Bool.and_eq_true] at ha
    have hc := (scB_iff c).1 ha.1
    have hpl := putB_len c
    simp only [List.flatMap_cons] at hb
    have hlt : pre.length < s.size := by
      rw [← bytesZ_len, hb]; simp; omega
    have hd : (bytesZ s).drop pre.length = putB c ++ zs.flatMap putB := by rw [hb]; simp
    have hdec := decode_one s pre.length hlt
    rw [hd, one_put c hc] at hdec
    rw [if_neg (by simp only; omega)] at hdec
    unfold Conv.runesFrom
    rw [if_pos hlt, hdec]
    simp only
    have hcz : Int.ofNat c.toNat = c := by unfold scP at hc; show ((c.toNat : Nat) : Int) = c; omega
    rw [hcz]
    have ih := runes_flat zs s (pre ++ putB c) b (acc.push (.int .i32 c)) ha.2 (by rw [hb, List.append_assoc]) (by simp at hl; omega)
    rw [List.length_append] at ih
    rw [ih]
    simp
theorem flat_ge (zs : List Int) : zs.length ≤ (zs.flatMap putB).length := by
  induction zs with
  | nil => simp
  | cons a l ih => have := putB_len a; rw [List.flatMap_cons, List.length_append, List.length_cons]; omega
/-- The conversion to characters of the good beginning. -/
theorem runes_good (s : ByteArray) : Conv.runesFrom (s.extract 0 (decZ (bytesZ s)).2) (s.extract 0 (decZ (bytesZ s)).2).size 0 #[] = ((decZ (bytesZ s)).1.map (Value.int .i32)).toArray := by
  obtain ⟨h1, h2, h3, h4⟩ := decF_flat (bytesZ s).length (bytesZ s) (bytesZ_byt s)
  have hb : bytesZ (s.extract 0 (decZ (bytesZ s)).2) = [] ++ (decZ (bytesZ s)).1.flatMap putB := by
    rw [bytesZ_extract]
    simp only [List.drop_zero, Nat.sub_zero, List.nil_append]
    exact h1.symm
  have hl : (decZ (bytesZ s)).1.length ≤ (s.extract 0 (decZ (bytesZ s)).2).size := by
    have := flat_ge (decZ (bytesZ s)).1
    rw [← bytesZ_len, hb]
    simpa using this
  have := runes_flat (decZ (bytesZ s)).1 (s.extract 0 (decZ (bytesZ s)).2) [] _ #[] h3 hb hl
  simpa using this
theorem decZ_le (l : List Int) (h : Byt l) : (decZ l).2 ≤ l.length := (decF_flat l.length l h).2.1
theorem decZ_len (l : List Int) (h : Byt l) : (decZ l).1.length ≤ (decZ l).2 := by
  have h1 := flat_ge (decZ l).1
  have h2 := (decF_flat l.length l h).2.2.2
  exact Nat.le_trans h1 (Nat.le_of_eq h2)
theorem conv_runes_n (s : ByteArray) (w : World) (hs : (decZ (bytesZ s)).1.length ≤ 70368744177664) (g : Nat) (hg : g = (decZ (bytesZ s)).2) : ∃ V W2, (convert 9 58 (.string (s.extract 0 g))).run Try.prog w = .ok V W2 ∧
    W2.ownsRow w.heap.size 21 1 V (decZ (bytesZ s)).1.length ((decZ (bytesZ s)).1.map (Value.int .i32)) ∧ Below w.heap.size w W2 := by
  subst hg
  have hr := runes_good s
  have hsz : (Conv.runesFrom (s.extract 0 (decZ (bytesZ s)).2) (s.extract 0 (decZ (bytesZ s)).2).size 0 #[]).size = (decZ (bytesZ s)).1.length := by rw [hr]; simp
  have h := run_runes_of_string (P := Try.prog) w 9 58 21 (s.extract 0 (decZ (bytesZ s)).2) Try.underlying9 Try.underlying58 Try.underlying21 (by rw [hsz]; omega)
  rw [hsz, hr] at h
  refine ⟨_, _, h, ⟨by simp, .inr ⟨w.heap.size, _, _, rfl, Nat.le_refl _, heap_alloc_new w.drew _, grownCap_ge _ _ _ _, grownCap_le_maxLen _ _ _ _ (by unfold maxLen; omega), ?_, ?_⟩⟩, ?_⟩
  · have := grownCap_ge w (decZ (bytesZ s)).1.length 0 21
    simp
    omega
  · simp
  · exact (Below.refl _ _).drew.alloc (Nat.le_refl _) _
theorem conv_runes (s : ByteArray) (w : World) (hs : s.size ≤ 70368744177664) (g : Nat) (hg : g = (decZ (bytesZ s)).2) : ∃ V W2, (convert 9 58 (.string (s.extract 0 g))).run Try.prog w = .ok V W2 ∧
    W2.ownsRow w.heap.size 21 1 V (decZ (bytesZ s)).1.length ((decZ (bytesZ s)).1.map (Value.int .i32)) ∧ Below w.heap.size w W2 :=
  conv_runes_n s w (by
    have h1 := decZ_len (bytesZ s) (bytesZ_byt s)
    have h2 := decZ_le (bytesZ s) (bytesZ_byt s)
    rw [bytesZ_len] at h2
    omega) g hg
end Go.Proofs.Ytfegalieiiaopab.mem
