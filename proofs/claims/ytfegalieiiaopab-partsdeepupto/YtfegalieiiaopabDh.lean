import Derived.Test.YtfegalieiiaopabDg
namespace Go.Proofs.Ytfegalieiiaopab.dt
open Go.ChangeShapes Go.WideShapes Go.ChangeAt Go.RowKit
set_option linter.unusedVariables false
/-- one more, the rows known -/
theorem Grow.more {t : TypeId} {size : Nat} {w w' : World} {B : Nat} {l : List Dt} {sl sl' : Value} {G : List Nat} {d : Dt} {ds : List Value} {F : List Nat} (h : Grow t size w B l sl G) {xss : List (List Value)} (hol : OwL Ow w l xss G) (hx : ∀ xs ∈ xss, xs.length = size) (hd : Ow w d ds F) (hn : F.Nodup) (hF : ∀ b ∈ F, B ≤ b ∧ b < w.heap.size ∧ b ∉ G ∧ sl.ownBlock ≠ some b) (hl : ds.length = size)
    (hrow : w'.ownsRow B t size sl' (l.length + 1) (xss.flatten ++ ds)) (hs : w.heap.size ≤ w'.heap.size) (hold : ∀ b, b < w.heap.size → sl.ownBlock ≠ some b → w'.heap[b]? = w.heap[b]?) (hat : ∀ b, sl'.ownBlock = some b → sl.ownBlock = some b ∨ w.heap.size ≤ b) : Grow t size w' B (l ++ [d]) sl' (G ++ F) := by
  refine ⟨?_, ?_, ?_, xss ++ [ds], ?_, ?_, ?_⟩
  · rw [List.nodup_append]
    exact ⟨h.nodup, hn, fun x hx y hy e => (hF y hy).2.2.1 (e ▸ hx)⟩
  · intro b hb
    rcases List.mem_append.1 hb with hb | hb
    · exact ⟨(h.rng b hb).1, Nat.lt_of_lt_of_le (h.rng b hb).2 hs⟩
    · exact ⟨(hF b hb).1, Nat.lt_of_lt_of_le (hF b hb).2.1 hs⟩
  · intro b hb e
    have hlt' : b < w.heap.size := by
      rcases List.mem_append.1 hb with hb | hb
      · exact (h.rng b hb).2
      · exact (hF b hb).2.1
    rcases hat b e with hat | hat
    · rcases List.mem_append.1 hb with hb | hb
      · exact h.own b hb hat
      · exact (hF b hb).2.2.2 hat
    · omega
  · simpa using hrow
  · refine OwL.agree (fun w w' e cs F => Ow.agree e cs F) (fun b hb j => ?_) (OwL.snoc hd hol)
    rcases List.mem_append.1 hb with hb | hb
    · exact cell_blk (hold b (h.rng b hb).2 (h.own b hb)) j
    · exact cell_blk (hold b (hF b hb).2.1 (hF b hb).2.2.2) j
  · intro xs hxs
    rcases List.mem_append.1 hxs with hxs | hxs
    · exact hx xs hxs
    · obtain rfl : xs = ds := by simpa using hxs
      exact hl
end Go.Proofs.Ytfegalieiiaopab.dt
