import Derived.Test.YtejjnhcmpiamiaaGreatSti9
import Derived.Test.YtejjnhcmpiamiaaGreatSti4
import Derived.Test.YtejjnhcmpiamiaaGreatSti5
import Derived.Test.YtejjnhcmpiamiaaGreatSti6
import Derived.Test.YtejjnhcmpiamiaaGreatSti1
import Derived.Test.YtejjnhcmpiamiaaGreatSti3
import Derived.Deep.Matrix
import Derived.Deep.Strs
namespace Go.Proofs.YtejjnhcmpiamiaaGreat.lx
open Go.ChangeShapes Go.WideShapes Go.ChangeAt Go.RowKit
open ints (hide unhide)
open mem (Row)
open cu (Tk)
open dt (there_cells one_cells below_setCells)
set_option linter.unusedVariables false
theorem endB_le (l : List Int) : ∀ (k j i : Nat), endB l k j = some i → j ≤ i ∧ tq l i = true
  | 0, j, i, h => by cases h
  | k + 1, j, i, h => by
    unfold endB at h
    split at h
    · rename_i ht
      simp at h
      subst h
      exact ⟨Nat.le_refl _, ht⟩
    · split at h
      · have := endB_le l k _ _ h
        exact ⟨by omega, this.2⟩
      · split at h
        · cases h
        · have := endB_le l k _ _ h
          exact ⟨by omega, this.2⟩
theorem endQ_le (l : List Int) : ∀ (k j i : Nat), endQ l k j = some i → j ≤ i ∧ cAt l i = 34
  | 0, j, i, h => by cases h
  | k + 1, j, i, h => by
    unfold endQ at h
    split at h
    · rename_i ht
      simp at h
      subst h
      exact ⟨Nat.le_refl _, ht⟩
    · split at h
      · split at h
        · cases h
        · have := endQ_le l k _ _ h
          exact ⟨by omega, this.2⟩
      · split at h
        · cases h
        · have := endQ_le l k _ _ h
          exact ⟨by omega, this.2⟩
theorem blc_le (bS : List Int → ByteArray) (l : List Int) (i : Nat) (hi : i ≤ l.length) : i ≤ (blc bS l i).2.1 ∧ (blc bS l i).2.1 ≤ l.length ∧ ((blc bS l i).1 = 1 ∨ i < (blc bS l i).2.1) ∧ (blc bS l i).1 ≠ 0 := by
  unfold blc
  cases e : endB l (l.length + 2) (i + 3) with
  | none => exact ⟨Nat.le_refl _, hi, .inl rfl, by simp [blcR]⟩
  | some j =>
    have h1 := endB_le l _ _ _ e
    have h2 := tq_len l j h1.2
    simp only [blcR]
    exact ⟨by omega, by omega, .inr (by omega), by decide⟩
theorem qtd_le (l : List Int) (i : Nat) (hi : i ≤ l.length) : i ≤ (qtd l i).2.1 ∧ (qtd l i).2.1 ≤ l.length ∧ ((qtd l i).1 = 1 ∨ i < (qtd l i).2.1) ∧ (qtd l i).1 ≠ 0 := by
  unfold qtd
  cases e : endQ l (l.length + 2) (i + 1) with
  | none => exact ⟨Nat.le_refl _, hi, .inl rfl, by simp [qtdR]⟩
  | some j =>
    have h1 := endQ_le l _ _ _ e
    have h2 := cAt_34 l j h1.2
    simp only [qtdR]
    cases quo (insZ l (i + 1) j) with
    | none => exact ⟨Nat.le_refl _, hi, .inl rfl, by simp⟩
    | some r => exact ⟨by simp only; omega, by simp only; omega, .inr (by simp only; omega), by simp⟩
theorem rdG_le (l : List Int) (cl : Bool) (i : Nat) (hi : i ≤ l.length) : i ≤ (rdG l cl i).2.1 ∧ (rdG l cl i).2.1 ≤ l.length ∧ ((rdG l cl i).1 = 0 ∨ (rdG l cl i).1 = 1 ∨ i < (rdG l cl i).2.1) := by
  unfold rdG
  split
  · exact ⟨Nat.le_refl _, hi, .inl rfl⟩
  · split
    · split
      · rename_i h
        have := cAt_lt h.2 (by decide)
        exact ⟨by simp only; omega, by simp only; omega, .inr (.inr (by simp only; omega))⟩
      · exact ⟨Nat.le_refl _, hi, .inr (.inl rfl)⟩
    · split
      · rename_i h
        have hlt : i < l.length := by
          rcases Nat.lt_or_ge i l.length with h1 | h1
          · exact h1
          · rw [cAt_end h1] at h; exact absurd h (by decide)
        exact ⟨by simp only; omega, by simp only; omega, .inr (.inr (by simp only; omega))⟩
      · split
        · rename_i h
          have hlt : i < l.length := by
            rcases Nat.lt_or_ge i l.length with h1 | h1
            · exact h1
            · rw [cAt_end h1] at h; exact absurd h (by decide)
          have := nam_le l (i + 1)
          exact ⟨by simp only; omega, by simp only; omega, .inr (.inr (by simp only; omega))⟩
        · split
          · have := num_le l i hi
            exact ⟨this.1, this.2.1, by rcases this.2.2.1 with h | h; exact .inr (.inl h); exact .inr (.inr h)⟩
          · split
            · have := blc_le sv.bS l i hi
              exact ⟨this.1, this.2.1, by rcases this.2.2.1 with h | h; exact .inr (.inl h); exact .inr (.inr h)⟩
            · split
              · have := qtd_le l i hi
                exact ⟨this.1, this.2.1, by rcases this.2.2.1 with h | h; exact .inr (.inl h); exact .inr (.inr h)⟩
              · exact ⟨Nat.le_refl _, hi, .inr (.inl rfl)⟩
/-- the token from i on -/
def tkG (l : List Int) (cl : Bool) (i : Nat) : Tk :=
  ⟨(rdG l cl (ign l false i)).1, (mem.posT l (ign l false i)).1, (mem.posT l (ign l false i)).2, ign l false i, (rdG l cl (ign l false i)).2.1, mem.encS ((l.take (rdG l cl (ign l false i)).2.1).drop (ign l false i)), (rdG l cl (ign l false i)).2.2⟩
set_option maxHeartbeats 2000000 in
theorem nextG_ok (a : Option Addr) (n c : Nat) (cl : Bool) (l : List Int) (i : Nat) (w : World) (h : Row .i32 w a n c l) (hn : n ≤ 1099511627776) (hi : i ≤ n) (hp : ∀ x ∈ l, mem.scP x) (ha : a = none ∨ ∃ b off, a = some ⟨b, off, none⟩) :
    Calls Tryz.prog 40 #[src a n c cl, .int .i64 (i : Int)] w fun e w' => e = .returned (.agg #[.int .i64 (tkG l cl i).k, .int .i64 0, .int .i64 0, .int .i64 (tkG l cl i).fr, .int .i64 (tkG l cl i).to, .string (tkG l cl i).tx, .string (tkG l cl i).va]) ∧ Below w.heap.size w w' := by
  have hl := hide h.len
  have hsb := hide (Sb.new w a n c cl)
  have h1 := hide (fun W (hb : Below w.heap.size w W) => ign_ok a n c cl l i W (h.below hb) hn hi)
  have g1 := (ign_le l false i).2 (by rw [h.len]; exact hi)
  rw [h.len] at g1
  have h2 := hide (fun W (hb : Below w.heap.size w W) => rdG_ok a n c cl l (ign l false i) W (h.below hb) hn g1 hp)
  have g2 := rdG_le l cl (ign l false i) (by rw [h.len]; exact g1)
  rw [h.len] at g2
  obtain ⟨F, hF⟩ : ∃ F, F = ign l false i := ⟨_, rfl⟩
  unfold tkG
  rw [← hF] at h1 h2 g1 g2 ⊢
  obtain ⟨T, hT⟩ : ∃ T, T = (rdG l cl F).2.1 := ⟨_, rfl⟩
  obtain ⟨K, hK⟩ : ∃ K, K = (rdG l cl F).1 := ⟨_, rfl⟩
  obtain ⟨V, hV⟩ : ∃ V, V = (rdG l cl F).2.2 := ⟨_, rfl⟩
  rw [← hT, ← hK, ← hV] at h2 ⊢
  rw [← hT, ← hK] at g2
  clear hT hK hF hV
  have g3 := g2.1
  have g4 := g2.2.1
  clear g2
  unfold src
  go_enter Tryz.func40, Tryz.ntmps40
  go_wp2_with fail
  obtain ⟨w1, hw1⟩ : ∃ w1, w1 = (w.alloc (.cells #[.slice a n c, .bool cl] 94)).alloc (.cells #[Value.int IntKind.i64 0, Value.int IntKind.i64 0, Value.int IntKind.i64 0, Value.int IntKind.i64 0, Value.int IntKind.i64 0, Value.string { data := #[] }, Value.string { data := #[] }] 32) := ⟨_, rfl⟩
  have hs1 : Sb w w1 a n c cl := by rw [hw1]; exact (unhide hsb).below ((Below.refl _ _).alloc (Nat.le_refl _) _)
  have hth : Hid (w1.heap[w.heap.size + 1]? = some (.cells #[Value.int IntKind.i64 0, Value.int IntKind.i64 0, Value.int IntKind.i64 0, Value.int IntKind.i64 0, Value.int IntKind.i64 0, Value.string { data := #[] }, Value.string { data := #[] }] 32 (0, 0))) := hide (by
    rw [hw1]
    have := heap_alloc_new (w.alloc (.cells #[.slice a n c, .bool cl] 94)) (.cells #[Value.int IntKind.i64 0, Value.int IntKind.i64 0, Value.int IntKind.i64 0, Value.int IntKind.i64 0, Value.int IntKind.i64 0, Value.string { data := #[] }, Value.string { data := #[] }] 32)
    simpa using this)
  have hz1 : w.heap.size + 1 < w1.heap.size := by rw [hw1]; simp
  rw [← hw1]
  clear hw1 hsb
  refine ((unhide h1) w1 hs1.bel).mono ?_
  rintro e w2 ⟨rfl, b2⟩
  have hs2 := hs1.below b2
  have d0 := hs2.c0
  have d1 := hs2.c1
  go_wp2_with fail
  refine ((unhide h2) w2 hs2.bel).mono ?_
  rintro e w3 ⟨rfl, b3⟩
  have hs3 := hs2.below b3
  have b13 := b2.trans (b3.mono b2.size)
  clear d0 d1 h1 h2
  have d0 := hs3.c0
  have d1 := hs3.c1
  rcases ha with rfl | ⟨b, off, rfl⟩
  · have hc0 := h.nil rfl
    subst hc0
    have hn0 : n = 0 := by have := h.le; omega
    subst hn0
    obtain rfl : F = 0 := by omega
    obtain rfl : T = 0 := by omega
    have hl0 : l = [] := List.eq_nil_of_length_eq_zero (unhide hl)
    subst hl0
    go_wp2_with fail
    refine (mem.encode_any none 0 0 [] w3 ⟨rfl, Nat.le_refl _, fun _ => rfl, .inl rfl⟩ (by omega)).mono ?_
    rintro e w4 ⟨rfl, b4⟩
    have b14 := b13.trans (b4.mono b13.size)
    have hbx := (b14.block (w.heap.size + 1) hz1).trans (unhide hth)
    have hbel := hs1.bel.trans (b14.mono (Nat.le_trans (Nat.le_add_right _ 1) (Nat.le_of_lt hz1)))
    have hthr : w4.there (w.heap.size + 1) 0 7 := there_cells hbx (by decide)
    have HB := hide hbel
    clear b13 b14 b4 d0 d1 hbx hbel
    obtain ⟨S, hS⟩ : ∃ S, S = mem.encS ([]) := ⟨_, rfl⟩
    rw [← hS]
    have HS := hide hS
    clear hS
    go_wp2_with (first
      | refine wpList_store_mid (by rfl) 32 _ _ (by rfl) (w.heap.size + 1) 0 #[.int .i64 K, .int .i64 0, .int .i64 0, .int .i64 (0), .int .i64 (0), .string S, .string V] (by rfl) (by rfl) hthr infoTk (one_cells (cs := [.int .i64 K, .int .i64 0, .int .i64 0, .int .i64 (0), .int .i64 (0), .string S, .string V]) (by rfl)) ?_)
    refine bodyPost_ret (rgn.result_row rfl _ _ (w.heap.size + 1) 0 [.int .i64 K, .int .i64 0, .int .i64 0, .int .i64 (0), .int .i64 (0), .string S, .string V] _ rfl (World.rangeAt_setCells_same _ _ _ _ hthr) Tryz.underlying32 rfl infoTk) rfl ?_
    exact ⟨by first | rfl | (rw [unhide HS]; simp) | (simp [unhide HS]), below_setCells _ _ _ _ (unhide HB) (Nat.le_add_right _ 1)⟩
  · have hle := h.le
    have k1 : (F : Int) ≤ (T : Int) := by omega
    have k2 : (T : Int) ≤ (c : Int) := by omega
    have hrow := row_part (h.below hs3.bel) g3 g4
    by_cases hFc : F = c
    · subst hFc
      have hrow2 : Row .i32 w3 (some ⟨b, off, none⟩) (T - F) 0 ((l.take T).drop F) := ⟨hrow.len, by omega, (fun e => by cases e), .inl (by omega)⟩
      go_wp2_with fail
      refine (mem.encode_any (some ⟨b, off, none⟩) (T - F) 0 ((l.take T).drop F) w3 hrow2 (by omega)).mono ?_
      rintro e w4 ⟨rfl, b4⟩
      have b14 := b13.trans (b4.mono b13.size)
      have hbx := (b14.block (w.heap.size + 1) hz1).trans (unhide hth)
      have hbel := hs1.bel.trans (b14.mono (Nat.le_trans (Nat.le_add_right _ 1) (Nat.le_of_lt hz1)))
      have hthr : w4.there (w.heap.size + 1) 0 7 := there_cells hbx (by decide)
      have HB := hide hbel
      clear b13 b14 b4 d0 d1 hbx hbel
      obtain ⟨S, hS⟩ : ∃ S, S = mem.encS (((l.take T).drop F)) := ⟨_, rfl⟩
      rw [← hS]
      have HS := hide hS
      clear hS
      go_wp2_with (first
        | refine wpList_store_mid (by rfl) 32 _ _ (by rfl) (w.heap.size + 1) 0 #[.int .i64 K, .int .i64 0, .int .i64 0, .int .i64 (F : Int), .int .i64 (T : Int), .string S, .string V] (by rfl) (by rfl) hthr infoTk (one_cells (cs := [.int .i64 K, .int .i64 0, .int .i64 0, .int .i64 (F : Int), .int .i64 (T : Int), .string S, .string V]) (by rfl)) ?_)
      refine bodyPost_ret (rgn.result_row rfl _ _ (w.heap.size + 1) 0 [.int .i64 K, .int .i64 0, .int .i64 0, .int .i64 (F : Int), .int .i64 (T : Int), .string S, .string V] _ rfl (World.rangeAt_setCells_same _ _ _ _ hthr) Tryz.underlying32 rfl infoTk) rfl ?_
      exact ⟨by first | rfl | (rw [unhide HS]; simp) | (simp [unhide HS]), below_setCells _ _ _ _ (unhide HB) (Nat.le_add_right _ 1)⟩
    · have hFc2 : ¬ (F : Int) = (c : Int) := by omega
      go_wp2_with fail
      refine (mem.encode_any (some ⟨b, off + F, none⟩) (T - F) (c - F) ((l.take T).drop F) w3 hrow (by omega)).mono ?_
      rintro e w4 ⟨rfl, b4⟩
      have b14 := b13.trans (b4.mono b13.size)
      have hbx := (b14.block (w.heap.size + 1) hz1).trans (unhide hth)
      have hbel := hs1.bel.trans (b14.mono (Nat.le_trans (Nat.le_add_right _ 1) (Nat.le_of_lt hz1)))
      have hthr : w4.there (w.heap.size + 1) 0 7 := there_cells hbx (by decide)
      have HB := hide hbel
      clear b13 b14 b4 d0 d1 hbx hbel
      obtain ⟨S, hS⟩ : ∃ S, S = mem.encS (((l.take T).drop F)) := ⟨_, rfl⟩
      rw [← hS]
      have HS := hide hS
      clear hS
      go_wp2_with (first
        | refine wpList_store_mid (by rfl) 32 _ _ (by rfl) (w.heap.size + 1) 0 #[.int .i64 K, .int .i64 0, .int .i64 0, .int .i64 (F : Int), .int .i64 (T : Int), .string S, .string V] (by rfl) (by rfl) hthr infoTk (one_cells (cs := [.int .i64 K, .int .i64 0, .int .i64 0, .int .i64 (F : Int), .int .i64 (T : Int), .string S, .string V]) (by rfl)) ?_)
      refine bodyPost_ret (rgn.result_row rfl _ _ (w.heap.size + 1) 0 [.int .i64 K, .int .i64 0, .int .i64 0, .int .i64 (F : Int), .int .i64 (T : Int), .string S, .string V] _ rfl (World.rangeAt_setCells_same _ _ _ _ hthr) Tryz.underlying32 rfl infoTk) rfl ?_
      exact ⟨by first | rfl | (rw [unhide HS]; simp) | (simp [unhide HS]), below_setCells _ _ _ _ (unhide HB) (Nat.le_add_right _ 1)⟩
end Go.Proofs.YtejjnhcmpiamiaaGreat.lx
namespace Go.Proofs.YtejjnhcmpiamiaaGreat.lx
open Go.ChangeShapes Go.WideShapes Go.ChangeAt Go.RowKit
open ints (hide unhide)
open mem (Row)
open cu (Tk)
set_option linter.unusedVariables false
def tksGF (l : List Int) (cl : Bool) : Nat → Nat → List Tk
  | 0, i => []
  | f + 1, i => if (tkG l cl i).k = 0 ∨ (tkG l cl i).k = 1 then [tkG l cl i] else tkG l cl i :: tksGF l cl f (tkG l cl i).to
theorem tkG_le (l : List Int) (cl : Bool) (i : Nat) (hi : i ≤ l.length) : (tkG l cl i).fr ≤ l.length ∧ (tkG l cl i).to ≤ l.length ∧ ((tkG l cl i).k = 0 ∨ (tkG l cl i).k = 1 ∨ i < (tkG l cl i).to) := by
  have h1 := ign_le l false i
  have h2 := rdG_le l cl (ign l false i) (h1.2 hi)
  refine ⟨h1.2 hi, h2.2.1, ?_⟩
  rcases h2.2.2 with h | h | h
  · exact .inl h
  · exact .inr (.inl h)
  · exact .inr (.inr (Nat.lt_of_le_of_lt h1.1 h))
theorem tksGF_more (l : List Int) (cl : Bool) : ∀ (f g i : Nat), l.length < f + i → l.length < g + i → i ≤ l.length → tksGF l cl f i = tksGF l cl g i
  | 0, g, i, hf, _, hi => by omega
  | f + 1, 0, i, _, hg, hi => by omega
  | f + 1, g + 1, i, hf, hg, hi => by
    simp only [tksGF]
    split
    · rfl
    · rename_i h
      have h2 := tkG_le l cl i hi
      have h3 : i < (tkG l cl i).to := by
        rcases h2.2.2 with e | e | e
        · exact absurd (.inl e) h
        · exact absurd (.inr e) h
        · exact e
      rw [tksGF_more l cl f g (tkG l cl i).to (by omega) (by omega) h2.2.1]
/-- all tokens from i on -/
def tksG (l : List Int) (cl : Bool) (i : Nat) : List Tk := tksGF l cl (l.length + 1) i
theorem tksG_end {l : List Int} {cl : Bool} {i : Nat} (h : (tkG l cl i).k = 0 ∨ (tkG l cl i).k = 1) : tksG l cl i = [tkG l cl i] := by
  unfold tksG
  rw [tksGF, if_pos h]
theorem tksG_go {l : List Int} {cl : Bool} {i : Nat} (hi : i ≤ l.length) (h : ¬ ((tkG l cl i).k = 0 ∨ (tkG l cl i).k = 1)) : tksG l cl i = tkG l cl i :: tksG l cl (tkG l cl i).to := by
  have h2 := tkG_le l cl i hi
  have h3 : i < (tkG l cl i).to := by
    rcases h2.2.2 with e | e | e
    · exact absurd (.inl e) h
    · exact absurd (.inr e) h
    · exact e
  unfold tksG
  rw [show tksGF l cl (l.length + 1) i = tkG l cl i :: tksGF l cl l.length (tkG l cl i).to from by rw [tksGF, if_neg h]]
  rw [tksGF_more l cl l.length (l.length + 1) (tkG l cl i).to (by omega) (by omega) h2.2.1]
/-- the last token -/
theorem tokensG_end {n : Nat} {l : List Int} {cl : Bool} {k : Nat} {t : Tk} {pre : List Tk} {w w6 w7 : World} {B : Nat} {sl : Value} (hn : n ≤ 1099511627776) (hend : t.k = 0 ∨ t.k = 1) (hpre : pre ++ tksG l cl k = tksG l cl 0) (ht : t = tkG l cl k)
    (hr : w7.ownsRow B 32 7 sl (pre.length + 1) (pre.flatMap Tk.cells ++ [.int .i64 t.k, .int .i64 t.ln, .int .i64 t.co, .int .i64 t.fr, .int .i64 t.to, .string t.tx, .string t.va])) (hb : Below w.heap.size w w6) (hb7 : Below B w6 w7) (hB : w.heap.size ≤ B) :
    ∃ p cap, Ending.returned sl = .returned (.slice (some ⟨p, 0, none⟩) (tksG l cl 0).length cap) ∧ w.heap.size ≤ p ∧ p < w7.heap.size ∧ (∀ i t, (tksG l cl 0)[i]? = some t → dt.RowAt w7 p (i * 7) t.cells) ∧ Below w.heap.size w w7 := by
  subst ht
  have htk : tksG l cl 0 = pre ++ [tkG l cl k] := by rw [← hpre, tksG_end hend]
  have hcs : pre.flatMap Tk.cells ++ [.int .i64 (tkG l cl k).k, .int .i64 (tkG l cl k).ln, .int .i64 (tkG l cl k).co, .int .i64 (tkG l cl k).fr, .int .i64 (tkG l cl k).to, .string (tkG l cl k).tx, .string (tkG l cl k).va] = (tksG l cl 0).flatMap Tk.cells := by
    rw [htk, List.flatMap_append]
    simp [Tk.cells]
  have hlen : pre.length + 1 = (tksG l cl 0).length := by rw [htk]; simp
  rw [hcs, hlen] at hr
  have hr2 := hr
  have hlt := hr.lt
  obtain ⟨h1, h2⟩ := hr
  rcases h2 with ⟨_, h3⟩ | ⟨g, cap, cur, rfl, hg, hh, hnc, r⟩
  · omega
  · refine ⟨g, cap, rfl, Nat.le_trans hB hg, (hlt g rfl).2, fun i t ht j u hu => ?_, hb.trans (hb7.mono hB)⟩
    have hi : i < (tksG l cl 0).length := (List.getElem?_eq_some_iff.1 ht).1
    have hj : j < 7 := (List.getElem?_eq_some_iff.1 hu).1
    rw [World.ownsRow.cellAt hr2 (i * 7 + j) (by omega)]
    rw [flat7 _ i j t ht hj]
    exact hu
/-- a source's characters, and whether it is clean -/
def chs (z : List Int) : List Int := (mem.decZ z).1
def cln (z : List Int) : Bool := decide ((mem.decZ z).2 = z.length)
/-- a source's tokens -/
def toks (z : List Int) : List Tk := tksG (chs z) (cln z) 0
theorem chs_sc {z : List Int} (hz : mem.Byt z) : ∀ x ∈ chs z, mem.scP x := fun x hx => (mem.scB_iff x).1 (List.all_eq_true.1 (mem.decF_flat _ z hz).2.2.1 x hx)
set_option maxHeartbeats 4000000 in
theorem tokensG_ok (a : Option Addr) (n0 c : Nat) (z : List Int) (w : World) (h : Row .u8 w a n0 c z) (hn0 : n0 ≤ 1099511627776) (hz : mem.Byt z) :
    Calls Tryz.prog 15 #[.slice a n0 c] w fun e w' => ∃ p cap, e = .returned (.slice (some ⟨p, 0, none⟩) (toks z).length cap) ∧ w.heap.size ≤ p ∧ p < w'.heap.size ∧ (∀ i t, (toks z)[i]? = some t → dt.RowAt w' p (i * 7) t.cells) ∧ Below w.heap.size w w' := by
  have hD := hide (mem.decode_bytes a n0 c z w h hz (by omega))
  have hn1 := Nat.le_trans (mem.decZ_len z hz) (mem.decZ_le z hz)
  have hp := chs_sc hz
  unfold toks
  obtain ⟨l, hl⟩ : ∃ l, l = chs z := ⟨_, rfl⟩
  obtain ⟨g0, hg0⟩ : ∃ g0 : Nat, g0 = (mem.decZ z).2 := ⟨_, rfl⟩
  have hcl : cln z = decide (g0 = n0) := by unfold cln; rw [hg0, h.len]
  rw [hcl]
  rw [show (mem.decZ z).1 = l from hl.symm, ← hg0] at hD
  rw [← hl] at hp ⊢
  have hn : l.length ≤ 1099511627776 := by
    rw [hl]
    unfold chs
    rw [h.len] at hn1
    omega
  clear hl hg0 hcl hn1
  obtain ⟨cl, hcl⟩ : ∃ cl, cl = decide (g0 = n0) := ⟨_, rfl⟩
  rw [← hcl]
  have hce : ((g0 : Int) == (n0 : Int)) = cl := by
    rw [hcl, Bool.eq_iff_iff, beq_iff_eq, decide_eq_true_iff]
    omega
  clear hcl
  obtain ⟨n, hne⟩ : ∃ n, n = l.length := ⟨_, rfl⟩
  rw [← hne] at hD hn
  have Hne := hide hne
  clear hne
  go_enter Tryz.func15, Tryz.ntmps15
  go_wp2_with fail
  refine (unhide hD).mono ?_
  rintro e w1 ⟨v, rfl, hown, b1⟩
  obtain ⟨a1, c1, rfl, hrow⟩ := mem.own_row hown
  have ha1 : a1 = none ∨ ∃ b off, a1 = some ⟨b, off, none⟩ := by
    rcases hown.2 with ⟨e, _⟩ | ⟨g, cap, cur, e, _⟩
    · left; simp at e; exact e.1
    · right; simp at e; exact ⟨g, 0, e.1⟩
  clear hD hown
  have hsb := Sb.new w1 a1 n c1 cl
  go_wp2_with fail
  obtain ⟨w2, hw2⟩ : ∃ w2, w2 = w1.alloc (.cells #[.slice a1 n c1, .bool cl] 94) := ⟨_, rfl⟩
  rw [← hw2] at hsb ⊢
  clear hw2
  refine (mem.places_any a1 n c1 l w2 (hrow.below hsb.bel) hn).mono ?_
  rintro e w3 ⟨rfl, hpl, b3⟩
  have hs3 := hsb.below b3
  obtain ⟨pb, hpb⟩ : ∃ pb, pb = w2.heap.size + 1 := ⟨_, rfl⟩
  rw [← hpb] at hpl ⊢
  have hpc := hide (fun k hk => World.ownsRow.cellAt hpl k hk)
  have hplt := (hpl.lt pb rfl).2
  clear hpl
  have hplc := hide (fun f (hf : f < n + 1) => pos_cells l (n + 1) f hf)
  go_wp2_with fail
  rw [← hpb]
  clear hpb
  go_loopg [7, 8] (n + 1) (fun g vs vi wr => ∃ (k : Nat) (pre : List Tk), k ≤ n ∧ n + 1 ≤ g + k ∧ vi = .int .i64 k ∧ Hid (pre ++ tksG l cl k = tksG l cl 0) ∧ Hid (wr.ownsRow w3.heap.size 32 7 vs pre.length (pre.flatMap Tk.cells)) ∧ pre.length ≤ k ∧ Below w3.heap.size w3 wr)
  case atStart => exact ⟨0, [], Nat.zero_le _, by omega, rfl, hide rfl, hide (World.ownsRow_nil _ _ _ _), Nat.zero_le _, Below.refl _ _⟩
  case round =>
    obtain ⟨k, pre, hk, hg, rfl, hpre, hown, hpk, hb⟩ := hrel
    have hsr := hs3.below hb
    have d0 := hsr.c0
    have d1 := hsr.c1
    go_wp2_with fail
    refine (nextG_ok a1 n c1 cl l k wr (hrow.below hsr.bel) hn hk hp ha1).mono ?_
    rintro e w5 ⟨rfl, b5⟩
    have htl := tkG_le l cl k (by rw [hrow.len]; exact hk)
    rw [hrow.len] at htl
    obtain ⟨hfr, hto, hprog⟩ := htl
    have hln := hide (show (tkG l cl k).ln = (mem.posT l (tkG l cl k).fr).1 ∧ (tkG l cl k).co = (mem.posT l (tkG l cl k).fr).2 from ⟨rfl, rfl⟩)
    obtain ⟨t, ht⟩ : ∃ t, t = tkG l cl k := ⟨_, rfl⟩
    rw [← ht] at hfr hto hprog hln ⊢
    have Ht := hide ht
    clear ht d0 d1
    have b35 := hb.trans (b5.mono hb.size)
    have hcs : ∀ o, (w5.alloc o).cell? ⟨pb, t.fr * 2, none⟩ = some (.int .i64 t.ln) ∧ (w5.alloc o).cell? ⟨pb, t.fr * 2 + 1, none⟩ = some (.int .i64 t.co) := fun o => by
      have bA : Below w3.heap.size w3 (w5.alloc o) := b35.alloc b35.size o
      have h1 := (unhide hplc) t.fr (by omega)
      rw [bA.cell (p := ⟨pb, t.fr * 2, none⟩) hplt, bA.cell (p := ⟨pb, t.fr * 2 + 1, none⟩) hplt, (unhide hpc) (t.fr * 2) (by omega), (unhide hpc) (t.fr * 2 + 1) (by omega), (unhide hln).1, (unhide hln).2]
      exact h1
    have k0 := fun o => (hcs o).1
    have k1 := fun o => (hcs o).2
    clear hcs
    obtain ⟨it, zt, q1, q2, q3, q4, q5⟩ := infoTz
    have HQ := hide (And.intro q1 (And.intro q2 (And.intro q3 (And.intro q4 q5))))
    clear q1 q2 q3 q4 q5
    have hown6 := hide (fun o => World.ownsRow.alloc (mem.own_below (unhide hown) b5) o)
    have hbyt := hide (show (pre.length + 1) * 72 ≤ 140737488355328 ∧ pre.length + 1 ≤ maxLen from ⟨by omega, by unfold maxLen; omega⟩)
    have hsz6 := hide (fun o => show w3.heap.size ≤ (w5.alloc o).heap.size from by have := b35.size; simp; omega)
    have hone : Hid (∀ u ∈ [Value.int .i64 t.k, .int .i64 t.ln, .int .i64 t.co, .int .i64 t.fr, .int .i64 t.to, .string t.tx, .string t.va], u.oneCell' = true) := hide (by intro u hu; simp at hu; rcases hu with rfl | rfl | rfl | rfl | rfl | rfl | rfl <;> rfl)
    have HB := hide b35
    have hne := hide (show u7.ownBlock ≠ some w5.heap.size from fun e => by have := ((unhide hown).lt _ e).2; have := b5.size; omega)
    have Hpk := hide hpk
    have Hk := hide hk
    clear b35 hk hpk
    by_cases hk0 : t.k = 0
    · have e0 : (t.k == 0) = true := by simpa using hk0
      have Hend := hide (show t.k = 0 ∨ t.k = 1 from .inl hk0)
      clear hk0
      go_wp2_with (first
        | (at_builtin; refine dt.wp_snoc (by rfl) _ _ (by rfl) Tryz.underlying42 (unhide HQ).1 (unhide HQ).2.1 (unhide HQ).2.2.1 (unhide HQ).2.2.2.1 (unhide HQ).2.2.2.2 (by omega) w3.heap.size pre.length (pre.flatMap Tk.cells) _ (by rfl) ((unhide hown6) _) [.int .i64 t.k, .int .i64 t.ln, .int .i64 t.co, .int .i64 t.fr, .int .i64 t.to, .string t.tx, .string t.va] (by rfl) (unhide hone) (w5.heap.size + 1) (by simp) (by rfl) (unhide hbyt).1 (unhide hbyt).2 ((unhide hsz6) _) ?_; intro sl' w7 hr7 b7 hold7 hat7; have T7 := (hold7 w5.heap.size (by simp) (unhide hne)).trans (heap_alloc_new _ _); have f0 : w7.cell? ⟨w5.heap.size, 0, none⟩ = some (.int .i64 t.k) := (dt.cell_cells T7 0).trans rfl; have f4 : w7.cell? ⟨w5.heap.size, 4, none⟩ = some (.int .i64 t.to) := (dt.cell_cells T7 4).trans rfl; clear T7; have R7 := hide hr7; clear hr7; have B7 := hide b7; clear b7 hold7 hat7))
      go_ret
      exact tokensG_end hn (unhide Hend) (unhide hpre) (unhide Ht) (unhide R7) (b1.trans ((hs3.bel.trans (((unhide HB).alloc (unhide HB).size _).mono (Nat.le_of_lt hs3.lt))).mono b1.size)) (unhide B7) (Nat.le_trans b1.size (Nat.le_of_lt hs3.lt))
    by_cases hk1 : t.k = 1
    · have e0 : (t.k == 0) = false := by simpa using hk0
      have e1 : (t.k == 1) = true := by simpa using hk1
      have Hend := hide (show t.k = 0 ∨ t.k = 1 from .inr hk1)
      clear hk0 hk1
      go_wp2_with (first
        | (at_builtin; refine dt.wp_snoc (by rfl) _ _ (by rfl) Tryz.underlying42 (unhide HQ).1 (unhide HQ).2.1 (unhide HQ).2.2.1 (unhide HQ).2.2.2.1 (unhide HQ).2.2.2.2 (by omega) w3.heap.size pre.length (pre.flatMap Tk.cells) _ (by rfl) ((unhide hown6) _) [.int .i64 t.k, .int .i64 t.ln, .int .i64 t.co, .int .i64 t.fr, .int .i64 t.to, .string t.tx, .string t.va] (by rfl) (unhide hone) (w5.heap.size + 1) (by simp) (by rfl) (unhide hbyt).1 (unhide hbyt).2 ((unhide hsz6) _) ?_; intro sl' w7 hr7 b7 hold7 hat7; have T7 := (hold7 w5.heap.size (by simp) (unhide hne)).trans (heap_alloc_new _ _); have f0 : w7.cell? ⟨w5.heap.size, 0, none⟩ = some (.int .i64 t.k) := (dt.cell_cells T7 0).trans rfl; have f4 : w7.cell? ⟨w5.heap.size, 4, none⟩ = some (.int .i64 t.to) := (dt.cell_cells T7 4).trans rfl; clear T7; have R7 := hide hr7; clear hr7; have B7 := hide b7; clear b7 hold7 hat7))
      go_ret
      exact tokensG_end hn (unhide Hend) (unhide hpre) (unhide Ht) (unhide R7) (b1.trans ((hs3.bel.trans (((unhide HB).alloc (unhide HB).size _).mono (Nat.le_of_lt hs3.lt))).mono b1.size)) (unhide B7) (Nat.le_trans b1.size (Nat.le_of_lt hs3.lt))
    · have e0 : (t.k == 0) = false := by simpa using hk0
      have e1 : (t.k == 1) = false := by simpa using hk1
      have Hend := hide (show ¬ (t.k = 0 ∨ t.k = 1) from fun e => by rcases e with e | e; exact hk0 e; exact hk1 e)
      have hto2 : k < t.to := by
        rcases hprog with e | e | e
        · exact absurd e hk0
        · exact absurd e hk1
        · exact e
      clear hk0 hk1 hprog
      go_wp2_with (first
        | (at_builtin; refine dt.wp_snoc (by rfl) _ _ (by rfl) Tryz.underlying42 (unhide HQ).1 (unhide HQ).2.1 (unhide HQ).2.2.1 (unhide HQ).2.2.2.1 (unhide HQ).2.2.2.2 (by omega) w3.heap.size pre.length (pre.flatMap Tk.cells) _ (by rfl) ((unhide hown6) _) [.int .i64 t.k, .int .i64 t.ln, .int .i64 t.co, .int .i64 t.fr, .int .i64 t.to, .string t.tx, .string t.va] (by rfl) (unhide hone) (w5.heap.size + 1) (by simp) (by rfl) (unhide hbyt).1 (unhide hbyt).2 ((unhide hsz6) _) ?_; intro sl' w7 hr7 b7 hold7 hat7; have T7 := (hold7 w5.heap.size (by simp) (unhide hne)).trans (heap_alloc_new _ _); have f0 : w7.cell? ⟨w5.heap.size, 0, none⟩ = some (.int .i64 t.k) := (dt.cell_cells T7 0).trans rfl; have f4 : w7.cell? ⟨w5.heap.size, 4, none⟩ = some (.int .i64 t.to) := (dt.cell_cells T7 4).trans rfl; clear T7; have R7 := hide hr7; clear hr7; have B7 := hide b7; clear b7 hold7 hat7))
      go_roundg (gk - 1)
      case rel =>
        refine ⟨t.to, pre ++ [t], hto, by omega, rfl, hide ?_, hide ?_, ?_, ?_⟩
        · have e := tksG_go (l := l) (i := k) (by rw [hrow.len]; exact unhide Hk) (by rw [← unhide Ht]; exact unhide Hend)
          rw [← unhide Ht] at e
          rw [← unhide hpre, e]
          simp
        · have := unhide R7
          rw [List.flatMap_append, List.length_append]
          simpa [Tk.cells] using this
        · have := unhide Hpk
          rw [List.length_append]
          show pre.length + 1 ≤ t.to
          omega
        · exact ((unhide HB).alloc (unhide HB).size _).trans (unhide B7)
      case measure => omega
end Go.Proofs.YtejjnhcmpiamiaaGreat.lx
namespace Go.Proofs.YtejjnhcmpiamiaaGreat.cu
open Go.ChangeShapes Go.WideShapes Go.ChangeAt Go.RowKit
open ints (hide unhide)
open dt (Dt Kp RowAt)
open mem (Row)
set_option linter.unusedVariables false
set_option linter.unusedSimpArgs false
def newG (z : List Int) (d : Int) : Cu := ⟨lx.toks z, 0, 0, mostS d, 0⟩
theorem tksG_more (l : List Int) (cl : Bool) : ∀ (f i : Nat), i ≤ l.length → l.length < f + i → ∀ j t, (lx.tksGF l cl f i)[j]? = some t → t.k = 0 ∨ t.k = 1 ∨ j + 1 < (lx.tksGF l cl f i).length
  | 0, i, hi, hf, j, t, h => by simp [lx.tksGF] at h
  | f + 1, i, hi, hf, j, t, h => by
    by_cases he : (lx.tkG l cl i).k = 0 ∨ (lx.tkG l cl i).k = 1
    · rw [lx.tksGF, if_pos he] at h
      cases j with
      | zero => simp at h; subst h; rcases he with e | e; exact .inl e; exact .inr (.inl e)
      | succ j => simp at h
    · rw [lx.tksGF, if_neg he] at h ⊢
      have h2 := lx.tkG_le l cl i hi
      have h3 : i < (lx.tkG l cl i).to := by
        rcases h2.2.2 with e | e | e
        · exact absurd (.inl e) he
        · exact absurd (.inr e) he
        · exact e
      cases j with
      | zero =>
        right; right
        cases f with
        | zero => omega
        | succ f =>
          rw [lx.tksGF]
          split <;> simp
      | succ j =>
        have := tksG_more l cl f (lx.tkG l cl i).to h2.2.1 (by omega) j t (by simpa using h)
        simpa using this
theorem tksGF_len (l : List Int) (cl : Bool) : ∀ (f i : Nat), i ≤ l.length → (lx.tksGF l cl f i).length ≤ l.length + 1 - i
  | 0, i, hi => by simp [lx.tksGF]
  | f + 1, i, hi => by
    by_cases he : (lx.tkG l cl i).k = 0 ∨ (lx.tkG l cl i).k = 1
    · rw [lx.tksGF, if_pos he]; simp; omega
    · rw [lx.tksGF, if_neg he]
      have h2 := lx.tkG_le l cl i hi
      have h3 : i < (lx.tkG l cl i).to := by
        rcases h2.2.2 with e | e | e
        · exact absurd (.inl e) he
        · exact absurd (.inr e) he
        · exact e
      have := tksGF_len l cl f (lx.tkG l cl i).to h2.2.1
      simp
      omega
theorem tksG_pos (l : List Int) (cl : Bool) (i : Nat) : 0 < (lx.tksG l cl i).length := by
  unfold lx.tksG
  rw [lx.tksGF]
  split <;> simp
theorem newG_ok' (z : List Int) (d : Int) : (newG z d).Ok :=
  ⟨tksG_pos _ _ 0, tksG_more (lx.chs z) (lx.cln z) ((lx.chs z).length + 1) 0 (Nat.zero_le _) (by omega), Nat.zero_le _, by unfold newG mostS; simp only; omega⟩
theorem toks_len (z : List Int) (hz : mem.Byt z) : (lx.toks z).length ≤ z.length + 1 := by
  have h1 := tksGF_len (lx.chs z) (lx.cln z) ((lx.chs z).length + 1) 0 (Nat.zero_le _)
  have h2 := Nat.le_trans (mem.decZ_len z hz) (mem.decZ_le z hz)
  show (lx.tksGF (lx.chs z) (lx.cln z) ((lx.chs z).length + 1) 0).length ≤ _
  have h3 : (lx.chs z).length ≤ z.length := h2
  omega
theorem newG_ok (a : Option Addr) (n c : Nat) (l : List Int) (d : Int) (w : World) (h : Row .u8 w a n c l) (hn : n ≤ 1099511627776) (hz : mem.Byt l) (hd : (Lit.int .i64 d).wf = true) :
    Calls Tryz.prog 5 #[.slice a n c, .int .i64 d] w fun e w' => ∃ B p, e = .returned (ptr B) ∧ w.heap.size ≤ B ∧ w.heap.size ≤ p ∧ CurAt w' B p (newG l d) ∧ Below w.heap.size w w' := by
  have hT := hide (fun W (bb : Below w.heap.size w W) => lx.tokensG_ok a n c l W (h.below bb) hn hz)
  have hok := hide (newG_ok' l d)
  have hlen := toks_len l hz
  rw [h.len] at hlen
  go_enter Tryz.func5, Tryz.ntmps5
  go_wp2_with fail
  refine ((unhide hT) w (Below.refl _ _)).mono ?_
  rintro e w1 ⟨p, cap, rfl, hp1, hp2, hrows, b1⟩
  have HR := hide hrows
  clear hT hrows
  go_wp2_with fail
  go_ret
  have hmo : (max 0 (min d 200)) = ((mostS d : Nat) : Int) := by unfold mostS; omega
  rw [hmo]
  have bX : ∀ o, Below w1.heap.size w1 (w1.alloc o) := fun o => (Below.refl _ _).alloc (Nat.le_refl _) _
  refine ⟨w1.heap.size, p, rfl, b1.size, hp1, ⟨unhide hok, ?_, cap, heap_alloc_new w1 _, by omega, ?_, fun i t ht => ((unhide HR) i t ht).below (bX _)⟩, b1.alloc b1.size _⟩
  · show (lx.toks l).length ≤ _
    omega
  · simp; omega
end Go.Proofs.YtejjnhcmpiamiaaGreat.cu
namespace Go.Proofs.YtejjnhcmpiamiaaGreat.cu
open Go.ChangeShapes Go.WideShapes Go.ChangeAt Go.RowKit
open ints (hide unhide)
open dt (Dt Kp RowAt Ow Grow)
open mem (Row)
set_option linter.unusedVariables false
set_option linter.unusedSimpArgs false
def readLG (l : List Int) (ct : Bool) (d : Int) : Option Dt × Cu :=
  if (litF ct (lx.toks l).length (newG l d)).1.isSome then (if (litF ct (lx.toks l).length (newG l d)).2.finB then (litF ct (lx.toks l).length (newG l d)).1 else none, (litF ct (lx.toks l).length (newG l d)).2.fin) else (none, (litF ct (lx.toks l).length (newG l d)).2)
set_option maxRecDepth 4000 in
set_option maxHeartbeats 2000000 in
theorem readLitG_ok (a : Option Addr) (n c : Nat) (l : List Int) (ct : Bool) (d : Int) (w : World) (h : Row .u8 w a n c l) (hn : n ≤ 1099511627776) (hz : mem.Byt l) (hd : (Lit.int .i64 d).wf = true) :
    Calls Tryz.prog 13 #[.slice a n c, .bool ct, .int .i64 d] w fun e w' => ∃ cs F fs, e = .returned (.tuple #[.agg cs.toArray, .agg fs.toArray]) ∧ LitPost ((readLG l ct d).1.getD zeroD) w w' cs F ∧ FltAt w.heap.size w' (readLG l ct d).2 fs ∧ Below w.heap.size w w' := by
  have hN := hide (fun W (bb : Below w.heap.size w W) => newG_ok a n c l d W (h.below bb) hn hz hd)
  have hok := newG_ok' l d
  have hlen : (newG l d).ts.length ≤ 1099511627777 := by
    have := toks_len l hz
    show (lx.toks l).length ≤ _
    rw [h.len] at this
    omega
  have hT := hide (litF_ok ct (lx.toks l).length (newG l d) hok hlen (Nat.le_add_right _ _))
  have hg := hide (litF_goes ct (lx.toks l).length (newG l d) hok).1
  unfold readLG
  obtain ⟨U, hU⟩ : ∃ U, U = litF ct (lx.toks l).length (newG l d) := ⟨_, rfl⟩
  unfold LitAt at hT
  rw [← hU] at hT hg ⊢
  obtain ⟨c0, hc0⟩ : ∃ c0, c0 = newG l d := ⟨_, rfl⟩
  rw [← hc0] at hN hT hg
  clear h hU hok hlen hc0
  obtain ⟨r, C⟩ := U
  go_enter Tryz.func13, Tryz.ntmps13
  go_wp2_with fail
  have bW0 : Below w.heap.size w ((w.alloc (.cells #[Value.int .i64 0, .string { data := #[] }, .bool false, .slice none 0 0, .slice none 0 0, .int .i64 0, .int .i64 0] 55)).alloc (.cells #[Value.int .i64 0, .slice none 0 0, .slice none 0 0] 39)) := ((Below.refl _ _).alloc (Nat.le_refl _) _).alloc (by simp) _
  have hR1 : ((w.alloc (.cells #[Value.int .i64 0, .string { data := #[] }, .bool false, .slice none 0 0, .slice none 0 0, .int .i64 0, .int .i64 0] 55)).alloc (.cells #[Value.int .i64 0, .slice none 0 0, .slice none 0 0] 39)).heap[w.heap.size]? = some (.cells #[Value.int .i64 0, .string { data := #[] }, .bool false, .slice none 0 0, .slice none 0 0, .int .i64 0, .int .i64 0] 55 (0, 0)) := (Below.heap_alloc _ _ w.heap.size (by simp)).trans (heap_alloc_new w _)
  have hR2 : ((w.alloc (.cells #[Value.int .i64 0, .string { data := #[] }, .bool false, .slice none 0 0, .slice none 0 0, .int .i64 0, .int .i64 0] 55)).alloc (.cells #[Value.int .i64 0, .slice none 0 0, .slice none 0 0] 39)).heap[w.heap.size + 1]? = some (.cells #[Value.int .i64 0, .slice none 0 0, .slice none 0 0] 39 (0, 0)) := by
    have := heap_alloc_new (w.alloc (.cells #[Value.int .i64 0, .string { data := #[] }, .bool false, .slice none 0 0, .slice none 0 0, .int .i64 0, .int .i64 0] 55)) (.cells #[Value.int .i64 0, .slice none 0 0, .slice none 0 0] 39)
    simpa using this
  have hz0 : w.heap.size + 1 < ((w.alloc (.cells #[Value.int .i64 0, .string { data := #[] }, .bool false, .slice none 0 0, .slice none 0 0, .int .i64 0, .int .i64 0] 55)).alloc (.cells #[Value.int .i64 0, .slice none 0 0, .slice none 0 0] 39)).heap.size := by simp
  obtain ⟨W0, hW0⟩ : ∃ W0, W0 = (w.alloc (.cells #[Value.int .i64 0, .string { data := #[] }, .bool false, .slice none 0 0, .slice none 0 0, .int .i64 0, .int .i64 0] 55)).alloc (.cells #[Value.int .i64 0, .slice none 0 0, .slice none 0 0] 39) := ⟨_, rfl⟩
  rw [← hW0] at bW0 hR1 hR2 hz0 ⊢
  clear hW0
  refine ((unhide hN) W0 bW0).mono ?_
  rintro e w1 ⟨B, p, rfl, hB, hp0, hc1, b1⟩
  have hTB := hide ((unhide hT) B p)
  have hend := hide (fun W (hc : CurAt W B p C) => end_ok B p C W hc)
  have htold := hide (fun W (D : Cu) (hc : CurAt W B p D) => told_ok B p D W hc)
  clear hN hT
  unfold ptr at hTB hend htold ⊢
  go_wp2_with fail
  refine ((unhide hTB) w1 hc1).mono ?_
  rintro e w2 ⟨cs, F, rfl, hpo, hc2, hk2⟩
  obtain ⟨kk, tt, bl, ai, ni, ci, af, nf, cf, ln, co, rfl⟩ := hpo.shape
  have HP := hide hpo
  have hrF : ∀ b ∈ F, W0.heap.size ≤ b ∧ b < w2.heap.size := fun b hb => ⟨Nat.le_trans b1.size (hpo.rng b hb).1, (hpo.rng b hb).2⟩
  clear hpo
  have hB1 := hc1.lt
  have b02 : Below W0.heap.size W0 w2 := b1.trans (hk2.below hB b1.size)
  have HC2 := hide hc2
  clear hTB hc1 hc2 hk2 b1
  have bA2 := hide (fun o => show Below w2.heap.size w2 (w2.alloc o) from (Below.refl _ _).alloc (Nat.le_refl _) _)
  cases r with
  | none =>
    go_wp2_with fail
    have bT := b02.alloc b02.size (.cells #[.int .i64 kk, .string tt, .bool bl, .slice ai ni ci, .slice af nf cf, .int .i64 ln, .int .i64 co] 55)
    refine ((unhide htold) _ C ((unhide HC2).below ((unhide bA2) _))).mono ?_
    rintro e w5 ⟨fs, rfl, hflt, b5⟩
    have b05 : Below W0.heap.size W0 w5 := bT.trans (b5.mono bT.size)
    have hne12 : w.heap.size ≠ w.heap.size + 1 := by omega
    have HT1 := hide (show w5.there w.heap.size 0 7 from dt.there_cells ((b05.block w.heap.size (by omega)).trans hR1) (by decide))
    have HT2 := hide (show w5.there (w.heap.size + 1) 0 fs.length from by rw [hflt.three.1]; exact dt.there_cells ((b05.block (w.heap.size + 1) hz0).trans hR2) (by decide))
    have HX0 := res2 hne12 [.int .i64 0, .string ⟨#[]⟩, .bool false, .slice none 0 0, .slice none 0 0, .int .i64 0, .int .i64 0] fs (unhide HT1) (unhide HT2)
    obtain ⟨W6, e6⟩ : ∃ W6, W6 = w5.setCells w.heap.size 0 (#[.int .i64 0, .string ⟨#[]⟩, .bool false, .slice none 0 0, .slice none 0 0, .int .i64 0, .int .i64 0] : Array Value).toList := ⟨_, rfl⟩
    have HX := hide (show W6.there (w.heap.size + 1) 0 _ ∧ (W6.setCells (w.heap.size + 1) 0 fs).rangeAt w.heap.size 0 [.int .i64 0, .string ⟨#[]⟩, .bool false, .slice none 0 0, .slice none 0 0, .int .i64 0, .int .i64 0] ∧ (W6.setCells (w.heap.size + 1) 0 fs).rangeAt (w.heap.size + 1) 0 fs from by rw [e6]; exact HX0)
    have E6 := hide e6
    clear HX0 e6
    have HI := hide (show (Tryz.prog.info? 39).map (·.size) = some fs.length from by rw [hflt.three.1]; exact infoFl)
    have HO := hide (dt.one_cells hflt.three.2)
    have HF := hide hflt
    have hbw := hide (bW0.trans (b05.mono bW0.size))
    have hlo := hide (show w.heap.size + 1 < _ ∧ w.heap.size < _ from And.intro (Nat.lt_of_lt_of_le hz0 bT.size) (Nat.lt_of_lt_of_le (Nat.lt_of_succ_lt hz0) bT.size))
    clear b05 b5 htold hflt
    go_wp2_with (first
      | (refine wpList_store_mid (by rfl) 55 _ _ (by rfl) w.heap.size 0 #[.int .i64 0, .string ⟨#[]⟩, .bool false, .slice none 0 0, .slice none 0 0, .int .i64 0, .int .i64 0] (by rfl) (by rfl) (unhide HT1) infoLt (dt.one_cells (cs := [.int .i64 0, .string ⟨#[]⟩, .bool false, .slice none 0 0, .slice none 0 0, .int .i64 0, .int .i64 0]) (by rfl)) ?_; rw [← unhide E6])
      | refine wpList_store_mid (by rfl) 39 _ _ (by rfl) (w.heap.size + 1) 0 fs.toArray (by rfl) (by rfl) (by have := (unhide HX).1; simpa using this) (by have := unhide HI; simpa using this) (unhide HO) ?_)
    refine bodyPost_ret (result_rows2 rfl _ _ w.heap.size 0 [.int .i64 0, .string ⟨#[]⟩, .bool false, .slice none 0 0, .slice none 0 0, .int .i64 0, .int .i64 0] _ rfl (unhide HX).2.1 Tryz.underlying55 rfl infoLt (w.heap.size + 1) 0 fs _ rfl (unhide HX).2.2 Tryz.underlying39 rfl (unhide HI)) rfl ?_
    have e6 := unhide E6
    subst e6
    refine ⟨_, [], _, rfl, ⟨leaf_shape 0 em false 0 0, leaf_ow _ 0 em false 0 0, List.nodup_nil, by simp⟩, ?_, dt.below_setCells _ _ _ _ (dt.below_setCells _ _ _ _ (unhide hbw) (Nat.le_refl _)) (Nat.le_add_right _ 1)⟩
    exact (((unhide HF).out (unhide hlo).2 _ _).out (unhide hlo).1 _ _).mono (Nat.le_of_lt (unhide hlo).2)
  | some it =>
    cases hF : C.finB
    · rw [hF] at hend
      go_wp2_with fail
      refine ((unhide hend) _ ((unhide HC2).below ((unhide bA2) _))).mono ?_
      rintro e w3 ⟨rfl, hc3, hk3⟩
      have bT : Below W0.heap.size W0 w3 := (b02.alloc b02.size _).trans (hk3.below hB (Nat.le_trans b02.size ((unhide bA2) _).size))
      go_wp2_with fail
      refine ((unhide htold) _ C.fin hc3).mono ?_
      rintro e w5 ⟨fs, rfl, hflt, b5⟩
      have b05 : Below W0.heap.size W0 w5 := bT.trans (b5.mono bT.size)
      have hne12 : w.heap.size ≠ w.heap.size + 1 := by omega
      have HT1 := hide (show w5.there w.heap.size 0 7 from dt.there_cells ((b05.block w.heap.size (by omega)).trans hR1) (by decide))
      have HT2 := hide (show w5.there (w.heap.size + 1) 0 fs.length from by rw [hflt.three.1]; exact dt.there_cells ((b05.block (w.heap.size + 1) hz0).trans hR2) (by decide))
      have HX0 := res2 hne12 [.int .i64 0, .string ⟨#[]⟩, .bool false, .slice none 0 0, .slice none 0 0, .int .i64 0, .int .i64 0] fs (unhide HT1) (unhide HT2)
      obtain ⟨W6, e6⟩ : ∃ W6, W6 = w5.setCells w.heap.size 0 (#[.int .i64 0, .string ⟨#[]⟩, .bool false, .slice none 0 0, .slice none 0 0, .int .i64 0, .int .i64 0] : Array Value).toList := ⟨_, rfl⟩
      have HX := hide (show W6.there (w.heap.size + 1) 0 _ ∧ (W6.setCells (w.heap.size + 1) 0 fs).rangeAt w.heap.size 0 [.int .i64 0, .string ⟨#[]⟩, .bool false, .slice none 0 0, .slice none 0 0, .int .i64 0, .int .i64 0] ∧ (W6.setCells (w.heap.size + 1) 0 fs).rangeAt (w.heap.size + 1) 0 fs from by rw [e6]; exact HX0)
      have E6 := hide e6
      clear HX0 e6
      have HI := hide (show (Tryz.prog.info? 39).map (·.size) = some fs.length from by rw [hflt.three.1]; exact infoFl)
      have HO := hide (dt.one_cells hflt.three.2)
      have HF := hide hflt
      have hbw := hide (bW0.trans (b05.mono bW0.size))
      have hlo := hide (show w.heap.size + 1 < _ ∧ w.heap.size < _ from And.intro (Nat.lt_of_lt_of_le hz0 bT.size) (Nat.lt_of_lt_of_le (Nat.lt_of_succ_lt hz0) bT.size))
      clear b05 b5 htold hflt
      go_wp2_with (first
        | (refine wpList_store_mid (by rfl) 55 _ _ (by rfl) w.heap.size 0 #[.int .i64 0, .string ⟨#[]⟩, .bool false, .slice none 0 0, .slice none 0 0, .int .i64 0, .int .i64 0] (by rfl) (by rfl) (unhide HT1) infoLt (dt.one_cells (cs := [.int .i64 0, .string ⟨#[]⟩, .bool false, .slice none 0 0, .slice none 0 0, .int .i64 0, .int .i64 0]) (by rfl)) ?_; rw [← unhide E6])
        | refine wpList_store_mid (by rfl) 39 _ _ (by rfl) (w.heap.size + 1) 0 fs.toArray (by rfl) (by rfl) (by have := (unhide HX).1; simpa using this) (by have := unhide HI; simpa using this) (unhide HO) ?_)
      refine bodyPost_ret (result_rows2 rfl _ _ w.heap.size 0 [.int .i64 0, .string ⟨#[]⟩, .bool false, .slice none 0 0, .slice none 0 0, .int .i64 0, .int .i64 0] _ rfl (unhide HX).2.1 Tryz.underlying55 rfl infoLt (w.heap.size + 1) 0 fs _ rfl (unhide HX).2.2 Tryz.underlying39 rfl (unhide HI)) rfl ?_
      have e6 := unhide E6
      subst e6
      refine ⟨_, [], _, rfl, ⟨leaf_shape 0 em false 0 0, leaf_ow _ 0 em false 0 0, List.nodup_nil, by simp⟩, ?_, dt.below_setCells _ _ _ _ (dt.below_setCells _ _ _ _ (unhide hbw) (Nat.le_refl _)) (Nat.le_add_right _ 1)⟩
      exact (((unhide HF).out (unhide hlo).2 _ _).out (unhide hlo).1 _ _).mono (Nat.le_of_lt (unhide hlo).2)
    · rw [hF] at hend
      go_wp2_with fail
      refine ((unhide hend) _ ((unhide HC2).below ((unhide bA2) _))).mono ?_
      rintro e w3 ⟨rfl, hc3, hk3⟩
      have hI3 := (hk3.block w2.heap.size (by simp) (by have := (unhide HC2).lt; omega)).trans (heap_alloc_new w2 _)
      have b03 : Below W0.heap.size W0 w3 := (b02.alloc b02.size _).trans (hk3.below hB (Nat.le_trans b02.size ((unhide bA2) _).size))
      have i0 : w3.cell? ⟨w2.heap.size, 0, none⟩ = some (.int .i64 kk) := (dt.cell_cells hI3 0).trans rfl
      have i1 : w3.cell? ⟨w2.heap.size, 1, none⟩ = some (.string tt) := (dt.cell_cells hI3 1).trans rfl
      have i2 : w3.cell? ⟨w2.heap.size, 2, none⟩ = some (.bool bl) := (dt.cell_cells hI3 2).trans rfl
      have i3 : w3.cell? ⟨w2.heap.size, 3, none⟩ = some (.slice ai ni ci) := (dt.cell_cells hI3 3).trans rfl
      have i4 : w3.cell? ⟨w2.heap.size, 4, none⟩ = some (.slice af nf cf) := (dt.cell_cells hI3 4).trans rfl
      have i5 : w3.cell? ⟨w2.heap.size, 5, none⟩ = some (.int .i64 ln) := (dt.cell_cells hI3 5).trans rfl
      have i6 : w3.cell? ⟨w2.heap.size, 6, none⟩ = some (.int .i64 co) := (dt.cell_cells hI3 6).trans rfl
      have HW3 := hide (show Ow w3 (it) [.int .i64 kk, .string tt, .bool bl, .slice ai ni ci, .slice af nf cf, .int .i64 ln, .int .i64 co] F from ow_kp (ow_below (unhide HP).own ((unhide bA2) _) (fun b hb => (hrF b hb).2)) hk3 (Nat.lt_of_lt_of_le (Nat.lt_succ_self B) (Nat.le_refl _)) (fun b hb => ⟨by have h1 := (unhide HP).rng b hb; have h2 := hB1; omega, by have := (hrF b hb).2; simp; omega⟩))
      have hz23 := hide (show w2.heap.size ≤ w3.heap.size from by have := hk3.size; simp at this; omega)
      have hne12 : w.heap.size ≠ w.heap.size + 1 := by omega
      have HT1 := hide (show w3.there w.heap.size 0 7 from dt.there_cells ((b03.block w.heap.size (by omega)).trans hR1) (by decide))
      have HT2 := hide (show w3.there (w.heap.size + 1) 0 3 from dt.there_cells ((b03.block (w.heap.size + 1) hz0).trans hR2) (by decide))
      have HX0 := res2 hne12 [.int .i64 kk, .string tt, .bool bl, .slice ai ni ci, .slice af nf cf, .int .i64 ln, .int .i64 co] [.int .i64 0, .slice none 0 0, .slice none 0 0] (unhide HT1) (unhide HT2)
      obtain ⟨W6, e6⟩ : ∃ W6, W6 = w3.setCells w.heap.size 0 (#[.int .i64 kk, .string tt, .bool bl, .slice ai ni ci, .slice af nf cf, .int .i64 ln, .int .i64 co] : Array Value).toList := ⟨_, rfl⟩
      have HX := hide (show W6.there (w.heap.size + 1) 0 _ ∧ (W6.setCells (w.heap.size + 1) 0 [.int .i64 0, .slice none 0 0, .slice none 0 0]).rangeAt w.heap.size 0 [.int .i64 kk, .string tt, .bool bl, .slice ai ni ci, .slice af nf cf, .int .i64 ln, .int .i64 co] ∧ (W6.setCells (w.heap.size + 1) 0 [.int .i64 0, .slice none 0 0, .slice none 0 0]).rangeAt (w.heap.size + 1) 0 [.int .i64 0, .slice none 0 0, .slice none 0 0] from by rw [e6]; exact HX0)
      have E6 := hide e6
      clear HX0 e6
      have hfin := hide (show C.fin = C ∧ C.kd = 0 from ⟨by unfold Cu.fin; rw [hF]; rfl, (of_decide_eq_true hF).1⟩)
      have hbw := hide (bW0.trans (b03.mono bW0.size))
      clear hI3 b03 hk3 hc3 hend htold b02 bA2
      go_wp2_with (first
        | (refine wpList_store_mid (by rfl) 55 _ _ (by rfl) w.heap.size 0 #[.int .i64 kk, .string tt, .bool bl, .slice ai ni ci, .slice af nf cf, .int .i64 ln, .int .i64 co] (by rfl) (by rfl) (unhide HT1) infoLt (dt.one_cells (cs := [.int .i64 kk, .string tt, .bool bl, .slice ai ni ci, .slice af nf cf, .int .i64 ln, .int .i64 co]) (by rfl)) ?_; rw [← unhide E6])
        | refine wpList_store_mid (by rfl) 39 _ _ (by rfl) (w.heap.size + 1) 0 #[.int .i64 0, .slice none 0 0, .slice none 0 0] (by rfl) (by rfl) (unhide HX).1 infoFl (dt.one_cells (cs := [.int .i64 0, .slice none 0 0, .slice none 0 0]) (by rfl)) ?_)
      refine bodyPost_ret (result_rows2 rfl _ _ w.heap.size 0 [.int .i64 kk, .string tt, .bool bl, .slice ai ni ci, .slice af nf cf, .int .i64 ln, .int .i64 co] _ rfl (unhide HX).2.1 Tryz.underlying55 rfl infoLt (w.heap.size + 1) 0 [.int .i64 0, .slice none 0 0, .slice none 0 0] _ rfl (unhide HX).2.2 Tryz.underlying39 rfl infoFl) rfl ?_
      have e6 := unhide E6
      subst e6
      refine ⟨_, F, _, rfl, ⟨⟨kk, tt, bl, ai, ni, ci, af, nf, cf, ln, co, rfl⟩, ow_out (ow_out (unhide HW3) (fun hm => by have := (hrF _ hm).1; omega) _ _) (fun hm => by have := (hrF _ hm).1; omega) _ _, (unhide HP).nodup, fun b hb => ⟨by have := (hrF b hb).1; have := bW0.size; omega, by rw [dt.size_setCells, dt.size_setCells]; have := (hrF b hb).2; have := unhide hz23; omega⟩⟩, ?_, dt.below_setCells _ _ _ _ (dt.below_setCells _ _ _ _ (unhide hbw) (Nat.le_refl _)) (Nat.le_add_right _ 1)⟩
      unfold FltAt
      show (if C.fin.kd = 0 then _ else _)
      rw [(unhide hfin).1, if_pos (unhide hfin).2]
end Go.Proofs.YtejjnhcmpiamiaaGreat.cu
namespace Go.Proofs.YtejjnhcmpiamiaaGreat.cu
open Go.ChangeShapes Go.WideShapes Go.ChangeAt Go.RowKit
open ints (hide unhide)
open dt (Dt Kp RowAt Ow Grow OwIn)
open mem (Row)
set_option linter.unusedVariables false
set_option linter.unusedSimpArgs false
theorem readLG_rel (z : List Int) (d : Int) : ((readLG z false d).2.kd ≠ 0 → (readLG z true d).2.kd ≠ 0) ∧
    ((readLG z false d).2.kd = 0 → ∃ v f, (readLG z false d).1 = some v ∧ IsLit f v ∧ (fvD v = none → readLG z true d = readLG z false d) ∧ ∀ p, fvD v = some p → (readLG z true d).2.kd = 70 ∧ ((readLG z true d).2.tok.ln, (readLG z true d).2.tok.co) = p) := by
  have hok := newG_ok' z d
  have hR := litF_rel (lx.toks z).length (newG z d)
  have f0 := litF_faults false (lx.toks z).length (newG z d) hok (Nat.le_add_right _ _)
  have f1 := litF_faults true (lx.toks z).length (newG z d) hok (Nat.le_add_right _ _)
  have hl := litF_lit false (lx.toks z).length (newG z d)
  unfold readLG
  generalize litF false (lx.toks z).length (newG z d) = r0 at *
  generalize litF true (lx.toks z).length (newG z d) = r1 at *
  unfold Rel at hR
  obtain ⟨v0, c0⟩ := r0
  obtain ⟨v1, c1⟩ := r1
  have hfin : ∀ c : Cu, c.finB = false → c.fin.kd ≠ 0 := fun c h => by unfold Cu.fin; rw [h]; exact stop_kd _ _ (by decide)
  cases v0 with
  | none =>
    simp only at hR
    subst hR
    refine ⟨fun _ => f1 rfl, fun h => absurd h (f0 rfl)⟩
  | some v =>
    simp only at hR
    cases hf : fvD v with
    | none =>
      rw [hf] at hR
      simp only [Prod.mk.injEq] at hR
      obtain ⟨rfl, rfl⟩ := hR
      refine ⟨fun h => h, fun h => ⟨v, _, ?_, hl v rfl, (fun _ => rfl), (fun p hp => by rw [hf] at hp; cases hp)⟩⟩
      cases hb : c1.finB
      · simp only [hb] at h
        exact absurd h (hfin c1 hb)
      · simp only [hb]; rfl
    | some p =>
      rw [hf] at hR
      simp only at hR
      obtain ⟨rfl, h70, hp⟩ := hR
      refine ⟨fun _ => by show c1.kd ≠ 0; rw [h70]; decide, fun h => ⟨v, _, ?_, hl v rfl, (fun h' => by rw [hf] at h'; cases h'), (fun q hq => ?_)⟩⟩
      · cases hb : c0.finB
        · simp only [hb] at h
          exact absurd h (hfin c0 hb)
        · simp only [hb]; rfl
      · obtain rfl := Option.some.inj (hf.symm.trans hq)
        exact ⟨h70, hp⟩
/-- a literal's cells -/
theorem lit_cells {w : World} {k : Int} {tx : ByteArray} {bl : Bool} {its fls : List Dt} {ln co : Int} {cs : List Value} {F : List Nat} (h : Ow w (litD k tx bl (Dt.of its) (Dt.of fls) ln co) cs F) :
    ∃ ai ni ci af nf cf, cs = [.int .i64 k, .string tx, .bool bl, .slice ai ni ci, .slice af nf cf, .int .i64 ln, .int .i64 co] ∧ ni = its.length ∧ nf = fls.length ∧ ni ≤ ci ∧ nf ≤ cf ∧ ci ≤ maxLen ∧ cf ≤ maxLen ∧
      (∀ i e, its[i]? = some e → ∃ p ds G, ai = some ⟨p, 0, none⟩ ∧ p ∈ F ∧ RowAt w p (i * 7) ds ∧ ds.length = 7 ∧ Ow w e ds G ∧ ∀ b ∈ G, b ∈ F) ∧
      (∀ i e, fls[i]? = some e → ∃ p ds G, af = some ⟨p, 0, none⟩ ∧ p ∈ F ∧ RowAt w p (i * 10) ds ∧ ds.length = 10 ∧ Ow w e ds G ∧ ∀ b ∈ G, b ∈ F) := by
  unfold litD at h
  unfold Ow at h
  obtain ⟨d1, rfl, _, h⟩ := h
  unfold Ow at h
  obtain ⟨d2, rfl, _, h⟩ := h
  unfold Ow at h
  obtain ⟨d3, rfl, _, h⟩ := h
  unfold Ow at h
  obtain ⟨ai, ni, ci, d4, F1, F2, rfl, i1, i2, i3, i4, h, rfl⟩ := h
  unfold Ow at h
  obtain ⟨af, nf, cf, d5, F3, F4, rfl, j1, j2, j3, j4, h, rfl⟩ := h
  unfold Ow at h
  obtain ⟨d6, rfl, _, h⟩ := h
  unfold Ow at h
  obtain ⟨d7, rfl, _, h⟩ := h
  unfold Ow at h
  obtain ⟨rfl, rfl⟩ := h
  have key : ∀ (l : List Dt) (k : Nat) (a : Option Addr) (n : Nat) (G0 : List Nat), ((a = none ∧ Dt.of l = .nil ∧ n = 0 ∧ G0 = []) ∨ ∃ p G, a = some ⟨p, 0, none⟩ ∧ G0 = p :: G ∧ OwIn w (Dt.of l) k p 0 n G) → n = l.length ∧ ∀ i e, l[i]? = some e → ∃ p ds G, a = some ⟨p, 0, none⟩ ∧ p ∈ G0 ∧ RowAt w p (i * k) ds ∧ ds.length = k ∧ Ow w e ds G ∧ ∀ b ∈ G, b ∈ G0 := by
    intro l k a n G0 h
    rcases h with ⟨_, h2, h3, _⟩ | ⟨p, G, rfl, rfl, h⟩
    · cases l with
      | nil => exact ⟨h3, fun i e he => by simp at he⟩
      | cons d l => unfold Dt.of at h2; cases h2
    · obtain ⟨h1, h2⟩ := OwIn.get l k p 0 n G h
      refine ⟨h1.symm, fun i e he => ?_⟩
      obtain ⟨ds, Gi, g1, g2, g3, g4⟩ := h2 i e he
      exact ⟨p, ds, Gi, rfl, by simp, by simpa using g1, g2, g3, fun b hb => by simp [g4 b hb]⟩
  obtain ⟨e1, e2⟩ := key its 7 ai ni F1 i4
  obtain ⟨e3, e4⟩ := key fls 10 af nf F3 j4
  refine ⟨ai, ni, ci, af, nf, cf, rfl, e1, e3, i1, j1, i2, j2, fun i e he => ?_, fun i e he => ?_⟩
  · obtain ⟨p, ds, G, g1, g2, g3, g4, g5, g6⟩ := e2 i e he
    exact ⟨p, ds, G, g1, by simp [g2], g3, g4, g5, fun b hb => by simp [g6 b hb]⟩
  · obtain ⟨p, ds, G, g1, g2, g3, g4, g5, g6⟩ := e4 i e he
    exact ⟨p, ds, G, g1, by simp [g2], g3, g4, g5, fun b hb => by simp [g6 b hb]⟩
end Go.Proofs.YtejjnhcmpiamiaaGreat.cu
namespace Go.Proofs.YtejjnhcmpiamiaaGreat.cu
open Go.ChangeShapes Go.WideShapes Go.ChangeAt Go.RowKit
open ints (hide unhide)
open dt (Dt Kp RowAt Ow Grow OwIn)
open mem (Row)
set_option linter.unusedVariables false
set_option linter.unusedSimpArgs false
/-- a field's cells -/
theorem fld_cells {w : World} {nm : ByteArray} {k : Int} {tx : ByteArray} {bl : Bool} {its fls : Dt} {ln co x y : Int} {cs : List Value} {F : List Nat} (h : Ow w (fldD nm (litD k tx bl its fls ln co) x y) cs F) :
    ∃ ai ni ci af nf cf, cs = [.string nm, .int .i64 k, .string tx, .bool bl, .slice ai ni ci, .slice af nf cf, .int .i64 ln, .int .i64 co, .int .i64 x, .int .i64 y] ∧ Ow w (litD k tx bl its fls ln co) [.int .i64 k, .string tx, .bool bl, .slice ai ni ci, .slice af nf cf, .int .i64 ln, .int .i64 co] F := by
  unfold fldD litD at h
  simp only [app] at h
  unfold Ow at h
  obtain ⟨d0, rfl, _, h⟩ := h
  unfold Ow at h
  obtain ⟨d1, rfl, a1, h⟩ := h
  unfold Ow at h
  obtain ⟨d2, rfl, a2, h⟩ := h
  unfold Ow at h
  obtain ⟨d3, rfl, a3, h⟩ := h
  unfold Ow at h
  obtain ⟨ai, ni, ci, d4, F1, F2, rfl, i1, i2, i3, i4, h, rfl⟩ := h
  unfold Ow at h
  obtain ⟨af, nf, cf, d5, F3, F4, rfl, j1, j2, j3, j4, h, rfl⟩ := h
  unfold Ow at h
  obtain ⟨d6, rfl, a6, h⟩ := h
  unfold Ow at h
  obtain ⟨d7, rfl, a7, h⟩ := h
  unfold Ow at h
  obtain ⟨d8, rfl, a8, h⟩ := h
  unfold Ow at h
  obtain ⟨d9, rfl, a9, h⟩ := h
  unfold Ow at h
  obtain ⟨rfl, rfl⟩ := h
  refine ⟨ai, ni, ci, af, nf, cf, rfl, ?_⟩
  unfold litD Ow
  refine ⟨_, rfl, a1, ?_⟩
  unfold Ow
  refine ⟨_, rfl, a2, ?_⟩
  unfold Ow
  refine ⟨_, rfl, a3, ?_⟩
  unfold Ow
  refine ⟨ai, ni, ci, _, F1, F3 ++ [], rfl, i1, i2, i3, i4, ?_, rfl⟩
  unfold Ow
  refine ⟨af, nf, cf, _, F3, [], rfl, j1, j2, j3, j4, ?_, rfl⟩
  unfold Ow
  refine ⟨_, rfl, a6, ?_⟩
  unfold Ow
  refine ⟨_, rfl, a7, ?_⟩
  unfold Ow
  exact ⟨rfl, rfl⟩
def fvR (r : Option (Int × Int)) : Array Value := match r with
  | none => #[.agg #[.int .i64 0, .int .i64 0], .bool false]
  | some p => #[.agg #[.int .i64 p.1, .int .i64 p.2], .bool true]
theorem infoPo : (Tryz.prog.info? 30).map (·.size) = some 2 := by kernel_rfl
theorem find_next {A B : Type} (φ : A → Option B) (l : List A) (k : Nat) (e : A) (h : l[k]? = some e) (h0 : (l.take k).findSome? φ = none) : (φ e = none → (l.take (k + 1)).findSome? φ = none) ∧ (∀ p, φ e = some p → l.findSome? φ = some p) := by
  have hk : l.take (k + 1) = l.take k ++ [e] := by rw [List.take_add_one, h]; rfl
  refine ⟨fun he => by rw [hk, List.findSome?_append, h0]; simp [he], fun p hp => ?_⟩
  rw [← List.take_append_drop (k + 1) l, List.findSome?_append, hk, List.findSome?_append, h0]
  simp [hp]
/-- what the loops keep -/
structure FvI (w wr : World) (vc : Array Value) : Prop where
  bel : Below w.heap.size w wr
  v : wr.heap[w.heap.size]? = some (.cells vc 55 (0, 0))
  r : wr.heap[w.heap.size + 1]? = some (.cells #[.int .i64 0, .int .i64 0] 30 (0, 0))
theorem FvI.more {w wr wn : World} {vc : Array Value} (h : FvI w wr vc) (hb : Below wr.heap.size wr wn) : FvI w wn vc := by
  have h1 : w.heap.size < wr.heap.size := by
    rcases Nat.lt_or_ge w.heap.size wr.heap.size with g | g
    · exact g
    · have := h.v; rw [Array.getElem?_eq_none g] at this; cases this
  have h2 : w.heap.size + 1 < wr.heap.size := by
    rcases Nat.lt_or_ge (w.heap.size + 1) wr.heap.size with g | g
    · exact g
    · have := h.r; rw [Array.getElem?_eq_none g] at this; cases this
  exact ⟨h.bel.trans (hb.mono h.bel.size), (hb.block _ h1).trans h.v, (hb.block _ h2).trans h.r⟩
end Go.Proofs.YtejjnhcmpiamiaaGreat.cu
namespace Go.Proofs.YtejjnhcmpiamiaaGreat.cu
open Go.ChangeShapes Go.WideShapes Go.ChangeAt Go.RowKit
open ints (hide unhide)
open dt (Dt Kp RowAt Ow Grow OwIn)
open mem (Row)
set_option linter.unusedVariables false
set_option linter.unusedSimpArgs false
/-- the same literal, but for places where they are not asked for -/
def EqL (pl : Bool) : Nat → Dt → Dt → Prop
  | 0, _, _ => False
  | f + 1, d, e => ∃ k tx bl its its' fls fls' ln co ln' co', d = litD k tx bl (Dt.of its) (Dt.of fls) ln co ∧ e = litD k tx bl (Dt.of its') (Dt.of fls') ln' co' ∧ (pl = true → ln = ln' ∧ co = co') ∧
      its.length = its'.length ∧ fls.length = fls'.length ∧ (∀ (i : Nat) x y, its[i]? = some x → its'[i]? = some y → EqL pl f x y) ∧
      (∀ (i : Nat) x y, fls[i]? = some x → fls'[i]? = some y → ∃ nm v v' a b a' b', x = fldD nm v a b ∧ y = fldD nm v' a' b' ∧ (pl = true → a = a' ∧ b = b') ∧ EqL pl f v v')
theorem EqL.left {pl : Bool} : ∀ {f : Nat} {d e : Dt}, EqL pl f d e → ∃ k tx bl its fls ln co, d = litD k tx bl its fls ln co
  | 0, d, e, h => h.elim
  | f + 1, d, e, ⟨k, tx, bl, its, its', fls, fls', ln, co, ln', co', h, _⟩ => ⟨k, tx, bl, _, _, ln, co, h⟩
theorem EqL.right {pl : Bool} : ∀ {f : Nat} {d e : Dt}, EqL pl f d e → ∃ k tx bl its fls ln co, e = litD k tx bl its fls ln co
  | 0, d, e, h => h.elim
  | f + 1, d, e, ⟨k, tx, bl, its, its', fls, fls', ln, co, ln', co', _, h, _⟩ => ⟨k, tx, bl, _, _, ln', co', h⟩
theorem IsLit.same (pl : Bool) : ∀ {f : Nat} {d : Dt}, IsLit f d → EqL pl f d d
  | 0, d, h => h.elim
  | f + 1, d, h => by
    obtain ⟨k, tx, bl, its, fls, ln, co, rfl, hI, hF⟩ := h
    refine ⟨k, tx, bl, its, its, fls, fls, ln, co, ln, co, rfl, rfl, fun _ => ⟨rfl, rfl⟩, rfl, rfl, fun i x y hx hy => ?_, fun i x y hx hy => ?_⟩
    · rw [hx] at hy
      obtain rfl := Option.some.inj hy
      exact IsLit.same pl (hI x (List.mem_of_getElem? hx))
    · rw [hx] at hy
      obtain rfl := Option.some.inj hy
      obtain ⟨nm, v, a, b, rfl, hv⟩ := hF x (List.mem_of_getElem? hx)
      exact ⟨nm, v, v, a, b, a, b, rfl, rfl, fun _ => ⟨rfl, rfl⟩, IsLit.same pl hv⟩
theorem lit_shape {w : World} {k : Int} {tx : ByteArray} {bl : Bool} {its fls : Dt} {ln co : Int} {cs : List Value} {F : List Nat} (h : Ow w (litD k tx bl its fls ln co) cs F) : LShape cs := by
  unfold litD at h
  unfold Ow at h
  obtain ⟨d1, rfl, _, h⟩ := h
  unfold Ow at h
  obtain ⟨d2, rfl, _, h⟩ := h
  unfold Ow at h
  obtain ⟨d3, rfl, _, h⟩ := h
  unfold Ow at h
  obtain ⟨ai, ni, ci, d4, F1, F2, rfl, i1, i2, i3, i4, h, rfl⟩ := h
  unfold Ow at h
  obtain ⟨af, nf, cf, d5, F3, F4, rfl, j1, j2, j3, j4, h, rfl⟩ := h
  unfold Ow at h
  obtain ⟨d6, rfl, _, h⟩ := h
  unfold Ow at h
  obtain ⟨d7, rfl, _, h⟩ := h
  unfold Ow at h
  obtain ⟨rfl, rfl⟩ := h
  exact ⟨_, _, _, _, _, _, _, _, _, _, _, rfl⟩
def SmAt (pl : Bool) (d e : Dt) : Prop := ∀ (w : World) (cs ds : List Value) (F G : List Nat), Ow w d cs F → Ow w e ds G → (∀ b ∈ F, b < w.heap.size) → (∀ b ∈ G, b < w.heap.size) → Calls Tryz.prog 35 #[.agg cs.toArray, .agg ds.toArray, .bool pl] w fun e w' => e = .returned (.bool true) ∧ Below w.heap.size w w'
structure SmI (w wr : World) (vc uc : Array Value) : Prop where
  bel : Below w.heap.size w wr
  v : wr.heap[w.heap.size]? = some (.cells vc 55 (0, 0))
  u : wr.heap[w.heap.size + 1]? = some (.cells uc 55 (0, 0))
theorem SmI.more {w wr wn : World} {vc uc : Array Value} (h : SmI w wr vc uc) (hb : Below wr.heap.size wr wn) : SmI w wn vc uc := by
  have h1 : w.heap.size < wr.heap.size := by
    rcases Nat.lt_or_ge w.heap.size wr.heap.size with g | g
    · exact g
    · have := h.v; rw [Array.getElem?_eq_none g] at this; cases this
  have h2 : w.heap.size + 1 < wr.heap.size := by
    rcases Nat.lt_or_ge (w.heap.size + 1) wr.heap.size with g | g
    · exact g
    · have := h.u; rw [Array.getElem?_eq_none g] at this; cases this
  exact ⟨h.bel.trans (hb.mono h.bel.size), (hb.block _ h1).trans h.v, (hb.block _ h2).trans h.u⟩
set_option maxHeartbeats 8000000 in
set_option maxRecDepth 4000 in
theorem same_t : ∀ (f : Nat) (d e : Dt), EqL true f d e → SmAt true d e
  | 0, d, e, h => h.elim
  | f + 1, d, e, h => by
    obtain ⟨k, tx, bl, its, its', fls, fls', ln, co, ln', co', rfl, rfl, hpl, hil, hfl, hI, hF⟩ := h
    intro w cs ds F G how how' hFw hGw
    obtain ⟨ai, n1, ci, af, n2, cf, rfl, hn1, hn2, l1, l2, l3, l4, hit, hft⟩ := lit_cells how
    obtain ⟨ai', n1', ci', af', n2', cf', rfl, hn1', hn2', l1', l2', l3', l4', hit', hft'⟩ := lit_cells how'
    obtain rfl : n1 = n1' := by omega
    obtain rfl : n2 = n2' := by omega
    have Hn := hide (And.intro (And.intro hn1 hn1') (And.intro hn2 hn2'))
    clear hn1 hn1' hn2 hn2' hil hfl
    have ih := hide (fun d e hd => same_t f d e hd)
    have HI := hide hI
    have HFl := hide hF
    have Hit := hide hit
    have Hft := hide hft
    have Hit' := hide hit'
    have Hft' := hide hft'
    have HW := hide hFw
    have HW' := hide hGw
    clear hI hF hit hft hit' hft' hFw hGw how how'
    unfold maxLen at l3 l4 l3' l4'
    obtain ⟨vc, hvc⟩ : ∃ vc : Array Value, vc = #[.int .i64 k, .string tx, .bool bl, .slice ai n1 ci, .slice af n2 cf, .int .i64 ln, .int .i64 co] := ⟨_, rfl⟩
    obtain ⟨uc, huc⟩ : ∃ uc : Array Value, uc = #[.int .i64 k, .string tx, .bool bl, .slice ai' n1 ci', .slice af' n2 cf', .int .i64 ln', .int .i64 co'] := ⟨_, rfl⟩
    obtain ⟨rfl, rfl⟩ := hpl rfl
    go_enter Tryz.func35, Tryz.ntmps35
    go_wp2_with fail
    obtain ⟨w0, hw0⟩ : ∃ w0, w0 = (w.alloc (.cells #[.int .i64 k, .string tx, .bool bl, .slice ai n1 ci, .slice af n2 cf, .int .i64 ln, .int .i64 co] 55)).alloc (.cells #[.int .i64 k, .string tx, .bool bl, .slice ai' n1 ci', .slice af' n2 cf', .int .i64 ln, .int .i64 co] 55) := ⟨_, rfl⟩
    have HV0 := hide (show SmI w w0 vc uc from by
      rw [hw0, hvc, huc]
      refine ⟨((Below.refl _ _).alloc (Nat.le_refl _) _).alloc (by simp) _, (Below.heap_alloc _ _ w.heap.size (by simp)).trans (heap_alloc_new w _), ?_⟩
      have := heap_alloc_new (w.alloc (.cells #[.int .i64 k, .string tx, .bool bl, .slice ai n1 ci, .slice af n2 cf, .int .i64 ln, .int .i64 co] 55)) (.cells #[.int .i64 k, .string tx, .bool bl, .slice ai' n1 ci', .slice af' n2 cf', .int .i64 ln, .int .i64 co] 55)
      simpa using this)
    rw [← hw0]
    clear hw0
    go_loopw [7] (fun i wr => ∃ j : Nat, j ≤ n1 ∧ i = .int .i64 j ∧ SmI w wr vc uc) (fun i _ => n1 - (intOf i).toNat)
    case atStart => exact ⟨0, Nat.zero_le _, rfl, unhide HV0⟩
    case round =>
      obtain ⟨j, hj, rfl, hI⟩ := hrel
      have d3 : wr.cell? ⟨w.heap.size, 3, none⟩ = some (.slice ai n1 ci) := (dt.cell_cells hI.v 3).trans (by rw [hvc]; rfl)
      have u3 : wr.cell? ⟨w.heap.size + 1, 3, none⟩ = some (.slice ai' n1 ci') := (dt.cell_cells hI.u 3).trans (by rw [huc]; rfl)
      by_cases hlt : j < n1
      · have ji : (j : Int) < (n1 : Int) := by omega
        have hlt1 : j < its.length := by have := unhide Hn; omega
        have hlt2 : j < its'.length := by have := unhide Hn; omega
        obtain ⟨p, ds, G1, rfl, hpF, hrow, hdl, hod, hGF⟩ := (unhide Hit) j _ (List.getElem?_eq_getElem hlt1)
        obtain ⟨p', ds', G2, rfl, hpF', hrow', hdl', hod', hGF'⟩ := (unhide Hit') j _ (List.getElem?_eq_getElem hlt2)
        have heq := (unhide HI) j _ _ (List.getElem?_eq_getElem hlt1) (List.getElem?_eq_getElem hlt2)
        obtain ⟨e1, he1⟩ : ∃ e, e = its[j] := ⟨_, rfl⟩
        obtain ⟨e2, he2⟩ : ∃ e, e = its'[j] := ⟨_, rfl⟩
        rw [← he1, ← he2] at heq
        rw [← he1] at hod
        rw [← he2] at hod'
        clear he1 he2
        have hshp : LShape ds ∧ LShape ds' := by
          obtain ⟨_, _, _, _, _, _, _, h1⟩ := heq.left
          obtain ⟨_, _, _, _, _, _, _, h2⟩ := heq.right
          rw [h1] at hod
          rw [h2] at hod'
          exact ⟨lit_shape hod, lit_shape hod'⟩
        obtain ⟨⟨k1, tx1, bl1, ai1, ni1, ci1, af1, nf1, cf1, ln1, co1, rfl⟩, ⟨k2, tx2, bl2, ai2, ni2, ci2, af2, nf2, cf2, ln2, co2, rfl⟩⟩ := hshp
        have hov := hod
        have hov' := hod'
        have hplt := (unhide HW) p hpF
        have hplt' := (unhide HW') p' hpF'
        have hr := fun (q : Nat) (u : Value) hu => (hI.bel.cell (p := ⟨p, j * 7 + q, none⟩) hplt).trans (hrow q u hu)
        have hr' := fun (q : Nat) (u : Value) hu => (hI.bel.cell (p := ⟨p', j * 7 + q, none⟩) hplt').trans (hrow' q u hu)
        have m0 : wr.cell? ⟨p, j * 7, none⟩ = some (.int .i64 k1) := hr 0 _ rfl
        have m1 : wr.cell? ⟨p, j * 7 + 1, none⟩ = some (.string tx1) := hr 1 _ rfl
        have m2 : wr.cell? ⟨p, j * 7 + 2, none⟩ = some (.bool bl1) := hr 2 _ rfl
        have m3 : wr.cell? ⟨p, j * 7 + 3, none⟩ = some (.slice ai1 ni1 ci1) := hr 3 _ rfl
        have m4 : wr.cell? ⟨p, j * 7 + 4, none⟩ = some (.slice af1 nf1 cf1) := hr 4 _ rfl
        have m5 : wr.cell? ⟨p, j * 7 + 5, none⟩ = some (.int .i64 ln1) := hr 5 _ rfl
        have m6 : wr.cell? ⟨p, j * 7 + 6, none⟩ = some (.int .i64 co1) := hr 6 _ rfl
        have n0 : wr.cell? ⟨p', j * 7, none⟩ = some (.int .i64 k2) := hr' 0 _ rfl
        have n1 : wr.cell? ⟨p', j * 7 + 1, none⟩ = some (.string tx2) := hr' 1 _ rfl
        have n2 : wr.cell? ⟨p', j * 7 + 2, none⟩ = some (.bool bl2) := hr' 2 _ rfl
        have n3 : wr.cell? ⟨p', j * 7 + 3, none⟩ = some (.slice ai2 ni2 ci2) := hr' 3 _ rfl
        have n4 : wr.cell? ⟨p', j * 7 + 4, none⟩ = some (.slice af2 nf2 cf2) := hr' 4 _ rfl
        have n5 : wr.cell? ⟨p', j * 7 + 5, none⟩ = some (.int .i64 ln2) := hr' 5 _ rfl
        have n6 : wr.cell? ⟨p', j * 7 + 6, none⟩ = some (.int .i64 co2) := hr' 6 _ rfl
        have hC := hide (fun W (hb : Below w.heap.size w W) => (unhide ih) e1 e2 heq W [Value.int .i64 k1, .string tx1, .bool bl1, .slice ai1 ni1 ci1, .slice af1 nf1 cf1, .int .i64 ln1, .int .i64 co1] [Value.int .i64 k2, .string tx2, .bool bl2, .slice ai2 ni2 ci2, .slice af2 nf2 cf2, .int .i64 ln2, .int .i64 co2] G1 G2 (dt.Ow.agree e1 _ G1 (fun b hb' o => hb.cell (p := ⟨b, o, none⟩) ((unhide HW) b (hGF b hb'))) hov) (dt.Ow.agree e2 _ G2 (fun b hb' o => hb.cell (p := ⟨b, o, none⟩) ((unhide HW') b (hGF' b hb'))) hov') (fun b hb' => Nat.lt_of_lt_of_le ((unhide HW) b (hGF b hb')) hb.size) (fun b hb' => Nat.lt_of_lt_of_le ((unhide HW') b (hGF' b hb')) hb.size))
        have hs0 : w.heap.size < wr.heap.size := by
          rcases Nat.lt_or_ge w.heap.size wr.heap.size with g | g
          · exact g
          · have := hI.v; rw [Array.getElem?_eq_none g] at this; cases this
        have hs1 : w.heap.size + 1 < wr.heap.size := by
          rcases Nat.lt_or_ge (w.heap.size + 1) wr.heap.size with g | g
          · exact g
          · have := hI.u; rw [Array.getElem?_eq_none g] at this; cases this
        have hq1 : p < wr.heap.size := by omega
        have hq2 : p' < wr.heap.size := by omega
        clear hr hr' hrow hrow' hov hov' heq hdl hdl'
        go_wp2_with fail
        have hS0 : Below wr.heap.size wr { wr with drawn := wr.drawn + 1 } := (Below.refl _ _).drew
        have bD := hI.bel.trans (hS0.mono hI.bel.size)
        refine wp_region_noPanic ?_
        refine wp_region_held (S := fun w' => Below wr.heap.size wr w') mixed ?_
        refine wpAnyH_take (i := 0) (v := ?v1) rfl (by kernel_rfl) (by kernel_rfl) (by kernel_rfl) (fun _ _ _ h => h) (Or.inl ⟨by rfl, ?hy1⟩) hS0 ?_
        case hy1 => (intro w' hw'; skip; go_simp; try with_reducible rfl)
        simp only [List.getElem_toArray, List.getElem_cons_zero, List.getElem_cons_succ, Act.put, List.setIfInBounds_toArray, List.set_cons_zero, List.set_cons_succ]
        refine wpAnyH_take (i := 1) (v := ?v2) rfl (by kernel_rfl) (by kernel_rfl) (by kernel_rfl) (fun _ _ _ h => h) (Or.inl ⟨by rfl, ?hy2⟩) hS0 ?_
        case hy2 => (intro w' hw'; have d3' := (hw'.cell (p := ⟨w.heap.size, 3, none⟩) hs0).trans d3; go_simp; try with_reducible rfl)
        simp only [List.getElem_toArray, List.getElem_cons_zero, List.getElem_cons_succ, Act.put, List.setIfInBounds_toArray, List.set_cons_zero, List.set_cons_succ]
        refine wpAnyH_take (i := 2) (v := ?v3) rfl (by kernel_rfl) (by kernel_rfl) (by kernel_rfl) (fun _ _ _ h => h) (Or.inl ⟨by rfl, ?hy3⟩) hS0 ?_
        case hy3 => (intro w' hw'; skip; go_simp; try with_reducible rfl)
        simp only [List.getElem_toArray, List.getElem_cons_zero, List.getElem_cons_succ, Act.put, List.setIfInBounds_toArray, List.set_cons_zero, List.set_cons_succ]
        refine wpAnyH_take (i := 3) (v := ?v4) rfl (by kernel_rfl) (by kernel_rfl) (by kernel_rfl) (fun _ _ _ h => h) (Or.inl ⟨by rfl, ?hy4⟩) hS0 ?_
        case hy4 => (intro w' hw'; skip; go_simp; try with_reducible rfl)
        simp only [List.getElem_toArray, List.getElem_cons_zero, List.getElem_cons_succ, Act.put, List.setIfInBounds_toArray, List.set_cons_zero, List.set_cons_succ]
        refine wpAnyH_take (i := 4) (v := ?v5) rfl (by kernel_rfl) (by kernel_rfl) (by kernel_rfl) (fun _ _ _ h => h) (Or.inl ⟨by rfl, ?hy5⟩) hS0 ?_
        case hy5 => (intro w' hw'; have m0' := (hw'.cell (p := ⟨p, j * 7, none⟩) hq1).trans m0; have m1' := (hw'.cell (p := ⟨p, j * 7 + 1, none⟩) hq1).trans m1; have m2' := (hw'.cell (p := ⟨p, j * 7 + 2, none⟩) hq1).trans m2; have m3' := (hw'.cell (p := ⟨p, j * 7 + 3, none⟩) hq1).trans m3; have m4' := (hw'.cell (p := ⟨p, j * 7 + 4, none⟩) hq1).trans m4; have m5' := (hw'.cell (p := ⟨p, j * 7 + 5, none⟩) hq1).trans m5; have m6' := (hw'.cell (p := ⟨p, j * 7 + 6, none⟩) hq1).trans m6; go_simp; try with_reducible rfl)
        simp only [List.getElem_toArray, List.getElem_cons_zero, List.getElem_cons_succ, Act.put, List.setIfInBounds_toArray, List.set_cons_zero, List.set_cons_succ]
        refine wpAnyH_take (i := 5) (v := ?v6) rfl (by kernel_rfl) (by kernel_rfl) (by kernel_rfl) (fun _ _ _ h => h) (Or.inl ⟨by rfl, ?hy6⟩) hS0 ?_
        case hy6 => (intro w' hw'; skip; go_simp; try with_reducible rfl)
        simp only [List.getElem_toArray, List.getElem_cons_zero, List.getElem_cons_succ, Act.put, List.setIfInBounds_toArray, List.set_cons_zero, List.set_cons_succ]
        refine wpAnyH_take (i := 6) (v := ?v7) rfl (by kernel_rfl) (by kernel_rfl) (by kernel_rfl) (fun _ _ _ h => h) (Or.inl ⟨by rfl, ?hy7⟩) hS0 ?_
        case hy7 => (intro w' hw'; have u3' := (hw'.cell (p := ⟨w.heap.size + 1, 3, none⟩) hs1).trans u3; go_simp; try with_reducible rfl)
        simp only [List.getElem_toArray, List.getElem_cons_zero, List.getElem_cons_succ, Act.put, List.setIfInBounds_toArray, List.set_cons_zero, List.set_cons_succ]
        refine wpAnyH_take (i := 7) (v := ?v8) rfl (by kernel_rfl) (by kernel_rfl) (by kernel_rfl) (fun _ _ _ h => h) (Or.inl ⟨by rfl, ?hy8⟩) hS0 ?_
        case hy8 => (intro w' hw'; skip; go_simp; try with_reducible rfl)
        simp only [List.getElem_toArray, List.getElem_cons_zero, List.getElem_cons_succ, Act.put, List.setIfInBounds_toArray, List.set_cons_zero, List.set_cons_succ]
        refine wpAnyH_take (i := 8) (v := ?v9) rfl (by kernel_rfl) (by kernel_rfl) (by kernel_rfl) (fun _ _ _ h => h) (Or.inl ⟨by rfl, ?hy9⟩) hS0 ?_
        case hy9 => (intro w' hw'; skip; go_simp; try with_reducible rfl)
        simp only [List.getElem_toArray, List.getElem_cons_zero, List.getElem_cons_succ, Act.put, List.setIfInBounds_toArray, List.set_cons_zero, List.set_cons_succ]
        refine wpAnyH_take (i := 9) (v := ?v10) rfl (by kernel_rfl) (by kernel_rfl) (by kernel_rfl) (fun _ _ _ h => h) (Or.inl ⟨by rfl, ?hy10⟩) hS0 ?_
        case hy10 => (intro w' hw'; have n0' := (hw'.cell (p := ⟨p', j * 7, none⟩) hq2).trans n0; have n1' := (hw'.cell (p := ⟨p', j * 7 + 1, none⟩) hq2).trans n1; have n2' := (hw'.cell (p := ⟨p', j * 7 + 2, none⟩) hq2).trans n2; have n3' := (hw'.cell (p := ⟨p', j * 7 + 3, none⟩) hq2).trans n3; have n4' := (hw'.cell (p := ⟨p', j * 7 + 4, none⟩) hq2).trans n4; have n5' := (hw'.cell (p := ⟨p', j * 7 + 5, none⟩) hq2).trans n5; have n6' := (hw'.cell (p := ⟨p', j * 7 + 6, none⟩) hq2).trans n6; go_simp; try with_reducible rfl)
        simp only [List.getElem_toArray, List.getElem_cons_zero, List.getElem_cons_succ, Act.put, List.setIfInBounds_toArray, List.set_cons_zero, List.set_cons_succ]
        refine wpAnyH_take (i := 10) (v := ?v11) rfl (by kernel_rfl) (by kernel_rfl) (by kernel_rfl) (fun _ _ _ h => h) (Or.inl ⟨by rfl, ?hy11⟩) hS0 ?_
        case hy11 => (intro w' hw'; skip; go_simp; try with_reducible rfl)
        simp only [List.getElem_toArray, List.getElem_cons_zero, List.getElem_cons_succ, Act.put, List.setIfInBounds_toArray, List.set_cons_zero, List.set_cons_succ]
        refine rgn.one (i := 11) _ rfl (by kernel_rfl) (by rfl) ?_
        simp only [List.getElem_toArray, List.getElem_cons_zero, List.getElem_cons_succ, Act.put, List.setIfInBounds_toArray, List.set_cons_zero, List.set_cons_succ]
        go_wp2_with fail
        refine ((unhide hC) _ bD).mono ?_
        rintro e' w2 ⟨rfl, b2⟩
        have b02 : Below wr.heap.size wr w2 := hS0.trans b2
        refine ⟨b02, ?_⟩
        clear hS0 b2 bD
        have hS0 := b02
        try simp only [List.getElem_toArray, List.getElem_cons_zero, List.getElem_cons_succ, Act.put, List.setIfInBounds_toArray, List.set_cons_zero, List.set_cons_succ]
        refine rgn.take (i := 12) _ (.bool true) rfl (by kernel_rfl) (by kernel_rfl) (by kernel_rfl) (fun _ _ _ h => h) (by rfl) hS0 (fun w' hw' => by go_simp) ?_
        simp only [List.getElem_toArray, List.getElem_cons_zero, List.getElem_cons_succ, Act.put, List.setIfInBounds_toArray, List.set_cons_zero, List.set_cons_succ]
        refine wpAnyH_done (by kernel_rfl) ?_ _; refine NoPanic.normal ?_
        have hI2 := hI.more b02
        clear m0 m1 m2 m3 m4 m5 m6 n0 n1 n2 n3 n4 n5 n6 d3 u3 hC hS0
        go_wp2_with fail
        go_roundw
        case rel => exact ⟨j + 1, by omega, by go_num, hI2⟩
        case measure => first | (simp [intOf]; omega) | simp [intOf]
      · have ji : ¬ (j : Int) < (n1 : Int) := by omega
        have hI9 := hide hI
        clear hlt
        go_wp2_with fail
        have HV0 := hI9
        clear d3 u3
        go_loopw [9] (fun i wr => ∃ j : Nat, j ≤ n2 ∧ i = .int .i64 j ∧ SmI w wr vc uc) (fun i _ => n2 - (intOf i).toNat)
        case atStart => exact ⟨0, Nat.zero_le _, rfl, unhide HV0⟩
        case round =>
          obtain ⟨j, hj, rfl, hI⟩ := hrel
          have d3 : wr.cell? ⟨w.heap.size, 4, none⟩ = some (.slice af n2 cf) := (dt.cell_cells hI.v 4).trans (by rw [hvc]; rfl)
          have u3 : wr.cell? ⟨w.heap.size + 1, 4, none⟩ = some (.slice af' n2 cf') := (dt.cell_cells hI.u 4).trans (by rw [huc]; rfl)
          by_cases hlt : j < n2
          · have ji : (j : Int) < (n2 : Int) := by omega
            have hlt1 : j < fls.length := by have := unhide Hn; omega
            have hlt2 : j < fls'.length := by have := unhide Hn; omega
            obtain ⟨p, ds, G1, rfl, hpF, hrow, hdl, hod, hGF⟩ := (unhide Hft) j _ (List.getElem?_eq_getElem hlt1)
            obtain ⟨p', ds', G2, rfl, hpF', hrow', hdl', hod', hGF'⟩ := (unhide Hft') j _ (List.getElem?_eq_getElem hlt2)
            obtain ⟨nm, e1, e2, x1, y1, x2, y2, hx, hy, hxy, heq⟩ := (unhide HFl) j _ _ (List.getElem?_eq_getElem hlt1) (List.getElem?_eq_getElem hlt2)
            rw [hx] at hod
            rw [hy] at hod'
            have hshp : ∃ k1 tx1 bl1 ai1 ni1 ci1 af1 nf1 cf1 ln1 co1 k2 tx2 bl2 ai2 ni2 ci2 af2 nf2 cf2 ln2 co2, ds = [.string nm, .int .i64 k1, .string tx1, .bool bl1, .slice ai1 ni1 ci1, .slice af1 nf1 cf1, .int .i64 ln1, .int .i64 co1, .int .i64 x1, .int .i64 y1] ∧ ds' = [.string nm, .int .i64 k2, .string tx2, .bool bl2, .slice ai2 ni2 ci2, .slice af2 nf2 cf2, .int .i64 ln2, .int .i64 co2, .int .i64 x2, .int .i64 y2] ∧ Ow w e1 [.int .i64 k1, .string tx1, .bool bl1, .slice ai1 ni1 ci1, .slice af1 nf1 cf1, .int .i64 ln1, .int .i64 co1] G1 ∧ Ow w e2 [.int .i64 k2, .string tx2, .bool bl2, .slice ai2 ni2 ci2, .slice af2 nf2 cf2, .int .i64 ln2, .int .i64 co2] G2 := by
              obtain ⟨k1, tx1, bl1, i1, f1, ln1, co1, h1⟩ := heq.left
              obtain ⟨k2, tx2, bl2, i2, f2, ln2, co2, h2⟩ := heq.right
              rw [h1] at hod
              rw [h2] at hod'
              obtain ⟨a1, a2, a3, a4, a5, a6, q1, q2⟩ := fld_cells hod
              obtain ⟨b1, b2, b3, b4, b5, b6, r1, r2⟩ := fld_cells hod'
              rw [← h1] at q2
              rw [← h2] at r2
              exact ⟨k1, tx1, bl1, a1, a2, a3, a4, a5, a6, ln1, co1, k2, tx2, bl2, b1, b2, b3, b4, b5, b6, ln2, co2, q1, r1, q2, r2⟩
            obtain ⟨k1, tx1, bl1, ai1, ni1, ci1, af1, nf1, cf1, ln1, co1, k2, tx2, bl2, ai2, ni2, ci2, af2, nf2, cf2, ln2, co2, rfl, rfl, hov, hov'⟩ := hshp
            obtain ⟨rfl, rfl⟩ := hxy (by first | rfl | trivial)
            clear hod hod' hx hy
            have hplt := (unhide HW) p hpF
            have hplt' := (unhide HW') p' hpF'
            have hr := fun (q : Nat) (u : Value) hu => (hI.bel.cell (p := ⟨p, j * 10 + q, none⟩) hplt).trans (hrow q u hu)
            have hr' := fun (q : Nat) (u : Value) hu => (hI.bel.cell (p := ⟨p', j * 10 + q, none⟩) hplt').trans (hrow' q u hu)
            have mN : wr.cell? ⟨p, j * 10, none⟩ = some (.string nm) := hr 0 _ rfl
            have m0 : wr.cell? ⟨p, j * 10 + 1, none⟩ = some (.int .i64 k1) := hr 1 _ rfl
            have m1 : wr.cell? ⟨p, j * 10 + 2, none⟩ = some (.string tx1) := hr 2 _ rfl
            have m2 : wr.cell? ⟨p, j * 10 + 3, none⟩ = some (.bool bl1) := hr 3 _ rfl
            have m3 : wr.cell? ⟨p, j * 10 + 4, none⟩ = some (.slice ai1 ni1 ci1) := hr 4 _ rfl
            have m4 : wr.cell? ⟨p, j * 10 + 5, none⟩ = some (.slice af1 nf1 cf1) := hr 5 _ rfl
            have m5 : wr.cell? ⟨p, j * 10 + 6, none⟩ = some (.int .i64 ln1) := hr 6 _ rfl
            have m6 : wr.cell? ⟨p, j * 10 + 7, none⟩ = some (.int .i64 co1) := hr 7 _ rfl
            have m8 : wr.cell? ⟨p, j * 10 + 8, none⟩ = some (.int .i64 x1) := hr 8 _ rfl
            have m9 : wr.cell? ⟨p, j * 10 + 9, none⟩ = some (.int .i64 y1) := hr 9 _ rfl
            have nN : wr.cell? ⟨p', j * 10, none⟩ = some (.string nm) := hr' 0 _ rfl
            have n0 : wr.cell? ⟨p', j * 10 + 1, none⟩ = some (.int .i64 k2) := hr' 1 _ rfl
            have n1 : wr.cell? ⟨p', j * 10 + 2, none⟩ = some (.string tx2) := hr' 2 _ rfl
            have n2 : wr.cell? ⟨p', j * 10 + 3, none⟩ = some (.bool bl2) := hr' 3 _ rfl
            have n3 : wr.cell? ⟨p', j * 10 + 4, none⟩ = some (.slice ai2 ni2 ci2) := hr' 4 _ rfl
            have n4 : wr.cell? ⟨p', j * 10 + 5, none⟩ = some (.slice af2 nf2 cf2) := hr' 5 _ rfl
            have n5 : wr.cell? ⟨p', j * 10 + 6, none⟩ = some (.int .i64 ln2) := hr' 6 _ rfl
            have n6 : wr.cell? ⟨p', j * 10 + 7, none⟩ = some (.int .i64 co2) := hr' 7 _ rfl
            have n8 : wr.cell? ⟨p', j * 10 + 8, none⟩ = some (.int .i64 x1) := hr' 8 _ rfl
            have n9 : wr.cell? ⟨p', j * 10 + 9, none⟩ = some (.int .i64 y1) := hr' 9 _ rfl
            have hC := hide (fun W (hb : Below w.heap.size w W) => (unhide ih) e1 e2 heq W [Value.int .i64 k1, .string tx1, .bool bl1, .slice ai1 ni1 ci1, .slice af1 nf1 cf1, .int .i64 ln1, .int .i64 co1] [Value.int .i64 k2, .string tx2, .bool bl2, .slice ai2 ni2 ci2, .slice af2 nf2 cf2, .int .i64 ln2, .int .i64 co2] G1 G2 (dt.Ow.agree e1 _ G1 (fun b hb' o => hb.cell (p := ⟨b, o, none⟩) ((unhide HW) b (hGF b hb'))) hov) (dt.Ow.agree e2 _ G2 (fun b hb' o => hb.cell (p := ⟨b, o, none⟩) ((unhide HW') b (hGF' b hb'))) hov') (fun b hb' => Nat.lt_of_lt_of_le ((unhide HW) b (hGF b hb')) hb.size) (fun b hb' => Nat.lt_of_lt_of_le ((unhide HW') b (hGF' b hb')) hb.size))
            have hs0 : w.heap.size < wr.heap.size := by
              rcases Nat.lt_or_ge w.heap.size wr.heap.size with g | g
              · exact g
              · have := hI.v; rw [Array.getElem?_eq_none g] at this; cases this
            have hs1 : w.heap.size + 1 < wr.heap.size := by
              rcases Nat.lt_or_ge (w.heap.size + 1) wr.heap.size with g | g
              · exact g
              · have := hI.u; rw [Array.getElem?_eq_none g] at this; cases this
            have hq1 : p < wr.heap.size := by omega
            have hq2 : p' < wr.heap.size := by omega
            clear hr hr' hrow hrow' hov hov' heq hdl hdl'
            go_wp2_with fail
            have hS0 : Below wr.heap.size wr { wr with drawn := wr.drawn + 1 } := (Below.refl _ _).drew
            have bD := hI.bel.trans (hS0.mono hI.bel.size)
            refine wp_region_noPanic ?_
            refine wp_region_held (S := fun w' => Below wr.heap.size wr w') mixed ?_
            refine wpAnyH_take (i := 0) (v := ?v12) rfl (by kernel_rfl) (by kernel_rfl) (by kernel_rfl) (fun _ _ _ h => h) (Or.inl ⟨by rfl, ?hy12⟩) hS0 ?_
            case hy12 => (intro w' hw'; skip; go_simp; try with_reducible rfl)
            simp only [List.getElem_toArray, List.getElem_cons_zero, List.getElem_cons_succ, Act.put, List.setIfInBounds_toArray, List.set_cons_zero, List.set_cons_succ]
            refine wpAnyH_take (i := 1) (v := ?v13) rfl (by kernel_rfl) (by kernel_rfl) (by kernel_rfl) (fun _ _ _ h => h) (Or.inl ⟨by rfl, ?hy13⟩) hS0 ?_
            case hy13 => (intro w' hw'; have d3' := (hw'.cell (p := ⟨w.heap.size, 4, none⟩) hs0).trans d3; go_simp; try with_reducible rfl)
            simp only [List.getElem_toArray, List.getElem_cons_zero, List.getElem_cons_succ, Act.put, List.setIfInBounds_toArray, List.set_cons_zero, List.set_cons_succ]
            refine wpAnyH_take (i := 2) (v := ?v14) rfl (by kernel_rfl) (by kernel_rfl) (by kernel_rfl) (fun _ _ _ h => h) (Or.inl ⟨by rfl, ?hy14⟩) hS0 ?_
            case hy14 => (intro w' hw'; skip; go_simp; try with_reducible rfl)
            simp only [List.getElem_toArray, List.getElem_cons_zero, List.getElem_cons_succ, Act.put, List.setIfInBounds_toArray, List.set_cons_zero, List.set_cons_succ]
            refine wpAnyH_take (i := 3) (v := ?v15) rfl (by kernel_rfl) (by kernel_rfl) (by kernel_rfl) (fun _ _ _ h => h) (Or.inl ⟨by rfl, ?hy15⟩) hS0 ?_
            case hy15 => (intro w' hw'; skip; go_simp; try with_reducible rfl)
            simp only [List.getElem_toArray, List.getElem_cons_zero, List.getElem_cons_succ, Act.put, List.setIfInBounds_toArray, List.set_cons_zero, List.set_cons_succ]
            refine wpAnyH_take (i := 4) (v := ?v16) rfl (by kernel_rfl) (by kernel_rfl) (by kernel_rfl) (fun _ _ _ h => h) (Or.inl ⟨by rfl, ?hy16⟩) hS0 ?_
            case hy16 => (intro w' hw'; skip; go_simp; try with_reducible rfl)
            simp only [List.getElem_toArray, List.getElem_cons_zero, List.getElem_cons_succ, Act.put, List.setIfInBounds_toArray, List.set_cons_zero, List.set_cons_succ]
            refine wpAnyH_take (i := 5) (v := ?v17) rfl (by kernel_rfl) (by kernel_rfl) (by kernel_rfl) (fun _ _ _ h => h) (Or.inl ⟨by rfl, ?hy17⟩) hS0 ?_
            case hy17 => (intro w' hw'; have m0' := (hw'.cell (p := ⟨p, j * 10 + 1, none⟩) hq1).trans m0; have m1' := (hw'.cell (p := ⟨p, j * 10 + 2, none⟩) hq1).trans m1; have m2' := (hw'.cell (p := ⟨p, j * 10 + 3, none⟩) hq1).trans m2; have m3' := (hw'.cell (p := ⟨p, j * 10 + 4, none⟩) hq1).trans m3; have m4' := (hw'.cell (p := ⟨p, j * 10 + 5, none⟩) hq1).trans m4; have m5' := (hw'.cell (p := ⟨p, j * 10 + 6, none⟩) hq1).trans m5; have m6' := (hw'.cell (p := ⟨p, j * 10 + 7, none⟩) hq1).trans m6; go_simp; try with_reducible rfl)
            simp only [List.getElem_toArray, List.getElem_cons_zero, List.getElem_cons_succ, Act.put, List.setIfInBounds_toArray, List.set_cons_zero, List.set_cons_succ]
            refine wpAnyH_take (i := 6) (v := ?v18) rfl (by kernel_rfl) (by kernel_rfl) (by kernel_rfl) (fun _ _ _ h => h) (Or.inl ⟨by rfl, ?hy18⟩) hS0 ?_
            case hy18 => (intro w' hw'; skip; go_simp; try with_reducible rfl)
            simp only [List.getElem_toArray, List.getElem_cons_zero, List.getElem_cons_succ, Act.put, List.setIfInBounds_toArray, List.set_cons_zero, List.set_cons_succ]
            refine wpAnyH_take (i := 7) (v := ?v19) rfl (by kernel_rfl) (by kernel_rfl) (by kernel_rfl) (fun _ _ _ h => h) (Or.inl ⟨by rfl, ?hy19⟩) hS0 ?_
            case hy19 => (intro w' hw'; have u3' := (hw'.cell (p := ⟨w.heap.size + 1, 4, none⟩) hs1).trans u3; go_simp; try with_reducible rfl)
            simp only [List.getElem_toArray, List.getElem_cons_zero, List.getElem_cons_succ, Act.put, List.setIfInBounds_toArray, List.set_cons_zero, List.set_cons_succ]
            refine wpAnyH_take (i := 8) (v := ?v20) rfl (by kernel_rfl) (by kernel_rfl) (by kernel_rfl) (fun _ _ _ h => h) (Or.inl ⟨by rfl, ?hy20⟩) hS0 ?_
            case hy20 => (intro w' hw'; skip; go_simp; try with_reducible rfl)
            simp only [List.getElem_toArray, List.getElem_cons_zero, List.getElem_cons_succ, Act.put, List.setIfInBounds_toArray, List.set_cons_zero, List.set_cons_succ]
            refine wpAnyH_take (i := 9) (v := ?v21) rfl (by kernel_rfl) (by kernel_rfl) (by kernel_rfl) (fun _ _ _ h => h) (Or.inl ⟨by rfl, ?hy21⟩) hS0 ?_
            case hy21 => (intro w' hw'; skip; go_simp; try with_reducible rfl)
            simp only [List.getElem_toArray, List.getElem_cons_zero, List.getElem_cons_succ, Act.put, List.setIfInBounds_toArray, List.set_cons_zero, List.set_cons_succ]
            refine wpAnyH_take (i := 10) (v := ?v22) rfl (by kernel_rfl) (by kernel_rfl) (by kernel_rfl) (fun _ _ _ h => h) (Or.inl ⟨by rfl, ?hy22⟩) hS0 ?_
            case hy22 => (intro w' hw'; skip; go_simp; try with_reducible rfl)
            simp only [List.getElem_toArray, List.getElem_cons_zero, List.getElem_cons_succ, Act.put, List.setIfInBounds_toArray, List.set_cons_zero, List.set_cons_succ]
            refine wpAnyH_take (i := 11) (v := ?v23) rfl (by kernel_rfl) (by kernel_rfl) (by kernel_rfl) (fun _ _ _ h => h) (Or.inl ⟨by rfl, ?hy23⟩) hS0 ?_
            case hy23 => (intro w' hw'; have n0' := (hw'.cell (p := ⟨p', j * 10 + 1, none⟩) hq2).trans n0; have n1' := (hw'.cell (p := ⟨p', j * 10 + 2, none⟩) hq2).trans n1; have n2' := (hw'.cell (p := ⟨p', j * 10 + 3, none⟩) hq2).trans n2; have n3' := (hw'.cell (p := ⟨p', j * 10 + 4, none⟩) hq2).trans n3; have n4' := (hw'.cell (p := ⟨p', j * 10 + 5, none⟩) hq2).trans n4; have n5' := (hw'.cell (p := ⟨p', j * 10 + 6, none⟩) hq2).trans n5; have n6' := (hw'.cell (p := ⟨p', j * 10 + 7, none⟩) hq2).trans n6; go_simp; try with_reducible rfl)
            simp only [List.getElem_toArray, List.getElem_cons_zero, List.getElem_cons_succ, Act.put, List.setIfInBounds_toArray, List.set_cons_zero, List.set_cons_succ]
            refine wpAnyH_take (i := 12) (v := ?v24) rfl (by kernel_rfl) (by kernel_rfl) (by kernel_rfl) (fun _ _ _ h => h) (Or.inl ⟨by rfl, ?hy24⟩) hS0 ?_
            case hy24 => (intro w' hw'; skip; go_simp; try with_reducible rfl)
            simp only [List.getElem_toArray, List.getElem_cons_zero, List.getElem_cons_succ, Act.put, List.setIfInBounds_toArray, List.set_cons_zero, List.set_cons_succ]
            refine rgn.one (i := 13) _ rfl (by kernel_rfl) (by rfl) ?_
            simp only [List.getElem_toArray, List.getElem_cons_zero, List.getElem_cons_succ, Act.put, List.setIfInBounds_toArray, List.set_cons_zero, List.set_cons_succ]
            go_wp2_with fail
            refine ((unhide hC) _ bD).mono ?_
            rintro e' w2 ⟨rfl, b2⟩
            have b02 : Below wr.heap.size wr w2 := hS0.trans b2
            refine ⟨b02, ?_⟩
            clear hS0 b2 bD
            have hS0 := b02
            try simp only [List.getElem_toArray, List.getElem_cons_zero, List.getElem_cons_succ, Act.put, List.setIfInBounds_toArray, List.set_cons_zero, List.set_cons_succ]
            refine rgn.take (i := 14) _ (.bool true) rfl (by kernel_rfl) (by kernel_rfl) (by kernel_rfl) (fun _ _ _ h => h) (by rfl) hS0 (fun w' hw' => by go_simp) ?_
            simp only [List.getElem_toArray, List.getElem_cons_zero, List.getElem_cons_succ, Act.put, List.setIfInBounds_toArray, List.set_cons_zero, List.set_cons_succ]
            refine wpAnyH_done (by kernel_rfl) ?_ _; refine NoPanic.normal ?_
            have hI2 := hI.more b02
            have d3x := (b02.cell (p := ⟨w.heap.size, 4, none⟩) hs0).trans d3
            have u3x := (b02.cell (p := ⟨w.heap.size + 1, 4, none⟩) hs1).trans u3
            have mNx := (b02.cell (p := ⟨p, j * 10, none⟩) hq1).trans mN
            have nNx := (b02.cell (p := ⟨p', j * 10, none⟩) hq2).trans nN
            have m8x := (b02.cell (p := ⟨p, j * 10 + 8, none⟩) hq1).trans m8
            have n8x := (b02.cell (p := ⟨p', j * 10 + 8, none⟩) hq2).trans n8
            have m9x := (b02.cell (p := ⟨p, j * 10 + 9, none⟩) hq1).trans m9
            have n9x := (b02.cell (p := ⟨p', j * 10 + 9, none⟩) hq2).trans n9
            clear m0 m1 m2 m3 m4 m5 m6 n0 n1 n2 n3 n4 n5 n6 mN nN m8 n8 m9 n9 d3 u3 hC hS0
            go_wp2_with fail
            have hS0 : Below w2.heap.size w2 { w2 with drawn := w2.drawn + 1 } := (Below.refl _ _).drew
            have g0 : w.heap.size < w2.heap.size := Nat.lt_of_lt_of_le hs0 b02.size
            have g1 : w.heap.size + 1 < w2.heap.size := Nat.lt_of_lt_of_le hs1 b02.size
            have g2 : p < w2.heap.size := Nat.lt_of_lt_of_le hq1 b02.size
            have g3 : p' < w2.heap.size := Nat.lt_of_lt_of_le hq2 b02.size
            refine wp_region_noPanic ?_
            refine wp_region_held (S := fun w' => Below w2.heap.size w2 w') mixed ?_
            refine wpAnyH_take (i := 0) (v := ?v25) rfl (by kernel_rfl) (by kernel_rfl) (by kernel_rfl) (fun _ _ _ h => h) (Or.inl ⟨by rfl, ?hy25⟩) hS0 ?_
            case hy25 => (intro w' hw'; skip; go_simp; try with_reducible rfl)
            simp only [List.getElem_toArray, List.getElem_cons_zero, List.getElem_cons_succ, Act.put, List.setIfInBounds_toArray, List.set_cons_zero, List.set_cons_succ]
            refine wpAnyH_take (i := 1) (v := ?v26) rfl (by kernel_rfl) (by kernel_rfl) (by kernel_rfl) (fun _ _ _ h => h) (Or.inl ⟨by rfl, ?hy26⟩) hS0 ?_
            case hy26 => (intro w' hw'; skip; go_simp; try with_reducible rfl)
            simp only [List.getElem_toArray, List.getElem_cons_zero, List.getElem_cons_succ, Act.put, List.setIfInBounds_toArray, List.set_cons_zero, List.set_cons_succ]
            refine wpAnyH_take (i := 2) (v := ?v27) rfl (by kernel_rfl) (by kernel_rfl) (by kernel_rfl) (fun _ _ _ h => h) (Or.inl ⟨by rfl, ?hy27⟩) hS0 ?_
            case hy27 => (intro w' hw'; skip; go_simp; try with_reducible rfl)
            simp only [List.getElem_toArray, List.getElem_cons_zero, List.getElem_cons_succ, Act.put, List.setIfInBounds_toArray, List.set_cons_zero, List.set_cons_succ]
            refine wpAnyH_take (i := 3) (v := ?v28) rfl (by kernel_rfl) (by kernel_rfl) (by kernel_rfl) (fun _ _ _ h => h) (Or.inl ⟨by rfl, ?hy28⟩) hS0 ?_
            case hy28 => (intro w' hw'; skip; go_simp; try with_reducible rfl)
            simp only [List.getElem_toArray, List.getElem_cons_zero, List.getElem_cons_succ, Act.put, List.setIfInBounds_toArray, List.set_cons_zero, List.set_cons_succ]
            refine wpAnyH_take (i := 4) (v := ?v29) rfl (by kernel_rfl) (by kernel_rfl) (by kernel_rfl) (fun _ _ _ h => h) (Or.inl ⟨by rfl, ?hy29⟩) hS0 ?_
            case hy29 => (intro w' hw'; have d3' := (hw'.cell (p := ⟨w.heap.size, 4, none⟩) g0).trans d3x; go_simp; try with_reducible rfl)
            simp only [List.getElem_toArray, List.getElem_cons_zero, List.getElem_cons_succ, Act.put, List.setIfInBounds_toArray, List.set_cons_zero, List.set_cons_succ]
            refine wpAnyH_take (i := 5) (v := ?v30) rfl (by kernel_rfl) (by kernel_rfl) (by kernel_rfl) (fun _ _ _ h => h) (Or.inl ⟨by rfl, ?hy30⟩) hS0 ?_
            case hy30 => (intro w' hw'; skip; go_simp; try with_reducible rfl)
            simp only [List.getElem_toArray, List.getElem_cons_zero, List.getElem_cons_succ, Act.put, List.setIfInBounds_toArray, List.set_cons_zero, List.set_cons_succ]
            refine wpAnyH_take (i := 6) (v := ?v31) rfl (by kernel_rfl) (by kernel_rfl) (by kernel_rfl) (fun _ _ _ h => h) (Or.inl ⟨by rfl, ?hy31⟩) hS0 ?_
            case hy31 => (intro w' hw'; skip; go_simp; try with_reducible rfl)
            simp only [List.getElem_toArray, List.getElem_cons_zero, List.getElem_cons_succ, Act.put, List.setIfInBounds_toArray, List.set_cons_zero, List.set_cons_succ]
            refine wpAnyH_take (i := 7) (v := ?v32) rfl (by kernel_rfl) (by kernel_rfl) (by kernel_rfl) (fun _ _ _ h => h) (Or.inl ⟨by rfl, ?hy32⟩) hS0 ?_
            case hy32 => (intro w' hw'; skip; go_simp; try with_reducible rfl)
            simp only [List.getElem_toArray, List.getElem_cons_zero, List.getElem_cons_succ, Act.put, List.setIfInBounds_toArray, List.set_cons_zero, List.set_cons_succ]
            refine wpAnyH_take (i := 8) (v := ?v33) rfl (by kernel_rfl) (by kernel_rfl) (by kernel_rfl) (fun _ _ _ h => h) (Or.inl ⟨by rfl, ?hy33⟩) hS0 ?_
            case hy33 => (intro w' hw'; have mN' := (hw'.cell (p := ⟨p, j * 10, none⟩) g2).trans mNx; go_simp; try with_reducible rfl)
            simp only [List.getElem_toArray, List.getElem_cons_zero, List.getElem_cons_succ, Act.put, List.setIfInBounds_toArray, List.set_cons_zero, List.set_cons_succ]
            refine wpAnyH_take (i := 9) (v := ?v34) rfl (by kernel_rfl) (by kernel_rfl) (by kernel_rfl) (fun _ _ _ h => h) (Or.inl ⟨by rfl, ?hy34⟩) hS0 ?_
            case hy34 => (intro w' hw'; skip; go_simp; try with_reducible rfl)
            simp only [List.getElem_toArray, List.getElem_cons_zero, List.getElem_cons_succ, Act.put, List.setIfInBounds_toArray, List.set_cons_zero, List.set_cons_succ]
            refine wpAnyH_take (i := 10) (v := ?v35) rfl (by kernel_rfl) (by kernel_rfl) (by kernel_rfl) (fun _ _ _ h => h) (Or.inl ⟨by rfl, ?hy35⟩) hS0 ?_
            case hy35 => (intro w' hw'; have u3' := (hw'.cell (p := ⟨w.heap.size + 1, 4, none⟩) g1).trans u3x; go_simp; try with_reducible rfl)
            simp only [List.getElem_toArray, List.getElem_cons_zero, List.getElem_cons_succ, Act.put, List.setIfInBounds_toArray, List.set_cons_zero, List.set_cons_succ]
            refine wpAnyH_take (i := 11) (v := ?v36) rfl (by kernel_rfl) (by kernel_rfl) (by kernel_rfl) (fun _ _ _ h => h) (Or.inl ⟨by rfl, ?hy36⟩) hS0 ?_
            case hy36 => (intro w' hw'; skip; go_simp; try with_reducible rfl)
            simp only [List.getElem_toArray, List.getElem_cons_zero, List.getElem_cons_succ, Act.put, List.setIfInBounds_toArray, List.set_cons_zero, List.set_cons_succ]
            refine wpAnyH_take (i := 12) (v := ?v37) rfl (by kernel_rfl) (by kernel_rfl) (by kernel_rfl) (fun _ _ _ h => h) (Or.inl ⟨by rfl, ?hy37⟩) hS0 ?_
            case hy37 => (intro w' hw'; skip; go_simp; try with_reducible rfl)
            simp only [List.getElem_toArray, List.getElem_cons_zero, List.getElem_cons_succ, Act.put, List.setIfInBounds_toArray, List.set_cons_zero, List.set_cons_succ]
            refine wpAnyH_take (i := 13) (v := ?v38) rfl (by kernel_rfl) (by kernel_rfl) (by kernel_rfl) (fun _ _ _ h => h) (Or.inl ⟨by rfl, ?hy38⟩) hS0 ?_
            case hy38 => (intro w' hw'; skip; go_simp; try with_reducible rfl)
            simp only [List.getElem_toArray, List.getElem_cons_zero, List.getElem_cons_succ, Act.put, List.setIfInBounds_toArray, List.set_cons_zero, List.set_cons_succ]
            refine wpAnyH_take (i := 14) (v := ?v39) rfl (by kernel_rfl) (by kernel_rfl) (by kernel_rfl) (fun _ _ _ h => h) (Or.inl ⟨by rfl, ?hy39⟩) hS0 ?_
            case hy39 => (intro w' hw'; have nN' := (hw'.cell (p := ⟨p', j * 10, none⟩) g3).trans nNx; go_simp; try with_reducible rfl)
            simp only [List.getElem_toArray, List.getElem_cons_zero, List.getElem_cons_succ, Act.put, List.setIfInBounds_toArray, List.set_cons_zero, List.set_cons_succ]
            refine wpAnyH_take (i := 15) (v := ?v40) rfl (by kernel_rfl) (by kernel_rfl) (by kernel_rfl) (fun _ _ _ h => h) (Or.inl ⟨by rfl, ?hy40⟩) hS0 ?_
            case hy40 => (intro w' hw'; skip; go_simp; try with_reducible rfl)
            simp only [List.getElem_toArray, List.getElem_cons_zero, List.getElem_cons_succ, Act.put, List.setIfInBounds_toArray, List.set_cons_zero, List.set_cons_succ]
            refine wpAnyH_take (i := 16) (v := ?v41) rfl (by kernel_rfl) (by kernel_rfl) (by kernel_rfl) (fun _ _ _ h => h) (Or.inl ⟨by rfl, ?hy41⟩) hS0 ?_
            case hy41 => (intro w' hw'; skip; go_simp; try with_reducible rfl)
            simp only [List.getElem_toArray, List.getElem_cons_zero, List.getElem_cons_succ, Act.put, List.setIfInBounds_toArray, List.set_cons_zero, List.set_cons_succ]
            refine wpAnyH_take (i := 17) (v := ?v42) rfl (by kernel_rfl) (by kernel_rfl) (by kernel_rfl) (fun _ _ _ h => h) (Or.inl ⟨by rfl, ?hy42⟩) hS0 ?_
            case hy42 => (intro w' hw'; skip; go_simp; try with_reducible rfl)
            simp only [List.getElem_toArray, List.getElem_cons_zero, List.getElem_cons_succ, Act.put, List.setIfInBounds_toArray, List.set_cons_zero, List.set_cons_succ]
            refine wpAnyH_take (i := 18) (v := ?v43) rfl (by kernel_rfl) (by kernel_rfl) (by kernel_rfl) (fun _ _ _ h => h) (Or.inl ⟨by rfl, ?hy43⟩) hS0 ?_
            case hy43 => (intro w' hw'; skip; go_simp; try with_reducible rfl)
            simp only [List.getElem_toArray, List.getElem_cons_zero, List.getElem_cons_succ, Act.put, List.setIfInBounds_toArray, List.set_cons_zero, List.set_cons_succ]
            refine wpAnyH_take (i := 19) (v := ?v44) rfl (by kernel_rfl) (by kernel_rfl) (by kernel_rfl) (fun _ _ _ h => h) (Or.inl ⟨by rfl, ?hy44⟩) hS0 ?_
            case hy44 => (intro w' hw'; skip; go_simp; try with_reducible rfl)
            simp only [List.getElem_toArray, List.getElem_cons_zero, List.getElem_cons_succ, Act.put, List.setIfInBounds_toArray, List.set_cons_zero, List.set_cons_succ]
            refine wpAnyH_take (i := 20) (v := ?v45) rfl (by kernel_rfl) (by kernel_rfl) (by kernel_rfl) (fun _ _ _ h => h) (Or.inl ⟨by rfl, ?hy45⟩) hS0 ?_
            case hy45 => (intro w' hw'; skip; go_simp; try with_reducible rfl)
            simp only [List.getElem_toArray, List.getElem_cons_zero, List.getElem_cons_succ, Act.put, List.setIfInBounds_toArray, List.set_cons_zero, List.set_cons_succ]
            refine wpAnyH_take (i := 21) (v := ?v46) rfl (by kernel_rfl) (by kernel_rfl) (by kernel_rfl) (fun _ _ _ h => h) (Or.inl ⟨by rfl, ?hy46⟩) hS0 ?_
            case hy46 => (intro w' hw'; have d3' := (hw'.cell (p := ⟨w.heap.size, 4, none⟩) g0).trans d3x; go_simp; try with_reducible rfl)
            simp only [List.getElem_toArray, List.getElem_cons_zero, List.getElem_cons_succ, Act.put, List.setIfInBounds_toArray, List.set_cons_zero, List.set_cons_succ]
            refine wpAnyH_take (i := 22) (v := ?v47) rfl (by kernel_rfl) (by kernel_rfl) (by kernel_rfl) (fun _ _ _ h => h) (Or.inl ⟨by rfl, ?hy47⟩) hS0 ?_
            case hy47 => (intro w' hw'; skip; go_simp; try with_reducible rfl)
            simp only [List.getElem_toArray, List.getElem_cons_zero, List.getElem_cons_succ, Act.put, List.setIfInBounds_toArray, List.set_cons_zero, List.set_cons_succ]
            refine wpAnyH_take (i := 23) (v := ?v48) rfl (by kernel_rfl) (by kernel_rfl) (by kernel_rfl) (fun _ _ _ h => h) (Or.inl ⟨by rfl, ?hy48⟩) hS0 ?_
            case hy48 => (intro w' hw'; skip; go_simp; try with_reducible rfl)
            simp only [List.getElem_toArray, List.getElem_cons_zero, List.getElem_cons_succ, Act.put, List.setIfInBounds_toArray, List.set_cons_zero, List.set_cons_succ]
            refine wpAnyH_take (i := 24) (v := ?v49) rfl (by kernel_rfl) (by kernel_rfl) (by kernel_rfl) (fun _ _ _ h => h) (Or.inl ⟨by rfl, ?hy49⟩) hS0 ?_
            case hy49 => (intro w' hw'; skip; go_simp; try with_reducible rfl)
            simp only [List.getElem_toArray, List.getElem_cons_zero, List.getElem_cons_succ, Act.put, List.setIfInBounds_toArray, List.set_cons_zero, List.set_cons_succ]
            refine wpAnyH_take (i := 25) (v := ?v50) rfl (by kernel_rfl) (by kernel_rfl) (by kernel_rfl) (fun _ _ _ h => h) (Or.inl ⟨by rfl, ?hy50⟩) hS0 ?_
            case hy50 => (intro w' hw'; have m8' := (hw'.cell (p := ⟨p, j * 10 + 8, none⟩) g2).trans m8x; have m9' := (hw'.cell (p := ⟨p, j * 10 + 9, none⟩) g2).trans m9x; go_simp; try with_reducible rfl)
            simp only [List.getElem_toArray, List.getElem_cons_zero, List.getElem_cons_succ, Act.put, List.setIfInBounds_toArray, List.set_cons_zero, List.set_cons_succ]
            refine wpAnyH_take (i := 26) (v := ?v51) rfl (by kernel_rfl) (by kernel_rfl) (by kernel_rfl) (fun _ _ _ h => h) (Or.inl ⟨by rfl, ?hy51⟩) hS0 ?_
            case hy51 => (intro w' hw'; skip; go_simp; try with_reducible rfl)
            simp only [List.getElem_toArray, List.getElem_cons_zero, List.getElem_cons_succ, Act.put, List.setIfInBounds_toArray, List.set_cons_zero, List.set_cons_succ]
            refine wpAnyH_take (i := 27) (v := ?v52) rfl (by kernel_rfl) (by kernel_rfl) (by kernel_rfl) (fun _ _ _ h => h) (Or.inl ⟨by rfl, ?hy52⟩) hS0 ?_
            case hy52 => (intro w' hw'; have u3' := (hw'.cell (p := ⟨w.heap.size + 1, 4, none⟩) g1).trans u3x; go_simp; try with_reducible rfl)
            simp only [List.getElem_toArray, List.getElem_cons_zero, List.getElem_cons_succ, Act.put, List.setIfInBounds_toArray, List.set_cons_zero, List.set_cons_succ]
            refine wpAnyH_take (i := 28) (v := ?v53) rfl (by kernel_rfl) (by kernel_rfl) (by kernel_rfl) (fun _ _ _ h => h) (Or.inl ⟨by rfl, ?hy53⟩) hS0 ?_
            case hy53 => (intro w' hw'; skip; go_simp; try with_reducible rfl)
            simp only [List.getElem_toArray, List.getElem_cons_zero, List.getElem_cons_succ, Act.put, List.setIfInBounds_toArray, List.set_cons_zero, List.set_cons_succ]
            refine wpAnyH_take (i := 29) (v := ?v54) rfl (by kernel_rfl) (by kernel_rfl) (by kernel_rfl) (fun _ _ _ h => h) (Or.inl ⟨by rfl, ?hy54⟩) hS0 ?_
            case hy54 => (intro w' hw'; skip; go_simp; try with_reducible rfl)
            simp only [List.getElem_toArray, List.getElem_cons_zero, List.getElem_cons_succ, Act.put, List.setIfInBounds_toArray, List.set_cons_zero, List.set_cons_succ]
            refine wpAnyH_take (i := 30) (v := ?v55) rfl (by kernel_rfl) (by kernel_rfl) (by kernel_rfl) (fun _ _ _ h => h) (Or.inl ⟨by rfl, ?hy55⟩) hS0 ?_
            case hy55 => (intro w' hw'; skip; go_simp; try with_reducible rfl)
            simp only [List.getElem_toArray, List.getElem_cons_zero, List.getElem_cons_succ, Act.put, List.setIfInBounds_toArray, List.set_cons_zero, List.set_cons_succ]
            refine wpAnyH_take (i := 31) (v := ?v56) rfl (by kernel_rfl) (by kernel_rfl) (by kernel_rfl) (fun _ _ _ h => h) (Or.inl ⟨by rfl, ?hy56⟩) hS0 ?_
            case hy56 => (intro w' hw'; have n8' := (hw'.cell (p := ⟨p', j * 10 + 8, none⟩) g3).trans n8x; have n9' := (hw'.cell (p := ⟨p', j * 10 + 9, none⟩) g3).trans n9x; go_simp; try with_reducible rfl)
            simp only [List.getElem_toArray, List.getElem_cons_zero, List.getElem_cons_succ, Act.put, List.setIfInBounds_toArray, List.set_cons_zero, List.set_cons_succ]
            refine wpAnyH_take (i := 32) (v := ?v57) rfl (by kernel_rfl) (by kernel_rfl) (by kernel_rfl) (fun _ _ _ h => h) (Or.inl ⟨by rfl, ?hy57⟩) hS0 ?_
            case hy57 => (intro w' hw'; skip; go_simp; try with_reducible rfl)
            simp only [List.getElem_toArray, List.getElem_cons_zero, List.getElem_cons_succ, Act.put, List.setIfInBounds_toArray, List.set_cons_zero, List.set_cons_succ]
            refine wpAnyH_take (i := 33) (v := ?v58) rfl (by kernel_rfl) (by kernel_rfl) (by kernel_rfl) (fun _ _ _ h => h) (Or.inl ⟨by rfl, ?hy58⟩) hS0 ?_
            case hy58 => (intro w' hw'; skip; go_simp; try with_reducible rfl)
            simp only [List.getElem_toArray, List.getElem_cons_zero, List.getElem_cons_succ, Act.put, List.setIfInBounds_toArray, List.set_cons_zero, List.set_cons_succ]
            refine wpAnyH_take (i := 34) (v := ?v59) rfl (by kernel_rfl) (by kernel_rfl) (by kernel_rfl) (fun _ _ _ h => h) (Or.inl ⟨by rfl, ?hy59⟩) hS0 ?_
            case hy59 => (intro w' hw'; skip; go_simp; try with_reducible rfl)
            simp only [List.getElem_toArray, List.getElem_cons_zero, List.getElem_cons_succ, Act.put, List.setIfInBounds_toArray, List.set_cons_zero, List.set_cons_succ]
            refine wpAnyH_done (by kernel_rfl) ?_ _; refine NoPanic.normal ?_
            go_wp2_with fail
            go_roundw
            case rel => exact ⟨j + 1, by omega, by go_num, hI2.more hS0⟩
            case measure => first | (simp [intOf]; omega) | simp [intOf]
          · have ji : ¬ (j : Int) < (n2 : Int) := by omega
            have hI9 := hide hI
            clear hlt
            go_wp2_with fail
            go_ret
            exact ⟨rfl, (unhide hI9).bel⟩
end Go.Proofs.YtejjnhcmpiamiaaGreat.cu
namespace Go.Proofs.YtejjnhcmpiamiaaGreat.cu
open Go.ChangeShapes Go.WideShapes Go.ChangeAt Go.RowKit
open ints (hide unhide)
open dt (Dt Kp RowAt Ow Grow)
set_option linter.unusedVariables false
set_option linter.unusedSimpArgs false
set_option maxRecDepth 4000 in
set_option maxHeartbeats 2000000 in
theorem none_ok (v : Value) (K : Int) (S : ByteArray) (aw : Option Addr) (nw cw : Nat) (bb : Bool) (w : World) (h : Dead w v) :
    Calls Tryz.prog 11 #[v, .agg #[.int .i64 K, .string S, .slice aw nw cw, .bool bb]] w fun e w' => e = .returned (.bool true) ∧ Below w.heap.size w w' := by
  have bA := hide (fun o => show Below w.heap.size w (w.alloc o) from (Below.refl _ _).alloc (Nat.le_refl _) _)
  have hO := hide (show ∀ W, Below (w.alloc (.cells #[.int .i64 K, .string S, .slice aw nw cw, .bool bb] 48)).heap.size (w.alloc (.cells #[.int .i64 K, .string S, .slice aw nw cw, .bool bb] 48)) W → W.cell? ⟨w.heap.size, 1, none⟩ = some (.string S) ∧ W.cell? ⟨w.heap.size, 2, none⟩ = some (.slice aw nw cw) ∧ W.cell? ⟨w.heap.size, 3, none⟩ = some (.bool bb) from fun W hb => by
    have hblk := (hb.block w.heap.size (by simp)).trans (heap_alloc_new w _)
    exact ⟨(dt.cell_cells hblk 1).trans rfl, (dt.cell_cells hblk 2).trans rfl, (dt.cell_cells hblk 3).trans rfl⟩)
  have hIP := hide (fun W (b : Below w.heap.size w W) => isPunctD v S W (h.below b))
  have hPu := hide (fun W (b : Below w.heap.size w W) => punctD v S W (h.below b))
  have hIW := hide (fun W (b : Below w.heap.size w W) => isWordD v aw nw cw W (h.below b))
  have hWo := hide (fun W (b : Below w.heap.size w W) => wordD' v S W (h.below b))
  have hWa := hide (fun W (b : Below w.heap.size w W) => wantD v S W (h.below b))
  have hOp := hide (fun W (b : Below w.heap.size w W) => openD v S W (h.below b))
  have hCl := hide (fun W (b : Below w.heap.size w W) => closeD v S W (h.below b))
  have hEn := hide (fun W (b : Below w.heap.size w W) => endD v W (h.below b))
  have hWW := hide (fun W (b : Below w.heap.size w W) => wantWordD v aw nw cw W (h.below b))
  have hNB := hide (fun W (b : Below w.heap.size w W) => nameButD v aw nw cw W (h.below b))
  have hNo := hide (fun W (b : Below w.heap.size w W) => noteD v W (h.below b))
  have hTy := hide (fun W (b : Below w.heap.size w W) => typeD v W (h.below b))
  have hLi := hide (fun W (b : Below w.heap.size w W) => litDead v bb W (h.below b))
  have hAr := hide (fun W (b : Below w.heap.size w W) => argsD v bb W (h.below b))
  have hDi := hide (fun W (b : Below w.heap.size w W) => dirsD v bb W (h.below b))
  have hRe := hide (fun W (b : Below w.heap.size w W) => refusesD v W (h.below b))
  have hSm := hide (fun W => same_t 1 zeroD zeroD ((leaf_lit 0 0 em false 0 0).same true) W (leafC 0 em false 0 0) (leafC 0 em false 0 0) [] [] (leaf_ow W 0 em false 0 0) (leaf_ow W 0 em false 0 0) (fun b hb => by cases hb) (fun b hb => by cases hb))
  unfold nmZ at hWW hNB
  unfold trZ at hTy
  unfold leafC em at hLi hSm
  clear h
  by_cases h4 : K = 4
  · subst h4
    go_enter Tryz.func11, Tryz.ntmps11
    go_wp2_with fail
    refine ((unhide hIP) _ ((unhide bA) _)).mono ?_
    rintro e w1 ⟨rfl, c1⟩
    obtain ⟨s1, s2, s3⟩ := (unhide hO) w1 c1
    go_wp2_with fail
    clear s1 s2 s3
    refine ((unhide hPu) _ (((unhide bA) _).trans (c1.mono ((unhide bA) _).size))).mono ?_
    rintro e w2 ⟨rfl, d2⟩
    have c2 := c1.trans (d2.mono c1.size)
    clear d2 c1
    go_wp2_with fail
    go_ret
    exact ⟨rfl, ((unhide bA) _).trans (c2.mono ((unhide bA) _).size)⟩
  have k4 : (K == 4) = false := by simpa using h4
  clear h4
  by_cases h6 : K = 6
  · subst h6
    go_enter Tryz.func11, Tryz.ntmps11
    go_wp2_with fail
    refine ((unhide hIP) _ ((unhide bA) _)).mono ?_
    rintro e w1 ⟨rfl, c1⟩
    obtain ⟨s1, s2, s3⟩ := (unhide hO) w1 c1
    go_wp2_with fail
    clear s1 s2 s3
    refine ((unhide hPu) _ (((unhide bA) _).trans (c1.mono ((unhide bA) _).size))).mono ?_
    rintro e w2 ⟨rfl, d2⟩
    have c2 := c1.trans (d2.mono c1.size)
    clear d2 c1
    go_wp2_with fail
    go_ret
    exact ⟨rfl, ((unhide bA) _).trans (c2.mono ((unhide bA) _).size)⟩
  have k6 : (K == 6) = false := by simpa using h6
  clear h6
  by_cases h5 : K = 5
  · subst h5
    go_enter Tryz.func11, Tryz.ntmps11
    go_wp2_with fail
    refine ((unhide hIW) _ ((unhide bA) _)).mono ?_
    rintro e w1 ⟨rfl, c1⟩
    obtain ⟨s1, s2, s3⟩ := (unhide hO) w1 c1
    go_wp2_with fail
    clear s1 s2 s3
    refine ((unhide hWo) _ (((unhide bA) _).trans (c1.mono ((unhide bA) _).size))).mono ?_
    rintro e w2 ⟨rfl, d2⟩
    have c2 := c1.trans (d2.mono c1.size)
    clear d2 c1
    go_wp2_with fail
    go_ret
    exact ⟨rfl, ((unhide bA) _).trans (c2.mono ((unhide bA) _).size)⟩
  have k5 : (K == 5) = false := by simpa using h5
  clear h5
  by_cases h7 : K = 7
  · subst h7
    go_enter Tryz.func11, Tryz.ntmps11
    go_wp2_with fail
    refine ((unhide hIW) _ ((unhide bA) _)).mono ?_
    rintro e w1 ⟨rfl, c1⟩
    obtain ⟨s1, s2, s3⟩ := (unhide hO) w1 c1
    go_wp2_with fail
    clear s1 s2 s3
    refine ((unhide hWo) _ (((unhide bA) _).trans (c1.mono ((unhide bA) _).size))).mono ?_
    rintro e w2 ⟨rfl, d2⟩
    have c2 := c1.trans (d2.mono c1.size)
    clear d2 c1
    go_wp2_with fail
    go_ret
    exact ⟨rfl, ((unhide bA) _).trans (c2.mono ((unhide bA) _).size)⟩
  have k7 : (K == 7) = false := by simpa using h7
  clear h7
  by_cases h8 : K = 8
  · subst h8
    go_enter Tryz.func11, Tryz.ntmps11
    go_wp2_with fail
    refine ((unhide hWa) _ ((unhide bA) _)).mono ?_
    rintro e w1 ⟨rfl, c1⟩
    obtain ⟨s1, s2, s3⟩ := (unhide hO) w1 c1
    go_wp2_with fail
    clear s1 s2 s3
    refine ((unhide hOp) _ (((unhide bA) _).trans (c1.mono ((unhide bA) _).size))).mono ?_
    rintro e w2 ⟨rfl, d2⟩
    have c2 := c1.trans (d2.mono c1.size)
    clear d2 c1
    obtain ⟨s1, s2, s3⟩ := (unhide hO) w2 c2
    go_wp2_with fail
    clear s1 s2 s3
    refine ((unhide hCl) _ (((unhide bA) _).trans (c2.mono ((unhide bA) _).size))).mono ?_
    rintro e w3 ⟨rfl, d3⟩
    have c3 := c2.trans (d3.mono c2.size)
    clear d3 c2
    obtain ⟨s1, s2, s3⟩ := (unhide hO) w3 c3
    go_wp2_with fail
    clear s1 s2 s3
    refine ((unhide hEn) _ (((unhide bA) _).trans (c3.mono ((unhide bA) _).size))).mono ?_
    rintro e w4 ⟨rfl, d4⟩
    have c4 := c3.trans (d4.mono c3.size)
    clear d4 c3
    go_wp2_with fail
    go_ret
    exact ⟨rfl, ((unhide bA) _).trans (c4.mono ((unhide bA) _).size)⟩
  have k8 : (K == 8) = false := by simpa using h8
  clear h8
  by_cases h11 : K = 11
  · subst h11
    go_enter Tryz.func11, Tryz.ntmps11
    go_wp2_with fail
    refine ((unhide hWa) _ ((unhide bA) _)).mono ?_
    rintro e w1 ⟨rfl, c1⟩
    obtain ⟨s1, s2, s3⟩ := (unhide hO) w1 c1
    go_wp2_with fail
    clear s1 s2 s3
    refine ((unhide hOp) _ (((unhide bA) _).trans (c1.mono ((unhide bA) _).size))).mono ?_
    rintro e w2 ⟨rfl, d2⟩
    have c2 := c1.trans (d2.mono c1.size)
    clear d2 c1
    obtain ⟨s1, s2, s3⟩ := (unhide hO) w2 c2
    go_wp2_with fail
    clear s1 s2 s3
    refine ((unhide hCl) _ (((unhide bA) _).trans (c2.mono ((unhide bA) _).size))).mono ?_
    rintro e w3 ⟨rfl, d3⟩
    have c3 := c2.trans (d3.mono c2.size)
    clear d3 c2
    obtain ⟨s1, s2, s3⟩ := (unhide hO) w3 c3
    go_wp2_with fail
    clear s1 s2 s3
    refine ((unhide hEn) _ (((unhide bA) _).trans (c3.mono ((unhide bA) _).size))).mono ?_
    rintro e w4 ⟨rfl, d4⟩
    have c4 := c3.trans (d4.mono c3.size)
    clear d4 c3
    go_wp2_with fail
    go_ret
    exact ⟨rfl, ((unhide bA) _).trans (c4.mono ((unhide bA) _).size)⟩
  have k11 : (K == 11) = false := by simpa using h11
  clear h11
  by_cases h12 : K = 12
  · subst h12
    go_enter Tryz.func11, Tryz.ntmps11
    go_wp2_with fail
    refine ((unhide hWa) _ ((unhide bA) _)).mono ?_
    rintro e w1 ⟨rfl, c1⟩
    obtain ⟨s1, s2, s3⟩ := (unhide hO) w1 c1
    go_wp2_with fail
    clear s1 s2 s3
    refine ((unhide hOp) _ (((unhide bA) _).trans (c1.mono ((unhide bA) _).size))).mono ?_
    rintro e w2 ⟨rfl, d2⟩
    have c2 := c1.trans (d2.mono c1.size)
    clear d2 c1
    obtain ⟨s1, s2, s3⟩ := (unhide hO) w2 c2
    go_wp2_with fail
    clear s1 s2 s3
    refine ((unhide hCl) _ (((unhide bA) _).trans (c2.mono ((unhide bA) _).size))).mono ?_
    rintro e w3 ⟨rfl, d3⟩
    have c3 := c2.trans (d3.mono c2.size)
    clear d3 c2
    obtain ⟨s1, s2, s3⟩ := (unhide hO) w3 c3
    go_wp2_with fail
    clear s1 s2 s3
    refine ((unhide hEn) _ (((unhide bA) _).trans (c3.mono ((unhide bA) _).size))).mono ?_
    rintro e w4 ⟨rfl, d4⟩
    have c4 := c3.trans (d4.mono c3.size)
    clear d4 c3
    go_wp2_with fail
    go_ret
    exact ⟨rfl, ((unhide bA) _).trans (c4.mono ((unhide bA) _).size)⟩
  have k12 : (K == 12) = false := by simpa using h12
  clear h12
  by_cases h13 : K = 13
  · subst h13
    go_enter Tryz.func11, Tryz.ntmps11
    go_wp2_with fail
    refine ((unhide hWa) _ ((unhide bA) _)).mono ?_
    rintro e w1 ⟨rfl, c1⟩
    obtain ⟨s1, s2, s3⟩ := (unhide hO) w1 c1
    go_wp2_with fail
    clear s1 s2 s3
    refine ((unhide hOp) _ (((unhide bA) _).trans (c1.mono ((unhide bA) _).size))).mono ?_
    rintro e w2 ⟨rfl, d2⟩
    have c2 := c1.trans (d2.mono c1.size)
    clear d2 c1
    obtain ⟨s1, s2, s3⟩ := (unhide hO) w2 c2
    go_wp2_with fail
    clear s1 s2 s3
    refine ((unhide hCl) _ (((unhide bA) _).trans (c2.mono ((unhide bA) _).size))).mono ?_
    rintro e w3 ⟨rfl, d3⟩
    have c3 := c2.trans (d3.mono c2.size)
    clear d3 c2
    obtain ⟨s1, s2, s3⟩ := (unhide hO) w3 c3
    go_wp2_with fail
    clear s1 s2 s3
    refine ((unhide hEn) _ (((unhide bA) _).trans (c3.mono ((unhide bA) _).size))).mono ?_
    rintro e w4 ⟨rfl, d4⟩
    have c4 := c3.trans (d4.mono c3.size)
    clear d4 c3
    go_wp2_with fail
    go_ret
    exact ⟨rfl, ((unhide bA) _).trans (c4.mono ((unhide bA) _).size)⟩
  have k13 : (K == 13) = false := by simpa using h13
  clear h13
  by_cases h9 : K = 9
  · subst h9
    go_enter Tryz.func11, Tryz.ntmps11
    go_wp2_with fail
    refine ((unhide hWW) _ ((unhide bA) _)).mono ?_
    rintro e w1 ⟨rfl, c1⟩
    obtain ⟨s1, s2, s3⟩ := (unhide hO) (w1.alloc (.cells #[.string ⟨#[]⟩, .int .i64 0, .int .i64 0] 70)) (c1.alloc c1.size _)
    go_wp2_with fail
    clear s1 s2 s3
    have cA2 := c1.alloc c1.size (.cells #[.string ⟨#[]⟩, .int .i64 0, .int .i64 0] 70)
    refine ((unhide hNB) _ (((unhide bA) _).trans (cA2.mono ((unhide bA) _).size))).mono ?_
    rintro e w2 ⟨rfl, d2⟩
    have c2 := cA2.trans (d2.mono cA2.size)
    have hN2 := (d2.block w1.heap.size (by simp)).trans (heap_alloc_new w1 _)
    clear cA2 d2 c1
    have hz2 : w1.heap.size < w2.heap.size := (Array.getElem?_eq_some_iff.1 hN2).1
    have n0 : ∀ o, (w2.alloc o).cell? ⟨w1.heap.size, 0, none⟩ = some (.string ⟨#[]⟩) := fun o => (dt.cell_cells ((Below.heap_alloc w2 o w1.heap.size hz2).trans hN2) 0).trans rfl
    have n1 : ∀ o, (w2.alloc o).cell? ⟨w1.heap.size, 1, none⟩ = some (.int .i64 0) := fun o => (dt.cell_cells ((Below.heap_alloc w2 o w1.heap.size hz2).trans hN2) 1).trans rfl
    have n2 : ∀ o, (w2.alloc o).cell? ⟨w1.heap.size, 2, none⟩ = some (.int .i64 0) := fun o => (dt.cell_cells ((Below.heap_alloc w2 o w1.heap.size hz2).trans hN2) 2).trans rfl
    have HB := hide (((unhide bA) _).trans ((c2.alloc c2.size (.cells #[.string ⟨#[]⟩, .int .i64 0, .int .i64 0] 70)).mono ((unhide bA) _).size))
    clear c2 hN2
    go_wp2_with fail
    go_ret
    exact ⟨rfl, unhide HB⟩
  have k9 : (K == 9) = false := by simpa using h9
  clear h9
  by_cases h10 : K = 10
  · subst h10
    go_enter Tryz.func11, Tryz.ntmps11
    go_wp2_with fail
    refine ((unhide hWW) _ ((unhide bA) _)).mono ?_
    rintro e w1 ⟨rfl, c1⟩
    obtain ⟨s1, s2, s3⟩ := (unhide hO) (w1.alloc (.cells #[.string ⟨#[]⟩, .int .i64 0, .int .i64 0] 70)) (c1.alloc c1.size _)
    go_wp2_with fail
    clear s1 s2 s3
    have cA2 := c1.alloc c1.size (.cells #[.string ⟨#[]⟩, .int .i64 0, .int .i64 0] 70)
    refine ((unhide hNB) _ (((unhide bA) _).trans (cA2.mono ((unhide bA) _).size))).mono ?_
    rintro e w2 ⟨rfl, d2⟩
    have c2 := cA2.trans (d2.mono cA2.size)
    have hN2 := (d2.block w1.heap.size (by simp)).trans (heap_alloc_new w1 _)
    clear cA2 d2 c1
    have hz2 : w1.heap.size < w2.heap.size := (Array.getElem?_eq_some_iff.1 hN2).1
    have n0 : ∀ o, (w2.alloc o).cell? ⟨w1.heap.size, 0, none⟩ = some (.string ⟨#[]⟩) := fun o => (dt.cell_cells ((Below.heap_alloc w2 o w1.heap.size hz2).trans hN2) 0).trans rfl
    have n1 : ∀ o, (w2.alloc o).cell? ⟨w1.heap.size, 1, none⟩ = some (.int .i64 0) := fun o => (dt.cell_cells ((Below.heap_alloc w2 o w1.heap.size hz2).trans hN2) 1).trans rfl
    have n2 : ∀ o, (w2.alloc o).cell? ⟨w1.heap.size, 2, none⟩ = some (.int .i64 0) := fun o => (dt.cell_cells ((Below.heap_alloc w2 o w1.heap.size hz2).trans hN2) 2).trans rfl
    have HB := hide (((unhide bA) _).trans ((c2.alloc c2.size (.cells #[.string ⟨#[]⟩, .int .i64 0, .int .i64 0] 70)).mono ((unhide bA) _).size))
    clear c2 hN2
    go_wp2_with fail
    go_ret
    exact ⟨rfl, unhide HB⟩
  have k10 : (K == 10) = false := by simpa using h10
  clear h10
  by_cases h15 : K = 15
  · subst h15
    go_enter Tryz.func11, Tryz.ntmps11
    go_wp2_with fail
    refine ((unhide hNo) _ ((unhide bA) _)).mono ?_
    rintro e w1 ⟨rfl, c1⟩
    obtain ⟨s1, s2, s3⟩ := (unhide hO) (w1.alloc (.cells #[.bool false, .bool false, .string ⟨#[]⟩] 74)) (c1.alloc c1.size _)
    go_wp2_with fail
    clear s1 s2 s3
    have cA2 := c1.alloc c1.size (.cells #[.bool false, .bool false, .string ⟨#[]⟩] 74)
    refine ((unhide hTy) _ (((unhide bA) _).trans (cA2.mono ((unhide bA) _).size))).mono ?_
    rintro e w2 ⟨rfl, d2⟩
    have c2 := cA2.trans (d2.mono cA2.size)
    have hN2 := (d2.block w1.heap.size (by simp)).trans (heap_alloc_new w1 _)
    clear cA2 d2 c1
    have hz2 : w1.heap.size < w2.heap.size := (Array.getElem?_eq_some_iff.1 hN2).1
    have n0 : ∀ o, (w2.alloc o).cell? ⟨w1.heap.size, 0, none⟩ = some (.bool false) := fun o => (dt.cell_cells ((Below.heap_alloc w2 o w1.heap.size hz2).trans hN2) 0).trans rfl
    have n1 : ∀ o, (w2.alloc o).cell? ⟨w1.heap.size, 1, none⟩ = some (.bool false) := fun o => (dt.cell_cells ((Below.heap_alloc w2 o w1.heap.size hz2).trans hN2) 1).trans rfl
    have n2 : ∀ o, (w2.alloc o).cell? ⟨w1.heap.size, 2, none⟩ = some (.string ⟨#[]⟩) := fun o => (dt.cell_cells ((Below.heap_alloc w2 o w1.heap.size hz2).trans hN2) 2).trans rfl
    have HB := hide (((unhide bA) _).trans ((c2.alloc c2.size (.cells #[.string ⟨#[]⟩, .string ⟨#[]⟩] 59)).mono ((unhide bA) _).size))
    clear c2 hN2
    go_wp2_with fail
    go_ret
    exact ⟨rfl, unhide HB⟩
  have k15 : (K == 15) = false := by simpa using h15
  clear h15
  by_cases h16 : K = 16
  · subst h16
    go_enter Tryz.func11, Tryz.ntmps11
    go_wp2_with fail
    refine ((unhide hNo) _ ((unhide bA) _)).mono ?_
    rintro e w1 ⟨rfl, c1⟩
    obtain ⟨s1, s2, s3⟩ := (unhide hO) (w1.alloc (.cells #[.bool false, .bool false, .string ⟨#[]⟩] 74)) (c1.alloc c1.size _)
    go_wp2_with fail
    clear s1 s2 s3
    have cA2 := c1.alloc c1.size (.cells #[.bool false, .bool false, .string ⟨#[]⟩] 74)
    refine ((unhide hTy) _ (((unhide bA) _).trans (cA2.mono ((unhide bA) _).size))).mono ?_
    rintro e w2 ⟨rfl, d2⟩
    have c2 := cA2.trans (d2.mono cA2.size)
    have hN2 := (d2.block w1.heap.size (by simp)).trans (heap_alloc_new w1 _)
    clear cA2 d2 c1
    have hz2 : w1.heap.size < w2.heap.size := (Array.getElem?_eq_some_iff.1 hN2).1
    have n0 : ∀ o, (w2.alloc o).cell? ⟨w1.heap.size, 0, none⟩ = some (.bool false) := fun o => (dt.cell_cells ((Below.heap_alloc w2 o w1.heap.size hz2).trans hN2) 0).trans rfl
    have n1 : ∀ o, (w2.alloc o).cell? ⟨w1.heap.size, 1, none⟩ = some (.bool false) := fun o => (dt.cell_cells ((Below.heap_alloc w2 o w1.heap.size hz2).trans hN2) 1).trans rfl
    have n2 : ∀ o, (w2.alloc o).cell? ⟨w1.heap.size, 2, none⟩ = some (.string ⟨#[]⟩) := fun o => (dt.cell_cells ((Below.heap_alloc w2 o w1.heap.size hz2).trans hN2) 2).trans rfl
    have HB := hide (((unhide bA) _).trans ((c2.alloc c2.size (.cells #[.string ⟨#[]⟩, .string ⟨#[]⟩] 59)).mono ((unhide bA) _).size))
    clear c2 hN2
    go_wp2_with fail
    go_ret
    exact ⟨rfl, unhide HB⟩
  have k16 : (K == 16) = false := by simpa using h16
  clear h16
  by_cases h17 : K = 17
  · subst h17
    go_enter Tryz.func11, Tryz.ntmps11
    go_wp2_with fail
    refine ((unhide hLi) _ ((unhide bA) _)).mono ?_
    rintro e w1 ⟨rfl, c1⟩
    obtain ⟨s1, s2, s3⟩ := (unhide hO) (w1.alloc (.cells #[.int .i64 0, .string ⟨#[]⟩, .bool false, .slice none 0 0, .slice none 0 0, .int .i64 0, .int .i64 0] 55)) (c1.alloc c1.size _)
    go_wp2_with fail
    clear s1 s2 s3
    have cA2 := c1.alloc c1.size (.cells #[.int .i64 0, .string ⟨#[]⟩, .bool false, .slice none 0 0, .slice none 0 0, .int .i64 0, .int .i64 0] 55)
    refine ((unhide hAr) _ (((unhide bA) _).trans (cA2.mono ((unhide bA) _).size))).mono ?_
    rintro e w2 ⟨rfl, d2⟩
    have c2 := cA2.trans (d2.mono cA2.size)
    have hN2 := (d2.block w1.heap.size (by simp)).trans (heap_alloc_new w1 _)
    clear cA2 d2 c1
    obtain ⟨s1, s2, s3⟩ := (unhide hO) w2 c2
    go_wp2_with fail
    clear s1 s2 s3
    refine ((unhide hDi) _ (((unhide bA) _).trans (c2.mono ((unhide bA) _).size))).mono ?_
    rintro e w3 ⟨rfl, d3⟩
    have c3 := c2.trans (d3.mono c2.size)
    have hz2 : w1.heap.size < w2.heap.size := (Array.getElem?_eq_some_iff.1 hN2).1
    have hN3 := (d3.block w1.heap.size hz2).trans hN2
    clear d3 c2 hN2
    have n0 : w3.cell? ⟨w1.heap.size, 0, none⟩ = some (.int .i64 0) := (dt.cell_cells hN3 0).trans rfl
    have n1 : w3.cell? ⟨w1.heap.size, 1, none⟩ = some (.string ⟨#[]⟩) := (dt.cell_cells hN3 1).trans rfl
    have n2 : w3.cell? ⟨w1.heap.size, 2, none⟩ = some (.bool false) := (dt.cell_cells hN3 2).trans rfl
    have n3 : w3.cell? ⟨w1.heap.size, 3, none⟩ = some (.slice none 0 0) := (dt.cell_cells hN3 3).trans rfl
    have n4 : w3.cell? ⟨w1.heap.size, 4, none⟩ = some (.slice none 0 0) := (dt.cell_cells hN3 4).trans rfl
    have n5 : w3.cell? ⟨w1.heap.size, 5, none⟩ = some (.int .i64 0) := (dt.cell_cells hN3 5).trans rfl
    have n6 : w3.cell? ⟨w1.heap.size, 6, none⟩ = some (.int .i64 0) := (dt.cell_cells hN3 6).trans rfl
    go_wp2_with fail
    refine ((unhide hSm) _).mono ?_
    rintro e w4 ⟨rfl, d4⟩
    have c4 := c3.trans (d4.mono c3.size)
    go_wp2_with fail
    go_ret
    exact ⟨rfl, ((unhide bA) _).trans (c4.mono ((unhide bA) _).size)⟩
  have k17 : (K == 17) = false := by simpa using h17
  clear h17
  by_cases h18 : K = 18
  · subst h18
    go_enter Tryz.func11, Tryz.ntmps11
    go_wp2_with fail
    refine ((unhide hLi) _ ((unhide bA) _)).mono ?_
    rintro e w1 ⟨rfl, c1⟩
    obtain ⟨s1, s2, s3⟩ := (unhide hO) (w1.alloc (.cells #[.int .i64 0, .string ⟨#[]⟩, .bool false, .slice none 0 0, .slice none 0 0, .int .i64 0, .int .i64 0] 55)) (c1.alloc c1.size _)
    go_wp2_with fail
    clear s1 s2 s3
    have cA2 := c1.alloc c1.size (.cells #[.int .i64 0, .string ⟨#[]⟩, .bool false, .slice none 0 0, .slice none 0 0, .int .i64 0, .int .i64 0] 55)
    refine ((unhide hAr) _ (((unhide bA) _).trans (cA2.mono ((unhide bA) _).size))).mono ?_
    rintro e w2 ⟨rfl, d2⟩
    have c2 := cA2.trans (d2.mono cA2.size)
    have hN2 := (d2.block w1.heap.size (by simp)).trans (heap_alloc_new w1 _)
    clear cA2 d2 c1
    obtain ⟨s1, s2, s3⟩ := (unhide hO) w2 c2
    go_wp2_with fail
    clear s1 s2 s3
    refine ((unhide hDi) _ (((unhide bA) _).trans (c2.mono ((unhide bA) _).size))).mono ?_
    rintro e w3 ⟨rfl, d3⟩
    have c3 := c2.trans (d3.mono c2.size)
    have hz2 : w1.heap.size < w2.heap.size := (Array.getElem?_eq_some_iff.1 hN2).1
    have hN3 := (d3.block w1.heap.size hz2).trans hN2
    clear d3 c2 hN2
    have n0 : w3.cell? ⟨w1.heap.size, 0, none⟩ = some (.int .i64 0) := (dt.cell_cells hN3 0).trans rfl
    have n1 : w3.cell? ⟨w1.heap.size, 1, none⟩ = some (.string ⟨#[]⟩) := (dt.cell_cells hN3 1).trans rfl
    have n2 : w3.cell? ⟨w1.heap.size, 2, none⟩ = some (.bool false) := (dt.cell_cells hN3 2).trans rfl
    have n3 : w3.cell? ⟨w1.heap.size, 3, none⟩ = some (.slice none 0 0) := (dt.cell_cells hN3 3).trans rfl
    have n4 : w3.cell? ⟨w1.heap.size, 4, none⟩ = some (.slice none 0 0) := (dt.cell_cells hN3 4).trans rfl
    have n5 : w3.cell? ⟨w1.heap.size, 5, none⟩ = some (.int .i64 0) := (dt.cell_cells hN3 5).trans rfl
    have n6 : w3.cell? ⟨w1.heap.size, 6, none⟩ = some (.int .i64 0) := (dt.cell_cells hN3 6).trans rfl
    go_wp2_with fail
    refine ((unhide hSm) _).mono ?_
    rintro e w4 ⟨rfl, d4⟩
    have c4 := c3.trans (d4.mono c3.size)
    go_wp2_with fail
    go_ret
    exact ⟨rfl, ((unhide bA) _).trans (c4.mono ((unhide bA) _).size)⟩
  have k18 : (K == 18) = false := by simpa using h18
  clear h18
  by_cases h19 : K = 19
  · subst h19
    go_enter Tryz.func11, Tryz.ntmps11
    go_wp2_with fail
    refine ((unhide hLi) _ ((unhide bA) _)).mono ?_
    rintro e w1 ⟨rfl, c1⟩
    obtain ⟨s1, s2, s3⟩ := (unhide hO) (w1.alloc (.cells #[.int .i64 0, .string ⟨#[]⟩, .bool false, .slice none 0 0, .slice none 0 0, .int .i64 0, .int .i64 0] 55)) (c1.alloc c1.size _)
    go_wp2_with fail
    clear s1 s2 s3
    have cA2 := c1.alloc c1.size (.cells #[.int .i64 0, .string ⟨#[]⟩, .bool false, .slice none 0 0, .slice none 0 0, .int .i64 0, .int .i64 0] 55)
    refine ((unhide hAr) _ (((unhide bA) _).trans (cA2.mono ((unhide bA) _).size))).mono ?_
    rintro e w2 ⟨rfl, d2⟩
    have c2 := cA2.trans (d2.mono cA2.size)
    have hN2 := (d2.block w1.heap.size (by simp)).trans (heap_alloc_new w1 _)
    clear cA2 d2 c1
    obtain ⟨s1, s2, s3⟩ := (unhide hO) w2 c2
    go_wp2_with fail
    clear s1 s2 s3
    refine ((unhide hDi) _ (((unhide bA) _).trans (c2.mono ((unhide bA) _).size))).mono ?_
    rintro e w3 ⟨rfl, d3⟩
    have c3 := c2.trans (d3.mono c2.size)
    have hz2 : w1.heap.size < w2.heap.size := (Array.getElem?_eq_some_iff.1 hN2).1
    have hN3 := (d3.block w1.heap.size hz2).trans hN2
    clear d3 c2 hN2
    have n0 : w3.cell? ⟨w1.heap.size, 0, none⟩ = some (.int .i64 0) := (dt.cell_cells hN3 0).trans rfl
    have n1 : w3.cell? ⟨w1.heap.size, 1, none⟩ = some (.string ⟨#[]⟩) := (dt.cell_cells hN3 1).trans rfl
    have n2 : w3.cell? ⟨w1.heap.size, 2, none⟩ = some (.bool false) := (dt.cell_cells hN3 2).trans rfl
    have n3 : w3.cell? ⟨w1.heap.size, 3, none⟩ = some (.slice none 0 0) := (dt.cell_cells hN3 3).trans rfl
    have n4 : w3.cell? ⟨w1.heap.size, 4, none⟩ = some (.slice none 0 0) := (dt.cell_cells hN3 4).trans rfl
    have n5 : w3.cell? ⟨w1.heap.size, 5, none⟩ = some (.int .i64 0) := (dt.cell_cells hN3 5).trans rfl
    have n6 : w3.cell? ⟨w1.heap.size, 6, none⟩ = some (.int .i64 0) := (dt.cell_cells hN3 6).trans rfl
    go_wp2_with fail
    refine ((unhide hSm) _).mono ?_
    rintro e w4 ⟨rfl, d4⟩
    have c4 := c3.trans (d4.mono c3.size)
    go_wp2_with fail
    go_ret
    exact ⟨rfl, ((unhide bA) _).trans (c4.mono ((unhide bA) _).size)⟩
  have k19 : (K == 19) = false := by simpa using h19
  clear h19
  by_cases h14 : K = 14
  · subst h14
    go_enter Tryz.func11, Tryz.ntmps11
    go_wp2_with fail
    refine ((unhide hRe) _ ((unhide bA) _)).mono ?_
    rintro e w1 ⟨rfl, c1⟩
    go_wp2_with fail
    go_ret
    exact ⟨rfl, ((unhide bA) _).trans (c1.mono ((unhide bA) _).size)⟩
  have k14 : (K == 14) = false := by simpa using h14
  clear h14
  go_enter Tryz.func11, Tryz.ntmps11
  go_wp2_with fail
  go_ret
  exact ⟨rfl, (unhide bA) _⟩
end Go.Proofs.YtejjnhcmpiamiaaGreat.cu
namespace Go.Proofs.YtejjnhcmpiamiaaGreat.mem
open Go.ChangeShapes Go.WideShapes Go.ChangeAt Go.RowKit
set_option linter.unusedVariables false
/-- what is known of a script of calls -/
def Ops (w : World) (a : Option Addr) (n : Nat) : Prop :=
  n = 0 ∨ ∃ b off, a = some ⟨b, off, none⟩ ∧ b < w.heap.size ∧ ∀ i, i < n → ∃ (K : Int) (S : ByteArray) (aw : Option Addr) (nw cw : Nat) (bb : Bool),
    w.cell? ⟨b, off + i * 4, none⟩ = some (.int .i64 K) ∧ w.cell? ⟨b, off + i * 4 + 1, none⟩ = some (.string S) ∧ w.cell? ⟨b, off + i * 4 + 2, none⟩ = some (.slice aw nw cw) ∧ w.cell? ⟨b, off + i * 4 + 3, none⟩ = some (.bool bb)
theorem Ops.below {w w' : World} {a : Option Addr} {n : Nat} (h : Ops w a n) (hb : Below w.heap.size w w') : Ops w' a n := by
  rcases h with h0 | ⟨b, off, ha, hlt, hc⟩
  · exact .inl h0
  · refine .inr ⟨b, off, ha, Nat.lt_of_lt_of_le hlt hb.size, fun i hi => ?_⟩
    obtain ⟨K, S, aw, nw, cw, bb, k0, k1, k2, k3⟩ := hc i hi
    exact ⟨K, S, aw, nw, cw, bb, (hb.cell (p := ⟨b, off + i * 4, none⟩) hlt).trans k0, (hb.cell (p := ⟨b, off + i * 4 + 1, none⟩) hlt).trans k1, (hb.cell (p := ⟨b, off + i * 4 + 2, none⟩) hlt).trans k2, (hb.cell (p := ⟨b, off + i * 4 + 3, none⟩) hlt).trans k3⟩
theorem list_four {α : Type} {l : List α} (h : l.length = 4) : ∃ x y z u, l = [x, y, z, u] := by
  match l, h with
  | [x, y, z, u], _ => exact ⟨x, y, z, u, rfl⟩
theorem struct4 {H : Type} {enc : TypeId × Value → H} {w : World} {base : Nat} {held : Bool} {P : Program} {spare : Nat → Bool} {t : TypeId} {f0 f1 f2 f3 : Field} {fuel : Nat} {cs : List Value} {x : DataW H × List MemPlace} (ht : P.underlying t = some (.struct #[f0, f1, f2, f3])) (h : DataW.trod enc P w base spare held fuel t cs = some x) :
    ∃ x0 x1 x2 x3 n, fuel = n + 1 ∧ cs.length = P.cellsOf t ∧
      DataW.trod enc P w base spare held n f0.type ((cs.drop f0.offset).take (P.cellsOf f0.type)) = some x0 ∧
      DataW.trod enc P w base spare held n f1.type ((cs.drop f1.offset).take (P.cellsOf f1.type)) = some x1 ∧
      DataW.trod enc P w base spare held n f2.type ((cs.drop f2.offset).take (P.cellsOf f2.type)) = some x2 ∧
      DataW.trod enc P w base spare held n f3.type ((cs.drop f3.offset).take (P.cellsOf f3.type)) = some x3 := by
  obtain ⟨xs, n, hfu, _, hl, hlen, hf⟩ := DataW.trod_struct ht h
  match xs, hlen with
  | [x0, x1, x2, x3], _ => exact ⟨x0, x1, x2, x3, n, hfu, hl, by simpa using hf 0 f0 rfl, by simpa using hf 1 f1 rfl, by simpa using hf 2 f2 rfl, by simpa using hf 3 f3 rfl⟩
set_option maxRecDepth 4000 in
theorem ops_of {H : Type} {enc : TypeId × Value → H} {w : World} {base : Nat} {held : Bool} {fuel : Nat} {a0 : Option Addr} {len0 cap0 : Nat} {d : DataW H} {p : List MemPlace}
    (h : DataW.trod enc Tryz.prog w base (fun _ => true) held fuel 23 [.slice a0 len0 cap0] = some (d, p)) :
    Ops w a0 len0 ∧ len0 ≤ Rows.uptoBulk d ∧ len0 ≤ cap0 := by
  have ce : Tryz.prog.cellsOf 48 = 4 := by kernel_rfl
  have ce0 : Tryz.prog.cellsOf 3 = 1 := by kernel_rfl
  have ce1 : Tryz.prog.cellsOf 9 = 1 := by kernel_rfl
  have ce2 : Tryz.prog.cellsOf 46 = 1 := by kernel_rfl
  have ce3 : Tryz.prog.cellsOf 4 = 1 := by kernel_rfl
  rcases Go.Deep.open_slice Tryz.underlying23 h with ⟨hcs, _⟩ | ⟨a, len, cap, m, n, D, Pl, hcs, hb, hl, hm, hmm, hx, hcell⟩
  · simp at hcs
    obtain ⟨rfl, rfl, rfl⟩ := hcs
    exact ⟨.inl rfl, Nat.zero_le _, Nat.le_refl _⟩
  · simp at hcs
    obtain ⟨rfl, rfl, rfl⟩ := hcs
    simp only [if_true] at hmm
    subst hmm
    simp only [Prod.mk.injEq] at hx
    obtain ⟨hd, _⟩ := hx
    refine ⟨?_, ?_, hl⟩
    · by_cases h0 : len0 = 0
      · exact .inl h0
      · right
        rw [ce] at hcell
        have spot0 : ∃ b off, a = ⟨b, off, none⟩ ∧ b < w.heap.size := by
          obtain ⟨cs', h1, h2⟩ := hcell 0 (by omega)
          obtain ⟨_, hlen, hc⟩ := World.cells?_some h1
          obtain ⟨v, hv⟩ : ∃ v, w.cell? (a.add (0 * 4)) = some v := by
            have := hc 0 (by omega)
            obtain ⟨v0, v1, v2, v3, rfl⟩ := list_four hlen
            exact ⟨v0, by simpa [Addr.add] using this⟩
          obtain ⟨b, off, spot⟩ := a
          have hspot : spot = none := by simpa [Addr.add] using World.cell?_spot hv
          subst hspot
          exact ⟨b, off, rfl, World.block_lt_of_cell? w _ hv⟩
        obtain ⟨b, off, rfl, hbw⟩ := spot0
        refine ⟨b, off, rfl, hbw, fun i hi => ?_⟩
        obtain ⟨cs', h1, h2⟩ := hcell i (by omega)
        obtain ⟨_, hlen, hc⟩ := World.cells?_some h1
        obtain ⟨y0, y1, y2, y3, n', _, _, t0, t1, t2, t3⟩ := struct4 Tryz.underlying48 h2
        obtain ⟨v0, v1, v2, v3, rfl⟩ := list_four hlen
        have e0 := hc 0 (by omega)
        have e1 := hc 1 (by omega)
        have e2 := hc 2 (by omega)
        have e3 := hc 3 (by omega)
        rw [Go.Deep.add_add, Addr.add_lit] at e0 e1 e2 e3
        simp only [ce0, List.drop_zero, List.take_succ_cons, List.take_zero] at t0
        simp only [ce1, List.drop_succ_cons, List.drop_zero, List.take_succ_cons, List.take_zero] at t1
        simp only [ce2, List.drop_succ_cons, List.drop_zero, List.take_succ_cons, List.take_zero] at t2
        simp only [ce3, List.drop_succ_cons, List.drop_zero, List.take_succ_cons, List.take_zero] at t3
        simp only [List.getElem?_cons_zero, List.getElem?_cons_succ] at e0 e1 e2 e3
        obtain ⟨K, hk, _⟩ := DataW.trod_int Tryz.underlying3 t0
        obtain ⟨S, hs, _⟩ := DataW.trod_string Tryz.underlying9 t1
        obtain ⟨B, hbb, _⟩ := DataW.trod_bool Tryz.underlying4 t3
        have hsl : ∃ aw nw cw, v2 = .slice aw nw cw := by
          rcases DataW.trod_slice Tryz.underlying46 t2 with ⟨e, _⟩ | ⟨a, len, cap, _, _, _, _, e, _⟩
          · simp at e; exact ⟨_, _, _, e⟩
          · simp at e; exact ⟨_, _, _, e⟩
        obtain ⟨aw, nw, cw, rfl⟩ := hsl
        simp only [List.cons.injEq, and_true] at hk hs hbb
        subst hk hs hbb
        exact ⟨K, S, aw, nw, cw, B, e0, by rw [Nat.add_assoc]; exact e1, by rw [Nat.add_assoc]; exact e2, by rw [Nat.add_assoc]; exact e3⟩
    · rw [hd]
      refine Nat.le_trans ?_ (bulk_slice _ _)
      simp
end Go.Proofs.YtejjnhcmpiamiaaGreat.mem
