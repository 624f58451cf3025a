import Derived.Test.YtmhelpocddndjaaGreatQbg11
import Derived.Test.YtmhelpocddndjaaGreatQbg4
import Derived.Test.YtmhelpocddndjaaGreatQbg5
import Derived.Test.YtmhelpocddndjaaGreatQbg6
import Derived.Test.YtmhelpocddndjaaGreatQbg7
import Derived.Test.YtmhelpocddndjaaGreatQbg8
namespace Go.Proofs.YtmhelpocddndjaaGreat.lx
open Go.ChangeShapes Go.WideShapes Go.ChangeAt Go.RowKit
open ints (hide unhide)
open mem (Row)
open cu (Tk)
set_option linter.unusedVariables false
def tksGF (l : List Int) (cl : Bool) : Nat → Nat → List Tk
  | 0, i => []
  | f + 1, i => if (tkG l cl i).k = 0 ∨ (tkG l cl i).k = 1 then [tkG l cl i] else tkG l cl i :: tksGF l cl f (tkG l cl i).to
theorem tkG_le (l : List Int) (cl : Bool) (i : Nat) (hi : i ≤ l.length) : (tkG l cl i).fr ≤ l.length ∧ (tkG l cl i).to ≤ l.length ∧ ((tkG l cl i).k = 0 ∨ (tkG l cl i).k = 1 ∨ i < (tkG l cl i).to) := by
  have h1 := ign_le l false i
  have h2 := rdG_le l cl (ign l false i) (h1.2 hi)
  refine ⟨h1.2 hi, h2.2.1, ?_⟩
  rcases h2.2.2 with h | h | h
  · exact .inl h
  · exact .inr (.inl h)
  · exact .inr (.inr (Nat.lt_of_le_of_lt h1.1 h))
theorem tksGF_more (l : List Int) (cl : Bool) : ∀ (f g i : Nat), l.length < f + i → l.length < g + i → i ≤ l.length → tksGF l cl f i = tksGF l cl g i
  | 0, g, i, hf, _, hi => by omega
  | f + 1, 0, i, _, hg, hi => by omega
  | f + 1, g + 1, i, hf, hg, hi => by
    simp only [tksGF]
    split
    · rfl
    · rename_i h
      have h2 := tkG_le l cl i hi
      have h3 : i < (tkG l cl i).to := by
        rcases h2.2.2 with e | e | e
        · exact absurd (.inl e) h
        · exact absurd (.inr e) h
        · exact e
      rw [tksGF_more l cl f g (tkG l cl i).to (by omega) (by omega) h2.2.1]
/-- all tokens from i on -/
def tksG (l : List Int) (cl : Bool) (i : Nat) : List Tk := tksGF l cl (l.length + 1) i
theorem tksG_end {l : List Int} {cl : Bool} {i : Nat} (h : (tkG l cl i).k = 0 ∨ (tkG l cl i).k = 1) : tksG l cl i = [tkG l cl i] := by
  unfold tksG
  rw [tksGF, if_pos h]
theorem tksG_go {l : List Int} {cl : Bool} {i : Nat} (hi : i ≤ l.length) (h : ¬ ((tkG l cl i).k = 0 ∨ (tkG l cl i).k = 1)) : tksG l cl i = tkG l cl i :: tksG l cl (tkG l cl i).to := by
  have h2 := tkG_le l cl i hi
  have h3 : i < (tkG l cl i).to := by
    rcases h2.2.2 with e | e | e
    · exact absurd (.inl e) h
    · exact absurd (.inr e) h
    · exact e
  unfold tksG
  rw [show tksGF l cl (l.length + 1) i = tkG l cl i :: tksGF l cl l.length (tkG l cl i).to from by rw [tksGF, if_neg h]]
  rw [tksGF_more l cl l.length (l.length + 1) (tkG l cl i).to (by omega) (by omega) h2.2.1]
/-- the last token -/
theorem tokensG_end {n : Nat} {l : List Int} {cl : Bool} {k : Nat} {t : Tk} {pre : List Tk} {w w6 w7 : World} {B : Nat} {sl : Value} (hn : n ≤ 1099511627776) (hend : t.k = 0 ∨ t.k = 1) (hpre : pre ++ tksG l cl k = tksG l cl 0) (ht : t = tkG l cl k)
    (hr : w7.ownsRow B 38 7 sl (pre.length + 1) (pre.flatMap Tk.cells ++ [.int .i64 t.k, .int .i64 t.ln, .int .i64 t.co, .int .i64 t.fr, .int .i64 t.to, .string t.tx, .string t.va])) (hb : Below w.heap.size w w6) (hb7 : Below B w6 w7) (hB : w.heap.size ≤ B) :
    ∃ p cap, Ending.returned sl = .returned (.slice (some ⟨p, 0, none⟩) (tksG l cl 0).length cap) ∧ w.heap.size ≤ p ∧ p < w7.heap.size ∧ (∀ i t, (tksG l cl 0)[i]? = some t → dt.RowAt w7 p (i * 7) t.cells) ∧ Below w.heap.size w w7 := by
  subst ht
  have htk : tksG l cl 0 = pre ++ [tkG l cl k] := by rw [← hpre, tksG_end hend]
  have hcs : pre.flatMap Tk.cells ++ [.int .i64 (tkG l cl k).k, .int .i64 (tkG l cl k).ln, .int .i64 (tkG l cl k).co, .int .i64 (tkG l cl k).fr, .int .i64 (tkG l cl k).to, .string (tkG l cl k).tx, .string (tkG l cl k).va] = (tksG l cl 0).flatMap Tk.cells := by
    rw [htk, List.flatMap_append]
    simp [Tk.cells]
  have hlen : pre.length + 1 = (tksG l cl 0).length := by rw [htk]; simp
  rw [hcs, hlen] at hr
  have hr2 := hr
  have hlt := hr.lt
  obtain ⟨h1, h2⟩ := hr
  rcases h2 with ⟨_, h3⟩ | ⟨g, cap, cur, rfl, hg, hh, hnc, r⟩
  · omega
  · refine ⟨g, cap, rfl, Nat.le_trans hB hg, (hlt g rfl).2, fun i t ht j u hu => ?_, hb.trans (hb7.mono hB)⟩
    have hi : i < (tksG l cl 0).length := (List.getElem?_eq_some_iff.1 ht).1
    have hj : j < 7 := (List.getElem?_eq_some_iff.1 hu).1
    rw [World.ownsRow.cellAt hr2 (i * 7 + j) (by omega)]
    rw [flat7 _ i j t ht hj]
    exact hu
/-- a source's characters, and whether it is clean -/
def chs (z : List Int) : List Int := (mem.decZ z).1
def cln (z : List Int) : Bool := decide ((mem.decZ z).2 = z.length)
/-- a source's tokens -/
def toks (z : List Int) : List Tk := tksG (chs z) (cln z) 0
theorem chs_sc {z : List Int} (hz : mem.Byt z) : ∀ x ∈ chs z, mem.scP x := fun x hx => (mem.scB_iff x).1 (List.all_eq_true.1 (mem.decF_flat _ z hz).2.2.1 x hx)
set_option maxHeartbeats 4000000 in
theorem tokensG_ok (a : Option Addr) (n0 c : Nat) (z : List Int) (w : World) (h : Row .u8 w a n0 c z) (hn0 : n0 ≤ 1099511627776) (hz : mem.Byt z) :
    Calls Tryz.prog 8 #[.slice a n0 c] w fun e w' => ∃ p cap, e = .returned (.slice (some ⟨p, 0, none⟩) (toks z).length cap) ∧ w.heap.size ≤ p ∧ p < w'.heap.size ∧ (∀ i t, (toks z)[i]? = some t → dt.RowAt w' p (i * 7) t.cells) ∧ Below w.heap.size w w' := by
  have hD := hide (mem.decode_bytes a n0 c z w h hz (by omega))
  have hn1 := Nat.le_trans (mem.decZ_len z hz) (mem.decZ_le z hz)
  have hp := chs_sc hz
  unfold toks
  obtain ⟨l, hl⟩ : ∃ l, l = chs z := ⟨_, rfl⟩
  obtain ⟨g0, hg0⟩ : ∃ g0 : Nat, g0 = (mem.decZ z).2 := ⟨_, rfl⟩
  have hcl : cln z = decide (g0 = n0) := by unfold cln; rw [hg0, h.len]
  rw [hcl]
  rw [show (mem.decZ z).1 = l from hl.symm, ← hg0] at hD
  rw [← hl] at hp ⊢
  have hn : l.length ≤ 1099511627776 := by
    rw [hl]
    unfold chs
    rw [h.len] at hn1
    omega
  clear hl hg0 hcl hn1
  obtain ⟨cl, hcl⟩ : ∃ cl, cl = decide (g0 = n0) := ⟨_, rfl⟩
  rw [← hcl]
  have hce : ((g0 : Int) == (n0 : Int)) = cl := by
    rw [hcl, Bool.eq_iff_iff, beq_iff_eq, decide_eq_true_iff]
    omega
  clear hcl
  obtain ⟨n, hne⟩ : ∃ n, n = l.length := ⟨_, rfl⟩
  rw [← hne] at hD hn
  have Hne := hide hne
  clear hne
  go_enter Tryz.func8, Tryz.ntmps8
  go_wp2_with fail
  refine (unhide hD).mono ?_
  rintro e w1 ⟨v, rfl, hown, b1⟩
  obtain ⟨a1, c1, rfl, hrow⟩ := mem.own_row hown
  have ha1 : a1 = none ∨ ∃ b off, a1 = some ⟨b, off, none⟩ := by
    rcases hown.2 with ⟨e, _⟩ | ⟨g, cap, cur, e, _⟩
    · left; simp at e; exact e.1
    · right; simp at e; exact ⟨g, 0, e.1⟩
  clear hD hown
  have hsb := Sb.new w1 a1 n c1 cl
  go_wp2_with fail
  obtain ⟨w2, hw2⟩ : ∃ w2, w2 = w1.alloc (.cells #[.slice a1 n c1, .bool cl] 79) := ⟨_, rfl⟩
  rw [← hw2] at hsb ⊢
  clear hw2
  refine (mem.places_any a1 n c1 l w2 (hrow.below hsb.bel) hn).mono ?_
  rintro e w3 ⟨rfl, hpl, b3⟩
  have hs3 := hsb.below b3
  obtain ⟨pb, hpb⟩ : ∃ pb, pb = w2.heap.size + 1 := ⟨_, rfl⟩
  rw [← hpb] at hpl ⊢
  have hpc := hide (fun k hk => World.ownsRow.cellAt hpl k hk)
  have hplt := (hpl.lt pb rfl).2
  clear hpl
  have hplc := hide (fun f (hf : f < n + 1) => pos_cells l (n + 1) f hf)
  go_wp2_with fail
  rw [← hpb]
  clear hpb
  go_loopg [7, 8] (n + 1) (fun g vs vi wr => ∃ (k : Nat) (pre : List Tk), k ≤ n ∧ n + 1 ≤ g + k ∧ vi = .int .i64 k ∧ Hid (pre ++ tksG l cl k = tksG l cl 0) ∧ Hid (wr.ownsRow w3.heap.size 38 7 vs pre.length (pre.flatMap Tk.cells)) ∧ pre.length ≤ k ∧ Below w3.heap.size w3 wr)
  case atStart => exact ⟨0, [], Nat.zero_le _, by omega, rfl, hide rfl, hide (World.ownsRow_nil _ _ _ _), Nat.zero_le _, Below.refl _ _⟩
  case round =>
    obtain ⟨k, pre, hk, hg, rfl, hpre, hown, hpk, hb⟩ := hrel
    have hsr := hs3.below hb
    have d0 := hsr.c0
    have d1 := hsr.c1
    go_wp2_with fail
    refine (nextG_ok a1 n c1 cl l k wr (hrow.below hsr.bel) hn hk hp ha1).mono ?_
    rintro e w5 ⟨rfl, b5⟩
    have htl := tkG_le l cl k (by rw [hrow.len]; exact hk)
    rw [hrow.len] at htl
    obtain ⟨hfr, hto, hprog⟩ := htl
    have hln := hide (show (tkG l cl k).ln = (mem.posT l (tkG l cl k).fr).1 ∧ (tkG l cl k).co = (mem.posT l (tkG l cl k).fr).2 from ⟨rfl, rfl⟩)
    obtain ⟨t, ht⟩ : ∃ t, t = tkG l cl k := ⟨_, rfl⟩
    rw [← ht] at hfr hto hprog hln ⊢
    have Ht := hide ht
    clear ht d0 d1
    have b35 := hb.trans (b5.mono hb.size)
    have hcs : ∀ o, (w5.alloc o).cell? ⟨pb, t.fr * 2, none⟩ = some (.int .i64 t.ln) ∧ (w5.alloc o).cell? ⟨pb, t.fr * 2 + 1, none⟩ = some (.int .i64 t.co) := fun o => by
      have bA : Below w3.heap.size w3 (w5.alloc o) := b35.alloc b35.size o
      have h1 := (unhide hplc) t.fr (by omega)
      rw [bA.cell (p := ⟨pb, t.fr * 2, none⟩) hplt, bA.cell (p := ⟨pb, t.fr * 2 + 1, none⟩) hplt, (unhide hpc) (t.fr * 2) (by omega), (unhide hpc) (t.fr * 2 + 1) (by omega), (unhide hln).1, (unhide hln).2]
      exact h1
    have k0 := fun o => (hcs o).1
    have k1 := fun o => (hcs o).2
    clear hcs
    obtain ⟨it, zt, q1, q2, q3, q4, q5⟩ := infoTz
    have HQ := hide (And.intro q1 (And.intro q2 (And.intro q3 (And.intro q4 q5))))
    clear q1 q2 q3 q4 q5
    have hown6 := hide (fun o => World.ownsRow.alloc (mem.own_below (unhide hown) b5) o)
    have hbyt := hide (show (pre.length + 1) * 72 ≤ 140737488355328 ∧ pre.length + 1 ≤ maxLen from ⟨by omega, by unfold maxLen; omega⟩)
    have hsz6 := hide (fun o => show w3.heap.size ≤ (w5.alloc o).heap.size from by have := b35.size; simp; omega)
    have hone : Hid (∀ u ∈ [Value.int .i64 t.k, .int .i64 t.ln, .int .i64 t.co, .int .i64 t.fr, .int .i64 t.to, .string t.tx, .string t.va], u.oneCell' = true) := hide (by intro u hu; simp at hu; rcases hu with rfl | rfl | rfl | rfl | rfl | rfl | rfl <;> rfl)
    have HB := hide b35
    have hne := hide (show u7.ownBlock ≠ some w5.heap.size from fun e => by have := ((unhide hown).lt _ e).2; have := b5.size; omega)
    have Hpk := hide hpk
    have Hk := hide hk
    clear b35 hk hpk
    by_cases hk0 : t.k = 0
    · have e0 : (t.k == 0) = true := by simpa using hk0
      have Hend := hide (show t.k = 0 ∨ t.k = 1 from .inl hk0)
      clear hk0
      go_wp2_with (first
        | (at_builtin; refine dt.wp_snoc (by rfl) _ _ (by rfl) Tryz.underlying41 (unhide HQ).1 (unhide HQ).2.1 (unhide HQ).2.2.1 (unhide HQ).2.2.2.1 (unhide HQ).2.2.2.2 (by omega) w3.heap.size pre.length (pre.flatMap Tk.cells) _ (by rfl) ((unhide hown6) _) [.int .i64 t.k, .int .i64 t.ln, .int .i64 t.co, .int .i64 t.fr, .int .i64 t.to, .string t.tx, .string t.va] (by rfl) (unhide hone) (w5.heap.size + 1) (by simp) (by rfl) (unhide hbyt).1 (unhide hbyt).2 ((unhide hsz6) _) ?_; intro sl' w7 hr7 b7 hold7 hat7; have T7 := (hold7 w5.heap.size (by simp) (unhide hne)).trans (heap_alloc_new _ _); have f0 : w7.cell? ⟨w5.heap.size, 0, none⟩ = some (.int .i64 t.k) := (dt.cell_cells T7 0).trans rfl; have f4 : w7.cell? ⟨w5.heap.size, 4, none⟩ = some (.int .i64 t.to) := (dt.cell_cells T7 4).trans rfl; clear T7; have R7 := hide hr7; clear hr7; have B7 := hide b7; clear b7 hold7 hat7))
      go_ret
      exact tokensG_end hn (unhide Hend) (unhide hpre) (unhide Ht) (unhide R7) (b1.trans ((hs3.bel.trans (((unhide HB).alloc (unhide HB).size _).mono (Nat.le_of_lt hs3.lt))).mono b1.size)) (unhide B7) (Nat.le_trans b1.size (Nat.le_of_lt hs3.lt))
    by_cases hk1 : t.k = 1
    · have e0 : (t.k == 0) = false := by simpa using hk0
      have e1 : (t.k == 1) = true := by simpa using hk1
      have Hend := hide (show t.k = 0 ∨ t.k = 1 from .inr hk1)
      clear hk0 hk1
      go_wp2_with (first
        | (at_builtin; refine dt.wp_snoc (by rfl) _ _ (by rfl) Tryz.underlying41 (unhide HQ).1 (unhide HQ).2.1 (unhide HQ).2.2.1 (unhide HQ).2.2.2.1 (unhide HQ).2.2.2.2 (by omega) w3.heap.size pre.length (pre.flatMap Tk.cells) _ (by rfl) ((unhide hown6) _) [.int .i64 t.k, .int .i64 t.ln, .int .i64 t.co, .int .i64 t.fr, .int .i64 t.to, .string t.tx, .string t.va] (by rfl) (unhide hone) (w5.heap.size + 1) (by simp) (by rfl) (unhide hbyt).1 (unhide hbyt).2 ((unhide hsz6) _) ?_; intro sl' w7 hr7 b7 hold7 hat7; have T7 := (hold7 w5.heap.size (by simp) (unhide hne)).trans (heap_alloc_new _ _); have f0 : w7.cell? ⟨w5.heap.size, 0, none⟩ = some (.int .i64 t.k) := (dt.cell_cells T7 0).trans rfl; have f4 : w7.cell? ⟨w5.heap.size, 4, none⟩ = some (.int .i64 t.to) := (dt.cell_cells T7 4).trans rfl; clear T7; have R7 := hide hr7; clear hr7; have B7 := hide b7; clear b7 hold7 hat7))
      go_ret
      exact tokensG_end hn (unhide Hend) (unhide hpre) (unhide Ht) (unhide R7) (b1.trans ((hs3.bel.trans (((unhide HB).alloc (unhide HB).size _).mono (Nat.le_of_lt hs3.lt))).mono b1.size)) (unhide B7) (Nat.le_trans b1.size (Nat.le_of_lt hs3.lt))
    · have e0 : (t.k == 0) = false := by simpa using hk0
      have e1 : (t.k == 1) = false := by simpa using hk1
      have Hend := hide (show ¬ (t.k = 0 ∨ t.k = 1) from fun e => by rcases e with e | e; exact hk0 e; exact hk1 e)
      have hto2 : k < t.to := by
        rcases hprog with e | e | e
        · exact absurd e hk0
        · exact absurd e hk1
        · exact e
      clear hk0 hk1 hprog
      go_wp2_with (first
        | (at_builtin; refine dt.wp_snoc (by rfl) _ _ (by rfl) Tryz.underlying41 (unhide HQ).1 (unhide HQ).2.1 (unhide HQ).2.2.1 (unhide HQ).2.2.2.1 (unhide HQ).2.2.2.2 (by omega) w3.heap.size pre.length (pre.flatMap Tk.cells) _ (by rfl) ((unhide hown6) _) [.int .i64 t.k, .int .i64 t.ln, .int .i64 t.co, .int .i64 t.fr, .int .i64 t.to, .string t.tx, .string t.va] (by rfl) (unhide hone) (w5.heap.size + 1) (by simp) (by rfl) (unhide hbyt).1 (unhide hbyt).2 ((unhide hsz6) _) ?_; intro sl' w7 hr7 b7 hold7 hat7; have T7 := (hold7 w5.heap.size (by simp) (unhide hne)).trans (heap_alloc_new _ _); have f0 : w7.cell? ⟨w5.heap.size, 0, none⟩ = some (.int .i64 t.k) := (dt.cell_cells T7 0).trans rfl; have f4 : w7.cell? ⟨w5.heap.size, 4, none⟩ = some (.int .i64 t.to) := (dt.cell_cells T7 4).trans rfl; clear T7; have R7 := hide hr7; clear hr7; have B7 := hide b7; clear b7 hold7 hat7))
      go_roundg (gk - 1)
      case rel =>
        refine ⟨t.to, pre ++ [t], hto, by omega, rfl, hide ?_, hide ?_, ?_, ?_⟩
        · have e := tksG_go (l := l) (i := k) (by rw [hrow.len]; exact unhide Hk) (by rw [← unhide Ht]; exact unhide Hend)
          rw [← unhide Ht] at e
          rw [← unhide hpre, e]
          simp
        · have := unhide R7
          rw [List.flatMap_append, List.length_append]
          simpa [Tk.cells] using this
        · have := unhide Hpk
          rw [List.length_append]
          show pre.length + 1 ≤ t.to
          omega
        · exact ((unhide HB).alloc (unhide HB).size _).trans (unhide B7)
      case measure => omega
end Go.Proofs.YtmhelpocddndjaaGreat.lx
namespace Go.Proofs.YtmhelpocddndjaaGreat.cu
open Go.ChangeShapes Go.WideShapes Go.ChangeAt Go.RowKit
open ints (hide unhide)
open dt (Dt Kp RowAt)
open mem (Row)
set_option linter.unusedVariables false
set_option linter.unusedSimpArgs false
def newG (z : List Int) (d : Int) : Cu := ⟨lx.toks z, 0, 0, mostS d, 0⟩
theorem tksG_more (l : List Int) (cl : Bool) : ∀ (f i : Nat), i ≤ l.length → l.length < f + i → ∀ j t, (lx.tksGF l cl f i)[j]? = some t → t.k = 0 ∨ t.k = 1 ∨ j + 1 < (lx.tksGF l cl f i).length
  | 0, i, hi, hf, j, t, h => by simp [lx.tksGF] at h
  | f + 1, i, hi, hf, j, t, h => by
    by_cases he : (lx.tkG l cl i).k = 0 ∨ (lx.tkG l cl i).k = 1
    · rw [lx.tksGF, if_pos he] at h
      cases j with
      | zero => simp at h; subst h; rcases he with e | e; exact .inl e; exact .inr (.inl e)
      | succ j => simp at h
    · rw [lx.tksGF, if_neg he] at h ⊢
      have h2 := lx.tkG_le l cl i hi
      have h3 : i < (lx.tkG l cl i).to := by
        rcases h2.2.2 with e | e | e
        · exact absurd (.inl e) he
        · exact absurd (.inr e) he
        · exact e
      cases j with
      | zero =>
        right; right
        cases f with
        | zero => omega
        | succ f =>
          rw [lx.tksGF]
          split <;> simp
      | succ j =>
        have := tksG_more l cl f (lx.tkG l cl i).to h2.2.1 (by omega) j t (by simpa using h)
        simpa using this
theorem tksGF_len (l : List Int) (cl : Bool) : ∀ (f i : Nat), i ≤ l.length → (lx.tksGF l cl f i).length ≤ l.length + 1 - i
  | 0, i, hi => by simp [lx.tksGF]
  | f + 1, i, hi => by
    by_cases he : (lx.tkG l cl i).k = 0 ∨ (lx.tkG l cl i).k = 1
    · rw [lx.tksGF, if_pos he]; simp; omega
    · rw [lx.tksGF, if_neg he]
      have h2 := lx.tkG_le l cl i hi
      have h3 : i < (lx.tkG l cl i).to := by
        rcases h2.2.2 with e | e | e
        · exact absurd (.inl e) he
        · exact absurd (.inr e) he
        · exact e
      have := tksGF_len l cl f (lx.tkG l cl i).to h2.2.1
      simp
      omega
theorem tksG_pos (l : List Int) (cl : Bool) (i : Nat) : 0 < (lx.tksG l cl i).length := by
  unfold lx.tksG
  rw [lx.tksGF]
  split <;> simp
theorem newG_ok' (z : List Int) (d : Int) : (newG z d).Ok :=
  ⟨tksG_pos _ _ 0, tksG_more (lx.chs z) (lx.cln z) ((lx.chs z).length + 1) 0 (Nat.zero_le _) (by omega), Nat.zero_le _, by unfold newG mostS; simp only; omega⟩
theorem toks_len (z : List Int) (hz : mem.Byt z) : (lx.toks z).length ≤ z.length + 1 := by
  have h1 := tksGF_len (lx.chs z) (lx.cln z) ((lx.chs z).length + 1) 0 (Nat.zero_le _)
  have h2 := Nat.le_trans (mem.decZ_len z hz) (mem.decZ_le z hz)
  show (lx.tksGF (lx.chs z) (lx.cln z) ((lx.chs z).length + 1) 0).length ≤ _
  have h3 : (lx.chs z).length ≤ z.length := h2
  omega
theorem newG_ok (a : Option Addr) (n c : Nat) (l : List Int) (d : Int) (w : World) (h : Row .u8 w a n c l) (hn : n ≤ 1099511627776) (hz : mem.Byt l) (hd : (Lit.int .i64 d).wf = true) :
    Calls Tryz.prog 11 #[.slice a n c, .int .i64 d] w fun e w' => ∃ B p, e = .returned (ptr B) ∧ w.heap.size ≤ B ∧ w.heap.size ≤ p ∧ CurAt w' B p (newG l d) ∧ Below w.heap.size w w' := by
  have hT := hide (fun W (bb : Below w.heap.size w W) => lx.tokensG_ok a n c l W (h.below bb) hn hz)
  have hok := hide (newG_ok' l d)
  have hlen := toks_len l hz
  rw [h.len] at hlen
  go_enter Tryz.func11, Tryz.ntmps11
  go_wp2_with fail
  refine ((unhide hT) w (Below.refl _ _)).mono ?_
  rintro e w1 ⟨p, cap, rfl, hp1, hp2, hrows, b1⟩
  have HR := hide hrows
  clear hT hrows
  go_wp2_with fail
  go_ret
  have hmo : (max 0 (min d 200)) = ((mostS d : Nat) : Int) := by unfold mostS; omega
  rw [hmo]
  have bX : ∀ o, Below w1.heap.size w1 (w1.alloc o) := fun o => (Below.refl _ _).alloc (Nat.le_refl _) _
  refine ⟨w1.heap.size, p, rfl, b1.size, hp1, ⟨unhide hok, ?_, cap, heap_alloc_new w1 _, by omega, ?_, fun i t ht => ((unhide HR) i t ht).below (bX _)⟩, b1.alloc b1.size _⟩
  · show (lx.toks l).length ≤ _
    omega
  · simp; omega
end Go.Proofs.YtmhelpocddndjaaGreat.cu
namespace Go.Proofs.YtmhelpocddndjaaGreat.cu
open Go.ChangeShapes Go.WideShapes Go.ChangeAt Go.RowKit
open ints (hide unhide)
open dt (Dt Kp RowAt Ow Grow)
open mem (Row)
set_option linter.unusedVariables false
set_option linter.unusedSimpArgs false
def readLG (l : List Int) (ct : Bool) (d : Int) : Option Dt × Cu :=
  if (litF ct (lx.toks l).length (newG l d)).1.isSome then (if (litF ct (lx.toks l).length (newG l d)).2.finB then (litF ct (lx.toks l).length (newG l d)).1 else none, (litF ct (lx.toks l).length (newG l d)).2.fin) else (none, (litF ct (lx.toks l).length (newG l d)).2)
end Go.Proofs.YtmhelpocddndjaaGreat.cu
namespace Go.Proofs.YtmhelpocddndjaaGreat.lx
open mem (pfx digB digs digAt isAt bWhole bPart bPoint bMark pfxFirst pfxR posT enB prB)
open cu (Tk)
set_option linter.unusedVariables false
set_option linter.unusedSimpArgs false
/-- what stands behind a token makes no difference: l and l' agree up to T, and a line feed stands there in l' -/
structure Loc (l l' : List Int) (T : Nat) : Prop where
  tk : l'.take T = l.take T
  le : T ≤ l.length
  nl : cAt l' T = 10
section
variable {l l' : List Int} {T : Nat} (H : Loc l l' T)
include H
theorem Loc.lt : T < l'.length := cAt_lt H.nl (by decide)
theorem Loc.get {i : Nat} (hi : i < T) : l'[i]? = l[i]? := by
  have h1 : (l'.take T)[i]? = (l.take T)[i]? := by rw [H.tk]
  rwa [List.getElem?_take, List.getElem?_take, if_pos hi, if_pos hi] at h1
theorem Loc.getD {i : Nat} (hi : i < T) : l'.getD i 0 = l.getD i 0 := by
  rw [List.getD_eq_getElem?_getD, List.getD_eq_getElem?_getD, H.get hi]
theorem Loc.at_ {i : Nat} (hi : i < T) : cAt l' i = cAt l i := by
  have := H.lt
  have := H.le
  rw [cAt_in (by omega), cAt_in (by omega), H.getD hi]
theorem ign_loc : ∀ (n : Nat) (b : Bool) (i : Nat), T ≤ i + n → ign l b i < T → ign l' b i = ign l b i
  | 0, b, i, h, h2 => by have := (ign_le l b i).1; omega
  | n + 1, b, i, h, h2 => by
    have hi : i < T := Nat.lt_of_le_of_lt (ign_le l b i).1 h2
    have hc := H.at_ hi
    cases b with
    | false =>
      rw [ign_f l i] at h2 ⊢
      rw [ign_f l' i, hc]
      split
      · rename_i h3; rw [if_pos h3] at h2; exact ign_loc n false (i + 1) (by omega) h2
      · rename_i h3; rw [if_neg h3] at h2
        split
        · rename_i h4; rw [if_pos h4] at h2; exact ign_loc n true (i + 1) (by omega) h2
        · rfl
    | true =>
      rw [ign_t l i] at h2 ⊢
      rw [ign_t l' i, hc]
      split
      · rename_i h3; rw [if_pos h3] at h2; exact ign_loc n false (i + 1) (by omega) h2
      · rename_i h3; rw [if_neg h3] at h2
        split
        · rename_i h4; rw [if_pos h4] at h2; exact ign_loc n true (i + 1) (by omega) h2
        · rfl
theorem nam_loc : ∀ (n : Nat) (i : Nat), T + 1 ≤ i + n → nam l i ≤ T → nam l' i = nam l i
  | 0, i, h, h2 => by have := (nam_le l i).1; omega
  | n + 1, i, h, h2 => by
    have hi : i ≤ T := Nat.le_trans (nam_le l i).1 h2
    by_cases e : i = T
    · subst e
      have h3 : nam l i = i := Nat.le_antisymm h2 (nam_le l i).1
      rw [h3, nam_eq l' i, H.nl]
      rfl
    · have hc := H.at_ (i := i) (by omega)
      rw [nam_eq l i] at h2 ⊢
      rw [nam_eq l' i, hc]
      split
      · rename_i h3; rw [if_pos h3] at h2; exact nam_loc n (i + 1) (by omega) h2
      · rfl
omit H in
theorem digAt_c (l : List Int) (p : Nat) : digAt l p = digB (cAt l p) := by
  unfold digAt cAt
  by_cases h : p < l.length
  · simp [h]
  · simp [h, digB]
omit H in
theorem isAt_c (l : List Int) (p : Nat) (c : Int) (hc : c ≠ -1) : isAt l p c = decide (cAt l p = c) := by
  unfold isAt cAt
  by_cases h : p < l.length
  · simp [h, BEq.beq]
  · simp [h]; exact fun e => hc e.symm
omit H in
theorem digs_eq (l : List Int) (p : Nat) : digs l p = if digAt l p then digs l (p + 1) else p := by
  cases h : digAt l p
  · rw [mem.digs_no h]; rfl
  · rw [mem.digs_yes h]; rfl
theorem digs_loc : ∀ (n : Nat) (i : Nat), T + 1 ≤ i + n → digs l i ≤ T → digs l' i = digs l i
  | 0, i, h, h2 => by have := (mem.digs_le l i).1; omega
  | n + 1, i, h, h2 => by
    have hi : i ≤ T := Nat.le_trans (mem.digs_le l i).1 h2
    by_cases e : i = T
    · subst e
      have h3 : digs l i = i := Nat.le_antisymm h2 (mem.digs_le l i).1
      rw [h3, digs_eq l' i, digAt_c, H.nl]
      rfl
    · have hc := H.at_ (i := i) (by omega)
      rw [digs_eq l i] at h2 ⊢
      rw [digs_eq l' i, digAt_c, digAt_c, hc]
      rw [digAt_c] at h2
      split
      · rename_i h3; rw [if_pos h3] at h2; exact digs_loc n (i + 1) (by omega) h2
      · rfl
theorem pfxR_loc {e : Nat} (he : (pfxR l e).1 ≤ T) (h46 : cAt l (pfxR l e).1 ≠ 46) (hnr : nrB (cAt l (pfxR l e).1) = false) : pfxR l' e = pfxR l e := by
  have hge : ∀ g, g ≤ (bPart l g (bMark l g)).1 := fun g => bPart_ge l g _ (by unfold bMark; split; omega; split <;> omega)
  have hpp : e ≤ bPoint l e := by unfold bPoint; split <;> omega
  have hb := bPart_ge l e (bPoint l e) hpp
  have hR : (bPart l e (bPoint l e)).1 ≤ (pfxR l e).1 := by
    unfold pfxR
    split
    · exact hge _
    · exact Nat.le_refl _
  have heT : e ≤ T := by omega
  have h46b : ∀ p, isAt l p 46 = decide (cAt l p = 46) := fun p => isAt_c l p 46 (by decide)
  have h46c : ∀ p, isAt l' p 46 = decide (cAt l' p = 46) := fun p => isAt_c l' p 46 (by decide)
  -- the point
  have hpt : bPoint l' e = bPoint l e := by
    unfold bPoint
    rw [h46b, h46c]
    by_cases h1 : e < T
    · rw [H.at_ h1]
    · have h2 : e = T := by omega
      have h3 : (pfxR l e).1 = e := by omega
      rw [h3] at h46
      rw [h2, H.nl, ← h2]
      simp [h46]
  -- the fraction
  have hfr : bPart l' e (bPoint l e) = bPart l e (bPoint l e) ∧ (bPart l e (bPoint l e)).1 = (bPart l e (bPoint l e)).2 := by
    by_cases h1 : bPoint l e = e
    · unfold bPart
      rw [if_pos h1, if_pos h1]
      exact ⟨rfl, rfl⟩
    · by_cases h2 : digs l (bPoint l e) = bPoint l e
      · exfalso
        have h3 : bPart l e (bPoint l e) = (e, digs l (bPoint l e)) := by unfold bPart; rw [if_neg h1, if_pos h2]
        have h4 : pfxR l e = (e, digs l (bPoint l e)) := by
          unfold pfxR
          rw [h3]
          simp only
          rw [if_neg (by rw [h2]; exact fun e' => h1 e'.symm)]
        rw [h4] at h46
        apply h46
        unfold bPoint at h1
        cases h5 : isAt l e 46
        · rw [h5] at h1; exact absurd rfl h1
        · rw [h46b] at h5; simpa using h5
      · have h3 : bPart l e (bPoint l e) = (digs l (bPoint l e), digs l (bPoint l e)) := by unfold bPart; rw [if_neg h1, if_neg h2]
        rw [h3] at hR
        have h4 := digs_loc H (T + 1) (bPoint l e) (by omega) (by simp only at hR; omega)
        refine ⟨?_, by rw [h3]⟩
        rw [h3]
        unfold bPart
        rw [if_neg h1, h4, if_neg h2]
  obtain ⟨g, hg⟩ : ∃ g, g = (bPart l e (bPoint l e)).1 := ⟨_, rfl⟩
  have hRe : pfxR l e = bPart l g (bMark l g) := by unfold pfxR; rw [if_pos hfr.2, ← hg]
  have hRe' : pfxR l' e = bPart l' g (bMark l' g) := by unfold pfxR; rw [hpt, hfr.1, if_pos hfr.2, ← hg]
  rw [← hg] at hR
  have he1 : ∀ p, isAt l p 101 = decide (cAt l p = 101) := fun p => isAt_c l p 101 (by decide)
  have he2 : ∀ p, isAt l p 69 = decide (cAt l p = 69) := fun p => isAt_c l p 69 (by decide)
  have he1' : ∀ p, isAt l' p 101 = decide (cAt l' p = 101) := fun p => isAt_c l' p 101 (by decide)
  have he2' : ∀ p, isAt l' p 69 = decide (cAt l' p = 69) := fun p => isAt_c l' p 69 (by decide)
  rw [hRe', hRe]
  by_cases hm : isAt l g 101 = false ∧ isAt l g 69 = false
  · have hm' : isAt l' g 101 = false ∧ isAt l' g 69 = false := by
      by_cases h1 : g < T
      · rw [he1', he2', H.at_ h1, ← he1, ← he2]; exact hm
      · have h2 : g = T := by omega
        rw [he1', he2', h2, H.nl]
        decide
    have e1 : bMark l g = g := by unfold bMark; rw [if_pos hm]
    have e2 : bMark l' g = g := by unfold bMark; rw [if_pos hm']
    rw [e1, e2]
    unfold bPart
    rw [if_pos rfl, if_pos rfl]
  · have hc : cAt l g = 101 ∨ cAt l g = 69 := by
      rw [he1, he2] at hm
      simp only [decide_eq_false_iff_not] at hm
      by_cases h : cAt l g = 101
      · exact .inl h
      · exact .inr (Classical.not_not.1 (fun h' => hm ⟨h, h'⟩))
    have hgn : nrB (cAt l g) = true := by rcases hc with h | h <;> rw [h] <;> decide
    have hne : g ≠ (pfxR l e).1 := fun e' => by rw [← e', hgn] at hnr; cases hnr
    have hgT : g < T := by omega
    have hk : bMark l g = g + 1 ∨ bMark l g = g + 2 := by unfold bMark; rw [if_neg hm]; split; exact .inr rfl; exact .inl rfl
    have hkg : bMark l g ≠ g := by omega
    by_cases hd : digs l (bMark l g) = bMark l g
    · exfalso
      have : bPart l g (bMark l g) = (g, digs l (bMark l g)) := by unfold bPart; rw [if_neg hkg, if_pos hd]
      rw [hRe, this] at hne
      exact hne rfl
    · have h3 : bPart l g (bMark l g) = (digs l (bMark l g), digs l (bMark l g)) := by unfold bPart; rw [if_neg hkg, if_neg hd]
      rw [hRe, h3] at he
      simp only at he
      have h5 := (mem.digs_le l (bMark l g)).1
      have hg1 : g + 1 < T := by omega
      have hs1 : ∀ c : Int, c ≠ -1 → isAt l' (g + 1) c = isAt l (g + 1) c := fun c hc => by rw [isAt_c _ _ _ hc, isAt_c _ _ _ hc, H.at_ hg1]
      have hmk : bMark l' g = bMark l g := by
        unfold bMark
        rw [he1', he2', H.at_ hgT, ← he1, ← he2, hs1 43 (by decide), hs1 45 (by decide)]
      have h4 := digs_loc H (T + 1) (bMark l g) (by omega) he
      rw [hmk, h3]
      unfold bPart
      rw [if_neg hkg, h4, if_neg hd]
theorem pfx_loc {p : Nat} (hf : (pfx l p).2.2 ≠ 0) (ht : (pfx l p).1 ≤ T) (h46 : cAt l (pfx l p).1 ≠ 46) (hnr : nrB (cAt l (pfx l p).1) = false) : pfx l' p = pfx l p := by
  have hw : ¬ bWhole l (pfxFirst l p) = pfxFirst l p := fun e => hf (by unfold pfx; rw [if_pos e])
  have hpx : pfx l p = ((pfxR l (bWhole l (pfxFirst l p))).1, (pfxR l (bWhole l (pfxFirst l p))).2, if (pfxR l (bWhole l (pfxFirst l p))).1 > bWhole l (pfxFirst l p) then 2 else 1) := by unfold pfx; rw [if_neg hw]
  rw [hpx] at ht h46 hnr
  simp only at ht h46 hnr
  have hge : ∀ g, g ≤ (bPart l g (bMark l g)).1 := fun g => bPart_ge l g _ (by unfold bMark; split; omega; split <;> omega)
  have hR : bWhole l (pfxFirst l p) ≤ (pfxR l (bWhole l (pfxFirst l p))).1 := by
    have hpp : ∀ e, e ≤ bPoint l e := fun e => by unfold bPoint; split <;> omega
    have hb := fun e => bPart_ge l e (bPoint l e) (hpp e)
    unfold pfxR
    split
    · exact Nat.le_trans (hb _) (hge _)
    · exact hb _
  have hwl : pfxFirst l p ≤ bWhole l (pfxFirst l p) := by
    unfold bWhole
    split
    · omega
    · exact (mem.digs_le l _).1
  have hfp : p ≤ pfxFirst l p := by unfold pfxFirst; split <;> omega
  have hpT : p < T := by omega
  have hfT : pfxFirst l p < T := by omega
  have hfi : pfxFirst l' p = pfxFirst l p := by unfold pfxFirst; rw [isAt_c _ _ _ (by decide), isAt_c _ _ _ (by decide), H.at_ hpT]
  have hwe : bWhole l' (pfxFirst l p) = bWhole l (pfxFirst l p) := by
    unfold bWhole
    rw [isAt_c _ _ _ (by decide), isAt_c _ _ _ (by decide), H.at_ hfT]
    split
    · rfl
    · rename_i h0
      refine digs_loc H (T + 1) _ (by omega) ?_
      have : bWhole l (pfxFirst l p) = digs l (pfxFirst l p) := by unfold bWhole; rw [isAt_c _ _ _ (by decide), if_neg h0]
      omega
  have hre := pfxR_loc H ht h46 hnr
  rw [hpx]
  unfold pfx
  rw [hfi, hwe, if_neg hw, hre]
theorem num_loc {i : Nat} (hk : (num l i).1 ≠ 1) (ht : (num l i).2 ≤ T) : num l' i = num l i := by
  have hc : ¬ (cAt l (pfx l i).1 = 46 ∨ nrB (cAt l (pfx l i).1) = true) := fun e => hk (by unfold num; rw [if_pos e])
  have h46 : cAt l (pfx l i).1 ≠ 46 := fun e => hc (.inl e)
  have hnr : nrB (cAt l (pfx l i).1) = false := by
    cases h : nrB (cAt l (pfx l i).1)
    · rfl
    · exact absurd (.inr h) hc
  have hf : (pfx l i).2.2 = 1 ∨ (pfx l i).2.2 = 2 := by
    by_cases h1 : (pfx l i).2.2 = 1
    · exact .inl h1
    · by_cases h2 : (pfx l i).2.2 = 2
      · exact .inr h2
      · exact absurd (by unfold num; rw [if_neg hc, if_neg h1, if_neg h2]) hk
  have ht2 : (pfx l i).1 ≤ T := by
    unfold num at ht
    rw [if_neg hc] at ht
    rcases hf with h | h
    · rw [if_pos h] at ht; exact ht
    · rw [if_neg (by rw [h]; decide), if_pos h] at ht; exact ht
  have he := pfx_loc H (by rcases hf with h | h <;> rw [h] <;> decide) ht2 h46 hnr
  have hc' : ¬ (cAt l' (pfx l i).1 = 46 ∨ nrB (cAt l' (pfx l i).1) = true) := by
    by_cases h1 : (pfx l i).1 < T
    · rw [H.at_ h1]; exact hc
    · have h2 : (pfx l i).1 = T := by omega
      rw [h2, H.nl]
      decide
  unfold num
  rw [he, if_neg hc, if_neg hc']
theorem insZ_loc {p i : Nat} (hi : i ≤ T) : insZ l' p i = insZ l p i := by
  unfold insZ
  have e : ∀ m : List Int, (m.drop p).take (i - p) = ((m.take T).drop p).take (i - p) := fun m => by
    rw [List.drop_take, List.take_take, Nat.min_eq_left (by omega)]
  rw [e l', e l, H.tk]
theorem tq_loc {i : Nat} (hi : i + 2 < T) : tq l' i = tq l i := by
  unfold tq
  rw [H.at_ (by omega), H.at_ (by omega), H.at_ hi]
theorem endB_loc : ∀ (k j i : Nat), endB l k j = some i → i + 3 ≤ T → ∀ k', i < j + k' → endB l' k' j = some i
  | 0, j, i, h, _, _, _ => by cases h
  | k + 1, j, i, h, hT, k', hk' => by
    have hle := endB_le l _ _ _ h
    cases k' with
    | zero => omega
    | succ k' =>
      unfold endB at h ⊢
      rw [tq_loc H (by omega)]
      split at h
      · rename_i ht; rw [if_pos ht]; exact h
      rename_i ht; rw [if_neg ht]
      have hji : j < i := by
        rcases Nat.lt_or_ge j i with h1 | h1
        · exact h1
        · exfalso
          have : j = i := by omega
          rw [this] at ht
          exact ht hle.2
      rw [H.at_ (by omega), tq_loc H (by omega)]
      split at h
      · rename_i h2; rw [if_pos h2]; exact endB_loc k _ i h hT k' (by omega)
      rename_i h2; rw [if_neg h2]
      split at h
      · cases h
      · rename_i h3; rw [if_neg h3]; exact endB_loc k _ i h hT k' (by omega)
theorem endQ_loc : ∀ (k j i : Nat), endQ l k j = some i → i + 1 ≤ T → ∀ k', i < j + k' → endQ l' k' j = some i
  | 0, j, i, h, _, _, _ => by cases h
  | k + 1, j, i, h, hT, k', hk' => by
    have hle := endQ_le l _ _ _ h
    cases k' with
    | zero => omega
    | succ k' =>
      unfold endQ at h ⊢
      rw [H.at_ (by omega)]
      split at h
      · rename_i ht; rw [if_pos ht]; exact h
      rename_i ht; rw [if_neg ht]
      have hji : j < i := by
        rcases Nat.lt_or_ge j i with h1 | h1
        · exact h1
        · exfalso
          have : j = i := by omega
          rw [this] at ht
          exact ht hle.2
      rw [H.at_ (i := j + 1) (by omega)]
      split at h
      · rename_i h2
        rw [if_pos h2]
        split at h
        · cases h
        · rename_i h3; rw [if_neg h3]; exact endQ_loc k _ i h hT k' (by omega)
      rename_i h2; rw [if_neg h2]
      split at h
      · cases h
      · rename_i h3; rw [if_neg h3]; exact endQ_loc k _ i h hT k' (by omega)
theorem rdG_loc {cl cl' : Bool} {F : Nat} (hF : F ≤ l.length) (h0 : (rdG l cl F).1 ≠ 0) (h1 : (rdG l cl F).1 ≠ 1) (ht : (rdG l cl F).2.1 ≤ T) : rdG l' cl' F = rdG l cl F := by
  have hle := rdG_le l cl F hF
  have hFT : F < T := by rcases hle.2.2 with h | h | h; exact absurd h h0; exact absurd h h1; omega
  have hc := H.at_ hFT
  have hlt := H.lt
  have hn0 : ¬ (F = l.length ∧ cl = true) := fun e => h0 (by unfold rdG; rw [if_pos e])
  have hn0' : ¬ (F = l'.length ∧ cl' = true) := fun e => by omega
  unfold rdG at h0 h1 ht ⊢
  rw [if_neg hn0] at h0 h1 ht ⊢
  rw [if_neg hn0', hc]
  split
  · rename_i h46
    rw [if_pos h46] at h0 h1 ht
    by_cases hd : cAt l (F + 1) = 46 ∧ cAt l (F + 2) = 46
    · rw [if_pos hd] at ht
      simp only at ht
      rw [if_pos hd, H.at_ (by omega), H.at_ (by omega), if_pos hd]
    · rw [if_neg hd] at h1; exact absurd rfl h1
  rename_i h46
  rw [if_neg h46] at h0 h1 ht
  split
  · rfl
  rename_i hpu
  rw [if_neg hpu] at h0 h1 ht
  split
  · rename_i hns
    rw [if_pos hns] at ht
    simp only at ht
    rw [nam_loc H (T + 1) (F + 1) (by omega) ht]
  rename_i hns
  rw [if_neg hns] at h0 h1 ht
  split
  · rename_i hnu
    rw [if_pos hnu] at h1 ht
    simp only at h1 ht
    rw [num_loc H h1 ht]
  rename_i hnu
  rw [if_neg hnu] at h0 h1 ht
  by_cases htq : tq l F = true
  · rw [if_pos htq] at h1 ht
    have h3 := tq_len l F htq
    have key : ∃ i, endB l (l.length + 2) (F + 3) = some i := by
      unfold blc at h1
      cases e : endB l (l.length + 2) (F + 3) with
      | none => rw [e] at h1; exact absurd rfl h1
      | some i => exact ⟨i, rfl⟩
    obtain ⟨i, hi⟩ := key
    have hib := endB_le l _ _ _ hi
    have hto : (blc sv.bS l F).2.1 = i + 3 := by unfold blc; rw [hi]; rfl
    rw [hto] at ht
    have htq' : tq l' F = true := by rw [tq_loc H (by omega)]; exact htq
    rw [if_pos htq', if_pos htq]
    have he := endB_loc H _ _ _ hi ht (l'.length + 2) (by omega)
    unfold blc
    rw [he, hi]
    simp only [blcR]
    rw [insZ_loc H (by omega)]
  · rw [if_neg htq] at h0 h1 ht
    by_cases h34 : cAt l F = 34
    · rw [if_pos h34] at h1 ht
      have key : ∃ i r, endQ l (l.length + 2) (F + 1) = some i ∧ quo (insZ l (F + 1) i) = some r := by
        unfold qtd at h1
        cases e : endQ l (l.length + 2) (F + 1) with
        | none => rw [e] at h1; exact absurd rfl h1
        | some i =>
          rw [e] at h1
          simp only [qtdR] at h1
          cases e2 : quo (insZ l (F + 1) i) with
          | none => rw [e2] at h1; exact absurd rfl h1
          | some r => exact ⟨i, r, rfl, e2⟩
      obtain ⟨i, r, hi, hr⟩ := key
      have hib := endQ_le l _ _ _ hi
      have hto : (qtd l F).2.1 = i + 1 := by unfold qtd; rw [hi]; simp only [qtdR, hr]
      rw [hto] at ht
      have htq' : ¬ tq l' F = true := by
        intro e
        unfold tq at e htq
        have e := of_decide_eq_true e
        have h1' : cAt l (F + 1) = 34 := by rw [← H.at_ (by omega)]; exact e.2.1
        have hiF : i = F + 1 := by
          unfold endQ at hi
          rw [if_pos h1'] at hi
          exact (Option.some.inj hi).symm
        have h2' : cAt l' (F + 2) = 34 := e.2.2
        by_cases hT2 : F + 2 < T
        · rw [H.at_ hT2] at h2'
          exact htq (by simp [h34, h1', h2'])
        · have : F + 2 = T := by omega
          rw [this, H.nl] at h2'
          exact absurd h2' (by decide)
      rw [if_neg htq', if_neg htq, if_pos h34, if_pos h34]
      have he := endQ_loc H _ _ _ hi ht (l'.length + 2) (by omega)
      unfold qtd
      rw [he, hi]
      simp only [qtdR]
      rw [insZ_loc H (by omega)]
    · rw [if_neg h34] at h1; exact absurd rfl h1
theorem posT_loc : ∀ (k : Nat), k < T → posT l' k = posT l k
  | 0, _ => rfl
  | k + 1, hk => by
    have ih := posT_loc k (by omega)
    have h1 := H.lt
    have h2 := H.le
    have he : enB l' k = enB l k := by
      unfold enB prB
      rw [H.getD (by omega), H.getD (by omega)]
      simp [show k + 1 < l.length by omega, show k + 1 < l'.length by omega]
    simp only [posT, he, ih]
theorem tkG_loc {cl cl' : Bool} {i : Nat} (hi : i ≤ l.length) (h0 : (tkG l cl i).k ≠ 0) (h1 : (tkG l cl i).k ≠ 1) (ht : (tkG l cl i).to ≤ T) : tkG l' cl' i = tkG l cl i := by
  have hF := (ign_le l false i).2 hi
  have hle := rdG_le l cl (ign l false i) hF
  have hFT : ign l false i < T := by
    rcases hle.2.2 with h | h | h
    · exact absurd h h0
    · exact absurd h h1
    · exact Nat.lt_of_lt_of_le h ht
  have hg := ign_loc H T false i (by omega) hFT
  have hr := rdG_loc H (cl' := cl') hF h0 h1 ht
  unfold tkG
  rw [hg, hr, posT_loc H _ hFT]
  congr 1
  have e : ∀ m : List Int, m.take (rdG l cl (ign l false i)).2.1 = (m.take T).take (rdG l cl (ign l false i)).2.1 := fun m => by
    rw [List.take_take, Nat.min_eq_left (show (rdG l cl (ign l false i)).2.1 ≤ T from ht)]
  rw [e l', e l, H.tk]
/-- the tokens up to the one that ends at T or ahead of it -/
theorem tks_loc {cl cl' : Bool} : ∀ (m i : Nat) (t : Tk), i ≤ l.length → i ≤ T → (tksG l cl i)[m]? = some t → t.k ≠ 0 → t.k ≠ 1 → t.to ≤ T → (∀ q, q ≤ m → (tksG l' cl' i)[q]? = (tksG l cl i)[q]?) ∧ i < t.to
  | m, i, t, hi, hiT, hm, h0, h1, ht => by
    have hlt := H.lt
    have hle := tkG_le l cl i hi
    by_cases he : (tkG l cl i).k = 0 ∨ (tkG l cl i).k = 1
    · exfalso
      rw [tksG_end he] at hm
      cases m with
      | zero => simp at hm; subst hm; rcases he with e | e; exact h0 e; exact h1 e
      | succ m => simp at hm
    · have e0 : (tkG l cl i).k ≠ 0 := fun e => he (.inl e)
      have e1 : (tkG l cl i).k ≠ 1 := fun e => he (.inr e)
      have hgo := tksG_go hi he
      have hit : i < (tkG l cl i).to := by rcases hle.2.2 with h | h | h; exact absurd h e0; exact absurd h e1; exact h
      cases m with
      | zero =>
        rw [hgo] at hm
        simp at hm
        subst hm
        have hk := tkG_loc H (cl' := cl') hi e0 e1 ht
        refine ⟨fun q hq => ?_, hit⟩
        obtain rfl : q = 0 := by omega
        rw [hgo, tksG_go (l := l') (cl := cl') (by omega) (by rw [hk]; exact he), hk]
        rfl
      | succ m =>
        rw [hgo] at hm
        simp at hm
        have hrec := fun hT2 => tks_loc (cl := cl) (cl' := cl') m (tkG l cl i).to t hle.2.1 hT2 hm h0 h1 ht
        have htoT : (tkG l cl i).to ≤ T := by
          -- a later token ends further on
          have key : ∀ (m i : Nat) (t : Tk), i ≤ l.length → (tksG l cl i)[m]? = some t → t.k ≠ 0 → t.k ≠ 1 → i < t.to := by
            intro m
            induction m with
            | zero =>
              intro i t hi hm h0 h1
              have hle := tkG_le l cl i hi
              have h00 : (tksG l cl i)[0]? = some (tkG l cl i) := by
                by_cases he : (tkG l cl i).k = 0 ∨ (tkG l cl i).k = 1
                · rw [tksG_end he]; rfl
                · rw [tksG_go hi he]; rfl
              rw [h00] at hm
              obtain rfl := Option.some.inj hm
              rcases hle.2.2 with h | h | h
              · exact absurd h h0
              · exact absurd h h1
              · exact h
            | succ m ih =>
              intro i t hi hm h0 h1
              have hle := tkG_le l cl i hi
              by_cases he : (tkG l cl i).k = 0 ∨ (tkG l cl i).k = 1
              · rw [tksG_end he] at hm; simp at hm
              · rw [tksG_go hi he] at hm
                have := ih _ t hle.2.1 (by simpa using hm) h0 h1
                rcases hle.2.2 with h | h | h
                · exact absurd (.inl h) he
                · exact absurd (.inr h) he
                · omega
          have := key m (tkG l cl i).to t hle.2.1 hm h0 h1
          omega
        obtain ⟨hr1, hr2⟩ := hrec htoT
        have hk := tkG_loc H (cl' := cl') hi e0 e1 htoT
        refine ⟨fun q hq => ?_, by omega⟩
        rw [hgo, tksG_go (l := l') (cl := cl') (by omega) (by rw [hk]; exact he), hk]
        cases q with
        | zero => rfl
        | succ q =>
          simp only [List.getElem?_cons_succ]
          exact hr1 q (by omega)
end
end Go.Proofs.YtmhelpocddndjaaGreat.lx
namespace Go.Proofs.YtmhelpocddndjaaGreat.cu
open dt (Dt)
open mem (decF decZ putB scB Byt posT enB)
open lx (toks chs cln tksG tkG)
set_option linter.unusedVariables false
set_option linter.unusedSimpArgs false
theorem decF_app : ∀ (zs : List Int) (f : Nat) (r : List Int), zs.all scB = true → decF (zs.length + f) (zs.flatMap putB ++ r) = (zs ++ (decF f r).1, (zs.flatMap putB).length + (decF f r).2)
  | [], f, r, _ => by simp
  | c :: zs, f, r, h => by
    rw [List.all_cons, Bool.and_eq_true] at h
    have hc := (mem.scB_iff c).1 h.1
    have ho := mem.one_put c hc (zs.flatMap putB ++ r)
    have hn : 0 < (putB c).length := by unfold putB; split <;> (try split) <;> (try split) <;> simp
    rw [List.flatMap_cons, List.append_assoc, List.length_cons, show zs.length + 1 + f = (zs.length + f) + 1 by omega, mem.decF_go _ _ (by rw [ho]; simp only; omega), ho]
    simp only
    rw [show (putB c ++ (zs.flatMap putB ++ r)).drop (putB c).length = zs.flatMap putB ++ r by simp, decF_app zs f r h.2]
    simp
    omega
theorem decF_fuel : ∀ (f g : Nat) (l : List Int), l.length ≤ f → l.length ≤ g → decF f l = decF g l
  | 0, g, l, hf, hg => by
    have : l = [] := List.eq_nil_of_length_eq_zero (by omega)
    subst this
    rw [mem.decF_end _ _ (by decide), mem.decF_end _ _ (by decide)]
  | f + 1, 0, l, hf, hg => by
    have : l = [] := List.eq_nil_of_length_eq_zero (by omega)
    subst this
    rw [mem.decF_end _ _ (by decide), mem.decF_end _ _ (by decide)]
  | f + 1, g + 1, l, hf, hg => by
    by_cases h : (mem.oneL l).2 = 0
    · rw [mem.decF_end _ _ h, mem.decF_end _ _ h]
    · have := mem.oneL_le l
      rw [mem.decF_go _ _ h, mem.decF_go _ _ h, decF_fuel f g _ (by simp; omega) (by simp; omega)]
/-- a source's beginning, a line feed, and anything behind -/
def behind (l : List Int) (T : Nat) (tl : List Int) : List Int := (l.take T).flatMap putB ++ 10 :: tl
theorem chs_behind {l : List Int} (hl : ∀ x ∈ l, mem.scP x) (T : Nat) (tl : List Int) : chs (behind l T tl) = l.take T ++ 10 :: (decZ tl).1 := by
  have h1 : (l.take T ++ [10]).all scB = true := by
    rw [List.all_eq_true]
    intro x hx
    rw [mem.scB_iff]
    rcases List.mem_append.1 hx with h | h
    · exact hl x (List.mem_of_mem_take h)
    · simp at h; subst h; unfold mem.scP; omega
  have hp : putB 10 = [10] := mem.putB_1 (by omega)
  have e : behind l T tl = (l.take T ++ [10]).flatMap putB ++ tl := by
    unfold behind
    rw [List.flatMap_append]
    simp [hp]
  unfold chs decZ
  have hlen : (l.take T ++ [10]).length ≤ ((l.take T ++ [10]).flatMap putB).length := mem.flat_ge _
  rw [e, decF_fuel _ ((l.take T ++ [10]).length + ((l.take T ++ [10]).flatMap putB ++ tl).length) _ (Nat.le_refl _) (by omega), decF_app _ _ _ h1]
  simp only
  rw [decF_fuel _ tl.length tl (by rw [List.length_append]; omega) (Nat.le_refl _)]
  simp
theorem loc_behind {l : List Int} (hl : ∀ x ∈ l, mem.scP x) {T : Nat} (hT : T ≤ l.length) (tl : List Int) : lx.Loc l (chs (behind l T tl)) T := by
  rw [chs_behind hl]
  have h1 : (l.take T).length = T := by simp; omega
  refine ⟨?_, hT, ?_⟩
  · rw [List.take_append_of_le_length (by omega), List.take_of_length_le (by omega)]
  · rw [lx.cAt_in (by simp; omega), List.getD_eq_getElem?_getD, List.getElem?_append_right (by omega), h1, Nat.sub_self]
    rfl
theorem fin_ix (c : Cu) : c.fin.ix = c.ix ∧ c.fin.ts = c.ts := by
  unfold Cu.fin Cu.stop
  split
  · exact ⟨rfl, rfl⟩
  · split <;> exact ⟨rfl, rfl⟩
theorem readLG_ix (z : List Int) (ct : Bool) (d : Int) : (readLG z ct d).2.ix = (litF ct (toks z).length (newG z d)).2.ix ∧ Stp (newG z d) (readLG z ct d).2 ∧ Kd (readLG z ct d).2 := by
  have hg := (litF_goes ct (toks z).length (newG z d) (newG_ok' z d)).1
  have hk := litF_kd ct (toks z).length (newG z d) (.inl rfl)
  unfold readLG
  split
  · exact ⟨(fin_ix _).1, hg.trans (fin_stp hg.ok), fin_kd hk⟩
  · exact ⟨rfl, hg, hk⟩
/-- the fault stays -/
theorem stays (z : List Int) (hz : Byt z) (tl : List Int) (ct : Bool) (d : Int) (h0 : (readLG z ct d).2.tok.k ≠ 0) (h1 : (readLG z ct d).2.tok.k ≠ 1) :
    (readLG (behind (chs z) (readLG z ct d).2.tok.to tl) ct d).2.kd = (readLG z ct d).2.kd ∧ (readLG (behind (chs z) (readLG z ct d).2.tok.to tl) ct d).2.tok = (readLG z ct d).2.tok := by
  obtain ⟨hix, hst, _⟩ := readLG_ix z ct d
  obtain ⟨t, ht⟩ : ∃ t, t = (readLG z ct d).2.tok := ⟨_, rfl⟩
  obtain ⟨m, hm⟩ : ∃ m, m = (readLG z ct d).2.ix := ⟨_, rfl⟩
  have hget : (toks z)[m]? = some t := by
    have := (readLG z ct d).2.get hst.ok.lt
    rw [hst.ts, ← hm, ← ht] at this
    exact this
  rw [← ht] at h0 h1
  rw [← ht]
  have hto : t.to ≤ (chs z).length := by
    -- a token ends within the source
    have key : ∀ (q i : Nat) (t : Tk), i ≤ (chs z).length → (tksG (chs z) (cln z) i)[q]? = some t → t.to ≤ (chs z).length := by
      intro q
      induction q with
      | zero =>
        intro i t hi hq
        have hle := lx.tkG_le (chs z) (cln z) i hi
        by_cases he : (tkG (chs z) (cln z) i).k = 0 ∨ (tkG (chs z) (cln z) i).k = 1
        · rw [lx.tksG_end he] at hq; simp at hq; subst hq; exact hle.2.1
        · rw [lx.tksG_go hi he] at hq; simp at hq; subst hq; exact hle.2.1
      | succ q ih =>
        intro i t hi hq
        have hle := lx.tkG_le (chs z) (cln z) i hi
        by_cases he : (tkG (chs z) (cln z) i).k = 0 ∨ (tkG (chs z) (cln z) i).k = 1
        · rw [lx.tksG_end he] at hq; simp at hq
        · rw [lx.tksG_go hi he] at hq
          exact ih _ t hle.2.1 (by simpa using hq)
    exact key m 0 t (Nat.zero_le _) hget
  have H := loc_behind (lx.chs_sc hz) hto tl
  obtain ⟨z', hz'⟩ : ∃ z', z' = behind (chs z) t.to tl := ⟨_, rfl⟩
  rw [← hz'] at H ⊢
  have hloc := (lx.tks_loc H (cl := cln z) (cl' := cln z') m 0 t (Nat.zero_le _) (Nat.zero_le _) hget h0 h1 (Nat.le_refl _)).1
  have hS : Sim m (newG z d) (newG z' d) := ⟨rfl, rfl, rfl, rfl, hloc⟩
  obtain ⟨e1, e2⟩ := litF_near ct (toks z).length (toks z').length (newG z d) (newG z' d) (newG_ok' z d) (newG_ok' z' d) hS (Nat.le_add_right _ _) (Nat.le_add_right _ _) (by rw [← hix, ← hm]; exact Nat.le_refl _)
  have hlm : (litF ct (toks z).length (newG z d)).2.ix ≤ m := by rw [← hix, ← hm]; exact Nat.le_refl _
  have hR : Sim m (readLG z ct d).2 (readLG z' ct d).2 := by
    unfold readLG
    rw [e1]
    split
    · exact e2.fin hlm
    · exact e2
  exact ⟨hR.kd, by rw [hR.tok (by rw [← hm]; exact Nat.le_refl _), ht]⟩
/-- places tell tokens apart -/
theorem posT_up (l : List Int) : ∀ (k j : Nat), j < k → (posT l j).1 < (posT l k).1 ∨ ((posT l j).1 = (posT l k).1 ∧ (posT l j).2 < (posT l k).2)
  | 0, j, h => by omega
  | k + 1, j, h => by
    simp only [posT]
    by_cases e : j = k
    · subst e
      cases enB l j
      · right; simp; omega
      · left; simp; omega
    · have := posT_up l k j (by omega)
      cases enB l k
      · simp; omega
      · left; simp; omega
theorem posT_inj (l : List Int) {j k : Nat} (h : posT l j = posT l k) : j = k := by
  rcases Nat.lt_trichotomy j k with h1 | h1 | h1
  · have := posT_up l k j h1; rw [h] at this; omega
  · exact h1
  · have := posT_up l j k h1; rw [h] at this; omega
theorem tks_fr (l : List Int) (cl : Bool) : ∀ (q i : Nat) (t : Tk), i ≤ l.length → (tksG l cl i)[q]? = some t → i ≤ t.fr ∧ (t.ln, t.co) = posT l t.fr
  | 0, i, t, hi, h => by
    have h0 : (tksG l cl i)[0]? = some (tkG l cl i) := by
      by_cases he : (tkG l cl i).k = 0 ∨ (tkG l cl i).k = 1
      · rw [lx.tksG_end he]; rfl
      · rw [lx.tksG_go hi he]; rfl
    rw [h0] at h
    obtain rfl := Option.some.inj h
    exact ⟨(lx.ign_le l false i).1, rfl⟩
  | q + 1, i, t, hi, h => by
    have hle := lx.tkG_le l cl i hi
    by_cases he : (tkG l cl i).k = 0 ∨ (tkG l cl i).k = 1
    · rw [lx.tksG_end he] at h; simp at h
    · rw [lx.tksG_go hi he] at h
      have := tks_fr l cl q _ t hle.2.1 (by simpa using h)
      have hit : i < (tkG l cl i).to := by rcases hle.2.2 with h | h | h; exact absurd (.inl h) he; exact absurd (.inr h) he; exact h
      exact ⟨by omega, this.2⟩
theorem tks_fr_lt (l : List Int) (cl : Bool) : ∀ (q m i : Nat) (t u : Tk), i ≤ l.length → q < m → (tksG l cl i)[q]? = some t → (tksG l cl i)[m]? = some u → t.fr < u.fr
  | q, 0, i, t, u, hi, hqm, h, h' => by omega
  | q, m + 1, i, t, u, hi, hqm, h, h' => by
    have hle := lx.tkG_le l cl i hi
    by_cases he : (tkG l cl i).k = 0 ∨ (tkG l cl i).k = 1
    · rw [lx.tksG_end he] at h'; simp at h'
    · have hgo := lx.tksG_go hi he
      rw [hgo] at h h'
      cases q with
      | zero =>
        simp at h
        subst h
        have h2 := tks_fr l cl m _ u hle.2.1 (by simpa using h')
        have hr := lx.rdG_le l cl (lx.ign l false i) ((lx.ign_le l false i).2 hi)
        have : (tkG l cl i).fr < (tkG l cl i).to := by
          rcases hr.2.2 with h | h | h
          · exact absurd (.inl h) he
          · exact absurd (.inr h) he
          · exact h
        omega
      | succ q => exact tks_fr_lt l cl q m _ t u hle.2.1 (by omega) (by simpa using h) (by simpa using h')
theorem toks_at (z : List Int) {q m : Nat} {t u : Tk} (h : (toks z)[q]? = some t) (h' : (toks z)[m]? = some u) (e : t.ln = u.ln ∧ t.co = u.co) : q = m := by
  have h1 := (tks_fr _ _ q 0 t (Nat.zero_le _) h).2
  have h2 := (tks_fr _ _ m 0 u (Nat.zero_le _) h').2
  have h3 : t.fr = u.fr := posT_inj (chs z) (by rw [← h1, ← h2, e.1, e.2])
  rcases Nat.lt_trichotomy q m with h4 | h4 | h4
  · have := tks_fr_lt _ _ q m 0 t u (Nat.zero_le _) h4 h h'; omega
  · exact h4
  · have := tks_fr_lt _ _ m q 0 u t (Nat.zero_le _) h4 h' h; omega
end Go.Proofs.YtmhelpocddndjaaGreat.cu
namespace Go.Proofs.YtmhelpocddndjaaGreat.cu
open dt (Dt Kp RowAt Ow Grow)
open mem (decF decZ putB scB Byt posT enB)
open lx (toks chs cln tksG tkG)
set_option linter.unusedVariables false
set_option linter.unusedSimpArgs false
/- a document that is not read has a fault -/
theorem bodyS_faults {L : LitR} {S : LstR} (hG : Goes L) {b : Nat} (hS : Faults S b) (k : Int) (nm on : ByteArray) (vs : List Dt) (t : Tk) : Faults (bodyS L S k nm on vs t) b := by
  intro c hc hl hn
  have h1 := dirs_stp hG hc
  have h3 := hS _ h1.ok (by rw [h1.ts]; have := h1.ix; omega)
  unfold bodyS at hn ⊢
  cases hq : (S (dirs L c).2).1 with
  | none => exact h3 hq
  | some l => rw [hq] at hn; cases hn
theorem operS_faults {f : Nat} {K L : LitR} {S : LstR} (hK : Goes K) (hG : Goes L) {b : Nat} (hS : Faults S b) (k : Int) (t : Tk) : Faults (operS (typF f) K L S k t) b := by
  intro c hc hl hn
  have h1 := opC_stp hc
  have h2 := h1.trans (varsS_stp (f := f) hK h1.ok)
  exact bodyS_faults hG hS _ _ _ _ _ _ h2.ok (by rw [h2.ts]; have := h2.ix; omega) hn
theorem fragS_faults {L : LitR} {S : LstR} (hG : Goes L) {b : Nat} (hS : Faults S b) (t : Tk) : Faults (fragS L S t) b := by
  intro c hc hl hn
  have h1 := fragC_stp hc
  have h2 := h1.trans (fragO_stp h1.ok)
  have h3 := h2.trans (name_stp h2.ok)
  exact bodyS_faults hG hS _ _ _ _ _ _ h3.ok (by rw [h3.ts]; have := h3.ix; omega) hn
theorem defS_faults {f : Nat} {K L : LitR} {S : LstR} (hK : Goes K) (hG : Goes L) {b : Nat} (hS : Faults S b) : Faults (defS (typF f) K L S) b := by
  intro c hc hl hn
  unfold defS at hn ⊢
  by_cases hp : c.isP bLc = true
  · rw [if_pos hp] at hn ⊢
    cases hq : (S c).1 with
    | none => exact hS c hc hl hq
    | some ss => rw [hq] at hn; cases hn
  · rw [if_neg hp] at hn ⊢
    by_cases hw : c.isW [bQuery, bMut, bSub, bFrag] = true
    · rw [if_pos hw] at hn ⊢
      have h1 := takeN hc (isW_N hw)
      have hl1 : c.take.ts.length ≤ b + c.take.ix := by rw [h1.ts]; have := h1.ix; omega
      split at hn
      · rename_i e; rw [if_pos e]; exact operS_faults hK hG hS _ _ _ h1.ok hl1 hn
      · rename_i e1
        rw [if_neg e1]
        split at hn
        · rename_i e; rw [if_pos e]; exact operS_faults hK hG hS _ _ _ h1.ok hl1 hn
        · rename_i e2
          rw [if_neg e2]
          split at hn
          · rename_i e; rw [if_pos e]; exact operS_faults hK hG hS _ _ _ h1.ok hl1 hn
          · rename_i e3; rw [if_neg e3]; exact fragS_faults hG hS _ _ h1.ok hl1 hn
    · rw [if_neg hw]
      exact stop_kd _ _ (by decide)
theorem defsF_faults {D : LitR} (hG : Goes D) {b : Nat} (hD : Faults D b) : ∀ (g : Nat) (l : List Dt) (c : Cu), c.Ok → c.ts.length ≤ b + c.ix → c.ts.length ≤ g + c.ix → (defsF D g l c).1 = none → (defsF D g l c).2.kd ≠ 0
  | 0, l, c, h, hb, hg, hn => by have := h.lt; omega
  | g + 1, l, c, h, hb, hg, hn => by
    simp only [defsF] at hn ⊢
    by_cases hc : l.length = 0 ∨ c.tok.k ≠ 0
    · rw [if_pos hc] at hn
      rw [if_pos hc]
      have hs := hG c h
      cases hq : (D c).1 with
      | none => exact hD c h hb hq
      | some d =>
        rw [hq] at hn
        have hi := hs.2 (by rw [hq]; rfl)
        exact defsF_faults hG hD g _ _ hs.1.ok (by rw [hs.1.ts]; omega) (by rw [hs.1.ts]; omega) hn
    · rw [if_neg hc] at hn
      rw [if_neg hc]
      show c.fin.kd ≠ 0
      unfold Cu.fin
      cases hf : c.finB with
      | true => rw [hf] at hn; cases hn
      | false => rw [if_neg (by decide)]; exact stop_kd _ _ (by decide)
theorem docS_faults (c : Cu) (h : c.Ok) (hn : (docS c).1 = none) : (docS c).2.kd ≠ 0 :=
  defsF_faults (defN_goes _) (defS_faults (litF_goes true _) (litF_goes false _) (selsF_faults (litF_goes false _) (litF_faults false _) _ (Nat.le_refl _))) _ _ c h (by omega) (by omega) hn
/-- a document's reading, from a source's bytes -/
def docG (z : List Int) (d : Int) : Option (List Dt) × Cu := docS (newG z d)
theorem docG_stp (z : List Int) (d : Int) : Stp (newG z d) (docG z d).2 ∧ Kd (docG z d).2 := ⟨defsF_stp (defN_goes _) _ _ _ (newG_ok' z d), docS_kd _ (.inl rfl)⟩
/-- the fault stays -/
theorem doc_stays (z : List Int) (hz : Byt z) (tl : List Int) (d : Int) (h0 : (docG z d).2.tok.k ≠ 0) (h1 : (docG z d).2.tok.k ≠ 1) :
    (docG (behind (chs z) (docG z d).2.tok.to tl) d).1 = (docG z d).1 ∧ (docG (behind (chs z) (docG z d).2.tok.to tl) d).2.kd = (docG z d).2.kd ∧ (docG (behind (chs z) (docG z d).2.tok.to tl) d).2.tok = (docG z d).2.tok := by
  obtain ⟨hst, _⟩ := docG_stp z d
  obtain ⟨t, ht⟩ : ∃ t, t = (docG z d).2.tok := ⟨_, rfl⟩
  obtain ⟨m, hm⟩ : ∃ m, m = (docG z d).2.ix := ⟨_, rfl⟩
  have hget : (toks z)[m]? = some t := by
    have := (docG z d).2.get hst.ok.lt
    rw [hst.ts, ← hm, ← ht] at this
    exact this
  rw [← ht] at h0 h1
  rw [← ht]
  have hto : t.to ≤ (chs z).length := by
    have key : ∀ (q i : Nat) (t : Tk), i ≤ (chs z).length → (tksG (chs z) (cln z) i)[q]? = some t → t.to ≤ (chs z).length := by
      intro q
      induction q with
      | zero =>
        intro i t hi hq
        have hle := lx.tkG_le (chs z) (cln z) i hi
        by_cases he : (tkG (chs z) (cln z) i).k = 0 ∨ (tkG (chs z) (cln z) i).k = 1
        · rw [lx.tksG_end he] at hq; simp at hq; subst hq; exact hle.2.1
        · rw [lx.tksG_go hi he] at hq; simp at hq; subst hq; exact hle.2.1
      | succ q ih =>
        intro i t hi hq
        have hle := lx.tkG_le (chs z) (cln z) i hi
        by_cases he : (tkG (chs z) (cln z) i).k = 0 ∨ (tkG (chs z) (cln z) i).k = 1
        · rw [lx.tksG_end he] at hq; simp at hq
        · rw [lx.tksG_go hi he] at hq
          exact ih _ t hle.2.1 (by simpa using hq)
    exact key m 0 t (Nat.zero_le _) hget
  have H := loc_behind (lx.chs_sc hz) hto tl
  obtain ⟨z', hz'⟩ : ∃ z', z' = behind (chs z) t.to tl := ⟨_, rfl⟩
  rw [← hz'] at H ⊢
  have hloc := (lx.tks_loc H (cl := cln z) (cl' := cln z') m 0 t (Nat.zero_le _) (Nat.zero_le _) hget h0 h1 (Nat.le_refl _)).1
  have hS : Sim m (newG z d) (newG z' d) := ⟨rfl, rfl, rfl, rfl, hloc⟩
  obtain ⟨e1, e2⟩ := docS_near (newG z d) (newG z' d) (newG_ok' z d) (newG_ok' z' d) hS (by rw [hm]; exact Nat.le_refl _)
  exact ⟨e1, e2.kd, by rw [show (docG z' d).2.tok = (docG z d).2.tok from e2.tok (by rw [hm]; exact Nat.le_refl _), ht]⟩
end Go.Proofs.YtmhelpocddndjaaGreat.cu
namespace Go.Proofs.YtmhelpocddndjaaGreat.lx
open mem (pfx digB digs digAt isAt bWhole bPart bPoint bMark pfxFirst pfxR posT enB prB)
open cu (Tk)
set_option linter.unusedVariables false
set_option linter.unusedSimpArgs false
/-- what stands behind a token makes no difference: l and l' agree up to T, and a line feed or the end stands there in l' -/
structure Loe (l l' : List Int) (T : Nat) : Prop where
  tk : l'.take T = l.take T
  le : T ≤ l.length
  hl : T ≤ l'.length
  nl : cAt l' T = 10 ∨ cAt l' T = -1
section
variable {l l' : List Int} {T : Nat} (H : Loe l l' T)
include H
theorem Loe.lt : T ≤ l'.length := H.hl
theorem Loe.get {i : Nat} (hi : i < T) : l'[i]? = l[i]? := by
  have h1 : (l'.take T)[i]? = (l.take T)[i]? := by rw [H.tk]
  rwa [List.getElem?_take, List.getElem?_take, if_pos hi, if_pos hi] at h1
theorem Loe.getD {i : Nat} (hi : i < T) : l'.getD i 0 = l.getD i 0 := by
  rw [List.getD_eq_getElem?_getD, List.getD_eq_getElem?_getD, H.get hi]
theorem Loe.at_ {i : Nat} (hi : i < T) : cAt l' i = cAt l i := by
  have := H.lt
  have := H.le
  rw [cAt_in (by omega), cAt_in (by omega), H.getD hi]
theorem ign_loe : ∀ (n : Nat) (b : Bool) (i : Nat), T ≤ i + n → ign l b i < T → ign l' b i = ign l b i
  | 0, b, i, h, h2 => by have := (ign_le l b i).1; omega
  | n + 1, b, i, h, h2 => by
    have hi : i < T := Nat.lt_of_le_of_lt (ign_le l b i).1 h2
    have hc := H.at_ hi
    cases b with
    | false =>
      rw [ign_f l i] at h2 ⊢
      rw [ign_f l' i, hc]
      split
      · rename_i h3; rw [if_pos h3] at h2; exact ign_loe n false (i + 1) (by omega) h2
      · rename_i h3; rw [if_neg h3] at h2
        split
        · rename_i h4; rw [if_pos h4] at h2; exact ign_loe n true (i + 1) (by omega) h2
        · rfl
    | true =>
      rw [ign_t l i] at h2 ⊢
      rw [ign_t l' i, hc]
      split
      · rename_i h3; rw [if_pos h3] at h2; exact ign_loe n false (i + 1) (by omega) h2
      · rename_i h3; rw [if_neg h3] at h2
        split
        · rename_i h4; rw [if_pos h4] at h2; exact ign_loe n true (i + 1) (by omega) h2
        · rfl
theorem nam_loe : ∀ (n : Nat) (i : Nat), T + 1 ≤ i + n → nam l i ≤ T → nam l' i = nam l i
  | 0, i, h, h2 => by have := (nam_le l i).1; omega
  | n + 1, i, h, h2 => by
    have hi : i ≤ T := Nat.le_trans (nam_le l i).1 h2
    by_cases e : i = T
    · subst e
      have h3 : nam l i = i := Nat.le_antisymm h2 (nam_le l i).1
      rcases H.nl with hnl | hnl <;> (rw [h3, nam_eq l' i, hnl]; rfl)
    · have hc := H.at_ (i := i) (by omega)
      rw [nam_eq l i] at h2 ⊢
      rw [nam_eq l' i, hc]
      split
      · rename_i h3; rw [if_pos h3] at h2; exact nam_loe n (i + 1) (by omega) h2
      · rfl
omit H in
theorem digAt_e (l : List Int) (p : Nat) : digAt l p = digB (cAt l p) := by
  unfold digAt cAt
  by_cases h : p < l.length
  · simp [h]
  · simp [h, digB]
omit H in
theorem isAt_e (l : List Int) (p : Nat) (c : Int) (hc : c ≠ -1) : isAt l p c = decide (cAt l p = c) := by
  unfold isAt cAt
  by_cases h : p < l.length
  · simp [h, BEq.beq]
  · simp [h]; exact fun e => hc e.symm
omit H in
theorem digs_eqe (l : List Int) (p : Nat) : digs l p = if digAt l p then digs l (p + 1) else p := by
  cases h : digAt l p
  · rw [mem.digs_no h]; rfl
  · rw [mem.digs_yes h]; rfl
theorem digs_loe : ∀ (n : Nat) (i : Nat), T + 1 ≤ i + n → digs l i ≤ T → digs l' i = digs l i
  | 0, i, h, h2 => by have := (mem.digs_le l i).1; omega
  | n + 1, i, h, h2 => by
    have hi : i ≤ T := Nat.le_trans (mem.digs_le l i).1 h2
    by_cases e : i = T
    · subst e
      have h3 : digs l i = i := Nat.le_antisymm h2 (mem.digs_le l i).1
      rcases H.nl with hnl | hnl <;> (rw [h3, digs_eqe l' i, digAt_e, hnl]; rfl)
    · have hc := H.at_ (i := i) (by omega)
      rw [digs_eqe l i] at h2 ⊢
      rw [digs_eqe l' i, digAt_e, digAt_e, hc]
      rw [digAt_e] at h2
      split
      · rename_i h3; rw [if_pos h3] at h2; exact digs_loe n (i + 1) (by omega) h2
      · rfl
theorem pfxR_loe {e : Nat} (he : (pfxR l e).1 ≤ T) (h46 : cAt l (pfxR l e).1 ≠ 46) (hnr : nrB (cAt l (pfxR l e).1) = false) : pfxR l' e = pfxR l e := by
  have hge : ∀ g, g ≤ (bPart l g (bMark l g)).1 := fun g => bPart_ge l g _ (by unfold bMark; split; omega; split <;> omega)
  have hpp : e ≤ bPoint l e := by unfold bPoint; split <;> omega
  have hb := bPart_ge l e (bPoint l e) hpp
  have hR : (bPart l e (bPoint l e)).1 ≤ (pfxR l e).1 := by
    unfold pfxR
    split
    · exact hge _
    · exact Nat.le_refl _
  have heT : e ≤ T := by omega
  have h46b : ∀ p, isAt l p 46 = decide (cAt l p = 46) := fun p => isAt_e l p 46 (by decide)
  have h46c : ∀ p, isAt l' p 46 = decide (cAt l' p = 46) := fun p => isAt_e l' p 46 (by decide)
  -- the point
  have hpt : bPoint l' e = bPoint l e := by
    unfold bPoint
    rw [h46b, h46c]
    by_cases h1 : e < T
    · rw [H.at_ h1]
    · have h2 : e = T := by omega
      have h3 : (pfxR l e).1 = e := by omega
      rw [h3] at h46
      rcases H.nl with hnl | hnl <;> (rw [h2, hnl, ← h2]; simp [h46])
  -- the fraction
  have hfr : bPart l' e (bPoint l e) = bPart l e (bPoint l e) ∧ (bPart l e (bPoint l e)).1 = (bPart l e (bPoint l e)).2 := by
    by_cases h1 : bPoint l e = e
    · unfold bPart
      rw [if_pos h1, if_pos h1]
      exact ⟨rfl, rfl⟩
    · by_cases h2 : digs l (bPoint l e) = bPoint l e
      · exfalso
        have h3 : bPart l e (bPoint l e) = (e, digs l (bPoint l e)) := by unfold bPart; rw [if_neg h1, if_pos h2]
        have h4 : pfxR l e = (e, digs l (bPoint l e)) := by
          unfold pfxR
          rw [h3]
          simp only
          rw [if_neg (by rw [h2]; exact fun e' => h1 e'.symm)]
        rw [h4] at h46
        apply h46
        unfold bPoint at h1
        cases h5 : isAt l e 46
        · rw [h5] at h1; exact absurd rfl h1
        · rw [h46b] at h5; simpa using h5
      · have h3 : bPart l e (bPoint l e) = (digs l (bPoint l e), digs l (bPoint l e)) := by unfold bPart; rw [if_neg h1, if_neg h2]
        rw [h3] at hR
        have h4 := digs_loe H (T + 1) (bPoint l e) (by omega) (by simp only at hR; omega)
        refine ⟨?_, by rw [h3]⟩
        rw [h3]
        unfold bPart
        rw [if_neg h1, h4, if_neg h2]
  obtain ⟨g, hg⟩ : ∃ g, g = (bPart l e (bPoint l e)).1 := ⟨_, rfl⟩
  have hRe : pfxR l e = bPart l g (bMark l g) := by unfold pfxR; rw [if_pos hfr.2, ← hg]
  have hRe' : pfxR l' e = bPart l' g (bMark l' g) := by unfold pfxR; rw [hpt, hfr.1, if_pos hfr.2, ← hg]
  rw [← hg] at hR
  have he1 : ∀ p, isAt l p 101 = decide (cAt l p = 101) := fun p => isAt_e l p 101 (by decide)
  have he2 : ∀ p, isAt l p 69 = decide (cAt l p = 69) := fun p => isAt_e l p 69 (by decide)
  have he1' : ∀ p, isAt l' p 101 = decide (cAt l' p = 101) := fun p => isAt_e l' p 101 (by decide)
  have he2' : ∀ p, isAt l' p 69 = decide (cAt l' p = 69) := fun p => isAt_e l' p 69 (by decide)
  rw [hRe', hRe]
  by_cases hm : isAt l g 101 = false ∧ isAt l g 69 = false
  · have hm' : isAt l' g 101 = false ∧ isAt l' g 69 = false := by
      by_cases h1 : g < T
      · rw [he1', he2', H.at_ h1, ← he1, ← he2]; exact hm
      · have h2 : g = T := by omega
        rcases H.nl with hnl | hnl <;> (rw [he1', he2', h2, hnl]; decide)
    have e1 : bMark l g = g := by unfold bMark; rw [if_pos hm]
    have e2 : bMark l' g = g := by unfold bMark; rw [if_pos hm']
    rw [e1, e2]
    unfold bPart
    rw [if_pos rfl, if_pos rfl]
  · have hc : cAt l g = 101 ∨ cAt l g = 69 := by
      rw [he1, he2] at hm
      simp only [decide_eq_false_iff_not] at hm
      by_cases h : cAt l g = 101
      · exact .inl h
      · exact .inr (Classical.not_not.1 (fun h' => hm ⟨h, h'⟩))
    have hgn : nrB (cAt l g) = true := by rcases hc with h | h <;> rw [h] <;> decide
    have hne : g ≠ (pfxR l e).1 := fun e' => by rw [← e', hgn] at hnr; cases hnr
    have hgT : g < T := by omega
    have hk : bMark l g = g + 1 ∨ bMark l g = g + 2 := by unfold bMark; rw [if_neg hm]; split; exact .inr rfl; exact .inl rfl
    have hkg : bMark l g ≠ g := by omega
    by_cases hd : digs l (bMark l g) = bMark l g
    · exfalso
      have : bPart l g (bMark l g) = (g, digs l (bMark l g)) := by unfold bPart; rw [if_neg hkg, if_pos hd]
      rw [hRe, this] at hne
      exact hne rfl
    · have h3 : bPart l g (bMark l g) = (digs l (bMark l g), digs l (bMark l g)) := by unfold bPart; rw [if_neg hkg, if_neg hd]
      rw [hRe, h3] at he
      simp only at he
      have h5 := (mem.digs_le l (bMark l g)).1
      have hg1 : g + 1 < T := by omega
      have hs1 : ∀ c : Int, c ≠ -1 → isAt l' (g + 1) c = isAt l (g + 1) c := fun c hc => by rw [isAt_e _ _ _ hc, isAt_e _ _ _ hc, H.at_ hg1]
      have hmk : bMark l' g = bMark l g := by
        unfold bMark
        rw [he1', he2', H.at_ hgT, ← he1, ← he2, hs1 43 (by decide), hs1 45 (by decide)]
      have h4 := digs_loe H (T + 1) (bMark l g) (by omega) he
      rw [hmk, h3]
      unfold bPart
      rw [if_neg hkg, h4, if_neg hd]
theorem pfx_loe {p : Nat} (hf : (pfx l p).2.2 ≠ 0) (ht : (pfx l p).1 ≤ T) (h46 : cAt l (pfx l p).1 ≠ 46) (hnr : nrB (cAt l (pfx l p).1) = false) : pfx l' p = pfx l p := by
  have hw : ¬ bWhole l (pfxFirst l p) = pfxFirst l p := fun e => hf (by unfold pfx; rw [if_pos e])
  have hpx : pfx l p = ((pfxR l (bWhole l (pfxFirst l p))).1, (pfxR l (bWhole l (pfxFirst l p))).2, if (pfxR l (bWhole l (pfxFirst l p))).1 > bWhole l (pfxFirst l p) then 2 else 1) := by unfold pfx; rw [if_neg hw]
  rw [hpx] at ht h46 hnr
  simp only at ht h46 hnr
  have hge : ∀ g, g ≤ (bPart l g (bMark l g)).1 := fun g => bPart_ge l g _ (by unfold bMark; split; omega; split <;> omega)
  have hR : bWhole l (pfxFirst l p) ≤ (pfxR l (bWhole l (pfxFirst l p))).1 := by
    have hpp : ∀ e, e ≤ bPoint l e := fun e => by unfold bPoint; split <;> omega
    have hb := fun e => bPart_ge l e (bPoint l e) (hpp e)
    unfold pfxR
    split
    · exact Nat.le_trans (hb _) (hge _)
    · exact hb _
  have hwl : pfxFirst l p ≤ bWhole l (pfxFirst l p) := by
    unfold bWhole
    split
    · omega
    · exact (mem.digs_le l _).1
  have hfp : p ≤ pfxFirst l p := by unfold pfxFirst; split <;> omega
  have hpT : p < T := by omega
  have hfT : pfxFirst l p < T := by omega
  have hfi : pfxFirst l' p = pfxFirst l p := by unfold pfxFirst; rw [isAt_e _ _ _ (by decide), isAt_e _ _ _ (by decide), H.at_ hpT]
  have hwe : bWhole l' (pfxFirst l p) = bWhole l (pfxFirst l p) := by
    unfold bWhole
    rw [isAt_e _ _ _ (by decide), isAt_e _ _ _ (by decide), H.at_ hfT]
    split
    · rfl
    · rename_i h0
      refine digs_loe H (T + 1) _ (by omega) ?_
      have : bWhole l (pfxFirst l p) = digs l (pfxFirst l p) := by unfold bWhole; rw [isAt_e _ _ _ (by decide), if_neg h0]
      omega
  have hre := pfxR_loe H ht h46 hnr
  rw [hpx]
  unfold pfx
  rw [hfi, hwe, if_neg hw, hre]
theorem num_loe {i : Nat} (hk : (num l i).1 ≠ 1) (ht : (num l i).2 ≤ T) : num l' i = num l i := by
  have hc : ¬ (cAt l (pfx l i).1 = 46 ∨ nrB (cAt l (pfx l i).1) = true) := fun e => hk (by unfold num; rw [if_pos e])
  have h46 : cAt l (pfx l i).1 ≠ 46 := fun e => hc (.inl e)
  have hnr : nrB (cAt l (pfx l i).1) = false := by
    cases h : nrB (cAt l (pfx l i).1)
    · rfl
    · exact absurd (.inr h) hc
  have hf : (pfx l i).2.2 = 1 ∨ (pfx l i).2.2 = 2 := by
    by_cases h1 : (pfx l i).2.2 = 1
    · exact .inl h1
    · by_cases h2 : (pfx l i).2.2 = 2
      · exact .inr h2
      · exact absurd (by unfold num; rw [if_neg hc, if_neg h1, if_neg h2]) hk
  have ht2 : (pfx l i).1 ≤ T := by
    unfold num at ht
    rw [if_neg hc] at ht
    rcases hf with h | h
    · rw [if_pos h] at ht; exact ht
    · rw [if_neg (by rw [h]; decide), if_pos h] at ht; exact ht
  have he := pfx_loe H (by rcases hf with h | h <;> rw [h] <;> decide) ht2 h46 hnr
  have hc' : ¬ (cAt l' (pfx l i).1 = 46 ∨ nrB (cAt l' (pfx l i).1) = true) := by
    by_cases h1 : (pfx l i).1 < T
    · rw [H.at_ h1]; exact hc
    · have h2 : (pfx l i).1 = T := by omega
      rcases H.nl with hnl | hnl <;> (rw [h2, hnl]; decide)
  unfold num
  rw [he, if_neg hc, if_neg hc']
theorem insZ_loe {p i : Nat} (hi : i ≤ T) : insZ l' p i = insZ l p i := by
  unfold insZ
  have e : ∀ m : List Int, (m.drop p).take (i - p) = ((m.take T).drop p).take (i - p) := fun m => by
    rw [List.drop_take, List.take_take, Nat.min_eq_left (by omega)]
  rw [e l', e l, H.tk]
theorem tq_loe {i : Nat} (hi : i + 2 < T) : tq l' i = tq l i := by
  unfold tq
  rw [H.at_ (by omega), H.at_ (by omega), H.at_ hi]
theorem endB_loe : ∀ (k j i : Nat), endB l k j = some i → i + 3 ≤ T → ∀ k', i < j + k' → endB l' k' j = some i
  | 0, j, i, h, _, _, _ => by cases h
  | k + 1, j, i, h, hT, k', hk' => by
    have hle := endB_le l _ _ _ h
    cases k' with
    | zero => omega
    | succ k' =>
      unfold endB at h ⊢
      rw [tq_loe H (by omega)]
      split at h
      · rename_i ht; rw [if_pos ht]; exact h
      rename_i ht; rw [if_neg ht]
      have hji : j < i := by
        rcases Nat.lt_or_ge j i with h1 | h1
        · exact h1
        · exfalso
          have : j = i := by omega
          rw [this] at ht
          exact ht hle.2
      rw [H.at_ (by omega), tq_loe H (by omega)]
      split at h
      · rename_i h2; rw [if_pos h2]; exact endB_loe k _ i h hT k' (by omega)
      rename_i h2; rw [if_neg h2]
      split at h
      · cases h
      · rename_i h3; rw [if_neg h3]; exact endB_loe k _ i h hT k' (by omega)
theorem endQ_loe : ∀ (k j i : Nat), endQ l k j = some i → i + 1 ≤ T → ∀ k', i < j + k' → endQ l' k' j = some i
  | 0, j, i, h, _, _, _ => by cases h
  | k + 1, j, i, h, hT, k', hk' => by
    have hle := endQ_le l _ _ _ h
    cases k' with
    | zero => omega
    | succ k' =>
      unfold endQ at h ⊢
      rw [H.at_ (by omega)]
      split at h
      · rename_i ht; rw [if_pos ht]; exact h
      rename_i ht; rw [if_neg ht]
      have hji : j < i := by
        rcases Nat.lt_or_ge j i with h1 | h1
        · exact h1
        · exfalso
          have : j = i := by omega
          rw [this] at ht
          exact ht hle.2
      rw [H.at_ (i := j + 1) (by omega)]
      split at h
      · rename_i h2
        rw [if_pos h2]
        split at h
        · cases h
        · rename_i h3; rw [if_neg h3]; exact endQ_loe k _ i h hT k' (by omega)
      rename_i h2; rw [if_neg h2]
      split at h
      · cases h
      · rename_i h3; rw [if_neg h3]; exact endQ_loe k _ i h hT k' (by omega)
theorem rdG_loe {cl cl' : Bool} {F : Nat} (hF : F ≤ l.length) (h0 : (rdG l cl F).1 ≠ 0) (h1 : (rdG l cl F).1 ≠ 1) (ht : (rdG l cl F).2.1 ≤ T) : rdG l' cl' F = rdG l cl F := by
  have hle := rdG_le l cl F hF
  have hFT : F < T := by rcases hle.2.2 with h | h | h; exact absurd h h0; exact absurd h h1; omega
  have hc := H.at_ hFT
  have hlt := H.lt
  have hn0 : ¬ (F = l.length ∧ cl = true) := fun e => h0 (by unfold rdG; rw [if_pos e])
  have hn0' : ¬ (F = l'.length ∧ cl' = true) := fun e => by omega
  unfold rdG at h0 h1 ht ⊢
  rw [if_neg hn0] at h0 h1 ht ⊢
  rw [if_neg hn0', hc]
  split
  · rename_i h46
    rw [if_pos h46] at h0 h1 ht
    by_cases hd : cAt l (F + 1) = 46 ∧ cAt l (F + 2) = 46
    · rw [if_pos hd] at ht
      simp only at ht
      rw [if_pos hd, H.at_ (by omega), H.at_ (by omega), if_pos hd]
    · rw [if_neg hd] at h1; exact absurd rfl h1
  rename_i h46
  rw [if_neg h46] at h0 h1 ht
  split
  · rfl
  rename_i hpu
  rw [if_neg hpu] at h0 h1 ht
  split
  · rename_i hns
    rw [if_pos hns] at ht
    simp only at ht
    rw [nam_loe H (T + 1) (F + 1) (by omega) ht]
  rename_i hns
  rw [if_neg hns] at h0 h1 ht
  split
  · rename_i hnu
    rw [if_pos hnu] at h1 ht
    simp only at h1 ht
    rw [num_loe H h1 ht]
  rename_i hnu
  rw [if_neg hnu] at h0 h1 ht
  by_cases htq : tq l F = true
  · rw [if_pos htq] at h1 ht
    have h3 := tq_len l F htq
    have key : ∃ i, endB l (l.length + 2) (F + 3) = some i := by
      unfold blc at h1
      cases e : endB l (l.length + 2) (F + 3) with
      | none => rw [e] at h1; exact absurd rfl h1
      | some i => exact ⟨i, rfl⟩
    obtain ⟨i, hi⟩ := key
    have hib := endB_le l _ _ _ hi
    have hto : (blc sv.bS l F).2.1 = i + 3 := by unfold blc; rw [hi]; rfl
    rw [hto] at ht
    have htq' : tq l' F = true := by rw [tq_loe H (by omega)]; exact htq
    rw [if_pos htq', if_pos htq]
    have he := endB_loe H _ _ _ hi ht (l'.length + 2) (by omega)
    unfold blc
    rw [he, hi]
    simp only [blcR]
    rw [insZ_loe H (by omega)]
  · rw [if_neg htq] at h0 h1 ht
    by_cases h34 : cAt l F = 34
    · rw [if_pos h34] at h1 ht
      have key : ∃ i r, endQ l (l.length + 2) (F + 1) = some i ∧ quo (insZ l (F + 1) i) = some r := by
        unfold qtd at h1
        cases e : endQ l (l.length + 2) (F + 1) with
        | none => rw [e] at h1; exact absurd rfl h1
        | some i =>
          rw [e] at h1
          simp only [qtdR] at h1
          cases e2 : quo (insZ l (F + 1) i) with
          | none => rw [e2] at h1; exact absurd rfl h1
          | some r => exact ⟨i, r, rfl, e2⟩
      obtain ⟨i, r, hi, hr⟩ := key
      have hib := endQ_le l _ _ _ hi
      have hto : (qtd l F).2.1 = i + 1 := by unfold qtd; rw [hi]; simp only [qtdR, hr]
      rw [hto] at ht
      have htq' : ¬ tq l' F = true := by
        intro e
        unfold tq at e htq
        have e := of_decide_eq_true e
        have h1' : cAt l (F + 1) = 34 := by rw [← H.at_ (by omega)]; exact e.2.1
        have hiF : i = F + 1 := by
          unfold endQ at hi
          rw [if_pos h1'] at hi
          exact (Option.some.inj hi).symm
        have h2' : cAt l' (F + 2) = 34 := e.2.2
        by_cases hT2 : F + 2 < T
        · rw [H.at_ hT2] at h2'
          exact htq (by simp [h34, h1', h2'])
        · have : F + 2 = T := by omega
          rcases H.nl with hnl | hnl <;> (rw [this, hnl] at h2'; exact absurd h2' (by decide))
      rw [if_neg htq', if_neg htq, if_pos h34, if_pos h34]
      have he := endQ_loe H _ _ _ hi ht (l'.length + 2) (by omega)
      unfold qtd
      rw [he, hi]
      simp only [qtdR]
      rw [insZ_loe H (by omega)]
    · rw [if_neg h34] at h1; exact absurd rfl h1
theorem posT_loe : ∀ (k : Nat), k < T → posT l' k = posT l k
  | 0, _ => rfl
  | k + 1, hk => by
    have ih := posT_loe k (by omega)
    have h1 := H.lt
    have h2 := H.le
    have he : enB l' k = enB l k := by
      unfold enB prB
      rw [H.getD (by omega), H.getD (by omega)]
      simp [show k + 1 < l.length by omega, show k + 1 < l'.length by omega]
    simp only [posT, he, ih]
theorem tkG_loe {cl cl' : Bool} {i : Nat} (hi : i ≤ l.length) (h0 : (tkG l cl i).k ≠ 0) (h1 : (tkG l cl i).k ≠ 1) (ht : (tkG l cl i).to ≤ T) : tkG l' cl' i = tkG l cl i := by
  have hF := (ign_le l false i).2 hi
  have hle := rdG_le l cl (ign l false i) hF
  have hFT : ign l false i < T := by
    rcases hle.2.2 with h | h | h
    · exact absurd h h0
    · exact absurd h h1
    · exact Nat.lt_of_lt_of_le h ht
  have hg := ign_loe H T false i (by omega) hFT
  have hr := rdG_loe H (cl' := cl') hF h0 h1 ht
  unfold tkG
  rw [hg, hr, posT_loe H _ hFT]
  congr 1
  have e : ∀ m : List Int, m.take (rdG l cl (ign l false i)).2.1 = (m.take T).take (rdG l cl (ign l false i)).2.1 := fun m => by
    rw [List.take_take, Nat.min_eq_left (show (rdG l cl (ign l false i)).2.1 ≤ T from ht)]
  rw [e l', e l, H.tk]
/-- the tokens up to the one that ends at T or ahead of it -/
theorem tks_loe {cl cl' : Bool} : ∀ (m i : Nat) (t : Tk), i ≤ l.length → i ≤ T → (tksG l cl i)[m]? = some t → t.k ≠ 0 → t.k ≠ 1 → t.to ≤ T → (∀ q, q ≤ m → (tksG l' cl' i)[q]? = (tksG l cl i)[q]?) ∧ i < t.to
  | m, i, t, hi, hiT, hm, h0, h1, ht => by
    have hlt := H.lt
    have hle := tkG_le l cl i hi
    by_cases he : (tkG l cl i).k = 0 ∨ (tkG l cl i).k = 1
    · exfalso
      rw [tksG_end he] at hm
      cases m with
      | zero => simp at hm; subst hm; rcases he with e | e; exact h0 e; exact h1 e
      | succ m => simp at hm
    · have e0 : (tkG l cl i).k ≠ 0 := fun e => he (.inl e)
      have e1 : (tkG l cl i).k ≠ 1 := fun e => he (.inr e)
      have hgo := tksG_go hi he
      have hit : i < (tkG l cl i).to := by rcases hle.2.2 with h | h | h; exact absurd h e0; exact absurd h e1; exact h
      cases m with
      | zero =>
        rw [hgo] at hm
        simp at hm
        subst hm
        have hk := tkG_loe H (cl' := cl') hi e0 e1 ht
        refine ⟨fun q hq => ?_, hit⟩
        obtain rfl : q = 0 := by omega
        rw [hgo, tksG_go (l := l') (cl := cl') (by omega) (by rw [hk]; exact he), hk]
        rfl
      | succ m =>
        rw [hgo] at hm
        simp at hm
        have hrec := fun hT2 => tks_loe (cl := cl) (cl' := cl') m (tkG l cl i).to t hle.2.1 hT2 hm h0 h1 ht
        have htoT : (tkG l cl i).to ≤ T := by
          -- a later token ends further on
          have key : ∀ (m i : Nat) (t : Tk), i ≤ l.length → (tksG l cl i)[m]? = some t → t.k ≠ 0 → t.k ≠ 1 → i < t.to := by
            intro m
            induction m with
            | zero =>
              intro i t hi hm h0 h1
              have hle := tkG_le l cl i hi
              have h00 : (tksG l cl i)[0]? = some (tkG l cl i) := by
                by_cases he : (tkG l cl i).k = 0 ∨ (tkG l cl i).k = 1
                · rw [tksG_end he]; rfl
                · rw [tksG_go hi he]; rfl
              rw [h00] at hm
              obtain rfl := Option.some.inj hm
              rcases hle.2.2 with h | h | h
              · exact absurd h h0
              · exact absurd h h1
              · exact h
            | succ m ih =>
              intro i t hi hm h0 h1
              have hle := tkG_le l cl i hi
              by_cases he : (tkG l cl i).k = 0 ∨ (tkG l cl i).k = 1
              · rw [tksG_end he] at hm; simp at hm
              · rw [tksG_go hi he] at hm
                have := ih _ t hle.2.1 (by simpa using hm) h0 h1
                rcases hle.2.2 with h | h | h
                · exact absurd (.inl h) he
                · exact absurd (.inr h) he
                · omega
          have := key m (tkG l cl i).to t hle.2.1 hm h0 h1
          omega
        obtain ⟨hr1, hr2⟩ := hrec htoT
        have hk := tkG_loe H (cl' := cl') hi e0 e1 htoT
        refine ⟨fun q hq => ?_, by omega⟩
        rw [hgo, tksG_go (l := l') (cl := cl') (by omega) (by rw [hk]; exact he), hk]
        cases q with
        | zero => rfl
        | succ q =>
          simp only [List.getElem?_cons_succ]
          exact hr1 q (by omega)
end
end Go.Proofs.YtmhelpocddndjaaGreat.lx
namespace Go.Proofs.YtmhelpocddndjaaGreat.cu
open dt (Dt Kp RowAt Ow Grow)
open mem (decF decZ putB scB Byt posT enB)
open lx (toks chs cln tksG tkG)
set_option linter.unusedVariables false
set_option linter.unusedSimpArgs false
/-- a source's beginning -/
def cutZ (l : List Int) (T : Nat) : List Int := (l.take T).flatMap putB
theorem dec_cut {l : List Int} (hl : ∀ x ∈ l, mem.scP x) (T : Nat) : decZ (cutZ l T) = (l.take T, (cutZ l T).length) := by
  have h1 : (l.take T).all scB = true := by
    rw [List.all_eq_true]
    exact fun x hx => (mem.scB_iff x).2 (hl x (List.mem_of_mem_take hx))
  have hlen : (l.take T).length ≤ ((l.take T).flatMap putB).length := mem.flat_ge _
  have h2 := decF_app (l.take T) 0 [] h1
  rw [List.append_nil] at h2
  unfold decZ cutZ
  rw [decF_fuel _ ((l.take T).length + ((l.take T).flatMap putB).length) _ (Nat.le_refl _) (by omega)]
  have h3 := decF_app (l.take T) ((l.take T).flatMap putB).length [] h1
  rw [List.append_nil] at h3
  rw [h3]
  rw [mem.decF_end _ _ (by decide)]
  simp
theorem chs_cut {l : List Int} (hl : ∀ x ∈ l, mem.scP x) (T : Nat) : chs (cutZ l T) = l.take T := by unfold chs; rw [dec_cut hl]
theorem cln_cut {l : List Int} (hl : ∀ x ∈ l, mem.scP x) (T : Nat) : cln (cutZ l T) = true := by unfold cln; rw [dec_cut hl]; simp
theorem tks_next (l : List Int) (cl : Bool) : ∀ (m i : Nat) (t : Tk), i ≤ l.length → (tksG l cl i)[m]? = some t → t.k ≠ 0 → t.k ≠ 1 → (tksG l cl i).length = m + 1 + (tksG l cl t.to).length ∧ ∀ q, (tksG l cl i)[m + 1 + q]? = (tksG l cl t.to)[q]?
  | 0, i, t, hi, h, h0, h1 => by
    by_cases he : (tkG l cl i).k = 0 ∨ (tkG l cl i).k = 1
    · rw [lx.tksG_end he] at h; simp at h; subst h; rcases he with e | e; exact absurd e h0; exact absurd e h1
    · rw [lx.tksG_go hi he] at h ⊢
      simp at h
      subst h
      refine ⟨by simp; omega, fun q => ?_⟩
      rw [show 0 + 1 + q = q + 1 by omega]
      simp
  | m + 1, i, t, hi, h, h0, h1 => by
    have hle := lx.tkG_le l cl i hi
    by_cases he : (tkG l cl i).k = 0 ∨ (tkG l cl i).k = 1
    · rw [lx.tksG_end he] at h; simp at h
    · rw [lx.tksG_go hi he] at h ⊢
      obtain ⟨e1, e2⟩ := tks_next l cl m _ t hle.2.1 (by simpa using h) h0 h1
      refine ⟨by simp; omega, fun q => ?_⟩
      rw [show m + 1 + 1 + q = (m + 1 + q) + 1 by omega]
      simp only [List.getElem?_cons_succ]
      exact e2 q
theorem tks_last (l : List Int) (cl : Bool) : ∀ (m i : Nat) (t : Tk), i ≤ l.length → (tksG l cl i)[m]? = some t → t.k = 0 ∨ t.k = 1 → (tksG l cl i).length = m + 1
  | 0, i, t, hi, h, hk => by
    by_cases he : (tkG l cl i).k = 0 ∨ (tkG l cl i).k = 1
    · rw [lx.tksG_end he]; rfl
    · rw [lx.tksG_go hi he] at h; simp at h; subst h; exact absurd hk he
  | m + 1, i, t, hi, h, hk => by
    have hle := lx.tkG_le l cl i hi
    by_cases he : (tkG l cl i).k = 0 ∨ (tkG l cl i).k = 1
    · rw [lx.tksG_end he] at h; simp at h
    · rw [lx.tksG_go hi he] at h ⊢
      have := tks_last l cl m _ t hle.2.1 (by simpa using h) hk
      simp; omega
theorem end_tok (l : List Int) : (tkG l true l.length).k = 0 := by
  have h1 : lx.ign l false l.length = l.length := by
    rw [lx.ign_f, lx.cAt_end (Nat.le_refl _)]
    rfl
  have h2 : (lx.rdG l true (lx.ign l false l.length)).1 = 0 := by rw [h1]; unfold lx.rdG; rw [if_pos ⟨rfl, rfl⟩]
  exact h2
/-- a source that is cut behind a token -/
theorem cut_toks (z : List Int) (hz : Byt z) {m : Nat} {t : Tk} (hm : (toks z)[m]? = some t) (h0 : t.k ≠ 0) (h1 : t.k ≠ 1) (hto : t.to ≤ (chs z).length) :
    (∀ q, q ≤ m → (toks (cutZ (chs z) t.to))[q]? = (toks z)[q]?) ∧ (toks (cutZ (chs z) t.to)).length = m + 2 ∧ ∃ e, (toks (cutZ (chs z) t.to))[m + 1]? = some e ∧ e.k = 0 := by
  have hsc := lx.chs_sc hz
  have hlt : ((chs z).take t.to).length = t.to := by simp; omega
  have H : lx.Loe (chs z) ((chs z).take t.to) t.to := ⟨by rw [List.take_take, Nat.min_self], hto, by omega, .inr (lx.cAt_end (by omega))⟩
  have hT : toks (cutZ (chs z) t.to) = tksG ((chs z).take t.to) true 0 := by unfold toks; rw [chs_cut hsc, cln_cut hsc]
  rw [hT]
  have hloc := (lx.tks_loe H (cl := cln z) (cl' := true) m 0 t (Nat.zero_le _) (Nat.zero_le _) hm h0 h1 (Nat.le_refl _)).1
  have hm' : (tksG ((chs z).take t.to) true 0)[m]? = some t := (hloc m (Nat.le_refl _)).trans hm
  obtain ⟨e1, e2⟩ := tks_next _ _ m 0 t (Nat.zero_le _) hm' h0 h1
  have hk : (tkG ((chs z).take t.to) true t.to).k = 0 := by
    have := end_tok ((chs z).take t.to)
    rw [hlt] at this
    exact this
  have hE := lx.tksG_end (l := (chs z).take t.to) (cl := true) (i := t.to) (.inl hk)
  rw [hE] at e1 e2
  refine ⟨hloc, by simpa using e1, _, by have := e2 0; rw [Nat.add_zero] at this; rw [this]; rfl, hk⟩
theorem docS_goes (c : Cu) (h : c.Ok) (hs : (docS c).1.isSome = true) : c.ix < (docS c).2.ix := by
  unfold docS at hs ⊢
  have hl := h.lt
  obtain ⟨g, hg⟩ : ∃ g, c.ts.length = g + 1 := ⟨c.ts.length - 1, by omega⟩
  obtain ⟨D, hD⟩ : ∃ D, D = defN c.ts.length := ⟨_, rfl⟩
  have hG : Goes D := by rw [hD]; exact defN_goes _
  rw [← hD] at hs ⊢
  rw [hg] at hs ⊢
  have hgo := hG c h
  have hc : ([] : List Dt).length = 0 ∨ c.tok.k ≠ 0 := .inl rfl
  simp only [defsF] at hs ⊢
  rw [if_pos hc] at hs ⊢
  cases hq : (D c).1 with
  | none => rw [hq] at hs; cases hs
  | some d => exact Nat.lt_of_lt_of_le (hgo.2 (by rw [hq]; rfl)) (defsF_stp hG g _ _ hgo.1.ok).ix
theorem defsF_live (D : LitR) : ∀ (g : Nat) (l : List Dt) (c : Cu), (defsF D g l c).1.isSome = true → (defsF D g l c).2.kd = 0
  | 0, l, c, h => by cases h
  | g + 1, l, c, h => by
    simp only [defsF] at h ⊢
    split at h
    · rename_i hc
      rw [if_pos hc]
      cases hq : (D c).1 with
      | none => rw [hq] at h; cases h
      | some d => rw [hq] at h; exact defsF_live D g _ _ h
    · rename_i hc
      rw [if_neg hc]
      show c.fin.kd = 0
      cases hf : c.finB with
      | false => rw [hf] at h; cases h
      | true => unfold Cu.fin; rw [if_pos hf]; exact (of_decide_eq_true hf).1
/-- a beginning of a document is one, or its end is the fault -/
theorem doc_begins (z : List Int) (hz : Byt z) (d : Int) (l : List Dt) (hd : (docG z d).1 = some l) : 2 ≤ (toks z).length ∧ ∀ (m : Nat) (t : Tk), (toks z)[m]? = some t → m + 1 < (toks z).length → t.to ≤ (chs z).length ∧
    ((docG (cutZ (chs z) t.to) d).2.kd = 0 ∨ ((docG (cutZ (chs z) t.to) d).2.kd = 70 ∧ (docG (cutZ (chs z) t.to) d).2.ix + 1 = (toks (cutZ (chs z) t.to)).length ∧ ∃ e, (toks (cutZ (chs z) t.to))[(docG (cutZ (chs z) t.to) d).2.ix]? = some e ∧ (docG (cutZ (chs z) t.to) d).2.tok = e)) := by
  have hst := (docG_stp z d).1
  have hix := docS_goes (newG z d) (newG_ok' z d) (by show (docG z d).1.isSome = true; rw [hd]; rfl)
  have hlt := hst.ok.lt
  have hts : (docG z d).2.ts = toks z := hst.ts
  have h0x : (newG z d).ix = 0 := rfl
  have hix' : 0 < (docG z d).2.ix := by rw [← h0x]; exact hix
  rw [hts] at hlt
  refine ⟨by omega, fun m t hm hml => ?_⟩
  have hk01 : ¬ (t.k = 0 ∨ t.k = 1) := fun e => by
    have h9 : (toks z).length = m + 1 := tks_last (chs z) (cln z) m 0 t (Nat.zero_le _) hm e
    omega
  have k0 : t.k ≠ 0 := fun e => hk01 (.inl e)
  have k1 : t.k ≠ 1 := fun e => hk01 (.inr e)
  have hto : t.to ≤ (chs z).length := by
    have key : ∀ (q i : Nat) (t : Tk), i ≤ (chs z).length → (tksG (chs z) (cln z) i)[q]? = some t → t.to ≤ (chs z).length := by
      intro q
      induction q with
      | zero =>
        intro i t hi hq
        have hle := lx.tkG_le (chs z) (cln z) i hi
        by_cases he : (tkG (chs z) (cln z) i).k = 0 ∨ (tkG (chs z) (cln z) i).k = 1
        · rw [lx.tksG_end he] at hq; simp at hq; subst hq; exact hle.2.1
        · rw [lx.tksG_go hi he] at hq; simp at hq; subst hq; exact hle.2.1
      | succ q ih =>
        intro i t hi hq
        have hle := lx.tkG_le (chs z) (cln z) i hi
        by_cases he : (tkG (chs z) (cln z) i).k = 0 ∨ (tkG (chs z) (cln z) i).k = 1
        · rw [lx.tksG_end he] at hq; simp at hq
        · rw [lx.tksG_go hi he] at hq
          exact ih _ t hle.2.1 (by simpa using hq)
    exact key m 0 t (Nat.zero_le _) hm
  refine ⟨hto, ?_⟩
  obtain ⟨c1, c2, c3⟩ := cut_toks z hz hm k0 k1 hto
  obtain ⟨z', hz'⟩ : ∃ z', z' = cutZ (chs z) t.to := ⟨_, rfl⟩
  rw [← hz'] at c1 c2 c3 ⊢
  have hS : Sim m (newG z d) (newG z' d) := ⟨rfl, rfl, rfl, rfl, c1⟩
  have hkd : (docG z d).2.kd = 0 := by
    have hK := (docG_stp z d).2
    refine Classical.byContradiction fun x => ?_
    have h9 := defsF_live (defN (newG z d).ts.length) (newG z d).ts.length [] (newG z d) (by show (docG z d).1.isSome = true; rw [hd]; rfl)
    exact x h9
  by_cases hx : (docG z d).2.ix ≤ m
  · obtain ⟨e1, e2⟩ := docS_near (newG z d) (newG z' d) (newG_ok' z d) (newG_ok' z' d) hS hx
    exact .inl (e2.kd.trans hkd)
  · obtain ⟨a1, a2⟩ := docS_beg (newG z d) (newG z' d) (newG_ok' z d) (newG_ok' z' d) hS c3 rfl (Nat.zero_le _) hkd (by show m < (docG z d).2.ix; omega)
    have a2' : (docG z' d).2.ix = m + 1 := a2
    rcases a1.kd with e | e
    · exact .inl e
    · obtain ⟨x, x1, x2⟩ := c3
      refine .inr ⟨e, by rw [a2', c2], x, by rw [a2']; exact x1, ?_⟩
      have hts' : (docG z' d).2.ts = toks z' := (docG_stp z' d).1.ts
      unfold Cu.tok
      rw [hts', a2', List.getD_eq_getElem?_getD, x1]
      rfl
end Go.Proofs.YtmhelpocddndjaaGreat.cu
namespace Go.Proofs.YtmhelpocddndjaaGreat.cu
open Go.ChangeShapes Go.WideShapes Go.ChangeAt Go.RowKit
open ints (hide unhide)
open dt (Dt Kp RowAt Ow Grow OwIn)
set_option linter.unusedVariables false
set_option linter.unusedSimpArgs false
/-- a list that is done, its blocks between lo and hi -/
structure Sh (w : World) (k : Nat) (l : List Dt) (lo hi : Nat) (a : Option Addr) (n c : Nat) (F : List Nat) : Prop where
  nc : n ≤ c
  cm : c ≤ maxLen
  no : a = none → c = 0
  nd : F.Nodup
  rng : ∀ b ∈ F, lo ≤ b ∧ b < hi
  hi : hi ≤ w.heap.size
  len : n = l.length
  at_ : (a = none ∧ Dt.of l = .nil ∧ n = 0 ∧ F = []) ∨ ∃ p G', a = some ⟨p, 0, none⟩ ∧ F = p :: G' ∧ OwIn w (Dt.of l) k p 0 n G'
theorem Sh.of {t : TypeId} {k : Nat} {w : World} {lo : Nat} {l : List Dt} {sl : Value} {G : List Nat} (h : Grow t k w lo l sl G) : ∃ a n c F, sl = .slice a n c ∧ Sh w k l lo w.heap.size a n c F := by
  obtain ⟨a, n, c, F, rfl, h1, h2, h3, h4, h5, h6, h7⟩ := h.shut
  exact ⟨a, n, c, F, rfl, h1, h2, h3, h4, h5, Nat.le_refl _, h6, h7⟩
theorem Sh.nil {w : World} {k lo hi : Nat} (h : hi ≤ w.heap.size) : Sh w k [] lo hi none 0 0 [] := ⟨Nat.le_refl _, Nat.zero_le _, fun _ => rfl, List.nodup_nil, by simp, h, rfl, .inl ⟨rfl, rfl, rfl, rfl⟩⟩
theorem Sh.agree {w w' : World} {k : Nat} {l : List Dt} {lo hi : Nat} {a : Option Addr} {n c : Nat} {F : List Nat} (h : Sh w k l lo hi a n c F) (hs : w.heap.size ≤ w'.heap.size) (ha : dt.Agree F w w') : Sh w' k l lo hi a n c F := by
  refine ⟨h.nc, h.cm, h.no, h.nd, h.rng, Nat.le_trans h.hi hs, h.len, ?_⟩
  rcases h.at_ with x | ⟨p, G, e, rfl, x⟩
  · exact .inl x
  · exact .inr ⟨p, G, e, rfl, OwIn.agree _ k p 0 n G ha x⟩
theorem Sh.kp {w w' : World} {k : Nat} {l : List Dt} {lo hi B : Nat} {a : Option Addr} {n c : Nat} {F : List Nat} (h : Sh w k l lo hi a n c F) (hk : Kp B w w') (hB : B < lo) : Sh w' k l lo hi a n c F :=
  h.agree hk.size (fun b hb j => dt.cell_blk (hk.block b (Nat.lt_of_lt_of_le (h.rng b hb).2 h.hi) (by have := (h.rng b hb).1; omega)) j)
theorem Sh.out {w : World} {k : Nat} {l : List Dt} {lo hi b : Nat} {a : Option Addr} {n c : Nat} {F : List Nat} (h : Sh w k l lo hi a n c F) (hb : b < lo ∨ hi ≤ b) (o : Nat) (vs : List Value) : Sh (w.setCells b o vs) k l lo hi a n c F :=
  h.agree (by rw [dt.size_setCells]; exact Nat.le_refl _) (fun x hx j => dt.cell_blk (dt.heap_setCells b x (by have := h.rng x hx; intro e; subst e; omega) vs o w) j)
theorem Sh.ow {w : World} {k : Nat} {l : List Dt} {lo hi : Nat} {a : Option Addr} {n c : Nat} {F : List Nat} (h : Sh w k l lo hi a n c F) {r : Dt} {ds : List Value} {F2 : List Nat} (hr : Ow w r ds F2) : Ow w (.lst k (Dt.of l) r) (.slice a n c :: ds) (F ++ F2) := by
  unfold Ow
  exact ⟨a, n, c, ds, F, F2, rfl, h.nc, h.cm, h.no, h.at_, hr, rfl⟩
/-- three lists, one behind the other -/
theorem Sh.nodup {w : World} {k1 k2 k3 : Nat} {l1 l2 l3 : List Dt} {lo1 hi1 lo2 hi2 lo3 hi3 : Nat} {a1 a2 a3 : Option Addr} {n1 c1 n2 c2 n3 c3 : Nat} {F1 F2 F3 : List Nat} (h1 : Sh w k1 l1 lo1 hi1 a1 n1 c1 F1) (h2 : Sh w k2 l2 lo2 hi2 a2 n2 c2 F2) (h3 : Sh w k3 l3 lo3 hi3 a3 n3 c3 F3) (h12 : hi1 ≤ lo2) (h23 : hi2 ≤ lo3) (h22 : lo2 ≤ hi2) :
    (F1 ++ (F2 ++ F3)).Nodup ∧ ∀ b ∈ F1 ++ (F2 ++ F3), min lo1 (min lo2 lo3) ≤ b ∧ b < w.heap.size := by
  constructor
  · rw [List.nodup_append]
    refine ⟨h1.nd, ?_, fun x hx y hy e => ?_⟩
    · rw [List.nodup_append]
      exact ⟨h2.nd, h3.nd, fun x hx y hy e => by have := h2.rng x hx; have := h3.rng y hy; omega⟩
    · have := h1.rng x hx
      rcases List.mem_append.1 hy with hy | hy
      · have := h2.rng y hy; omega
      · have := h3.rng y hy; omega
  · intro b hb
    have i1 := h1.hi
    have i2 := h2.hi
    have i3 := h3.hi
    rcases List.mem_append.1 hb with hb | hb
    · have := h1.rng b hb; omega
    · rcases List.mem_append.1 hb with hb | hb
      · have := h2.rng b hb; omega
      · have := h3.rng b hb; omega
def par (B : Nat) : Value := .agg #[.pointer (some ⟨B, 0, none⟩)]
def selC (k : Int) (al nm on : ByteArray) (a1 : Option Addr) (n1 c1 : Nat) (a2 : Option Addr) (n2 c2 : Nat) (a3 : Option Addr) (n3 c3 : Nat) (ln co : Int) : List Value := [.int .i64 k, .string al, .string nm, .string on, .slice a1 n1 c1, .slice a2 n2 c2, .slice a3 n3 c3, .int .i64 ln, .int .i64 co]
structure SelPost (r : Option Dt) (w w' : World) (cs : List Value) (F : List Nat) : Prop where
  shape : ∃ k al nm on a1 n1 c1 a2 n2 c2 a3 n3 c3 ln co, cs = selC k al nm on a1 n1 c1 a2 n2 c2 a3 n3 c3 ln co
  own : ∀ d, r = some d → Ow w' d cs F ∧ F.Nodup ∧ ∀ b ∈ F, w.heap.size ≤ b ∧ b < w'.heap.size
theorem sel_ow {w : World} {l1 l2 l3 : List Dt} {lo1 hi1 lo2 hi2 lo3 hi3 : Nat} {a1 a2 a3 : Option Addr} {n1 c1 n2 c2 n3 c3 : Nat} {F1 F2 F3 : List Nat} (h1 : Sh w 10 l1 lo1 hi1 a1 n1 c1 F1) (h2 : Sh w 4 l2 lo2 hi2 a2 n2 c2 F2) (h3 : Sh w 9 l3 lo3 hi3 a3 n3 c3 F3) (h12 : hi1 ≤ lo2) (h23 : hi2 ≤ lo3) (h22 : lo2 ≤ hi2) (k : Int) (al nm on : ByteArray) (ln co : Int) (lo : Nat) (g1 : lo ≤ lo1) (g2 : lo ≤ lo2) (g3 : lo ≤ lo3) :
    ∃ F, Ow w (selD k al nm on l1 l2 l3 ln co) (selC k al nm on a1 n1 c1 a2 n2 c2 a3 n3 c3 ln co) F ∧ F.Nodup ∧ ∀ b ∈ F, lo ≤ b ∧ b < w.heap.size := by
  obtain ⟨nd, rg⟩ := Sh.nodup h1 h2 h3 h12 h23 h22
  have hp : Ow w (.val (.int .i64 ln) (.val (.int .i64 co) .nil)) [.int .i64 ln, .int .i64 co] [] := pos_ow _ _ _
  refine ⟨F1 ++ (F2 ++ F3), ?_, nd, fun b hb => by have := rg b hb; omega⟩
  have h5 := h1.ow (h2.ow (h3.ow hp))
  rw [List.append_nil] at h5
  unfold selD selC
  unfold Ow
  refine ⟨_, rfl, rfl, ?_⟩
  unfold Ow
  refine ⟨_, rfl, rfl, ?_⟩
  unfold Ow
  refine ⟨_, rfl, rfl, ?_⟩
  unfold Ow
  exact ⟨_, rfl, rfl, h5⟩
def SelFn (f : Nat) (E : Cu → Option Dt × Cu) (c : Cu) : Prop := ∀ (B p : Nat) (w : World), CurAt w B p c → Calls Tryz.prog f #[par B] w fun e w' => ∃ cs F, e = .returned (.tuple #[.agg cs.toArray, .bool (E c).1.isSome]) ∧ SelPost (E c).1 w w' cs F ∧ CurAt w' B p (E c).2 ∧ Kp B w w'
def SelPs (f : Nat) (E : Cu → Option Dt × Cu) (ln co : Int) (c : Cu) : Prop := ∀ (B p : Nat) (w : World), CurAt w B p c → Calls Tryz.prog f #[par B, .agg #[.int .i64 ln, .int .i64 co]] w fun e w' => ∃ cs F, e = .returned (.tuple #[.agg cs.toArray, .bool (E c).1.isSome]) ∧ SelPost (E c).1 w w' cs F ∧ CurAt w' B p (E c).2 ∧ Kp B w w'
def BrkPS (r : Option (List Dt)) (lo : Nat) (w' : World) (sl : Value) : Prop := match r with | none => sl = .slice none 0 0 | some l => ∃ G, Grow 66 9 w' lo l sl G
def SelsAt (S : Cu → Option (List Dt) × Cu) (c : Cu) : Prop := ∀ (B p : Nat) (w : World), CurAt w B p c → Calls Tryz.prog 31 #[par B] w fun e w' => ∃ sl, e = .returned (.tuple #[sl, .bool (S c).1.isSome]) ∧ BrkPS (S c).1 w.heap.size w' sl ∧ CurAt w' B p (S c).2 ∧ Kp B w w'
theorem infoSel : (Tryz.prog.info? 66).map (·.size) = some 9 := by kernel_rfl
/-- a list that is done, if it is there -/
def ShO (w : World) (k : Nat) (r : Option (List Dt)) (lo hi : Nat) (a : Option Addr) (n c : Nat) : Prop := ∀ l, r = some l → ∃ F, Sh w k l lo hi a n c F
theorem brkD_form {r : Option (List Dt)} {lo : Nat} {w : World} {sl : Value} (h : BrkPD r lo w sl) : ∃ a n c, sl = .slice a n c ∧ ShO w 4 r lo w.heap.size a n c := by
  unfold BrkPD at h
  cases r with
  | none => obtain ⟨a, n, c, rfl⟩ := h; exact ⟨a, n, c, rfl, fun l e => by cases e⟩
  | some l =>
    obtain ⟨G, hg⟩ := h
    obtain ⟨a, n, c, F, rfl, hs⟩ := Sh.of hg
    exact ⟨a, n, c, rfl, fun l' e => by obtain rfl := Option.some.inj e; exact ⟨F, hs⟩⟩
theorem brkA_form {r : Option (List Dt)} {lo : Nat} {w : World} {sl : Value} (hlo : lo ≤ w.heap.size) (h : BrkPA r lo w sl) : ∃ a n c F, sl = .slice a n c ∧ Sh w 10 (r.getD []) lo w.heap.size a n c F := by
  unfold BrkPA at h
  cases r with
  | none => subst h; exact ⟨none, 0, 0, [], rfl, Sh.nil (Nat.le_refl _)⟩
  | some l =>
    obtain ⟨G, hg⟩ := h
    obtain ⟨a, n, c, F, rfl, hs⟩ := Sh.of hg
    exact ⟨a, n, c, F, rfl, hs⟩
theorem brkS_form {r : Option (List Dt)} {lo : Nat} {w : World} {sl : Value} (h : BrkPS r lo w sl) : ∃ a n c F, sl = .slice a n c ∧ Sh w 9 (r.getD []) lo w.heap.size a n c F := by
  unfold BrkPS at h
  cases r with
  | none => subst h; exact ⟨none, 0, 0, [], rfl, Sh.nil (Nat.le_refl _)⟩
  | some l =>
    obtain ⟨G, hg⟩ := h
    obtain ⟨a, n, c, F, rfl, hs⟩ := Sh.of hg
    exact ⟨a, n, c, F, rfl, hs⟩
theorem three_at (w : World) (x0 : Array Value) (t0 : TypeId) (x1 : Array Value) (t1 : TypeId) (x2 : Array Value) (t2 : TypeId) :
    Below w.heap.size w (((w.alloc (.cells x0 t0)).alloc (.cells x1 t1)).alloc (.cells x2 t2)) ∧
    (((w.alloc (.cells x0 t0)).alloc (.cells x1 t1)).alloc (.cells x2 t2)).heap[w.heap.size]? = some (.cells x0 t0 (0, 0)) ∧
    (((w.alloc (.cells x0 t0)).alloc (.cells x1 t1)).alloc (.cells x2 t2)).heap[w.heap.size + 1]? = some (.cells x1 t1 (0, 0)) ∧
    (((w.alloc (.cells x0 t0)).alloc (.cells x1 t1)).alloc (.cells x2 t2)).heap[w.heap.size + 1 + 1]? = some (.cells x2 t2 (0, 0)) ∧
    (((w.alloc (.cells x0 t0)).alloc (.cells x1 t1)).alloc (.cells x2 t2)).heap.size = w.heap.size + 1 + 1 + 1 := by
  have b2 := (Below.refl (w.alloc (.cells x0 t0)).heap.size (w.alloc (.cells x0 t0))).alloc (Nat.le_refl _) (.cells x1 t1)
  have b3 := b2.alloc (by simp) (.cells x2 t2)
  refine ⟨(((Below.refl _ _).alloc (Nat.le_refl _) _).alloc (by simp) _).alloc (by simp; omega) _, ?_, ?_, ?_, by simp⟩
  · exact (b3.block _ (by simp)).trans (heap_alloc_new w _)
  · have h := heap_alloc_new (w.alloc (.cells x0 t0)) (.cells x1 t1)
    have e : (w.alloc (.cells x0 t0)).heap.size = w.heap.size + 1 := by simp
    rw [e] at h
    exact (Below.heap_alloc _ _ _ (by simp)).trans h
  · have h := heap_alloc_new ((w.alloc (.cells x0 t0)).alloc (.cells x1 t1)) (.cells x2 t2)
    have e : ((w.alloc (.cells x0 t0)).alloc (.cells x1 t1)).heap.size = w.heap.size + 1 + 1 := by simp
    rw [e] at h
    exact h
theorem four_at (w : World) (x0 : Array Value) (t0 : TypeId) (x1 : Array Value) (t1 : TypeId) (x2 : Array Value) (t2 : TypeId) (x3 : Array Value) (t3 : TypeId) :
    Below w.heap.size w ((((w.alloc (.cells x0 t0)).alloc (.cells x1 t1)).alloc (.cells x2 t2)).alloc (.cells x3 t3)) ∧
    ((((w.alloc (.cells x0 t0)).alloc (.cells x1 t1)).alloc (.cells x2 t2)).alloc (.cells x3 t3)).heap[w.heap.size]? = some (.cells x0 t0 (0, 0)) ∧
    ((((w.alloc (.cells x0 t0)).alloc (.cells x1 t1)).alloc (.cells x2 t2)).alloc (.cells x3 t3)).heap[w.heap.size + 1]? = some (.cells x1 t1 (0, 0)) ∧
    ((((w.alloc (.cells x0 t0)).alloc (.cells x1 t1)).alloc (.cells x2 t2)).alloc (.cells x3 t3)).heap[w.heap.size + 1 + 1]? = some (.cells x2 t2 (0, 0)) ∧
    ((((w.alloc (.cells x0 t0)).alloc (.cells x1 t1)).alloc (.cells x2 t2)).alloc (.cells x3 t3)).heap[w.heap.size + 1 + 1 + 1]? = some (.cells x3 t3 (0, 0)) ∧
    ((((w.alloc (.cells x0 t0)).alloc (.cells x1 t1)).alloc (.cells x2 t2)).alloc (.cells x3 t3)).heap.size = w.heap.size + 1 + 1 + 1 + 1 := by
  obtain ⟨h1, h2, h3, h4, h5⟩ := three_at w x0 t0 x1 t1 x2 t2
  have hb := fun b (hb : b < (((w.alloc (.cells x0 t0)).alloc (.cells x1 t1)).alloc (.cells x2 t2)).heap.size) => Below.heap_alloc (((w.alloc (.cells x0 t0)).alloc (.cells x1 t1)).alloc (.cells x2 t2)) (.cells x3 t3) b hb
  have h := heap_alloc_new (((w.alloc (.cells x0 t0)).alloc (.cells x1 t1)).alloc (.cells x2 t2)) (.cells x3 t3)
  rw [h5] at h
  exact ⟨h1.alloc h1.size _, (hb _ (by omega)).trans h2, (hb _ (by omega)).trans h3, (hb _ (by omega)).trans h4, h, by simp⟩
/-- several new blocks -/
def allocs (w : World) : List (Array Value × TypeId) → World
  | [] => w
  | x :: l => allocs (w.alloc (.cells x.1 x.2)) l
theorem allocs_size : ∀ (l : List (Array Value × TypeId)) (w : World), (allocs w l).heap.size = w.heap.size + l.length
  | [], w => rfl
  | x :: l, w => by rw [allocs, allocs_size l]; simp; omega
theorem allocs_below : ∀ (l : List (Array Value × TypeId)) (w : World), Below w.heap.size w (allocs w l)
  | [], w => Below.refl _ _
  | x :: l, w => ((Below.refl _ _).alloc (Nat.le_refl _) _).trans ((allocs_below l _).mono (by simp))
theorem allocs_at : ∀ (l : List (Array Value × TypeId)) (w : World) (i : Nat) (x : Array Value × TypeId), l[i]? = some x → (allocs w l).heap[w.heap.size + i]? = some (.cells x.1 x.2 (0, 0))
  | [], w, i, x, h => by simp at h
  | y :: l, w, 0, x, h => by
    simp at h
    subst h
    exact ((allocs_below l _).block _ (by simp)).trans (heap_alloc_new w _)
  | y :: l, w, i + 1, x, h => by
    have := allocs_at l (w.alloc (.cells y.1 y.2)) i x (by simpa using h)
    rw [World.size_alloc, Nat.add_assoc, Nat.add_comm 1 i] at this
    exact this
theorem _root_.Go.Proofs.YtmhelpocddndjaaGreat.dt.Kp.setB {B : Nat} {w w1 : World} (h : Kp B w w1) {b : Nat} (hb : w.heap.size ≤ b) (o : Nat) (v : Value) : Kp B w (w1.setCell ⟨b, o, none⟩ v) := h.out hb o [v]
theorem CurAt.outC {w : World} {B p : Nat} {c : Cu} (h : CurAt w B p c) {b : Nat} (hb : B ≠ b) (hp : p ≠ b) (o : Nat) (v : Value) : CurAt (w.setCell ⟨b, o, none⟩ v) B p c := h.out hb hp o [v]
theorem Sh.outC {w : World} {k : Nat} {l : List Dt} {lo hi b : Nat} {a : Option Addr} {n c : Nat} {F : List Nat} (h : Sh w k l lo hi a n c F) (hb : b < lo ∨ hi ≤ b) (o : Nat) (v : Value) : Sh (w.setCell ⟨b, o, none⟩ v) k l lo hi a n c F := h.out hb o [v]
theorem Sh.below {w w' : World} {k : Nat} {l : List Dt} {lo hi : Nat} {a : Option Addr} {n c : Nat} {F : List Nat} (h : Sh w k l lo hi a n c F) (hb : Below w.heap.size w w') : Sh w' k l lo hi a n c F := h.agree hb.size (fun b hx j => dt.cell_blk (hb.block b (Nat.lt_of_lt_of_le (h.rng b hx).2 h.hi)) j)
theorem ShO.kp {w w' : World} {k : Nat} {r : Option (List Dt)} {lo hi B : Nat} {a : Option Addr} {n c : Nat} (h : ShO w k r lo hi a n c) (hk : Kp B w w') (hB : B < lo) : ShO w' k r lo hi a n c := fun l e => let ⟨F, x⟩ := h l e; ⟨F, x.kp hk hB⟩
theorem ShO.below {w w' : World} {k : Nat} {r : Option (List Dt)} {lo hi : Nat} {a : Option Addr} {n c : Nat} (h : ShO w k r lo hi a n c) (hb : Below w.heap.size w w') : ShO w' k r lo hi a n c := fun l e => let ⟨F, x⟩ := h l e; ⟨F, x.below hb⟩
theorem ShO.out {w : World} {k : Nat} {r : Option (List Dt)} {lo hi b : Nat} {a : Option Addr} {n c : Nat} (h : ShO w k r lo hi a n c) (hb : b < lo ∨ hi ≤ b) (o : Nat) (vs : List Value) : ShO (w.setCells b o vs) k r lo hi a n c := fun l e => let ⟨F, x⟩ := h l e; ⟨F, x.out hb o vs⟩
theorem ShO.outC {w : World} {k : Nat} {r : Option (List Dt)} {lo hi b : Nat} {a : Option Addr} {n c : Nat} (h : ShO w k r lo hi a n c) (hb : b < lo ∨ hi ≤ b) (o : Nat) (v : Value) : ShO (w.setCell ⟨b, o, none⟩ v) k r lo hi a n c := h.out hb o [v]
theorem size_setC (w : World) (b o : Nat) (v : Value) : (w.setCell ⟨b, o, none⟩ v).heap.size = w.heap.size := by simp
theorem args_all (ct : Bool) (N : Nat) (c : Cu) (hc : c.Ok) (hlen : c.ts.length ≤ 1099511627777) (hN : c.ts.length ≤ N) : ArgsAt (argsS (litF ct N)) ct c :=
  args_ok (litF ct N) ct c hc hlen (litF_goes ct N) (fun cc h1 h2 h3 => arg_ok (litF ct N) ct cc h1 (litF_ok ct N _ (want_stp (name_stp h1).ok bCol).ok (by rw [((name_stp h1).trans (want_stp (name_stp h1).ok bCol)).ts, h2]; exact hlen) (by rw [((name_stp h1).trans (want_stp (name_stp h1).ok bCol)).ts, h2]; omega)) (name_dead ct N cc))
theorem dirs_all (ct : Bool) (N : Nat) (c : Cu) (hc : c.Ok) (hlen : c.ts.length ≤ 1099511627777) (hN : c.ts.length ≤ N) : DirsAt (dirs (litF ct N)) ct c :=
  dirs_ok (litF ct N) ct c hc hlen (litF_goes ct N) (fun cc h1 h2 h3 h4 => dir_ok (litF ct N) ct cc h1 (isP_more h1 h4) (args_all ct N _ (name_stp (takeP h1 h4).ok).ok (by rw [((takeP h1 h4).trans (name_stp (takeP h1 h4).ok)).ts, h2]; exact hlen) (by rw [((takeP h1 h4).trans (name_stp (takeP h1 h4).ok)).ts, h2]; exact hN)))
end Go.Proofs.YtmhelpocddndjaaGreat.cu
