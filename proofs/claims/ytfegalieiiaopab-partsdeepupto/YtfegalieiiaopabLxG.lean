import Derived.Test.YtfegalieiiaopabLxF
import Derived.Test.YtfegalieiiaopabDg
namespace Go.Proofs.Ytfegalieiiaopab.lx
open Go.ChangeShapes Go.WideShapes Go.ChangeAt Go.RowKit
open ints (hide unhide)
open mem (Row)
open cu (Tk)
set_option linter.unusedVariables false
def tksF (l : List Int) : Nat → Nat → List Tk
  | 0, i => []
  | f + 1, i => if (tkAt l i).k = 0 ∨ (tkAt l i).k = 1 then [tkAt l i] else tkAt l i :: tksF l f (tkAt l i).to
theorem tk_le (l : List Int) (i : Nat) (hi : i ≤ l.length) : (tkAt l i).fr ≤ l.length ∧ (tkAt l i).to ≤ l.length ∧ ((tkAt l i).k = 0 ∨ (tkAt l i).k = 1 ∨ i < (tkAt l i).to) := by
  have h1 := ign_le l false i
  have h2 := rd_le l true (ign l false i) (h1.2 hi)
  refine ⟨h1.2 hi, h2.2.1, ?_⟩
  rcases h2.2.2 with h | h | h
  · exact .inl h
  · exact .inr (.inl h)
  · exact .inr (.inr (Nat.lt_of_le_of_lt h1.1 h))
theorem tksF_more (l : List Int) : ∀ (f g i : Nat), l.length < f + i → l.length < g + i → i ≤ l.length → tksF l f i = tksF l g i
  | 0, g, i, hf, _, hi => by omega
  | f + 1, 0, i, _, hg, hi => by omega
  | f + 1, g + 1, i, hf, hg, hi => by
    simp only [tksF]
    split
    · rfl
    · rename_i h
      have h2 := tk_le l i hi
      have h3 : i < (tkAt l i).to := by
        rcases h2.2.2 with e | e | e
        · exact absurd (.inl e) h
        · exact absurd (.inr e) h
        · exact e
      rw [tksF_more l f g (tkAt l i).to (by omega) (by omega) h2.2.1]
/-- all tokens from i on -/
def tks (l : List Int) (i : Nat) : List Tk := tksF l (l.length + 1) i
theorem tks_end {l : List Int} {i : Nat} (h : (tkAt l i).k = 0 ∨ (tkAt l i).k = 1) : tks l i = [tkAt l i] := by
  unfold tks
  rw [tksF, if_pos h]
theorem tks_go {l : List Int} {i : Nat} (hi : i ≤ l.length) (h : ¬ ((tkAt l i).k = 0 ∨ (tkAt l i).k = 1)) : tks l i = tkAt l i :: tks l (tkAt l i).to := by
  have h2 := tk_le l i hi
  have h3 : i < (tkAt l i).to := by
    rcases h2.2.2 with e | e | e
    · exact absurd (.inl e) h
    · exact absurd (.inr e) h
    · exact e
  unfold tks
  rw [show tksF l (l.length + 1) i = tkAt l i :: tksF l l.length (tkAt l i).to from by rw [tksF, if_neg h]]
  rw [tksF_more l l.length (l.length + 1) (tkAt l i).to (by omega) (by omega) h2.2.1]
/-- ASCII is read letter by letter -/
theorem dec_ascii : ∀ (f : Nat) (l : List Int), (∀ c ∈ l, 0 ≤ c ∧ c ≤ 127) → l.length ≤ f → mem.decF f l = (l, l.length)
  | 0, l, h, hf => by
    have : l = [] := List.eq_nil_of_length_eq_zero (by omega)
    subst this
    rfl
  | f + 1, [], h, hf => by
    rw [mem.decF_end _ _ (by decide)]
    rfl
  | f + 1, c :: r, h, hf => by
    have hc := h c (List.mem_cons_self ..)
    have hp : mem.putB c = [c] := mem.putB_1 (by omega)
    have ho := mem.one_put c (.inl ⟨hc.1, by omega⟩) r
    rw [hp] at ho
    have ho' : mem.oneL (c :: r) = (c, 1) := ho
    rw [mem.decF_go f (c :: r) (by rw [ho']; simp), ho']
    simp only [List.drop_succ_cons, List.drop_zero]
    rw [dec_ascii f r (fun x hx => h x (List.mem_cons_of_mem _ hx)) (by simp at hf; omega)]
    simp [Nat.add_comm]
theorem infoTz : ∃ i z, Try.prog.info? 63 = some i ∧ i.zero = some z ∧ i.size = 7 ∧ i.bytes = 72 ∧ z.cells.size = 7 := by
  have hin : (Try.prog.info? 63).map (fun i => (i.bytes, i.size, i.zero.map (·.cells.size))) = some (72, 7, some 7) := by kernel_rfl
  cases hq : Try.prog.info? 63 with
  | none => simp [hq] at hin
  | some i =>
    simp [hq] at hin
    obtain ⟨h1, h2, z, hz, h3⟩ := hin
    exact ⟨i, z, rfl, hz, h2, h1, h3⟩
theorem infoPs : (Try.prog.info? 30).map (·.size) = some 2 := by kernel_rfl
theorem pos_cells (l : List Int) (m f : Nat) (hf : f < m) : (mem.posCells (mem.plist l m))[f * 2]? = some (.int .i64 (mem.posT l f).1) ∧ (mem.posCells (mem.plist l m))[f * 2 + 1]? = some (.int .i64 (mem.posT l f).2) := by
  have hp : (mem.plist l m)[f]? = some (mem.posT l f) := by simp [mem.plist, hf]
  have key : ∀ (ps : List (Int × Int)) (f : Nat) (q : Int × Int), ps[f]? = some q → (mem.posCells ps)[f * 2]? = some (.int .i64 q.1) ∧ (mem.posCells ps)[f * 2 + 1]? = some (.int .i64 q.2) := by
    intro ps
    induction ps with
    | nil => intro f q h; simp at h
    | cons r ps ih =>
      intro f q h
      cases f with
      | zero => simp at h; subst h; simp [mem.posCells]
      | succ f =>
        have := ih f q (by simpa using h)
        simp only [mem.posCells, List.flatMap_cons] at this ⊢
        rw [show (f + 1) * 2 = f * 2 + 2 by omega, show f * 2 + 2 + 1 = (f * 2 + 1) + 2 by omega]
        exact this
  exact key _ f _ hp
theorem buildT (t : Tk) (w : World) : (Instr.buildSlice 56 1 #[(0, .agg t.cells.toArray)]).run Try.prog w = .ok (.slice (some ⟨w.heap.size, 0, none⟩) 1 1) (w.alloc (.cells t.cells.toArray 63)) := by
  unfold Tk.cells
  go_simp
theorem flat7 : ∀ (ts : List Tk) (i j : Nat) (t : Tk), ts[i]? = some t → j < 7 → (ts.flatMap Tk.cells)[i * 7 + j]? = t.cells[j]?
  | [], i, j, t, h, _ => by simp at h
  | a :: ts, 0, j, t, h, hj => by
    simp at h; subst h
    rw [List.flatMap_cons, Nat.zero_mul, Nat.zero_add, List.getElem?_append_left (by simpa [Tk.cells] using hj)]
  | a :: ts, i + 1, j, t, h, hj => by
    have ih := flat7 ts i j t (by simpa using h) hj
    rw [List.flatMap_cons, List.getElem?_append_right (by simp [Tk.cells]; omega), show (i + 1) * 7 + j - a.cells.length = i * 7 + j by simp [Tk.cells]; omega]
    exact ih
/-- the last token -/
theorem tokens_end {n : Nat} {l : List Int} {k : Nat} {t : Tk} {pre : List Tk} {w w6 w7 : World} {B : Nat} {sl : Value} (hn : n ≤ 1099511627776) (hend : t.k = 0 ∨ t.k = 1) (hpre : pre ++ tks l k = tks l 0) (ht : t = tkAt l k) (hva : t.va = cu.em)
    (hr : w7.ownsRow B 63 7 sl (pre.length + 1) (pre.flatMap Tk.cells ++ [.int .i64 t.k, .int .i64 t.ln, .int .i64 t.co, .int .i64 t.fr, .int .i64 t.to, .string t.tx, .string cu.em])) (hb : Below w.heap.size w w6) (hb7 : Below B w6 w7) (hB : w.heap.size ≤ B) :
    ∃ p cap, Ending.returned sl = .returned (.slice (some ⟨p, 0, none⟩) (tks l 0).length cap) ∧ w.heap.size ≤ p ∧ p < w7.heap.size ∧ (∀ i t, (tks l 0)[i]? = some t → dt.RowAt w7 p (i * 7) t.cells) ∧ Below w.heap.size w w7 := by
  subst ht
  have htk : tks l 0 = pre ++ [tkAt l k] := by rw [← hpre, tks_end hend]
  have hcs : pre.flatMap Tk.cells ++ [.int .i64 (tkAt l k).k, .int .i64 (tkAt l k).ln, .int .i64 (tkAt l k).co, .int .i64 (tkAt l k).fr, .int .i64 (tkAt l k).to, .string (tkAt l k).tx, .string cu.em] = (tks l 0).flatMap Tk.cells := by
    rw [htk, List.flatMap_append]
    simp [Tk.cells, hva]
  have hlen : pre.length + 1 = (tks l 0).length := by rw [htk]; simp
  rw [hcs, hlen] at hr
  have hr2 := hr
  have hlt := hr.lt
  obtain ⟨h1, h2⟩ := hr
  rcases h2 with ⟨_, h3⟩ | ⟨g, cap, cur, rfl, hg, hh, hnc, r⟩
  · omega
  · refine ⟨g, cap, rfl, Nat.le_trans hB hg, (hlt g rfl).2, fun i t ht j u hu => ?_, hb.trans (hb7.mono hB)⟩
    have hi : i < (tks l 0).length := (List.getElem?_eq_some_iff.1 ht).1
    have hj : j < 7 := (List.getElem?_eq_some_iff.1 hu).1
    rw [World.ownsRow.cellAt hr2 (i * 7 + j) (by omega)]
    rw [flat7 _ i j t ht hj]
    exact hu
set_option maxHeartbeats 4000000 in
theorem tokens_ok (a : Option Addr) (n c : Nat) (l : List Int) (w : World) (h : Row .u8 w a n c l) (hn : n ≤ 1099511627776) (hp : Plain l) :
    Calls Try.prog 13 #[.slice a n c] w fun e w' => ∃ p cap, e = .returned (.slice (some ⟨p, 0, none⟩) (tks l 0).length cap) ∧ w.heap.size ≤ p ∧ p < w'.heap.size ∧ (∀ i t, (tks l 0)[i]? = some t → dt.RowAt w' p (i * 7) t.cells) ∧ Below w.heap.size w w' := by
  have hd : mem.decZ l = (l, l.length) := dec_ascii _ l (fun x hx => ⟨(hp x hx).1, (hp x hx).2.1⟩) (Nat.le_refl _)
  have hD := hide (mem.decode_bytes a n c l w h (fun x hx => ⟨(hp x hx).1, by have := (hp x hx).2.1; omega⟩) (by omega))
  rw [hd, h.len] at hD
  clear hd
  go_enter Try.func13, Try.ntmps13
  go_wp2_with fail
  refine (unhide hD).mono ?_
  rintro e w1 ⟨v, rfl, hown, b1⟩
  obtain ⟨a1, c1, rfl, hrow⟩ := mem.own_row hown
  have ha1 : a1 = none ∨ ∃ b off, a1 = some ⟨b, off, none⟩ := by
    rcases hown.2 with ⟨e, _⟩ | ⟨g, cap, cur, e, _⟩
    · left; simp at e; exact e.1
    · right; simp at e; exact ⟨g, 0, e.1⟩
  clear hD hown
  have hsb := Sb.new w1 a1 n c1 true
  go_wp2_with fail
  obtain ⟨w2, hw2⟩ : ∃ w2, w2 = w1.alloc (.cells #[.slice a1 n c1, .bool true] 76) := ⟨_, rfl⟩
  rw [← hw2] at hsb ⊢
  clear hw2
  refine (mem.places_any a1 n c1 l w2 (hrow.below hsb.bel) hn).mono ?_
  rintro e w3 ⟨rfl, hpl, b3⟩
  have hs3 := hsb.below b3
  obtain ⟨pb, hpb⟩ : ∃ pb, pb = w2.heap.size + 1 := ⟨_, rfl⟩
  rw [← hpb] at hpl ⊢
  have hpc := hide (fun k hk => World.ownsRow.cellAt hpl k hk)
  have hplt := (hpl.lt pb rfl).2
  clear hpl
  have hplc := hide (fun f (hf : f < n + 1) => pos_cells l (n + 1) f hf)
  go_wp2_with fail
  rw [← hpb]
  clear hpb
  go_loopg [7, 8] (n + 1) (fun g vs vi wr => ∃ (k : Nat) (pre : List Tk), k ≤ n ∧ n + 1 ≤ g + k ∧ vi = .int .i64 k ∧ Hid (pre ++ tks l k = tks l 0) ∧ Hid (wr.ownsRow w3.heap.size 63 7 vs pre.length (pre.flatMap Tk.cells)) ∧ pre.length ≤ k ∧ Below w3.heap.size w3 wr)
  case atStart => exact ⟨0, [], Nat.zero_le _, by omega, rfl, hide rfl, hide (World.ownsRow_nil _ _ _ _), Nat.zero_le _, Below.refl _ _⟩
  case round =>
    obtain ⟨k, pre, hk, hg, rfl, hpre, hown, hpk, hb⟩ := hrel
    have hsr := hs3.below hb
    have d0 := hsr.c0
    have d1 := hsr.c1
    go_wp2_with fail
    refine (next_ok a1 n c1 l k wr (hrow.below hsr.bel) hn hk hp ha1).mono ?_
    rintro e w5 ⟨rfl, b5⟩
    have htl := tk_le l k (by rw [hrow.len]; exact hk)
    rw [hrow.len] at htl
    obtain ⟨hfr, hto, hprog⟩ := htl
    have hln := hide (show (tkAt l k).ln = (mem.posT l (tkAt l k).fr).1 ∧ (tkAt l k).co = (mem.posT l (tkAt l k).fr).2 ∧ (tkAt l k).va = cu.em from ⟨rfl, rfl, rfl⟩)
    obtain ⟨t, ht⟩ : ∃ t, t = tkAt l k := ⟨_, rfl⟩
    rw [← ht] at hfr hto hprog hln ⊢
    have Ht := hide ht
    clear ht d0 d1
    have b35 := hb.trans (b5.mono hb.size)
    have hcs : ∀ o, (w5.alloc o).cell? ⟨pb, t.fr * 2, none⟩ = some (.int .i64 t.ln) ∧ (w5.alloc o).cell? ⟨pb, t.fr * 2 + 1, none⟩ = some (.int .i64 t.co) := fun o => by
      have bA : Below w3.heap.size w3 (w5.alloc o) := b35.alloc b35.size o
      have h1 := (unhide hplc) t.fr (by omega)
      rw [bA.cell (p := ⟨pb, t.fr * 2, none⟩) hplt, bA.cell (p := ⟨pb, t.fr * 2 + 1, none⟩) hplt, (unhide hpc) (t.fr * 2) (by omega), (unhide hpc) (t.fr * 2 + 1) (by omega), (unhide hln).1, (unhide hln).2.1]
      exact h1
    have k0 := fun o => (hcs o).1
    have k1 := fun o => (hcs o).2
    clear hcs
    obtain ⟨it, zt, q1, q2, q3, q4, q5⟩ := infoTz
    have HQ := hide (And.intro q1 (And.intro q2 (And.intro q3 (And.intro q4 q5))))
    clear q1 q2 q3 q4 q5
    have hown6 := hide (fun o => World.ownsRow.alloc (mem.own_below (unhide hown) b5) o)
    have hbyt := hide (show (pre.length + 1) * 72 ≤ 140737488355328 ∧ pre.length + 1 ≤ maxLen from ⟨by omega, by unfold maxLen; omega⟩)
    have hsz6 := hide (fun o => show w3.heap.size ≤ (w5.alloc o).heap.size from by have := b35.size; simp; omega)
    have hone : Hid (∀ u ∈ [Value.int .i64 t.k, .int .i64 t.ln, .int .i64 t.co, .int .i64 t.fr, .int .i64 t.to, .string t.tx, .string cu.em], u.oneCell' = true) := hide (by intro u hu; simp at hu; rcases hu with rfl | rfl | rfl | rfl | rfl | rfl | rfl <;> rfl)
    have HB := hide b35
    have hne := hide (show u7.ownBlock ≠ some w5.heap.size from fun e => by have := ((unhide hown).lt _ e).2; have := b5.size; omega)
    have Hpk := hide hpk
    have Hk := hide hk
    clear b35 hk hpk
    by_cases hk0 : t.k = 0
    · have e0 : (t.k == 0) = true := by simpa using hk0
      have Hend := hide (show t.k = 0 ∨ t.k = 1 from .inl hk0)
      clear hk0
      go_wp2_with (first
        | (at_builtin; refine dt.wp_snoc (by rfl) _ _ (by rfl) Try.underlying56 (unhide HQ).1 (unhide HQ).2.1 (unhide HQ).2.2.1 (unhide HQ).2.2.2.1 (unhide HQ).2.2.2.2 (by omega) w3.heap.size pre.length (pre.flatMap Tk.cells) _ (by rfl) ((unhide hown6) _) [.int .i64 t.k, .int .i64 t.ln, .int .i64 t.co, .int .i64 t.fr, .int .i64 t.to, .string t.tx, .string cu.em] (by rfl) (unhide hone) (w5.heap.size + 1) (by simp) (by rfl) (unhide hbyt).1 (unhide hbyt).2 ((unhide hsz6) _) ?_; intro sl' w7 hr7 b7 hold7 hat7; have T7 := (hold7 w5.heap.size (by simp) (unhide hne)).trans (heap_alloc_new _ _); have f0 : w7.cell? ⟨w5.heap.size, 0, none⟩ = some (.int .i64 t.k) := (dt.cell_cells T7 0).trans rfl; have f4 : w7.cell? ⟨w5.heap.size, 4, none⟩ = some (.int .i64 t.to) := (dt.cell_cells T7 4).trans rfl; clear T7; have R7 := hide hr7; clear hr7; have B7 := hide b7; clear b7 hold7 hat7))
      go_ret
      exact tokens_end hn (unhide Hend) (unhide hpre) (unhide Ht) (unhide hln).2.2 (unhide R7) (b1.trans ((hs3.bel.trans (((unhide HB).alloc (unhide HB).size _).mono (Nat.le_of_lt hs3.lt))).mono b1.size)) (unhide B7) (Nat.le_trans b1.size (Nat.le_of_lt hs3.lt))
    by_cases hk1 : t.k = 1
    · have e0 : (t.k == 0) = false := by simpa using hk0
      have e1 : (t.k == 1) = true := by simpa using hk1
      have Hend := hide (show t.k = 0 ∨ t.k = 1 from .inr hk1)
      clear hk0 hk1
      go_wp2_with (first
        | (at_builtin; refine dt.wp_snoc (by rfl) _ _ (by rfl) Try.underlying56 (unhide HQ).1 (unhide HQ).2.1 (unhide HQ).2.2.1 (unhide HQ).2.2.2.1 (unhide HQ).2.2.2.2 (by omega) w3.heap.size pre.length (pre.flatMap Tk.cells) _ (by rfl) ((unhide hown6) _) [.int .i64 t.k, .int .i64 t.ln, .int .i64 t.co, .int .i64 t.fr, .int .i64 t.to, .string t.tx, .string cu.em] (by rfl) (unhide hone) (w5.heap.size + 1) (by simp) (by rfl) (unhide hbyt).1 (unhide hbyt).2 ((unhide hsz6) _) ?_; intro sl' w7 hr7 b7 hold7 hat7; have T7 := (hold7 w5.heap.size (by simp) (unhide hne)).trans (heap_alloc_new _ _); have f0 : w7.cell? ⟨w5.heap.size, 0, none⟩ = some (.int .i64 t.k) := (dt.cell_cells T7 0).trans rfl; have f4 : w7.cell? ⟨w5.heap.size, 4, none⟩ = some (.int .i64 t.to) := (dt.cell_cells T7 4).trans rfl; clear T7; have R7 := hide hr7; clear hr7; have B7 := hide b7; clear b7 hold7 hat7))
      go_ret
      exact tokens_end hn (unhide Hend) (unhide hpre) (unhide Ht) (unhide hln).2.2 (unhide R7) (b1.trans ((hs3.bel.trans (((unhide HB).alloc (unhide HB).size _).mono (Nat.le_of_lt hs3.lt))).mono b1.size)) (unhide B7) (Nat.le_trans b1.size (Nat.le_of_lt hs3.lt))
    · have e0 : (t.k == 0) = false := by simpa using hk0
      have e1 : (t.k == 1) = false := by simpa using hk1
      have Hend := hide (show ¬ (t.k = 0 ∨ t.k = 1) from fun e => by rcases e with e | e; exact hk0 e; exact hk1 e)
      have hto2 : k < t.to := by
        rcases hprog with e | e | e
        · exact absurd e hk0
        · exact absurd e hk1
        · exact e
      clear hk0 hk1 hprog
      go_wp2_with (first
        | (at_builtin; refine dt.wp_snoc (by rfl) _ _ (by rfl) Try.underlying56 (unhide HQ).1 (unhide HQ).2.1 (unhide HQ).2.2.1 (unhide HQ).2.2.2.1 (unhide HQ).2.2.2.2 (by omega) w3.heap.size pre.length (pre.flatMap Tk.cells) _ (by rfl) ((unhide hown6) _) [.int .i64 t.k, .int .i64 t.ln, .int .i64 t.co, .int .i64 t.fr, .int .i64 t.to, .string t.tx, .string cu.em] (by rfl) (unhide hone) (w5.heap.size + 1) (by simp) (by rfl) (unhide hbyt).1 (unhide hbyt).2 ((unhide hsz6) _) ?_; intro sl' w7 hr7 b7 hold7 hat7; have T7 := (hold7 w5.heap.size (by simp) (unhide hne)).trans (heap_alloc_new _ _); have f0 : w7.cell? ⟨w5.heap.size, 0, none⟩ = some (.int .i64 t.k) := (dt.cell_cells T7 0).trans rfl; have f4 : w7.cell? ⟨w5.heap.size, 4, none⟩ = some (.int .i64 t.to) := (dt.cell_cells T7 4).trans rfl; clear T7; have R7 := hide hr7; clear hr7; have B7 := hide b7; clear b7 hold7 hat7))
      go_roundg (gk - 1)
      case rel =>
        refine ⟨t.to, pre ++ [t], hto, by omega, rfl, hide ?_, hide ?_, ?_, ?_⟩
        · have e := tks_go (l := l) (i := k) (by rw [hrow.len]; exact unhide Hk) (by rw [← unhide Ht]; exact unhide Hend)
          rw [← unhide Ht] at e
          rw [← unhide hpre, e]
          simp
        · have := unhide R7
          rw [List.flatMap_append, List.length_append]
          simpa [Tk.cells, (unhide hln).2.2] using this
        · have := unhide Hpk
          rw [List.length_append]
          show pre.length + 1 ≤ t.to
          omega
        · exact ((unhide HB).alloc (unhide HB).size _).trans (unhide B7)
      case measure => omega
end Go.Proofs.Ytfegalieiiaopab.lx
