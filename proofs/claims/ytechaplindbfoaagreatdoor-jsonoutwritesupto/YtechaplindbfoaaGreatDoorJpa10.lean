import Derived.Test.YtechaplindbfoaaGreatDoorJpa7
import Derived.Test.YtechaplindbfoaaGreatDoorJpa9
import Derived.Deep.MidRow
import Derived.Deep.WholeRow
import Derived.Lib.SliceRun
import Derived.Laws.OwnMore
import Derived.Outline
import Derived.Laws.Pointers
import Derived.Laws.Rows
import Derived.Deep.RegionHeld3
import Derived.Test.YtechaplindbfoaaGreatDoorJpa3
namespace Go.Proofs.YtechaplindbfoaaGreatDoor.jsn
open Go.ChangeShapes Go.WideShapes Go.ChangeAt Go.RowKit
open mem
open ints (hide unhide)
set_option linter.unusedVariables false
/-- how many digits are written is told by the number alone -/
theorem kept_uniq {d k k' : Nat} (h : fto.Kept d k) (h' : fto.Kept d k') : k = k' := by
  obtain ⟨a1, a2, a3, a4⟩ := h
  obtain ⟨b1, b2, b3, b4⟩ := h'
  rcases Nat.lt_trichotomy k k' with c | c | c
  · exact absurd (a3 (k' - 1) (by omega) (by omega)) b4
  · exact c
  · exact absurd (b3 (k - 1) (by omega) (by omega)) a4
/-- a text that FloatText answers at a float -/
def FtS (x : Nat) (s : ByteArray) : Prop := ∀ w, fto.Fx w → Calls Tryz.prog 70 #[.float .f64 x] w fun e w' => e = .returned (.string s) ∧ Below w.heap.size w w'
theorem sgB_size (x : Nat) : (fto.sgB x).size ≤ 1 := by unfold fto.sgB; split <;> decide
theorem ftb_size (x d k : Nat) (q : Int) (hk : fto.Kept d k) (d1 : 1 ≤ d) (d2 : d ≤ 100000000000000010) (q1 : -347 ≤ q) (q2 : q ≤ 349) : (fto.ftB x d k q).size ≤ 1001 := by
  unfold fto.ftB
  have n4 : Lib.nDigits d ≤ 18 := fto.nd_le d1 (Nat.lt_of_le_of_lt d2 (by decide))
  have h1 := fto.layB_size (strOfNums (fto.dgs d k)) ((Lib.nDigits d : Int) + q) (by rw [strOfNums_size, fto.dgs_len]; have := hk.2.1; omega) (by omega) (by omega)
  have h2 := sgB_size x
  rw [ByteArray.size_append]
  omega
theorem ftb_some (x d k : Nat) (q : Int) (hk : fto.Kept d k) : 1 ≤ (fto.ftB x d k q).size := by
  unfold fto.ftB fto.layB fto.expB
  have k1 := hk.1
  have e0 : (strOfNums (fto.dgs d k)).size = k := by rw [strOfNums_size, fto.dgs_len]
  have e1 : (⟨#[46]⟩ : ByteArray).size = 1 := rfl
  have e2 : (⟨#[101]⟩ : ByteArray).size = 1 := rfl
  have e3 : (⟨#[48, 46]⟩ : ByteArray).size = 2 := rfl
  have e4 : (⟨#[46, 48]⟩ : ByteArray).size = 2 := rfl
  repeat' split
  all_goals simp only [ByteArray.size_append, fto.rpB_size, e0, e1, e2, e3, e4]
  all_goals omega
theorem fts_ex (x : Nat) (h : x < 18446744073709551616) (hb : fto.badF x = false) : ∃ s, FtS x s ∧ 1 ≤ s.size ∧ s.size ≤ 1001 := by
  by_cases h0 : x % 9223372036854775808 = 0
  · refine ⟨fto.sgB x ++ ⟨#[48, 46, 48]⟩, fun w _ => fto.ftext_nought x w h h0, ?_, ?_⟩
    · rw [ByteArray.size_append]
      have : (⟨#[48, 46, 48]⟩ : ByteArray).size = 3 := rfl
      omega
    · rw [ByteArray.size_append]
      have : (⟨#[48, 46, 48]⟩ : ByteArray).size = 3 := rfl
      have := sgB_size x
      omega
  · obtain ⟨d, q, hc, H⟩ := fto.ftext_any x h hb h0
    obtain ⟨-, d1, d2, q1, q2⟩ := hc.rng
    by_cases hk : ∃ k, fto.Kept d k
    · obtain ⟨k, hk⟩ := hk
      refine ⟨fto.ftB x d k q, fun w hF => (H w hF).mono ?_, ftb_some x d k q hk, ftb_size x d k q hk d1 d2 q1 q2⟩
      rintro e w1 ⟨k', hk', rfl, b1⟩
      rw [kept_uniq hk' hk]
      exact ⟨rfl, b1⟩
    · refine ⟨⟨#[48]⟩, fun w hF => (H w hF).mono ?_, by decide, by decide⟩
      rintro e w1 ⟨k', hk', -⟩
      exact absurd ⟨k', hk'⟩ hk
open Classical in
/-- the text of a float -/
noncomputable def ftZ (x : Nat) : ByteArray := if h : x < 18446744073709551616 ∧ fto.badF x = false then Classical.choose (fts_ex x h.1 h.2) else ⟨#[]⟩
theorem ftZ_ok {x : Nat} (h : x < 18446744073709551616) (hb : fto.badF x = false) : FtS x (ftZ x) ∧ 1 ≤ (ftZ x).size ∧ (ftZ x).size ≤ 1001 := by
  unfold ftZ
  rw [dif_pos ⟨h, hb⟩]
  exact Classical.choose_spec (fts_ex x h hb)
/-- all numbers that a value may hold -/
noncomputable def NZ : Nums := ⟨fun n => -9223372036854775808 ≤ n ∧ n ≤ 9223372036854775807, fun n => (fto.itB n).data.toList, fun f => f < 18446744073709551616 ∧ fto.badF f = false, fun f => (ftZ f).data.toList⟩
theorem back_str (s : ByteArray) : (⟨s.data.toList.toArray⟩ : ByteArray) = s := by cases s; simp
theorem nz_ok {w0 : World} (hF : fto.Fx w0) : NZ.Ok w0 where
  whole := by
    rintro n w ⟨h0, h1⟩ hb
    refine (fto.whole_ok n h0 h1 w (hF.below hb)).mono ?_
    rintro e w1 ⟨rfl, b1⟩
    exact ⟨by show _ = Ending.returned (.string ⟨(fto.itB n).data.toList.toArray⟩); rw [back_str], b1⟩
  float := by
    rintro f w ⟨h, hbd⟩ hb
    refine ((ftZ_ok h hbd).1 w (hF.below hb)).mono ?_
    rintro e w1 ⟨rfl, b1⟩
    exact ⟨by show _ = Ending.returned (.string ⟨(ftZ f).data.toList.toArray⟩); rw [back_str], b1⟩
  some_ := by
    rintro f ⟨h, hbd⟩ e
    have e2 : ftZ f = ⟨#[]⟩ := by rw [← e]; exact (back_str _).symm
    have := (ftZ_ok h hbd).2.1
    rw [e2] at this
    exact absurd this (by decide)
end Go.Proofs.YtechaplindbfoaaGreatDoor.jsn
namespace Go.Proofs.YtechaplindbfoaaGreatDoor.vl
open Go.ChangeShapes Go.WideShapes Go.ChangeAt Go.RowKit
set_option linter.unusedVariables false
set_option linter.unusedSimpArgs false
mutual
/-- a value's bulk: its parts, their texts and names -/
def wtV : Vl → Nat
  | .mk _ _ _ _ tx _ its fls => 1 + tx.size + wtI its + wtF fls
def wtI : Vls → Nat
  | .nil => 0
  | .cons v r => wtV v + wtI r
def wtF : Fls → Nat
  | .nil => 0
  | .cons nm v r => nm.size + wtV v + wtF r
end
mutual
/-- whole numbers and floats within their words -/
def FlV : Vl → Prop
  | .mk _ _ n f _ _ its fls => (-9223372036854775808 ≤ n ∧ n ≤ 9223372036854775807) ∧ f < 18446744073709551616 ∧ FlI its ∧ FlF fls
def FlI : Vls → Prop
  | .nil => True
  | .cons v r => FlV v ∧ FlI r
def FlF : Fls → Prop
  | .nil => True
  | .cons _ v r => FlV v ∧ FlF r
end
theorem FlI.mk : ∀ {l : Vls}, (∀ v ∈ l.list, FlV v) → FlI l
  | .nil, _ => by unfold FlI; trivial
  | .cons v r, h => by
    unfold FlI
    exact ⟨h v (by simp [Vls.list]), FlI.mk (fun u hu => h u (by simp [Vls.list, hu]))⟩
theorem FlF.mk : ∀ {l : Fls}, (∀ q ∈ l.list, FlV q.2) → FlF l
  | .nil, _ => by unfold FlF; trivial
  | .cons nm v r, h => by
    unfold FlF
    exact ⟨h (nm, v) (by simp [Fls.list]), FlF.mk (fun u hu => h u (by simp [Fls.list, hu]))⟩
theorem FlI.all : ∀ {l : Vls}, FlI l → ∀ v ∈ l.list, FlV v
  | .nil, _, v, h => by simp [Vls.list] at h
  | .cons u r, hs, v, h => by
    unfold FlI at hs
    simp only [Vls.list, List.mem_cons] at h
    rcases h with h | h
    · rw [h]; exact hs.1
    · exact hs.2.all v h
theorem FlF.all : ∀ {l : Fls}, FlF l → ∀ q ∈ l.list, FlV q.2
  | .nil, _, q, h => by simp [Fls.list] at h
  | .cons nm u r, hs, q, h => by
    unfold FlF at hs
    simp only [Fls.list, List.mem_cons] at h
    rcases h with h | h
    · rw [h]; exact hs.1
    · exact hs.2.all q h
theorem wtI_mem {v : Vl} : ∀ {l : Vls}, v ∈ l.list → wtV v ≤ wtI l
  | .nil, h => by simp [Vls.list] at h
  | .cons u r, h => by
    simp only [Vls.list, List.mem_cons] at h
    rw [wtI]
    rcases h with rfl | h
    · omega
    · have := wtI_mem h; omega
theorem wtF_mem {q : ByteArray × Vl} : ∀ {l : Fls}, q ∈ l.list → q.1.size + wtV q.2 ≤ wtF l
  | .nil, h => by simp [Fls.list] at h
  | .cons nm u r, h => by
    simp only [Fls.list, List.mem_cons] at h
    rw [wtF]
    rcases h with rfl | h
    · simp only; omega
    · have := wtF_mem h; omega
theorem jbk_pos {H : Type} (d : DataW H) : 1 ≤ Rows.uptoBulk d := by
  cases d with
  | lit l => cases l <;> simp [Rows.uptoBulk]
  | _ => simp [Rows.uptoBulk]
theorem jbk_mem {H : Type} {d : DataW H} : ∀ {l : List (DataW H)}, d ∈ l → Rows.uptoBulk d ≤ Rows.uptoBulkAll l
  | x :: r, h => by
    simp only [Rows.uptoBulkAll]
    rcases List.mem_cons.1 h with e | e
    · subst e; omega
    · have := jbk_mem e; omega
theorem jbk_len {H : Type} : ∀ (l : List (DataW H)), l.length ≤ Rows.uptoBulkAll l
  | [] => by simp [Rows.uptoBulkAll]
  | x :: r => by
    have := jbk_len r
    have := jbk_pos x
    simp only [Rows.uptoBulkAll, List.length_cons]
    omega
theorem jbk_slice {H : Type} (e s : List (DataW H)) : e.length + s.length ≤ Rows.uptoBulk (.slice e s) := by
  have := jbk_len e
  have := jbk_len s
  simp only [Rows.uptoBulk]
  omega
theorem jbk_elems {H : Type} (e s : List (DataW H)) : Rows.uptoBulkAll e ≤ Rows.uptoBulk (.slice e s) := by
  simp only [Rows.uptoBulk]
  omega
theorem jbk_le {H : Type} {l : List (DataW H)} (hk : Rows.uptoSmall H l = true) : Rows.uptoBulkAll l ≤ 1048576 := of_decide_eq_true hk
/-- not deeper than so much -/
theorem jbk_sum {H : Type} : ∀ (l : List (DataW H)), (l.map Rows.uptoBulk).sum = Rows.uptoBulkAll l
  | [] => rfl
  | x :: r => by rw [List.map_cons, List.sum_cons, jbk_sum r]; simp only [Rows.uptoBulkAll]
theorem jvls_ofW (w : World) (b : Nat) : ∀ (bs : List Nat) (off : Nat), (∀ i (hi : i < bs.length), ∃ cs v, Row8 w b (off + i * 8) cs ∧ VlC w v cs ∧ FlV v ∧ wtV v ≤ bs[i]) → ∃ l, VlsAt w l (some ⟨b, off, none⟩) bs.length ∧ (∀ v ∈ l.list, FlV v) ∧ wtI l ≤ bs.sum
  | [], off, _ => ⟨.nil, by unfold VlsAt; rfl, by simp [Vls.list], Nat.le_refl _⟩
  | x :: bs, off, h => by
    obtain ⟨cs, v, h1, h2, h3, h4⟩ := h 0 (by simp)
    obtain ⟨l, hl, hs, hw⟩ := jvls_ofW w b bs (off + 8) (fun i hi => by
      obtain ⟨cs, v, h1, h2, h3, h4⟩ := h (i + 1) (by simpa using hi)
      exact ⟨cs, v, by rw [show off + 8 + i * 8 = off + (i + 1) * 8 by omega]; exact h1, h2, h3, by simpa using h4⟩)
    refine ⟨.cons v l, ?_, ?_, ?_⟩
    · unfold VlsAt
      exact ⟨b, off, bs.length, cs, rfl, rfl, by simpa using h1, h2, hl⟩
    · intro u hu
      simp only [Vls.list, List.mem_cons] at hu
      rcases hu with rfl | hu
      · exact h3
      · exact hs u hu
    · rw [wtI, List.sum_cons]
      have : wtV v ≤ x := by simpa using h4
      omega
theorem jfls_ofW (w : World) (b : Nat) : ∀ (bs : List Nat) (off : Nat), (∀ i (hi : i < bs.length), ∃ nm cs v, w.cell? ⟨b, off + i * 9, none⟩ = some (.string nm) ∧ nm.size ≤ maxLen ∧ Row8 w b (off + i * 9 + 1) cs ∧ VlC w v cs ∧ FlV v ∧ nm.size + wtV v ≤ bs[i]) → ∃ l, FlsAt w l (some ⟨b, off, none⟩) bs.length ∧ (∀ q ∈ l.list, FlV q.2) ∧ wtF l ≤ bs.sum
  | [], off, _ => ⟨.nil, by unfold FlsAt; rfl, by simp [Fls.list], Nat.le_refl _⟩
  | x :: bs, off, h => by
    obtain ⟨nm, cs, v, h0, hz, h1, h2, h3, h4⟩ := h 0 (by simp)
    obtain ⟨l, hl, hs, hw⟩ := jfls_ofW w b bs (off + 9) (fun i hi => by
      obtain ⟨nm, cs, v, h0, hz, h1, h2, h3, h4⟩ := h (i + 1) (by simpa using hi)
      exact ⟨nm, cs, v, by rw [show off + 9 + i * 9 = off + (i + 1) * 9 by omega]; exact h0, hz, by rw [show off + 9 + i * 9 = off + (i + 1) * 9 by omega]; exact h1, h2, h3, by simpa using h4⟩)
    refine ⟨.cons nm v l, ?_, ?_, ?_⟩
    · unfold FlsAt
      exact ⟨b, off, bs.length, cs, rfl, rfl, by simpa using h0, hz, by simpa using h1, h2, hl⟩
    · intro u hu
      simp only [Fls.list, List.mem_cons] at hu
      rcases hu with rfl | hu
      · exact h3
      · exact hs u hu
    · rw [wtF, List.sum_cons]
      have : nm.size + wtV v ≤ x := by simpa using h4
      omega
theorem jlen_data (s : ByteArray) : s.data.toList.length = s.size := by rw [Array.length_toList]; rfl
section
variable {H : Type} {enc : TypeId × Value → H} {w : World} {base : Nat} {held : Bool}
theorem jstruct8w {P : Program} {spare : Nat → Bool} {t : TypeId} {f0 f1 f2 f3 f4 f5 f6 f7 : Field} {fuel : Nat} {cs : List Value} {x : DataW H × List MemPlace} (ht : P.underlying t = some (.struct #[f0, f1, f2, f3, f4, f5, f6, f7])) (h : DataW.trod enc P w base spare held fuel t cs = some x) :
    ∃ x0 x1 x2 x3 x4 x5 x6 x7 n, fuel = n + 1 ∧ x.1 = .agg [x0.1, x1.1, x2.1, x3.1, x4.1, x5.1, x6.1, x7.1] ∧ cs.length = P.cellsOf t ∧
      DataW.trod enc P w base spare held n f0.type ((cs.drop f0.offset).take (P.cellsOf f0.type)) = some x0 ∧
      DataW.trod enc P w base spare held n f1.type ((cs.drop f1.offset).take (P.cellsOf f1.type)) = some x1 ∧
      DataW.trod enc P w base spare held n f2.type ((cs.drop f2.offset).take (P.cellsOf f2.type)) = some x2 ∧
      DataW.trod enc P w base spare held n f3.type ((cs.drop f3.offset).take (P.cellsOf f3.type)) = some x3 ∧
      DataW.trod enc P w base spare held n f4.type ((cs.drop f4.offset).take (P.cellsOf f4.type)) = some x4 ∧
      DataW.trod enc P w base spare held n f5.type ((cs.drop f5.offset).take (P.cellsOf f5.type)) = some x5 ∧
      DataW.trod enc P w base spare held n f6.type ((cs.drop f6.offset).take (P.cellsOf f6.type)) = some x6 ∧
      DataW.trod enc P w base spare held n f7.type ((cs.drop f7.offset).take (P.cellsOf f7.type)) = some x7 := by
  obtain ⟨xs, n, hfu, hx, hl, hlen, hf⟩ := DataW.trod_struct ht h
  match xs, hlen with
  | [x0, x1, x2, x3, x4, x5, x6, x7], _ => exact ⟨x0, x1, x2, x3, x4, x5, x6, x7, n, hfu, by rw [hx]; rfl, hl, by simpa using hf 0 f0 rfl, by simpa using hf 1 f1 rfl, by simpa using hf 2 f2 rfl, by simpa using hf 3 f3 rfl, by simpa using hf 4 f4 rfl, by simpa using hf 5 f5 rfl, by simpa using hf 6 f6 rfl, by simpa using hf 7 f7 rfl⟩
theorem jstruct2w {P : Program} {spare : Nat → Bool} {t : TypeId} {f0 f1 : Field} {fuel : Nat} {cs : List Value} {x : DataW H × List MemPlace} (ht : P.underlying t = some (.struct #[f0, f1])) (h : DataW.trod enc P w base spare held fuel t cs = some x) :
    ∃ x0 x1 n, fuel = n + 1 ∧ x.1 = .agg [x0.1, x1.1] ∧ cs.length = P.cellsOf t ∧
      DataW.trod enc P w base spare held n f0.type ((cs.drop f0.offset).take (P.cellsOf f0.type)) = some x0 ∧
      DataW.trod enc P w base spare held n f1.type ((cs.drop f1.offset).take (P.cellsOf f1.type)) = some x1 := by
  obtain ⟨xs, n, hfu, hx, hl, hlen, hf⟩ := DataW.trod_struct ht h
  match xs, hlen with
  | [x0, x1], _ => exact ⟨x0, x1, n, hfu, by rw [hx]; rfl, hl, by simpa using hf 0 f0 rfl, by simpa using hf 1 f1 rfl⟩
theorem jval_ofC : ∀ (fuel : Nat) (cs : List Value) (x : DataW H × List MemPlace), DataW.trod enc Tryz.prog w base (fun _ => true) held fuel 29 cs = some x → Rows.uptoBulk x.1 ≤ 1048576 → ∃ v, VlC w v cs ∧ FlV v ∧ wtV v ≤ Rows.uptoBulk x.1 := by
  intro fuel
  induction fuel using Nat.strongRecOn with
  | _ fuel ih =>
    intro cs x h hN
    obtain ⟨x0, x1, x2, x3, x4, x5, x6, x7, n, hfu, hxd, hl, f0, f1, f2, f3, f4, f5, f6, f7⟩ := jstruct8w Tryz.underlying29 h
    have hNx : Rows.uptoBulk x4.1 + Rows.uptoBulk x6.1 + Rows.uptoBulk x7.1 + 1 ≤ Rows.uptoBulk x.1 := by
      rw [hxd]
      simp only [Rows.uptoBulk, Rows.uptoBulkAll]
      omega
    rw [cellsV] at hl
    obtain ⟨c0, c1, c2, c3, c4, c5, c6, c7, rfl⟩ := list_eight hl
    simp only [cK, cB, cI, cF, cS, cIt, cFl, List.drop_zero, List.drop_succ_cons, List.take_succ_cons, List.take_zero] at f0 f1 f2 f3 f4 f5 f6 f7
    obtain ⟨kd, e0, _, w0⟩ := DataW.trod_int Tryz.underlying25 f0
    obtain ⟨b, e1, _⟩ := DataW.trod_bool Tryz.underlying4 f1
    obtain ⟨m, e2, _, w2⟩ := DataW.trod_int Tryz.underlying2 f2
    obtain ⟨fl, e3, _, w3⟩ := trod_float Tryz.underlying26 f3
    obtain ⟨tx, e4, d4, w4⟩ := DataW.trod_string Tryz.underlying9 f4
    obtain ⟨ty, e5, _, w5⟩ := DataW.trod_string Tryz.underlying9 f5
    simp only [List.cons.injEq, and_true] at e0 e1 e2 e3 e4 e5
    subst e0 e1 e2 e3 e4 e5
    have ht4 : tx.size + 1 ≤ Rows.uptoBulk x4.1 := by
      rw [d4]
      simp only [Rows.uptoBulk, jlen_data]
      omega
    have hI : ∃ (ai : Option Addr) (ni ci : Nat) (l : Vls), c6 = .slice ai ni ci ∧ VlsAt w l ai ni ∧ ni ≤ ci ∧ (ai = none → ci = 0) ∧ ci ≤ maxLen ∧ ni ≤ 1256584717458 ∧ (∀ v ∈ l.list, FlV v) ∧ wtI l ≤ Rows.uptoBulk x6.1 := by
      rcases DataW.trod_slice Tryz.underlying22 f6 with ⟨hc, _⟩ | ⟨a, len, cap, elems, rest, k, hk, hc, hxs, _, hlc, hcm, hel, hcell, _, _⟩
      · simp at hc
        exact ⟨none, 0, 0, .nil, hc, by unfold VlsAt; rfl, Nat.le_refl _, fun _ => rfl, Nat.zero_le _, Nat.zero_le _, by simp [Vls.list], Nat.zero_le _⟩
      · simp at hc
        have hxs1 : x6.1 = .slice (elems.map (·.1)) (rest.map (·.1)) := by rw [hxs]
        rw [hxs1] at hNx ⊢
        have hbl := jbk_slice (elems.map (·.1)) (rest.map (·.1))
        have hbe := jbk_elems (elems.map (·.1)) (rest.map (·.1))
        rw [List.length_map, List.length_map] at hbl
        have hlen6 : len ≤ 1256584717458 := by omega
        have key : ∀ i (hi : i < len), ∃ cs v, w.cells? base (a.add (i * 8)) 8 = some cs ∧ VlC w v cs ∧ FlV v ∧ wtV v ≤ Rows.uptoBulk (elems[i]'(by omega)).1 := by
          intro i hi
          have h1 := hcell i hi
          rw [cellsV, List.getElem?_eq_getElem (show i < elems.length by omega), Option.bind_eq_some_iff] at h1
          obtain ⟨cs, h2, h3⟩ := h1
          have hbm := jbk_mem (List.mem_map.2 ⟨_, List.getElem_mem (show i < elems.length by omega), rfl⟩ : (elems[i]'(by omega)).1 ∈ elems.map (·.1))
          obtain ⟨v, hv, hsv, hht⟩ := ih k (by omega) cs _ h3 (by omega)
          exact ⟨cs, v, h2, hv, hsv, hht⟩
        by_cases h0 : len = 0
        · subst h0
          exact ⟨some a, 0, cap, .nil, hc, by unfold VlsAt; rfl, by omega, fun e => (by cases e), hcm, by omega, by simp [Vls.list], Nat.zero_le _⟩
        · have hsp : a.spot = none := by
            obtain ⟨cs, v, h1, _, _⟩ := key 0 (by omega)
            have := spot_of h1 (by omega)
            simpa [Addr.add] using this
          obtain ⟨bb, off, spot⟩ := a
          simp only at hsp
          subst hsp
          obtain ⟨l, hl, hlq, hlw⟩ := jvls_ofW w bb (elems.map (fun e => Rows.uptoBulk e.1)) off (fun i hi => by
            rw [List.length_map] at hi
            obtain ⟨cs, v, h1, h2, h3, h4⟩ := key i (by omega)
            rw [Addr.add_lit] at h1
            exact ⟨cs, v, (row_of h1 rfl).2, h2, h3, by rw [List.getElem_map]; exact h4⟩)
          rw [List.length_map, hel] at hl
          refine ⟨some ⟨bb, off, none⟩, len, cap, l, hc, hl, hlc, fun e => (by cases e), hcm, hlen6, hlq, ?_⟩
          have := jbk_sum (elems.map (·.1))
          rw [List.map_map] at this
          have e2 : (elems.map (fun e => Rows.uptoBulk e.1)).sum = Rows.uptoBulkAll (elems.map (·.1)) := this
          omega
    have hM : ∃ (ai : Option Addr) (ni ci : Nat) (l : Fls), c7 = .slice ai ni ci ∧ FlsAt w l ai ni ∧ ni ≤ ci ∧ (ai = none → ci = 0) ∧ ci ≤ maxLen ∧ ni ≤ 1099511627776 ∧ (∀ q ∈ l.list, FlV q.2) ∧ wtF l ≤ Rows.uptoBulk x7.1 := by
      rcases DataW.trod_slice Tryz.underlying27 f7 with ⟨hc, _⟩ | ⟨a, len, cap, elems, rest, k, hk, hc, hxs, _, hlc, hcm, hel, hcell, _, _⟩
      · simp at hc
        exact ⟨none, 0, 0, .nil, hc, by unfold FlsAt; rfl, Nat.le_refl _, fun _ => rfl, Nat.zero_le _, Nat.zero_le _, by simp [Fls.list], Nat.zero_le _⟩
      · simp at hc
        have hxs1 : x7.1 = .slice (elems.map (·.1)) (rest.map (·.1)) := by rw [hxs]
        rw [hxs1] at hNx ⊢
        have hbl := jbk_slice (elems.map (·.1)) (rest.map (·.1))
        have hbe := jbk_elems (elems.map (·.1)) (rest.map (·.1))
        rw [List.length_map, List.length_map] at hbl
        have hlen7 : len ≤ 1099511627776 := by omega
        have key : ∀ i (hi : i < len), ∃ nm cs v, w.cells? base (a.add (i * 9)) 9 = some (.string nm :: cs) ∧ nm.size ≤ maxLen ∧ VlC w v cs ∧ FlV v ∧ nm.size + wtV v ≤ Rows.uptoBulk (elems[i]'(by omega)).1 := by
          intro i hi
          have h1 := hcell i hi
          rw [cellsM, List.getElem?_eq_getElem (show i < elems.length by omega), Option.bind_eq_some_iff] at h1
          obtain ⟨cs, h2, h3⟩ := h1
          obtain ⟨y0, y1, q, hq, hyd, hl9, g0, g1⟩ := jstruct2w Tryz.underlying45 h3
          rw [cellsM] at hl9
          obtain ⟨c, r, rfl, hr⟩ := list_nine hl9
          simp only [cS, cellsV, List.drop_zero, List.drop_succ_cons, List.take_succ_cons, List.take_zero] at g0 g1
          rw [List.take_of_length_le (by omega)] at g1
          obtain ⟨nm, e, dn, hz⟩ := DataW.trod_string Tryz.underlying9 g0
          simp only [List.cons.injEq, and_true] at e
          subst e
          have hbm := jbk_mem (List.mem_map.2 ⟨_, List.getElem_mem (show i < elems.length by omega), rfl⟩ : (elems[i]'(by omega)).1 ∈ elems.map (·.1))
          have hby : nm.size + Rows.uptoBulk y1.1 ≤ Rows.uptoBulk (elems[i]'(by omega)).1 := by
            rw [hyd, dn]
            simp only [Rows.uptoBulk, Rows.uptoBulkAll, jlen_data]
            omega
          obtain ⟨v, hv, hsv, hht⟩ := ih q (by omega) r _ g1 (by omega)
          exact ⟨nm, r, v, h2, hz, hv, hsv, by omega⟩
        by_cases h0 : len = 0
        · subst h0
          exact ⟨some a, 0, cap, .nil, hc, by unfold FlsAt; rfl, by omega, fun e => (by cases e), hcm, by omega, by simp [Fls.list], Nat.zero_le _⟩
        · have hsp : a.spot = none := by
            obtain ⟨nm, cs, v, h1, _⟩ := key 0 (by omega)
            have := spot_of h1 (by omega)
            simpa [Addr.add] using this
          obtain ⟨bb, off, spot⟩ := a
          simp only at hsp
          subst hsp
          obtain ⟨l, hl, hlq, hlw⟩ := jfls_ofW w bb (elems.map (fun e => Rows.uptoBulk e.1)) off (fun i hi => by
            rw [List.length_map] at hi
            obtain ⟨nm, cs, v, h1, hz, h2, h3, h4⟩ := key i (by omega)
            rw [Addr.add_lit] at h1
            have hrow : Row8 w bb (off + i * 9) (.string nm :: cs) := (row_of h1 rfl).2
            refine ⟨nm, cs, v, by simpa using hrow 0 (.string nm) rfl, hz, fun j u hu => ?_, h2, h3, by rw [List.getElem_map]; exact h4⟩
            have := hrow (j + 1) u (by simpa using hu)
            rw [show off + i * 9 + 1 + j = off + i * 9 + (j + 1) by omega]
            exact this)
          rw [List.length_map, hel] at hl
          refine ⟨some ⟨bb, off, none⟩, len, cap, l, hc, hl, hlc, fun e => (by cases e), hcm, hlen7, hlq, ?_⟩
          have := jbk_sum (elems.map (·.1))
          rw [List.map_map] at this
          have e2 : (elems.map (fun e => Rows.uptoBulk e.1)).sum = Rows.uptoBulkAll (elems.map (·.1)) := this
          omega
    obtain ⟨ai, ni, ci, its, rfl, hI1, hI2, hI3, hI4, hI5, hI6, hI7⟩ := hI
    obtain ⟨af, nf, cf, fls, rfl, hM1, hM2, hM3, hM4, hM5, hM6, hM7⟩ := hM
    refine ⟨.mk kd b m fl tx ty its fls, ?_, ?_, ?_⟩
    rotate_left
    · unfold FlV
      exact ⟨by simpa [Lit.wf, IntKind.min, IntKind.max, IntKind.signed, IntKind.bits] using w2, by simpa [Lit.wf] using w3, FlI.mk hI6, FlF.mk hM6⟩
    · rw [wtV]
      omega
    unfold VlC
    exact ⟨ai, ni, ci, af, nf, cf, rfl, hI1, hM1, hI2, hM2, hI3, hM3, w0, w2, w4, w5, hI4, hM4⟩
end
end Go.Proofs.YtechaplindbfoaaGreatDoor.vl
namespace Go.Proofs.YtechaplindbfoaaGreatDoor.jsn
open Go.ChangeShapes Go.WideShapes Go.ChangeAt Go.RowKit
open mem vl
set_option linter.unusedVariables false
/-- the first fault among names -/
def nmJ : List (List UInt8) → List ByteArray → Int
  | _, [] => 0
  | seen, s :: r => if cln s = false then 1 else if seen.contains s.data.toList = true then 5 else nmJ (seen ++ [s.data.toList]) r
mutual
/-- the first fault of a value, 0 if it may be written -/
def jfE : Vl → Int
  | .mk kd _ _ f tx _ its fls =>
    if kd = 0 ∨ kd = 1 ∨ kd = 2 then 0
    else if kd = 3 then (if fto.badF f = true then 6 else 0)
    else if kd = 4 then (if cln tx = false then 1 else 0)
    else if kd = 5 then jfL its
    else if kd = 6 then (if nmJ [] (fls.list.map (·.1)) = 0 then jfF fls else nmJ [] (fls.list.map (·.1)))
    else 2
def jfL : Vls → Int
  | .nil => 0
  | .cons v r => if jfE v = 0 then jfL r else jfE v
def jfF : Fls → Int
  | .nil => 0
  | .cons _ v r => if jfE v = 0 then jfF r else jfE v
end
theorem jfL_all : ∀ {l : Vls}, jfL l = 0 ↔ ∀ v ∈ l.list, jfE v = 0
  | .nil => by simp [jfL, Vls.list]
  | .cons v r => by
    have := @jfL_all r
    simp only [jfL, Vls.list, List.mem_cons, forall_eq_or_imp]
    by_cases h : jfE v = 0
    · rw [if_pos h, this]; simp [h]
    · rw [if_neg h]; simp [h]
theorem jfF_all : ∀ {l : Fls}, jfF l = 0 ↔ ∀ q ∈ l.list, jfE q.2 = 0
  | .nil => by simp [jfF, Fls.list]
  | .cons nm v r => by
    have := @jfF_all r
    simp only [jfF, Fls.list, List.mem_cons, forall_eq_or_imp]
    by_cases h : jfE v = 0
    · rw [if_pos h, this]; simp [h]
    · rw [if_neg h]; simp [h]
theorem jfL_at : ∀ {l : Vls} {i : Nat} {v : Vl}, l.list[i]? = some v → (∀ j u, j < i → l.list[j]? = some u → jfE u = 0) → jfE v ≠ 0 → jfL l = jfE v
  | .nil, i, v, h, _, _ => by simp [Vls.list] at h
  | .cons u r, 0, v, h, _, hv => by
    simp only [Vls.list, List.getElem?_cons_zero, Option.some.injEq] at h
    subst h
    rw [jfL, if_neg hv]
  | .cons u r, i + 1, v, h, hp, hv => by
    simp only [Vls.list, List.getElem?_cons_succ] at h
    rw [jfL, if_pos (hp 0 u (by omega) rfl)]
    exact jfL_at h (fun j x hj hx => hp (j + 1) x (by omega) (by simpa [Vls.list] using hx)) hv
theorem jfF_at : ∀ {l : Fls} {i : Nat} {q : ByteArray × Vl}, l.list[i]? = some q → (∀ j u, j < i → l.list[j]? = some u → jfE u.2 = 0) → jfE q.2 ≠ 0 → jfF l = jfE q.2
  | .nil, i, v, h, _, _ => by simp [Fls.list] at h
  | .cons nm u r, 0, q, h, _, hv => by
    simp only [Fls.list, List.getElem?_cons_zero, Option.some.injEq] at h
    subst h
    rw [jfF, if_neg hv]
  | .cons nm u r, i + 1, q, h, hp, hv => by
    simp only [Fls.list, List.getElem?_cons_succ] at h
    rw [jfF, if_pos (hp 0 (nm, u) (by omega) rfl)]
    exact jfF_at h (fun j x hj hx => hp (j + 1) x (by omega) (by simpa [Fls.list] using hx)) hv
theorem nmJ_ok : ∀ {l : List ByteArray} {seen : List (List UInt8)}, nmJ seen l = 0 → (∀ s ∈ l, cln s = true) ∧ (l.map (·.data.toList)).Nodup ∧ ∀ s ∈ l, s.data.toList ∉ seen
  | [], seen, _ => by simp
  | s :: r, seen, h => by
    unfold nmJ at h
    split at h
    · cases h
    · rename_i hc
      split at h
      · cases h
      · rename_i hn
        obtain ⟨h1, h2, h3⟩ := nmJ_ok h
        have hc' : cln s = true := by simpa using hc
        have hn' : s.data.toList ∉ seen := by simpa using hn
        refine ⟨?_, ?_, ?_⟩
        · intro x hx
          rcases List.mem_cons.1 hx with rfl | hx
          · exact hc'
          · exact h1 x hx
        · rw [List.map_cons, List.nodup_cons]
          refine ⟨fun hm => ?_, h2⟩
          obtain ⟨x, hx, e⟩ := List.mem_map.1 hm
          exact h3 x hx (by rw [e]; simp)
        · intro x hx
          rcases List.mem_cons.1 hx with rfl | hx
          · exact hn'
          · exact fun hm => h3 x hx (by simp [hm])
theorem nms_nodup {fls : Fls} (h : ((fls.list.map (·.1)).map (fun s : ByteArray => s.data.toList)).Nodup) : (nms fls).Nodup := by
  unfold nms
  rw [List.map_map] at h
  unfold List.Nodup at h ⊢
  rw [List.pairwise_map] at h ⊢
  refine h.imp ?_
  intro a b hne e
  injection e with e
  exact hne e
mutual
theorem okV_of : ∀ v : Vl, FlV v → jfE v = 0 → okV NZ v
  | .mk kd b n f tx ty its fls, hf, h => by
    unfold FlV at hf
    obtain ⟨hn, hfl, hI, hF⟩ := hf
    unfold jfE at h
    unfold okV
    split at h
    · rename_i hk
      rcases hk with hk | hk | hk
      · exact .inl hk
      · exact .inr (.inl hk)
      · exact .inr (.inr (.inl ⟨hk, hn⟩))
    · split at h
      · rename_i hk
        refine .inr (.inr (.inr (.inl ⟨hk, hfl, ?_⟩)))
        cases hb : fto.badF f
        · rfl
        · rw [hb] at h; simp at h
      · split at h
        · rename_i hk
          refine .inr (.inr (.inr (.inr (.inl ⟨hk, ?_⟩))))
          cases hc : cln tx
          · rw [hc] at h; simp at h
          · rfl
        · split at h
          · rename_i hk
            exact .inr (.inr (.inr (.inr (.inr (.inl ⟨hk, okL_of its hI h⟩)))))
          · split at h
            · rename_i hk
              split at h
              · rename_i hnm
                obtain ⟨h1, h2, -⟩ := nmJ_ok hnm
                exact .inr (.inr (.inr (.inr (.inr (.inr ⟨hk, fun p hp => h1 _ (List.mem_map.2 ⟨p, hp, rfl⟩), nms_nodup h2, okF_of fls hF h⟩)))))
              · rename_i hnm
                exact absurd h hnm
            · cases h
theorem okL_of : ∀ l : Vls, FlI l → jfL l = 0 → okL NZ l
  | .nil, _, _ => by unfold okL; trivial
  | .cons v r, hf, h => by
    unfold FlI at hf
    unfold jfL at h
    unfold okL
    split at h
    · rename_i h0
      exact ⟨okV_of v hf.1 h0, okL_of r hf.2 h⟩
    · rename_i h0
      exact absurd h h0
theorem okF_of : ∀ l : Fls, FlF l → jfF l = 0 → okF NZ l
  | .nil, _, _ => by unfold okF; trivial
  | .cons nm v r, hf, h => by
    unfold FlF at hf
    unfold jfF at h
    unfold okF
    split at h
    · rename_i h0
      exact ⟨okV_of v hf.1 h0, okF_of r hf.2 h⟩
    · rename_i h0
      exact absurd h h0
end
theorem wtI_sum : ∀ l : Vls, wtI l = (l.list.map wtV).sum
  | .nil => rfl
  | .cons v r => by rw [wtI, wtI_sum r, Vls.list, List.map_cons, List.sum_cons]
theorem wtF_sum : ∀ l : Fls, wtF l = (l.list.map (fun q => q.1.size + wtV q.2)).sum
  | .nil => rfl
  | .cons nm v r => by rw [wtF, wtF_sum r, Fls.list, List.map_cons, List.sum_cons]
theorem sum_snoc {α : Type} (f : α → Nat) (l : List α) (m : Nat) (x : α) (h : l[m]? = some x) : ((l.take m).map f).sum + f x ≤ (l.map f).sum := by
  have e : l = l.take m ++ x :: l.drop (m + 1) := by
    obtain ⟨hm, rfl⟩ := List.getElem?_eq_some_iff.1 h
    rw [List.getElem_cons_drop, List.take_append_drop]
  have e2 : (l.map f).sum = ((l.take m ++ x :: l.drop (m + 1)).map f).sum := by rw [← e]
  rw [e2, List.map_append, List.sum_append, List.map_cons, List.sum_cons]
  omega
theorem sum_all {α : Type} (f : α → Nat) (l : List α) (m : Nat) : ((l.take m).map f).sum ≤ (l.map f).sum := by
  have e2 : (l.map f).sum = ((l.take m ++ l.drop m).map f).sum := by rw [List.take_append_drop]
  rw [e2, List.map_append, List.sum_append]
  omega
theorem com_len (k : Nat) : (com k).length ≤ 1 := by unfold com; split <;> simp
theorem partsL_len (its : Vls) (m : Nat) (hm : m ≤ its.list.length) (h : ∀ i v, i < m → its.list[i]? = some v → (js NZ v).length + 10 ≤ 1100 * wtV v) : (partsL (jsL NZ its) m).length ≤ 1100 * ((its.list.take m).map wtV).sum := by
  induction m with
  | zero => simp [partsL]
  | succ m ih =>
    obtain ⟨v, hv⟩ : ∃ v, its.list[m]? = some v := ⟨its.list[m]'(by omega), List.getElem?_eq_getElem (by omega)⟩
    have h1 := ih (by omega) (fun i v hi hv => h i v (by omega) hv)
    have h2 := h m v (by omega) hv
    have h3 := com_len m
    rw [partsL, List.take_add_one, hv, jsL_at NZ its m v hv]
    simp only [List.length_append, Option.toList_some, List.map_append, List.map_cons, List.map_nil, List.sum_append, List.sum_cons, List.sum_nil]
    omega
theorem nmAt_at (fls : Fls) {m : Nat} {q : ByteArray × Vl} (h : fls.list[m]? = some q) : nmAt fls m = q.1.data.toList := by simp [nmAt, List.getD, h]
theorem txt_le (s : ByteArray) : (txt s.data.toList).length ≤ 6 * s.size + 2 := by
  have h1 := body_len s.data.toList
  have h2 := size_list s
  rw [txt_len]
  omega
theorem partsO_len (fls : Fls) (m : Nat) (hm : m ≤ fls.list.length) (h : ∀ i (q : ByteArray × Vl), i < m → fls.list[i]? = some q → (js NZ q.2).length + 10 ≤ 1100 * wtV q.2) : (partsO (nmAt fls) (jsF NZ fls) m).length ≤ 1100 * ((fls.list.take m).map (fun q => q.1.size + wtV q.2)).sum := by
  induction m with
  | zero => simp [partsO]
  | succ m ih =>
    obtain ⟨v, hv⟩ : ∃ v, fls.list[m]? = some v := ⟨fls.list[m]'(by omega), List.getElem?_eq_getElem (by omega)⟩
    have h1 := ih (by omega) (fun i v hi hv => h i v (by omega) hv)
    have h2 := h m v (by omega) hv
    have h3 := com_len m
    have h4 := txt_le v.1
    rw [partsO, List.take_add_one, hv, jsF_at NZ fls m v hv, nmAt_at fls hv]
    simp only [List.length_append, Option.toList_some, List.map_append, List.map_cons, List.map_nil, List.sum_append, List.sum_cons, List.sum_nil, List.length_cons, List.length_nil]
    omega
theorem js_len : ∀ v : Vl, FlV v → jfE v = 0 → (js NZ v).length + 10 ≤ 1100 * wtV v := by
  refine Vl.all ?_
  intro kd b n f tx ty its fls ihI ihF hf h
  have hok := okV_of _ hf h
  unfold FlV at hf
  obtain ⟨hn, hfl, hI, hF⟩ := hf
  unfold okV at hok
  rw [wtV]
  unfold js
  rcases hok with rfl | rfl | ⟨rfl, hp⟩ | ⟨rfl, hp⟩ | ⟨rfl, hc⟩ | ⟨rfl, hL⟩ | ⟨rfl, hc, hd, hO⟩
  · simp; omega
  · have e : ((if b then [116, 114, 117, 101] else [102, 97, 108, 115, 101] : List UInt8)).length ≤ 5 := by split <;> simp
    simp only [show ¬ ((1 : Int) = 0) by decide, if_false, if_true]
    omega
  · have e : (NZ.wt n).length ≤ 21 := by
      show (fto.itB n).data.toList.length ≤ 21
      rw [size_list]
      exact fto.itB_size n hp.1 hp.2
    simp only [show ¬ ((2 : Int) = 0) by decide, show ¬ ((2 : Int) = 1) by decide, if_false, if_true]
    omega
  · have e : (NZ.ft f).length ≤ 1001 := by
      show (ftZ f).data.toList.length ≤ 1001
      rw [size_list]
      exact (ftZ_ok hp.1 hp.2).2.2
    simp only [show ¬ ((3 : Int) = 0) by decide, show ¬ ((3 : Int) = 1) by decide, show ¬ ((3 : Int) = 2) by decide, if_false, if_true]
    omega
  · have e := txt_le tx
    simp only [show ¬ ((4 : Int) = 0) by decide, show ¬ ((4 : Int) = 1) by decide, show ¬ ((4 : Int) = 2) by decide, show ¬ ((4 : Int) = 3) by decide, if_false, if_true]
    omega
  · have hz : jfL its = 0 := by simpa [jfE] using h
    have e := partsL_len its its.list.length (Nat.le_refl _) (fun i v _ hv => ihI v (List.mem_of_getElem? hv) (hI.all v (List.mem_of_getElem? hv)) (jfL_all.1 hz v (List.mem_of_getElem? hv)))
    rw [List.take_length, ← wtI_sum] at e
    simp only [show ¬ ((5 : Int) = 0) by decide, show ¬ ((5 : Int) = 1) by decide, show ¬ ((5 : Int) = 2) by decide, show ¬ ((5 : Int) = 3) by decide, show ¬ ((5 : Int) = 4) by decide, if_false, if_true, List.length_append, List.length_cons, List.length_nil]
    omega
  · have hz : jfF fls = 0 := by
      have h6 : (if nmJ [] (fls.list.map (·.1)) = 0 then jfF fls else nmJ [] (fls.list.map (·.1))) = 0 := by simpa [jfE] using h
      split at h6
      · exact h6
      · rename_i hh; exact absurd h6 hh
    have e := partsO_len fls fls.list.length (Nat.le_refl _) (fun i q _ hv => ihF q (List.mem_of_getElem? hv) (hF.all q (List.mem_of_getElem? hv)) (jfF_all.1 hz q (List.mem_of_getElem? hv)))
    rw [List.take_length, ← wtF_sum] at e
    simp only [show ¬ ((6 : Int) = 0) by decide, show ¬ ((6 : Int) = 1) by decide, show ¬ ((6 : Int) = 2) by decide, show ¬ ((6 : Int) = 3) by decide, show ¬ ((6 : Int) = 4) by decide, show ¬ ((6 : Int) = 5) by decide, if_false, List.length_append, List.length_cons, List.length_nil]
    omega
end Go.Proofs.YtechaplindbfoaaGreatDoor.jsn
namespace Go.Proofs.YtechaplindbfoaaGreatDoor.jsn
open Go.ChangeShapes Go.WideShapes Go.ChangeAt Go.RowKit
open mem vl
set_option linter.unusedVariables false
set_option linter.unusedSimpArgs false
def jkV : Vl := .mk 9 false 0 0 ⟨#[]⟩ ⟨#[]⟩ .nil .nil
def zrV : Vl := .mk 0 false 0 0 ⟨#[]⟩ ⟨#[]⟩ .nil .nil
def ffB : ByteArray := ⟨#[255]⟩
def feB : ByteArray := ⟨#[254]⟩
def jkI : Vls := .cons jkV .nil
def jkF : Fls := .cons ffB zrV (.cons ffB zrV .nil)
mutual
/-- a value whose unused fields are set to something -/
def litV (N : Int) : Vl → Vl
  | .mk kd b n f tx ty its fls => .mk kd (if kd = 1 then b else decide (Int.tmod N 2 = 0)) (if kd = 2 then n else N) (if kd = 3 then f else 4602678819172646912) (if kd = 4 then tx else ffB) feB (if kd = 5 then litI N its else jkI) (if kd = 6 then litF N fls else jkF)
def litI (N : Int) : Vls → Vls
  | .nil => .nil
  | .cons v r => .cons (litV N v) (litI (N + 1) r)
def litF (N : Int) : Fls → Fls
  | .nil => .nil
  | .cons nm v r => .cons nm (litV N v) (litF (N + 1) r)
end
theorem litI_len : ∀ (l : Vls) (N : Int), (litI N l).list.length = l.list.length
  | .nil, N => rfl
  | .cons v r, N => by simp [litI, Vls.list, litI_len r (N + 1)]
theorem litF_len : ∀ (l : Fls) (N : Int), (litF N l).list.length = l.list.length
  | .nil, N => rfl
  | .cons nm v r, N => by simp [litF, Fls.list, litF_len r (N + 1)]
theorem litI_at : ∀ (l : Vls) (N : Int) (k : Nat) (v : Vl), l.list[k]? = some v → (litI N l).list[k]? = some (litV (N + k) v)
  | .nil, N, k, v, h => by simp [Vls.list] at h
  | .cons u r, N, 0, v, h => by
    simp only [Vls.list, List.getElem?_cons_zero, Option.some.injEq] at h
    subst h
    simp [litI, Vls.list]
  | .cons u r, N, k + 1, v, h => by
    simp only [Vls.list, List.getElem?_cons_succ] at h
    have := litI_at r (N + 1) k v h
    simp only [litI, Vls.list, List.getElem?_cons_succ, this]
    congr 2
    push_cast
    omega
theorem litF_at : ∀ (l : Fls) (N : Int) (k : Nat) (q : ByteArray × Vl), l.list[k]? = some q → (litF N l).list[k]? = some (q.1, litV (N + k) q.2)
  | .nil, N, k, v, h => by simp [Fls.list] at h
  | .cons nm u r, N, 0, v, h => by
    simp only [Fls.list, List.getElem?_cons_zero, Option.some.injEq] at h
    subst h
    simp [litF, Fls.list]
  | .cons nm u r, N, k + 1, v, h => by
    simp only [Fls.list, List.getElem?_cons_succ] at h
    have := litF_at r (N + 1) k v h
    simp only [litF, Fls.list, List.getElem?_cons_succ, this]
    congr 3
    push_cast
    omega
theorem litF_nms : ∀ (l : Fls) (N : Int), (litF N l).list.map (·.1) = l.list.map (·.1)
  | .nil, N => rfl
  | .cons nm v r, N => by simp [litF, Fls.list, litF_nms r (N + 1)]
theorem jfL_lit : ∀ (l : Vls), (∀ v ∈ l.list, ∀ N, jfE (litV N v) = jfE v) → ∀ N : Int, jfL (litI N l) = jfL l
  | .nil, _, N => rfl
  | .cons v r, h, N => by
    have h1 := h v (by simp [Vls.list]) N
    have h2 := jfL_lit r (fun u hu => h u (by simp [Vls.list, hu])) (N + 1)
    rw [litI, jfL, jfL, h1, h2]
theorem jfF_lit : ∀ (l : Fls), (∀ q ∈ l.list, ∀ N, jfE (litV N q.2) = jfE q.2) → ∀ N : Int, jfF (litF N l) = jfF l
  | .nil, _, N => rfl
  | .cons nm v r, h, N => by
    have h1 := h (nm, v) (by simp [Fls.list]) N
    have h2 := jfF_lit r (fun u hu => h u (by simp [Fls.list, hu])) (N + 1)
    simp only at h1
    rw [litF, jfF, jfF, h1, h2]
theorem jfE_lit : ∀ (v : Vl) (N : Int), jfE (litV N v) = jfE v := by
  refine Vl.all ?_
  intro kd b n f tx ty its fls ihI ihF N
  have hL := jfL_lit its ihI N
  have hF := jfF_lit fls ihF N
  have hn := litF_nms fls N
  rw [litV, jfE, jfE]
  generalize litI N its = L at *
  generalize litF N fls = M at *
  by_cases h3 : kd = 3
  · subst h3
    simp only [show ¬ ((3 : Int) = 0 ∨ (3 : Int) = 1 ∨ (3 : Int) = 2) by decide, show ¬ ((3 : Int) = 0) by decide, show ¬ ((3 : Int) = 1) by decide, show ¬ ((3 : Int) = 2) by decide, show ¬ ((3 : Int) = 4) by decide, show ¬ ((3 : Int) = 5) by decide, show ¬ ((3 : Int) = 6) by decide, if_true, if_false]
  by_cases h4 : kd = 4
  · subst h4
    simp only [show ¬ ((4 : Int) = 0 ∨ (4 : Int) = 1 ∨ (4 : Int) = 2) by decide, show ¬ ((4 : Int) = 0) by decide, show ¬ ((4 : Int) = 1) by decide, show ¬ ((4 : Int) = 2) by decide, show ¬ ((4 : Int) = 3) by decide, show ¬ ((4 : Int) = 5) by decide, show ¬ ((4 : Int) = 6) by decide, if_true, if_false]
  by_cases h5 : kd = 5
  · subst h5
    simp only [show ¬ ((5 : Int) = 0 ∨ (5 : Int) = 1 ∨ (5 : Int) = 2) by decide, show ¬ ((5 : Int) = 0) by decide, show ¬ ((5 : Int) = 1) by decide, show ¬ ((5 : Int) = 2) by decide, show ¬ ((5 : Int) = 3) by decide, show ¬ ((5 : Int) = 4) by decide, show ¬ ((5 : Int) = 6) by decide, if_true, if_false]
    exact hL
  by_cases h6 : kd = 6
  · subst h6
    simp only [show ¬ ((6 : Int) = 0 ∨ (6 : Int) = 1 ∨ (6 : Int) = 2) by decide, show ¬ ((6 : Int) = 0) by decide, show ¬ ((6 : Int) = 1) by decide, show ¬ ((6 : Int) = 2) by decide, show ¬ ((6 : Int) = 3) by decide, show ¬ ((6 : Int) = 4) by decide, show ¬ ((6 : Int) = 5) by decide, if_true, if_false]
    rw [hn, hF]
  simp only [h3, h4, h5, h6, if_false]
theorem jsL_lit : ∀ (l : Vls), (∀ v ∈ l.list, ∀ N, jfE v = 0 → js NZ (litV N v) = js NZ v) → jfL l = 0 → ∀ (N : Int) (i : Nat), jsL NZ (litI N l) i = jsL NZ l i
  | .nil, _, _, N, i => rfl
  | .cons v r, h, hz, N, i => by
    rw [jfL] at hz
    split at hz
    · rename_i h0
      have h1 := h v (by simp [Vls.list]) N h0
      have h2 := jsL_lit r (fun u hu => h u (by simp [Vls.list, hu])) hz (N + 1) (i - 1)
      rw [litI, jsL, jsL, h1, h2]
    · rename_i h0; exact absurd hz h0
theorem jsF_lit : ∀ (l : Fls), (∀ q ∈ l.list, ∀ N, jfE q.2 = 0 → js NZ (litV N q.2) = js NZ q.2) → jfF l = 0 → ∀ (N : Int) (i : Nat), jsF NZ (litF N l) i = jsF NZ l i
  | .nil, _, _, N, i => rfl
  | .cons nm v r, h, hz, N, i => by
    rw [jfF] at hz
    split at hz
    · rename_i h0
      have h1 := h (nm, v) (by simp [Fls.list]) N h0
      have h2 := jsF_lit r (fun u hu => h u (by simp [Fls.list, hu])) hz (N + 1) (i - 1)
      simp only at h1
      rw [litF, jsF, jsF, h1, h2]
    · rename_i h0; exact absurd hz h0
theorem nmAt_lit (fls : Fls) (N : Int) : nmAt (litF N fls) = nmAt fls := by
  funext i
  have e := litF_nms fls N
  have e2 := congrArg (fun L : List ByteArray => (L[i]?.map (·.data.toList))) e
  unfold nmAt
  simp only [List.getElem?_map, Option.map_map] at e2
  rw [List.getD, List.getD]
  cases ha : (litF N fls).list[i]? with
  | none =>
    rw [ha] at e2
    cases hb : fls.list[i]? with
    | none => rfl
    | some y => rw [hb] at e2; simp at e2
  | some x =>
    rw [ha] at e2
    cases hb : fls.list[i]? with
    | none => rw [hb] at e2; simp at e2
    | some y => rw [hb] at e2; simpa using e2
theorem js_lit : ∀ (v : Vl) (N : Int), jfE v = 0 → js NZ (litV N v) = js NZ v := by
  refine Vl.all ?_
  intro kd b n f tx ty its fls ihI ihF N h
  have hL := jsL_lit its ihI
  have hF := jsF_lit fls ihF
  have hn := nmAt_lit fls N
  have lI := litI_len its N
  have lF := litF_len fls N
  rw [jfE] at h
  rw [litV, js, js]
  by_cases h1 : kd = 1
  · subst h1
    simp only [show ¬ ((1 : Int) = 0) by decide, show ¬ ((1 : Int) = 2) by decide, show ¬ ((1 : Int) = 3) by decide, show ¬ ((1 : Int) = 4) by decide, show ¬ ((1 : Int) = 5) by decide, show ¬ ((1 : Int) = 6) by decide, if_true, if_false]
  by_cases h2 : kd = 2
  · subst h2
    simp only [show ¬ ((2 : Int) = 0) by decide, show ¬ ((2 : Int) = 1) by decide, show ¬ ((2 : Int) = 3) by decide, show ¬ ((2 : Int) = 4) by decide, show ¬ ((2 : Int) = 5) by decide, show ¬ ((2 : Int) = 6) by decide, if_true, if_false]
  by_cases h3 : kd = 3
  · subst h3
    simp only [show ¬ ((3 : Int) = 0 ∨ (3 : Int) = 1 ∨ (3 : Int) = 2) by decide, show ¬ ((3 : Int) = 0) by decide, show ¬ ((3 : Int) = 1) by decide, show ¬ ((3 : Int) = 2) by decide, show ¬ ((3 : Int) = 4) by decide, show ¬ ((3 : Int) = 5) by decide, show ¬ ((3 : Int) = 6) by decide, if_true, if_false]
  by_cases h4 : kd = 4
  · subst h4
    simp only [show ¬ ((4 : Int) = 0 ∨ (4 : Int) = 1 ∨ (4 : Int) = 2) by decide, show ¬ ((4 : Int) = 0) by decide, show ¬ ((4 : Int) = 1) by decide, show ¬ ((4 : Int) = 2) by decide, show ¬ ((4 : Int) = 3) by decide, show ¬ ((4 : Int) = 5) by decide, show ¬ ((4 : Int) = 6) by decide, if_true, if_false]
  by_cases h5 : kd = 5
  · subst h5
    have hz : jfL its = 0 := by
      simp only [show ¬ ((5 : Int) = 0 ∨ (5 : Int) = 1 ∨ (5 : Int) = 2) by decide, show ¬ ((5 : Int) = 0) by decide, show ¬ ((5 : Int) = 1) by decide, show ¬ ((5 : Int) = 2) by decide, show ¬ ((5 : Int) = 3) by decide, show ¬ ((5 : Int) = 4) by decide, show ¬ ((5 : Int) = 6) by decide, if_true, if_false] at h
      exact h
    have e : jsL NZ (litI N its) = jsL NZ its := funext fun i => hL hz N i
    simp only [show ¬ ((5 : Int) = 0 ∨ (5 : Int) = 1 ∨ (5 : Int) = 2) by decide, show ¬ ((5 : Int) = 0) by decide, show ¬ ((5 : Int) = 1) by decide, show ¬ ((5 : Int) = 2) by decide, show ¬ ((5 : Int) = 3) by decide, show ¬ ((5 : Int) = 4) by decide, show ¬ ((5 : Int) = 6) by decide, if_true, if_false]
    rw [e, lI]
  by_cases h6 : kd = 6
  · subst h6
    have h' : (if nmJ [] (fls.list.map (·.1)) = 0 then jfF fls else nmJ [] (fls.list.map (·.1))) = 0 := by
      simp only [show ¬ ((6 : Int) = 0 ∨ (6 : Int) = 1 ∨ (6 : Int) = 2) by decide, show ¬ ((6 : Int) = 0) by decide, show ¬ ((6 : Int) = 1) by decide, show ¬ ((6 : Int) = 2) by decide, show ¬ ((6 : Int) = 3) by decide, show ¬ ((6 : Int) = 4) by decide, show ¬ ((6 : Int) = 5) by decide, if_true, if_false] at h
      exact h
    have hz : jfF fls = 0 := by
      split at h'
      · exact h'
      · rename_i hh; exact absurd h' hh
    have e : jsF NZ (litF N fls) = jsF NZ fls := funext fun i => hF hz N i
    simp only [show ¬ ((6 : Int) = 0 ∨ (6 : Int) = 1 ∨ (6 : Int) = 2) by decide, show ¬ ((6 : Int) = 0) by decide, show ¬ ((6 : Int) = 1) by decide, show ¬ ((6 : Int) = 2) by decide, show ¬ ((6 : Int) = 3) by decide, show ¬ ((6 : Int) = 4) by decide, show ¬ ((6 : Int) = 5) by decide, if_true, if_false]
    rw [e, lF, hn]
  by_cases h0 : kd = 0
  · rw [if_pos h0, if_pos h0]
  rw [if_neg (by omega), if_neg h3, if_neg h4, if_neg h5, if_neg h6] at h
  cases h
mutual
theorem wt_lit : ∀ (v : Vl) (N : Int), wtV (litV N v) ≤ 7 * wtV v
  | .mk kd b n f tx ty its fls, N => by
    have h1 := wtI_lit its N
    have h2 := wtF_lit fls N
    have e1 : wtI jkI = 1 := by simp [jkI, jkV, wtI, wtV, wtF]; rfl
    have e2 : wtF jkF = 4 := by simp [jkF, zrV, ffB, wtI, wtV, wtF]; rfl
    have e3 : ffB.size = 1 := rfl
    rw [litV, wtV, wtV]
    by_cases h4 : kd = 4
    · subst h4
      simp only [show ¬ ((4 : Int) = 5) by decide, show ¬ ((4 : Int) = 6) by decide, if_true, if_false, e1, e2]
      omega
    rw [if_neg h4]
    by_cases h5 : kd = 5
    · subst h5
      simp only [show ¬ ((5 : Int) = 6) by decide, if_true, if_false, e2, e3]
      omega
    rw [if_neg h5]
    by_cases h6 : kd = 6
    · subst h6
      simp only [if_true, e1, e3]
      omega
    rw [if_neg h6]
    omega
theorem wtI_lit : ∀ (l : Vls) (N : Int), wtI (litI N l) ≤ 7 * wtI l
  | .nil, N => by simp [litI, wtI]
  | .cons v r, N => by
    have h1 := wt_lit v N
    have h2 := wtI_lit r (N + 1)
    rw [litI, wtI, wtI]
    omega
theorem wtF_lit : ∀ (l : Fls) (N : Int), wtF (litF N l) ≤ 7 * wtF l
  | .nil, N => by simp [litF, wtF]
  | .cons nm v r, N => by
    have h1 := wt_lit v N
    have h2 := wtF_lit r (N + 1)
    rw [litF, wtF, wtF]
    omega
end
theorem wt_pos (v : Vl) : 1 ≤ wtV v := by cases v; rw [wtV]; omega
mutual
theorem fl_lit : ∀ (v : Vl) (N : Int), FlV v → -1000 ≤ N → N + wtV v ≤ 1099511627776 → FlV (litV N v)
  | .mk kd b n f tx ty its fls, N, h, n0, n1 => by
    rw [wtV] at n1
    rw [litV]
    unfold FlV at h ⊢
    obtain ⟨h1, h2, h3, h4⟩ := h
    refine ⟨?_, ?_, ?_, ?_⟩
    · split
      · exact h1
      · omega
    · split
      · exact h2
      · omega
    · split
      · exact fl_litI its N h3 n0 (by omega)
      · simp [jkI, jkV, FlI, FlV, FlF]
    · split
      · exact fl_litF fls N h4 n0 (by omega)
      · simp [jkF, zrV, FlI, FlV, FlF]
theorem fl_litI : ∀ (l : Vls) (N : Int), FlI l → -1000 ≤ N → N + wtI l ≤ 1099511627776 → FlI (litI N l)
  | .nil, N, h, n0, n1 => by unfold litI FlI; trivial
  | .cons v r, N, h, n0, n1 => by
    rw [wtI] at n1
    rw [litI]
    unfold FlI at h ⊢
    have := wt_pos v
    exact ⟨fl_lit v N h.1 n0 (by omega), fl_litI r (N + 1) h.2 (by omega) (by omega)⟩
theorem fl_litF : ∀ (l : Fls) (N : Int), FlF l → -1000 ≤ N → N + wtF l ≤ 1099511627776 → FlF (litF N l)
  | .nil, N, h, n0, n1 => by unfold litF FlF; trivial
  | .cons nm v r, N, h, n0, n1 => by
    rw [wtF] at n1
    rw [litF]
    unfold FlF at h ⊢
    have := wt_pos v
    exact ⟨fl_lit v N h.1 n0 (by omega), fl_litF r (N + 1) h.2 (by omega) (by omega)⟩
end
end Go.Proofs.YtechaplindbfoaaGreatDoor.jsn
namespace Go.Proofs.YtechaplindbfoaaGreatDoor.vl
open Go.ChangeShapes Go.WideShapes Go.ChangeAt Go.RowKit
set_option linter.unusedVariables false
/-- two worlds that agree on these blocks -/
def Agree (F : List Nat) (w w' : World) : Prop := ∀ b ∈ F, ∀ o, w'.cell? ⟨b, o, none⟩ = w.cell? ⟨b, o, none⟩
theorem Agree.left {F G : List Nat} {w w' : World} (h : Agree (F ++ G) w w') : Agree F w w' := fun b hb => h b (List.mem_append_left _ hb)
theorem Agree.right {F G : List Nat} {w w' : World} (h : Agree (F ++ G) w w') : Agree G w w' := fun b hb => h b (List.mem_append_right _ hb)
theorem Agree.tail {p : Nat} {G : List Nat} {w w' : World} (h : Agree (p :: G) w w') : Agree G w w' := fun b hb => h b (List.mem_cons_of_mem _ hb)
theorem Agree.of_below {F : List Nat} {w w' : World} (h : Below w.heap.size w w') (hF : ∀ b ∈ F, b < w.heap.size) : Agree F w w' := fun b hb o => h.cell (p := ⟨b, o, none⟩) (hF b hb)
theorem Agree.trans {F : List Nat} {w w' w'' : World} (h : Agree F w w') (h' : Agree F w' w'') : Agree F w w'' := fun b hb o => (h' b hb o).trans (h b hb o)
mutual
/-- these eight cells are the value v, all its lists in blocks of their own, F -/
def OwC (w : World) : Vl → List Value → List Nat → Prop
  | .mk kd b n f tx ty its fls, cs, F => ∃ (ai : Option Addr) (ni ci : Nat) (af : Option Addr) (nf cf : Nat) (Fi Ff : List Nat), cs = [.int .i64 kd, .bool b, .int .i64 n, .float .f64 f, .string tx, .string ty, .slice ai ni ci, .slice af nf cf] ∧
      ((ai = none ∧ its = .nil ∧ ni = 0 ∧ Fi = []) ∨ ∃ p G, ai = some ⟨p, 0, none⟩ ∧ Fi = p :: G ∧ OwsIn w its p 0 ni G) ∧
      ((af = none ∧ fls = .nil ∧ nf = 0 ∧ Ff = []) ∨ ∃ p G, af = some ⟨p, 0, none⟩ ∧ Ff = p :: G ∧ OwfIn w fls p 0 nf G) ∧
      ni ≤ ci ∧ nf ≤ cf ∧ (ai = none → ci = 0) ∧ (af = none → cf = 0) ∧ (Lit.int .i64 kd).wf = true ∧ (Lit.int .i64 n).wf = true ∧ tx.size ≤ maxLen ∧ ty.size ≤ maxLen ∧ ci ≤ maxLen ∧ cf ≤ maxLen ∧ F = Fi ++ Ff
def OwsIn (w : World) : Vls → Nat → Nat → Nat → List Nat → Prop
  | .nil, p, off, n, G => n = 0 ∧ G = []
  | .cons v r, p, off, n, G => ∃ (m : Nat) (cs : List Value) (G1 G2 : List Nat), n = m + 1 ∧ Row8 w p off cs ∧ OwC w v cs G1 ∧ OwsIn w r p (off + 8) m G2 ∧ G = G1 ++ G2
def OwfIn (w : World) : Fls → Nat → Nat → Nat → List Nat → Prop
  | .nil, p, off, n, G => n = 0 ∧ G = []
  | .cons nm v r, p, off, n, G => ∃ (m : Nat) (cs : List Value) (G1 G2 : List Nat), n = m + 1 ∧ w.cell? ⟨p, off, none⟩ = some (.string nm) ∧ nm.size ≤ maxLen ∧ Row8 w p (off + 1) cs ∧ OwC w v cs G1 ∧ OwfIn w r p (off + 9) m G2 ∧ G = G1 ++ G2
end
theorem Row8.agree {w w' : World} {F : List Nat} {b off : Nat} {cs : List Value} (h : Row8 w b off cs) (hb : b ∈ F) (ha : Agree F w w') : Row8 w' b off cs := fun i u hu => (ha b hb _).trans (h i u hu)
mutual
theorem OwC.agree {w w' : World} : ∀ (v : Vl) (cs : List Value) (F : List Nat), Agree F w w' → OwC w v cs F → OwC w' v cs F
  | .mk kd b n f tx ty its fls, cs, F, ha, h => by
    unfold OwC at h ⊢
    obtain ⟨ai, ni, ci, af, nf, cf, Fi, Ff, rfl, h1, h2, r1, r2, r3, r4, r5, r6, r7, r8, r9, r10, rfl⟩ := h
    refine ⟨ai, ni, ci, af, nf, cf, Fi, Ff, rfl, ?_, ?_, r1, r2, r3, r4, r5, r6, r7, r8, r9, r10, rfl⟩
    · rcases h1 with h1 | ⟨p, G, e1, rfl, h1⟩
      · exact .inl h1
      · exact .inr ⟨p, G, e1, rfl, OwsIn.agree its p 0 ni G (ha.left) h1⟩
    · rcases h2 with h2 | ⟨p, G, e1, rfl, h2⟩
      · exact .inl h2
      · exact .inr ⟨p, G, e1, rfl, OwfIn.agree fls p 0 nf G (ha.right) h2⟩
theorem OwsIn.agree {w w' : World} : ∀ (l : Vls) (p off n : Nat) (G : List Nat), Agree (p :: G) w w' → OwsIn w l p off n G → OwsIn w' l p off n G
  | .nil, p, off, n, G, ha, h => by unfold OwsIn at h ⊢; exact h
  | .cons v r, p, off, n, G, ha, h => by
    unfold OwsIn at h ⊢
    obtain ⟨m, cs, G1, G2, rfl, h1, h2, h3, rfl⟩ := h
    exact ⟨m, cs, G1, G2, rfl, h1.agree (List.mem_cons_self ..) ha, OwC.agree v cs G1 ha.tail.left h2, OwsIn.agree r p _ m G2 (fun b hb => ha b (by simp at hb ⊢; rcases hb with hb | hb <;> simp [hb])) h3, rfl⟩
theorem OwfIn.agree {w w' : World} : ∀ (l : Fls) (p off n : Nat) (G : List Nat), Agree (p :: G) w w' → OwfIn w l p off n G → OwfIn w' l p off n G
  | .nil, p, off, n, G, ha, h => by unfold OwfIn at h ⊢; exact h
  | .cons nm v r, p, off, n, G, ha, h => by
    unfold OwfIn at h ⊢
    obtain ⟨m, cs, G1, G2, rfl, h0, hz, h1, h2, h3, rfl⟩ := h
    exact ⟨m, cs, G1, G2, rfl, (ha p (List.mem_cons_self ..) _).trans h0, hz, h1.agree (List.mem_cons_self ..) ha, OwC.agree v cs G1 ha.tail.left h2, OwfIn.agree r p _ m G2 (fun b hb => ha b (by simp at hb ⊢; rcases hb with hb | hb <;> simp [hb])) h3, rfl⟩
end
mutual
/-- what is owned can be read -/
theorem OwC.read {w : World} : ∀ (v : Vl) (cs : List Value) (F : List Nat), OwC w v cs F → VlC w v cs
  | .mk kd b n f tx ty its fls, cs, F, h => by
    unfold OwC at h
    unfold VlC
    obtain ⟨ai, ni, ci, af, nf, cf, Fi, Ff, rfl, h1, h2, r1, r2, r3, r4, r5, r6, r7, r8, r9, r10, rfl⟩ := h
    refine ⟨ai, ni, ci, af, nf, cf, rfl, ?_, ?_, r1, r2, r3, r4, r5, r6, r7, r8, r9, r10⟩
    · rcases h1 with ⟨rfl, rfl, rfl, -⟩ | ⟨p, G, rfl, rfl, h1⟩
      · unfold VlsAt; rfl
      · exact OwsIn.read its p 0 ni G h1
    · rcases h2 with ⟨rfl, rfl, rfl, -⟩ | ⟨p, G, rfl, rfl, h2⟩
      · unfold FlsAt; rfl
      · exact OwfIn.read fls p 0 nf G h2
theorem OwsIn.read {w : World} : ∀ (l : Vls) (p off n : Nat) (G : List Nat), OwsIn w l p off n G → VlsAt w l (some ⟨p, off, none⟩) n
  | .nil, p, off, n, G, h => by unfold OwsIn at h; unfold VlsAt; exact h.1
  | .cons v r, p, off, n, G, h => by
    unfold OwsIn at h
    unfold VlsAt
    obtain ⟨m, cs, G1, G2, rfl, h1, h2, h3, rfl⟩ := h
    exact ⟨p, off, m, cs, rfl, rfl, h1, OwC.read v cs G1 h2, OwsIn.read r p _ m G2 h3⟩
theorem OwfIn.read {w : World} : ∀ (l : Fls) (p off n : Nat) (G : List Nat), OwfIn w l p off n G → FlsAt w l (some ⟨p, off, none⟩) n
  | .nil, p, off, n, G, h => by unfold OwfIn at h; unfold FlsAt; exact h.1
  | .cons nm v r, p, off, n, G, h => by
    unfold OwfIn at h
    unfold FlsAt
    obtain ⟨m, cs, G1, G2, rfl, h0, hz, h1, h2, h3, rfl⟩ := h
    exact ⟨p, off, m, cs, rfl, rfl, h0, hz, h1, OwC.read v cs G1 h2, OwfIn.read r p _ m G2 h3⟩
end
end Go.Proofs.YtechaplindbfoaaGreatDoor.vl
namespace Go.Proofs.YtechaplindbfoaaGreatDoor.vl
open Go.ChangeShapes Go.WideShapes Go.ChangeAt Go.RowKit
set_option linter.unusedVariables false
def Vls.of : List Vl → Vls
  | [] => .nil
  | v :: r => .cons v (Vls.of r)
def Fls.of : List (ByteArray × Vl) → Fls
  | [] => .nil
  | q :: r => .cons q.1 q.2 (Fls.of r)
theorem Vls.of_list : ∀ l : Vls, Vls.of l.list = l
  | .nil => rfl
  | .cons v r => by simp only [Vls.list, Vls.of]; rw [Vls.of_list r]
theorem Fls.of_list : ∀ l : Fls, Fls.of l.list = l
  | .nil => rfl
  | .cons nm v r => by simp only [Fls.list, Fls.of]; rw [Fls.of_list r]
theorem Vls.list_of : ∀ l : List Vl, (Vls.of l).list = l
  | [] => rfl
  | v :: r => by simp only [Vls.list, Vls.of]; rw [Vls.list_of r]
theorem Fls.list_of : ∀ l : List (ByteArray × Vl), (Fls.of l).list = l
  | [] => rfl
  | q :: r => by simp only [Fls.list, Fls.of]; rw [Fls.list_of r]
/-- a list that grows by one value -/
theorem OwsIn.snoc {w : World} {v : Vl} {cs : List Value} {G' : List Nat} : ∀ (l : List Vl) (p off n : Nat) (G : List Nat), OwsIn w (Vls.of l) p off n G → Row8 w p (off + n * 8) cs → OwC w v cs G' → OwsIn w (Vls.of (l ++ [v])) p off (n + 1) (G ++ G')
  | [], p, off, n, G, h, hr, hv => by
    simp only [Vls.of] at h
    unfold OwsIn at h
    obtain ⟨rfl, rfl⟩ := h
    simp only [List.nil_append, Vls.of]
    unfold OwsIn
    exact ⟨0, cs, G', [], rfl, by simpa using hr, hv, by unfold OwsIn; exact ⟨rfl, rfl⟩, by simp⟩
  | u :: r, p, off, n, G, h, hr, hv => by
    simp only [Vls.of] at h
    unfold OwsIn at h
    obtain ⟨m, ds, G1, G2, rfl, h1, h2, h3, rfl⟩ := h
    simp only [List.cons_append, Vls.of]
    unfold OwsIn
    exact ⟨m + 1, ds, G1, G2 ++ G', rfl, h1, h2, OwsIn.snoc r p (off + 8) m G2 h3 (by rw [show off + 8 + m * 8 = off + (m + 1) * 8 by omega]; exact hr) hv, by simp⟩
theorem OwfIn.snoc {w : World} {nm : ByteArray} {v : Vl} {cs : List Value} {G' : List Nat} : ∀ (l : List (ByteArray × Vl)) (p off n : Nat) (G : List Nat), OwfIn w (Fls.of l) p off n G → w.cell? ⟨p, off + n * 9, none⟩ = some (.string nm) → nm.size ≤ maxLen → Row8 w p (off + n * 9 + 1) cs → OwC w v cs G' → OwfIn w (Fls.of (l ++ [(nm, v)])) p off (n + 1) (G ++ G')
  | [], p, off, n, G, h, h0, hz, hr, hv => by
    simp only [Fls.of] at h
    unfold OwfIn at h
    obtain ⟨rfl, rfl⟩ := h
    simp only [List.nil_append, Fls.of]
    unfold OwfIn
    exact ⟨0, cs, G', [], rfl, by simpa using h0, hz, by simpa using hr, hv, by unfold OwfIn; exact ⟨rfl, rfl⟩, by simp⟩
  | u :: r, p, off, n, G, h, h0, hz, hr, hv => by
    simp only [Fls.of] at h
    unfold OwfIn at h
    obtain ⟨m, ds, G1, G2, rfl, g0, gz, h1, h2, h3, rfl⟩ := h
    simp only [List.cons_append, Fls.of]
    unfold OwfIn
    exact ⟨m + 1, ds, G1, G2 ++ G', rfl, g0, gz, h1, h2, OwfIn.snoc r p (off + 9) m G2 h3 (by rw [show off + 9 + m * 9 = off + (m + 1) * 9 by omega]; exact h0) hz (by rw [show off + 9 + m * 9 + 1 = off + (m + 1) * 9 + 1 by omega]; exact hr) hv, by simp⟩
/-- what lies ahead of a place in its block, and all that it holds, stands when only cells from there on are written -/
theorem OwsIn.keep {w w' : World} : ∀ (l : Vls) (p off n : Nat) (G : List Nat), Agree G w w' → (∀ o, o < off + n * 8 → w'.cell? ⟨p, o, none⟩ = w.cell? ⟨p, o, none⟩) → OwsIn w l p off n G → OwsIn w' l p off n G
  | .nil, p, off, n, G, ha, hc, h => by unfold OwsIn at h ⊢; exact h
  | .cons v r, p, off, n, G, ha, hc, h => by
    unfold OwsIn at h ⊢
    obtain ⟨m, cs, G1, G2, rfl, h1, h2, h3, rfl⟩ := h
    have h8 := (OwC.read v cs G1 h2).cells
    exact ⟨m, cs, G1, G2, rfl, fun i u hu => (hc (off + i) (by have := (List.getElem?_eq_some_iff.1 hu).1; omega)).trans (h1 i u hu), OwC.agree v cs G1 ha.left h2, OwsIn.keep r p _ m G2 ha.right (fun o ho => hc o (by omega)) h3, rfl⟩
theorem OwfIn.keep {w w' : World} : ∀ (l : Fls) (p off n : Nat) (G : List Nat), Agree G w w' → (∀ o, o < off + n * 9 → w'.cell? ⟨p, o, none⟩ = w.cell? ⟨p, o, none⟩) → OwfIn w l p off n G → OwfIn w' l p off n G
  | .nil, p, off, n, G, ha, hc, h => by unfold OwfIn at h ⊢; exact h
  | .cons nm v r, p, off, n, G, ha, hc, h => by
    unfold OwfIn at h ⊢
    obtain ⟨m, cs, G1, G2, rfl, h0, hz, h1, h2, h3, rfl⟩ := h
    have h8 := (OwC.read v cs G1 h2).cells
    exact ⟨m, cs, G1, G2, rfl, (hc off (by omega)).trans h0, hz, fun i u hu => (hc (off + 1 + i) (by have := (List.getElem?_eq_some_iff.1 hu).1; omega)).trans (h1 i u hu), OwC.agree v cs G1 ha.left h2, OwfIn.keep r p _ m G2 ha.right (fun o ho => hc o (by omega)) h3, rfl⟩
theorem there_below {w w' : World} {b o n : Nat} {B : Nat} (h : w.there b o n) (hb : Below B w w') (hl : b < B) : w'.there b o n := fun j hj =>
  ⟨by rw [hb.cell (p := ⟨b, o + j, none⟩) hl]; exact (h j hj).1, by rw [hb.frozen (p := ⟨b, o + j, none⟩) hl]; exact (h j hj).2⟩
theorem there_new {w : World} {Z : Array Value} {t : TypeId} {n : Nat} (h : Z.size = n) : (w.alloc (.cells Z t)).there w.heap.size 0 n := fun j hj =>
  ⟨by rw [World.cell?_alloc_at _ _ _ _ rfl]; simp [h]; omega, by rw [World.frozen?_alloc_at _ _ _ _ rfl]⟩
/-- every cell of a value is one cell -/
theorem VlC.one {w : World} {v : Vl} {cs : List Value} (h : VlC w v cs) : cs.toArray.all (·.oneCell') = true := by
  cases v
  unfold VlC at h
  obtain ⟨_, _, _, _, _, _, rfl, _⟩ := h
  simp [Value.oneCell']
theorem below_setCells {B : Nat} {a : World} (b : Nat) : ∀ (vs : List Value) (o : Nat) (w : World), Below B a w → B ≤ b → Below B a (w.setCells b o vs)
  | [], o, w, h, hp => h
  | v :: r, o, w, h, hp => below_setCells b r (o + 1) _ (h.setCell (p := ⟨b, o, none⟩) hp v) hp
theorem size_setCells (b : Nat) : ∀ (vs : List Value) (o : Nat) (w : World), (w.setCells b o vs).heap.size = w.heap.size
  | [], o, w => rfl
  | v :: r, o, w => by rw [World.setCells, size_setCells b r (o + 1)]; simp
theorem there_sub {w : World} {b o n o' n' : Nat} (h : w.there b o n) (h1 : o ≤ o') (h2 : o' + n' ≤ o + n) : w.there b o' n' := fun j hj => by
  have := h (o' - o + j) (by omega)
  rwa [show o + (o' - o + j) = o' + j by omega] at this
theorem agree_setCells {F : List Nat} {b o : Nat} {vs : List Value} (w : World) (h : b ∉ F) : Agree F w (w.setCells b o vs) := fun b' hb' o' => World.cell?_setCells_out b vs o w ⟨b', o', none⟩ (fun e _ => absurd (e ▸ hb') h)
/-- none of these blocks is frozen -/
def Fz (w : World) (F : List Nat) : Prop := ∀ b ∈ F, ∀ j, w.frozen? ⟨b, j, none⟩ = false
theorem Fz.below {w w' : World} {F : List Nat} (h : Fz w F) (hb : Below w.heap.size w w') (hl : ∀ b ∈ F, b < w.heap.size) : Fz w' F := fun b hm j => (hb.frozen (p := ⟨b, j, none⟩) (hl b hm)).trans (h b hm j)
theorem Fz.setCells {w : World} {F : List Nat} (h : Fz w F) (b o : Nat) (vs : List Value) : Fz (w.setCells b o vs) F := fun c hm j => by rw [World.frozen?_setCells]; exact h c hm j
theorem Fz.app {w : World} {F G : List Nat} (h : Fz w F) (h' : Fz w G) : Fz w (F ++ G) := fun b hb => by
  rcases List.mem_append.1 hb with hb | hb
  · exact h b hb
  · exact h' b hb
theorem Fz.cons {w : World} {p : Nat} {G : List Nat} (h : Fz w [p]) (h' : Fz w G) : Fz w (p :: G) := Fz.app h h'
theorem Fz.new {w : World} {Z : Array Value} {t : TypeId} : Fz (w.alloc (.cells Z t)) [w.heap.size] := fun b hb j => by
  simp only [List.mem_singleton] at hb
  rw [hb, World.frozen?_alloc_at _ _ _ _ rfl]
theorem infoV : (Tryz.prog.info? 29).map (·.size) = some 8 := by kernel_rfl
theorem infoM : (Tryz.prog.info? 45).map (·.size) = some 9 := by kernel_rfl
/-- a value that reads so in every world that agrees with this one from that block on -/
def FrC (lo : Nat) (w : World) (v : Vl) (cs : List Value) : Prop := ∀ w' : World, (∀ b j, lo ≤ b → b < w.heap.size → w'.cell? ⟨b, j, none⟩ = w.cell? ⟨b, j, none⟩) → VlC w' v cs
theorem FrC.read {lo : Nat} {w : World} {v : Vl} {cs : List Value} (h : FrC lo w v cs) : VlC w v cs := h w (fun _ _ _ _ => rfl)
theorem FrC.mono {lo lo' : Nat} {w : World} {v : Vl} {cs : List Value} (h : FrC lo w v cs) (hl : lo' ≤ lo) : FrC lo' w v cs := fun w' hw => h w' (fun b j hb => hw b j (Nat.le_trans hl hb))
theorem FrC.of {lo : Nat} {w : World} {v : Vl} {cs : List Value} {F : List Nat} (h : OwC w v cs F) (hF : ∀ b ∈ F, lo ≤ b ∧ b < w.heap.size) : FrC lo w v cs := fun w' hw => OwC.read v cs F (OwC.agree v cs F (fun b hb j => hw b j (hF b hb).1 (hF b hb).2) h)
theorem FrC.below {lo : Nat} {w w' : World} {v : Vl} {cs : List Value} (h : FrC lo w v cs) (hb : Below w.heap.size w w') : FrC lo w' v cs := fun w'' hw => h w'' (fun b j h1 h2 => (hw b j h1 (Nat.lt_of_lt_of_le h2 hb.size)).trans (hb.cell (p := ⟨b, j, none⟩) h2))
theorem FrC.setCells {lo : Nat} {w : World} {v : Vl} {cs : List Value} (h : FrC lo w v cs) (b o : Nat) (vs : List Value) (hb : b < lo) : FrC lo (w.setCells b o vs) v cs := fun w' hw => h w' (fun c j hc hc' => (hw c j hc (by rw [size_setCells]; exact hc')).trans (World.cell?_setCells_out _ _ _ _ _ (fun e _ => by have e : c = b := e; omega)))
end Go.Proofs.YtechaplindbfoaaGreatDoor.vl
namespace Go.Proofs.YtechaplindbfoaaGreatDoor.vl
open Go.ChangeShapes Go.WideShapes Go.ChangeAt Go.RowKit
set_option linter.unusedVariables false
def Hid (p : Prop) : Prop := p
theorem hide {p : Prop} (h : p) : Hid p := h
theorem unhide {p : Prop} (h : Hid p) : p := h
theorem makeV (n : Nat) (w : World) (hn : n ≤ 1256584717458) : ∃ Z : Array Value, Z.size = n * 8 ∧ (Instr.makeSlice 22 (.int .i64 n) (.int .i64 n)).run Tryz.prog w = .ok (.slice (some ⟨w.heap.size, 0, none⟩) n n) (w.alloc (.cells Z 29)) := by
  have hin : (Tryz.prog.info? 29).map (fun i => (i.bytes, i.size, i.zero.isSome)) = some (112, 8, true) := by kernel_rfl
  cases hq : Tryz.prog.info? 29 with
  | none => simp [hq] at hin
  | some i =>
    simp [hq] at hin
    obtain ⟨h1, h2, h3⟩ := hin
    obtain ⟨z, hz⟩ := Option.isSome_iff_exists.1 h3
    have := run_make (P := Tryz.prog) w 22 29 i z Tryz.underlying22 hq hz .i64 .i64 n n (by omega) (Int.le_refl _) (by rw [h1]; omega) (by omega)
    simp only [Int.toNat_natCast, h2] at this
    exact ⟨_, size_madeCells _ _, this⟩
theorem loadV (w : World) (b o : Nat) (cs : List Value) (h : w.rangeAt b o cs) (h8 : cs.length = 8) : (loadCellsFrom ⟨b, o, none⟩ 0 8 #[]).run Tryz.prog w = .ok cs.toArray w := by
  have := run_loadCells_list (P := Tryz.prog) w ⟨b, o, none⟩ cs (fun j v hv => by rw [Addr.add_mid]; exact h j v hv)
  rw [h8] at this
  simpa [loadCells] using this
end Go.Proofs.YtechaplindbfoaaGreatDoor.vl
namespace Go.Proofs.YtechaplindbfoaaGreatDoor.vl
open Go.ChangeShapes Go.WideShapes Go.ChangeAt Go.RowKit
set_option linter.unusedVariables false
set_option linter.unusedSimpArgs false
theorem keepC {w w' : World} {b o : Nat} {u : Value} (h : Below w.heap.size w w') (hl : b < w.heap.size) (hc : w.cell? ⟨b, o, none⟩ = some u) : w'.cell? ⟨b, o, none⟩ = some u := (h.cell (p := ⟨b, o, none⟩) hl).trans hc
theorem mixed : Tryz.prog.follows .mixedOrders = true := by kernel_rfl
theorem one9 {w : World} {v : Vl} {cs : List Value} (nm : ByteArray) (h : VlC w v cs) : (Value.string nm :: cs).toArray.all (·.oneCell') = true := by
  cases v
  unfold VlC at h
  obtain ⟨_, _, _, _, _, _, rfl, _⟩ := h
  simp [Value.oneCell']
end Go.Proofs.YtechaplindbfoaaGreatDoor.vl
namespace Go.Proofs.YtechaplindbfoaaGreatDoor.vl
open Go.ChangeShapes Go.WideShapes Go.ChangeAt Go.RowKit
set_option linter.unusedVariables false
theorem makeM (n : Nat) (w : World) (hn : n ≤ 1099511627776) : ∃ Z : Array Value, Z.size = n * 9 ∧ (Instr.makeSlice 27 (.int .i64 n) (.int .i64 n)).run Tryz.prog w = .ok (.slice (some ⟨w.heap.size, 0, none⟩) n n) (w.alloc (.cells Z 45)) := by
  have hin : (Tryz.prog.info? 45).map (fun i => (i.bytes, i.size, i.zero.isSome)) = some (128, 9, true) := by kernel_rfl
  cases hq : Tryz.prog.info? 45 with
  | none => simp [hq] at hin
  | some i =>
    simp [hq] at hin
    obtain ⟨h1, h2, h3⟩ := hin
    obtain ⟨z, hz⟩ := Option.isSome_iff_exists.1 h3
    have := run_make (P := Tryz.prog) w 27 45 i z Tryz.underlying27 hq hz .i64 .i64 n n (by omega) (Int.le_refl _) (by rw [h1]; omega) (by omega)
    simp only [Int.toNat_natCast, h2] at this
    exact ⟨_, size_madeCells _ _, this⟩
theorem row9 {w : World} {b o : Nat} {nm : ByteArray} {cs : List Value} (h : Row8 w b (o + 1) cs) (h0 : w.cell? ⟨b, o, none⟩ = some (.string nm)) : w.rangeAt b o (Value.string nm :: cs) := fun j u hu => by
  cases j with
  | zero => simp at hu; rw [← hu]; exact h0
  | succ j => rw [show o + (j + 1) = o + 1 + j by omega]; exact h j u (by simpa using hu)
end Go.Proofs.YtechaplindbfoaaGreatDoor.vl
