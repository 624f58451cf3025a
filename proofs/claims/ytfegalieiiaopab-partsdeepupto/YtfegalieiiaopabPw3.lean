import Derived.Test.YtfegalieiiaopabCv9
namespace Go.Proofs.Ytfegalieiiaopab.cu
open mem (posT encS)
open lx (cAt ign nam rd tkAt tks puB nsB nrB blB soB)
set_option linter.unusedVariables false
set_option linter.unusedSimpArgs false
/-- marks -/
def bang (b : Bool) : List Int := if b then [33] else []
def wr (pre : List Bool) (last : Bool) : List Int := pre.flatMap (fun b => bang b ++ [93]) ++ bang last
def srcW (pre : List Bool) (last : Bool) : List Int := List.replicate pre.length 91 ++ ([111, 110] ++ wr pre last)
theorem wr_mark (pre : List Bool) (last : Bool) : ∀ x ∈ wr pre last, x = 33 ∨ x = 93 := by
  intro x hx
  unfold wr at hx
  rcases List.mem_append.1 hx with hx | hx
  · obtain ⟨b, _, hb⟩ := List.mem_flatMap.1 hx
    rcases List.mem_append.1 hb with hb | hb
    · cases b <;> simp [bang] at hb; exact .inl hb
    · right; simpa using hb
  · cases last <;> simp [bang] at hx; exact .inl hx
/-- a line without ends -/
theorem pos_line {l : List Int} (h : ∀ x ∈ l, x ≠ 10 ∧ x ≠ 13) : ∀ k, k ≤ l.length → posT l k = (1, (k : Int) + 1)
  | 0, _ => rfl
  | k + 1, hk => by
    have ih := pos_line h k (by omega)
    have he : mem.enB l k = false := by
      have hm : l.getD k 0 ∈ l := by
        rw [List.getD_eq_getElem?_getD, List.getElem?_eq_getElem (by omega)]
        exact List.getElem_mem _
      have := h _ hm
      unfold mem.enB
      simp only [Bool.or_eq_false_iff, Bool.and_eq_false_iff, beq_eq_false_iff_ne]
      exact ⟨this.1, .inl this.2⟩
    unfold posT
    rw [he, ih]
    simp
theorem ign_at {l : List Int} {i : Nat} (h1 : blB (cAt l i) = false) (h2 : cAt l i ≠ 35) : ign l false i = i := by
  rw [lx.ign_f, h1, if_neg (by simp), if_neg h2]
theorem enc1 (c : Int) (h0 : 0 ≤ c) (h1 : c ≤ 127) : encS [c] = ⟨#[c.toNat.toUInt8]⟩ := by
  have : ([c].all mem.scB) = true := by simp [mem.scB]; omega
  rw [mem.encS_yes this]
  simp [mem.putB_1 (show c < 128 by omega), strOfNums]
/-- a punctuator of one sign -/
theorem tk_pu {l : List Int} (hl : ∀ x ∈ l, x ≠ 10 ∧ x ≠ 13) {i : Nat} {c : Int} (hi : i < l.length) (hc : cAt l i = c) (h : c = 91 ∨ c = 93 ∨ c = 33) :
    tkAt l i = ⟨2, 1, (i : Int) + 1, i, i + 1, ⟨#[c.toNat.toUInt8]⟩, em⟩ := by
  have hg : ign l false i = i := ign_at (by rw [hc]; rcases h with rfl | rfl | rfl <;> decide) (by rw [hc]; rcases h with rfl | rfl | rfl <;> decide)
  have hr : rd l true i = (2, i + 1) := by
    unfold rd
    rw [if_neg (fun e => by omega), hc, if_neg (by rcases h with rfl | rfl | rfl <;> decide), if_pos (by rcases h with rfl | rfl | rfl <;> decide)]
  have hx : (l.take (i + 1)).drop i = [c] := by
    have hh : l[i]? = some c := by
      rw [lx.cAt_in hi, List.getD_eq_getElem?_getD, List.getElem?_eq_getElem hi] at hc
      rw [List.getElem?_eq_getElem hi]
      simpa using hc
    rw [List.take_add_one, hh, List.drop_append_of_le_length (by simp; omega)]
    simp
  unfold tkAt
  rw [hg, hr, pos_line hl i (by omega), hx, enc1 c (by rcases h with rfl | rfl | rfl <;> decide) (by rcases h with rfl | rfl | rfl <;> decide)]
/-- the end -/
theorem tk_end {l : List Int} (hl : ∀ x ∈ l, x ≠ 10 ∧ x ≠ 13) : (tkAt l l.length).k = 0 := by
  have hg : ign l false l.length = l.length := ign_at (by rw [lx.cAt_end (Nat.le_refl _)]; decide) (by rw [lx.cAt_end (Nat.le_refl _)]; decide)
  unfold tkAt
  rw [hg]
  show (rd l true l.length).1 = 0
  unfold rd
  rw [if_pos ⟨rfl, rfl⟩]
section
variable (pre : List Bool) (last : Bool)
theorem src_len : (srcW pre last).length = pre.length + 2 + (wr pre last).length := by unfold srcW; simp; omega
theorem src_nl : ∀ x ∈ srcW pre last, x ≠ 10 ∧ x ≠ 13 := by
  intro x hx
  unfold srcW at hx
  rcases List.mem_append.1 hx with hx | hx
  · rw [List.eq_of_mem_replicate hx]; decide
  · rcases List.mem_append.1 hx with hx | hx
    · simp at hx; rcases hx with rfl | rfl <;> decide
    · rcases wr_mark pre last x hx with rfl | rfl <;> decide
theorem src_plain : lx.Plain (srcW pre last) := by
  intro x hx
  unfold srcW at hx
  rcases List.mem_append.1 hx with hx | hx
  · rw [List.eq_of_mem_replicate hx]; decide
  · rcases List.mem_append.1 hx with hx | hx
    · simp at hx; rcases hx with rfl | rfl <;> decide
    · rcases wr_mark pre last x hx with rfl | rfl <;> decide
theorem c_open {i : Nat} (h : i < pre.length) : cAt (srcW pre last) i = 91 := by
  rw [lx.cAt_in (by rw [src_len]; omega)]
  unfold srcW
  rw [List.getD_eq_getElem?_getD, List.getElem?_append_left (by simpa using h)]
  simp [h]
theorem c_on : cAt (srcW pre last) pre.length = 111 ∧ cAt (srcW pre last) (pre.length + 1) = 110 := by
  constructor
  · rw [lx.cAt_in (by rw [src_len]; omega)]
    unfold srcW
    rw [List.getD_eq_getElem?_getD, List.getElem?_append_right (by simp)]
    simp
  · rw [lx.cAt_in (by rw [src_len]; omega)]
    unfold srcW
    rw [List.getD_eq_getElem?_getD, List.getElem?_append_right (by simp)]
    simp
theorem c_wr {q : Nat} (h : q < (wr pre last).length) : cAt (srcW pre last) (pre.length + 2 + q) = (wr pre last).getD q 0 := by
  rw [lx.cAt_in (by rw [src_len]; omega)]
  unfold srcW
  rw [List.getD_eq_getElem?_getD, List.getElem?_append_right (by simp; omega), List.getElem?_append_right (by simp; omega), List.getD_eq_getElem?_getD]
  congr 2
  simp
  omega
theorem c_behind : nrB (cAt (srcW pre last) (pre.length + 2)) = false := by
  by_cases h : 0 < (wr pre last).length
  · have e := c_wr pre last (q := 0) h
    rw [Nat.add_zero] at e
    rw [e]
    have hm : (wr pre last).getD 0 0 ∈ wr pre last := by
      rw [List.getD_eq_getElem?_getD, List.getElem?_eq_getElem h]
      exact List.getElem_mem _
    rcases wr_mark pre last _ hm with e | e <;> rw [e] <;> decide
  · rw [lx.cAt_end (by rw [src_len]; omega)]; decide
def onB : ByteArray := ⟨#[111, 110]⟩
theorem tk_on : (tkAt (srcW pre last) pre.length).k = 3 ∧ (tkAt (srcW pre last) pre.length).to = pre.length + 2 ∧ (tkAt (srcW pre last) pre.length).tx = onB := by
  obtain ⟨h1, h2⟩ := c_on pre last
  have hg : ign (srcW pre last) false pre.length = pre.length := ign_at (by rw [h1]; decide) (by rw [h1]; decide)
  have hn : nam (srcW pre last) (pre.length + 1) = pre.length + 2 := by
    rw [lx.nam_eq, h2, if_pos (by decide), lx.nam_eq, c_behind, if_neg (by simp)]
  have hr : rd (srcW pre last) true pre.length = (3, pre.length + 2) := by
    unfold rd
    rw [if_neg (fun e => by have := src_len pre last; omega), h1, if_neg (by decide), if_neg (by decide), if_pos (by decide), hn]
  unfold tkAt
  rw [hg, hr]
  refine ⟨rfl, rfl, ?_⟩
  show encS (((srcW pre last).take (pre.length + 2)).drop pre.length) = onB
  have : ((srcW pre last).take (pre.length + 2)).drop pre.length = [111, 110] := by
    unfold srcW
    rw [List.take_append, List.take_of_length_le (by simp), List.drop_append_of_le_length (by simp), List.drop_of_length_le (by simp)]
    simp
  rw [this]
  rfl
/-- the tokens -/
structure Toks (T : List Tk) (o : Nat) (ws : List Int) : Prop where
  op : ∀ j, j < o → ∃ t, T[j]? = some t ∧ t.k = 2 ∧ t.tx = bLb ∧ t.ln = 1 ∧ t.co = (j : Int) + 1
  nm : ∃ t, T[o]? = some t ∧ t.k = 3 ∧ t.tx = onB
  ma : ∀ q, q < ws.length → ∃ t, T[o + 1 + q]? = some t ∧ t.k = 2 ∧ ((ws.getD q 0 = 33 ∧ t.tx = bBang) ∨ (ws.getD q 0 = 93 ∧ t.tx = bRb))
  en : ∃ t, T[o + 1 + ws.length]? = some t ∧ t.k = 0
theorem tks_get {l : List Int} {i : Nat} (hi : i ≤ l.length) (h : ¬ ((tkAt l i).k = 0 ∨ (tkAt l i).k = 1)) (j : Nat) : (tks l i)[j + 1]? = (tks l (tkAt l i).to)[j]? := by
  rw [lx.tks_go hi h]; simp
theorem tks_0 (l : List Int) (i : Nat) : (tks l i)[0]? = some (tkAt l i) := by
  unfold tks
  rw [lx.tksF]
  split <;> simp
theorem tok_open {i : Nat} (h : i < pre.length) : tkAt (srcW pre last) i = ⟨2, 1, (i : Int) + 1, i, i + 1, bLb, em⟩ :=
  tk_pu (src_nl pre last) (by rw [src_len]; omega) (c_open pre last h) (.inl rfl)
theorem tks_open : ∀ (j i : Nat), i + j ≤ pre.length → ∀ m, (tks (srcW pre last) i)[j + m]? = (tks (srcW pre last) (i + j))[m]?
  | 0, i, h, m => by simp
  | j + 1, i, h, m => by
    have e := tok_open pre last (i := i) (by omega)
    rw [show j + 1 + m = (j + m) + 1 by omega, tks_get (by rw [src_len]; omega) (by rw [e]; simp), e]
    show (tks (srcW pre last) (i + 1))[j + m]? = _
    rw [tks_open j (i + 1) (by omega) m, show i + 1 + j = i + (j + 1) by omega]
theorem tok_mark {q : Nat} (h : q < (wr pre last).length) : ∃ c : Int, (wr pre last).getD q 0 = c ∧ (c = 33 ∨ c = 93) ∧ tkAt (srcW pre last) (pre.length + 2 + q) = ⟨2, 1, ((pre.length + 2 + q : Nat) : Int) + 1, pre.length + 2 + q, pre.length + 2 + q + 1, ⟨#[c.toNat.toUInt8]⟩, em⟩ := by
  have hm : (wr pre last).getD q 0 ∈ wr pre last := by
    rw [List.getD_eq_getElem?_getD, List.getElem?_eq_getElem h]
    exact List.getElem_mem _
  refine ⟨_, rfl, wr_mark pre last _ hm, tk_pu (src_nl pre last) (by rw [src_len]; omega) (c_wr pre last h) ?_⟩
  rcases wr_mark pre last _ hm with e | e
  · exact .inr (.inr e)
  · exact .inr (.inl e)
theorem tks_mark : ∀ (j i : Nat), i + j ≤ (wr pre last).length → ∀ m, (tks (srcW pre last) (pre.length + 2 + i))[j + m]? = (tks (srcW pre last) (pre.length + 2 + (i + j)))[m]?
  | 0, i, h, m => by simp
  | j + 1, i, h, m => by
    obtain ⟨c, _, _, e⟩ := tok_mark pre last (q := i) (by omega)
    rw [show j + 1 + m = (j + m) + 1 by omega, tks_get (by rw [src_len]; omega) (by rw [e]; simp), e]
    show (tks (srcW pre last) (pre.length + 2 + i + 1))[j + m]? = _
    rw [show pre.length + 2 + i + 1 = pre.length + 2 + (i + 1) by omega, tks_mark j (i + 1) (by omega) m, show i + 1 + j = i + (j + 1) by omega]
theorem src_toks : Toks (tks (srcW pre last) 0) pre.length (wr pre last) := by
  have hT : ∀ m, (tks (srcW pre last) 0)[pre.length + m]? = (tks (srcW pre last) pre.length)[m]? := fun m => by
    have := tks_open pre last pre.length 0 (by omega) m
    simpa using this
  obtain ⟨n1, n2, n3⟩ := tk_on pre last
  have hN : ∀ m, (tks (srcW pre last) 0)[pre.length + 1 + m]? = (tks (srcW pre last) (pre.length + 2))[m]? := fun m => by
    rw [show pre.length + 1 + m = pre.length + (m + 1) by omega, hT, tks_get (by rw [src_len]; omega) (by rw [n1]; decide), n2]
  refine ⟨fun j hj => ?_, ?_, fun q hq => ?_, ?_⟩
  · have h1 := tks_open pre last j 0 (by omega) 0
    rw [Nat.zero_add, Nat.add_zero, tks_0, tok_open pre last hj] at h1
    exact ⟨_, h1, rfl, rfl, rfl, rfl⟩
  · have h1 := hT 0
    rw [Nat.add_zero, tks_0] at h1
    exact ⟨_, h1, n1, n3⟩
  · obtain ⟨c, hc, hcc, e⟩ := tok_mark pre last hq
    have h1 := hN q
    have h2 := tks_mark pre last q 0 (by omega) 0
    simp only [Nat.add_zero, Nat.zero_add] at h2
    rw [tks_0, e] at h2
    rw [h2] at h1
    refine ⟨_, h1, rfl, ?_⟩
    rcases hcc with rfl | rfl
    · exact .inl ⟨hc, rfl⟩
    · exact .inr ⟨hc, rfl⟩
  · have h1 := hN (wr pre last).length
    have h2 := tks_mark pre last (wr pre last).length 0 (by omega) 0
    simp only [Nat.add_zero, Nat.zero_add] at h2
    rw [tks_0, show pre.length + 2 + (wr pre last).length = (srcW pre last).length from by rw [src_len]] at h2
    rw [h2] at h1
    exact ⟨_, h1, tk_end (src_nl pre last)⟩
end
end Go.Proofs.Ytfegalieiiaopab.cu
