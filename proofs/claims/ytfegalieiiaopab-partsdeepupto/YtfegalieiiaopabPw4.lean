import Derived.Test.YtfegalieiiaopabPw3
namespace Go.Proofs.Ytfegalieiiaopab.cu
set_option linter.unusedVariables false
set_option linter.unusedSimpArgs false
theorem tok_of {c : Cu} {t : Tk} (h : c.ts[c.ix]? = some t) : c.tok = t := by
  unfold Cu.tok
  rw [List.getD_eq_getElem?_getD, h]; rfl
theorem isP_of {c : Cu} {t : Tk} {p : ByteArray} (h : c.ts[c.ix]? = some t) (hk : c.kd = 0) (h2 : t.k = 2) : c.isP p = decide (t.tx = p) := by
  unfold Cu.isP
  rw [tok_of h]
  simp [hk, h2]
theorem isP_not {c : Cu} {t : Tk} {p : ByteArray} (h : c.ts[c.ix]? = some t) (h2 : t.k ≠ 2) : c.isP p = false := by
  unfold Cu.isP
  rw [tok_of h]
  simp [h2]
theorem isN_of {c : Cu} {t : Tk} (h : c.ts[c.ix]? = some t) (hk : c.kd = 0) (h2 : t.k = 3) : c.isN = true := by
  unfold Cu.isN
  rw [tok_of h]
  simp [hk, h2]
/-- how many signs r levels take -/
def wrT (pre : List Bool) (last : Bool) (r : Nat) : List Int := (pre.take r).flatMap (fun b => bang b ++ [93]) ++ bang ((pre ++ [last]).getD r false)
def toB (l : List Int) : ByteArray := ⟨(l.map (fun c => c.toNat.toUInt8)).toArray⟩
theorem toB_app (l : List Int) (c : Int) : toB l ++ ⟨#[c.toNat.toUInt8]⟩ = toB (l ++ [c]) := by
  unfold toB
  apply ByteArray.ext
  simp [ByteArray.data_append]
theorem wr_split (pre : List Bool) (last : Bool) (r : Nat) (h : r ≤ pre.length) : ∃ rest, wr pre last = wrT pre last r ++ rest ∧ (r < pre.length → ∃ rest', rest = 93 :: rest') ∧ (r = pre.length → rest = []) := by
  unfold wr wrT
  rcases Nat.lt_or_ge r pre.length with h1 | h1
  · have e : pre = pre.take r ++ pre[r] :: pre.drop (r + 1) := by simp
    refine ⟨93 :: ((pre.drop (r + 1)).flatMap (fun b => bang b ++ [93]) ++ bang last), ?_, fun _ => ⟨_, rfl⟩, fun e => by omega⟩
    have e2 : (pre ++ [last]).getD r false = pre[r] := by
      rw [List.getD_eq_getElem?_getD, List.getElem?_append_left h1, List.getElem?_eq_getElem h1]; rfl
    rw [e2]
    have e3 : pre.flatMap (fun b => bang b ++ [93]) = (pre.take r).flatMap (fun b => bang b ++ [93]) ++ ((bang pre[r] ++ [93]) ++ (pre.drop (r + 1)).flatMap (fun b => bang b ++ [93])) := by
      conv => lhs; rw [e]
      rw [List.flatMap_append, List.flatMap_cons]
    rw [e3]
    simp only [List.append_assoc, List.cons_append, List.nil_append]
  · obtain rfl : r = pre.length := by omega
    refine ⟨[], ?_, fun e => by omega, fun _ => rfl⟩
    simp
/-- the sign behind r levels -/
theorem wr_next (pre : List Bool) (last : Bool) (r : Nat) (h : r < pre.length) : (wr pre last).getD (wrT pre last r).length 0 = 93 ∧ (wrT pre last r).length < (wr pre last).length := by
  obtain ⟨rest, e, h1, _⟩ := wr_split pre last r (by omega)
  obtain ⟨rest', rfl⟩ := h1 h
  rw [e]
  simp [List.getD]
theorem wrT_succ (pre : List Bool) (last : Bool) (r : Nat) (h : r < pre.length) : wrT pre last (r + 1) = wrT pre last r ++ [93] ++ bang ((pre ++ [last]).getD (r + 1) false) := by
  unfold wrT
  have e2 : (pre ++ [last]).getD r false = pre[r] := by
    rw [List.getD_eq_getElem?_getD, List.getElem?_append_left h, List.getElem?_eq_getElem h]; rfl
  have e3 : pre.take (r + 1) = pre.take r ++ [pre[r]] := by rw [List.take_add_one, List.getElem?_eq_getElem h]; rfl
  rw [e3, List.flatMap_append, e2]
  simp only [List.flatMap_cons, List.flatMap_nil, List.append_nil, List.append_assoc]
/-- is there a mark behind the brackets that have been taken? -/
theorem mark_next (pre : List Bool) (last : Bool) (r : Nat) (h : r ≤ pre.length) (u : List Int) (hu : wrT pre last r = u ++ bang ((pre ++ [last]).getD r false)) :
    ((pre ++ [last]).getD r false = true → u.length < (wr pre last).length ∧ (wr pre last).getD u.length 0 = 33) ∧ ((pre ++ [last]).getD r false = false → u.length = (wr pre last).length ∨ (u.length < (wr pre last).length ∧ (wr pre last).getD u.length 0 = 93)) := by
  obtain ⟨rest, e, h1, h2⟩ := wr_split pre last r h
  constructor
  · intro hb
    rw [hu, hb] at e
    rw [e]
    simp [bang, List.getD]
  · intro hb
    rw [hu, hb] at e
    rcases Nat.lt_or_ge r pre.length with h3 | h3
    · obtain ⟨rest', rfl⟩ := h1 h3
      right
      rw [e]
      simp [bang, List.getD]
    · have := h2 (by omega)
      subst this
      left
      rw [e]
      simp [bang]
section
variable {T : List Tk} {pre : List Bool} {last : Bool} (hT : Toks T pre.length (wr pre last))
include hT
/-- the optional mark -/
theorem opt_mark (r : Nat) (h : r ≤ pre.length) (u : List Int) (hu : wrT pre last r = u ++ bang ((pre ++ [last]).getD r false)) (op mo : Nat) :
    (⟨T, pre.length + 1 + u.length, op, mo, 0⟩ : Cu).isP bBang = (pre ++ [last]).getD r false := by
  obtain ⟨m1, m2⟩ := mark_next pre last r h u hu
  cases hb : (pre ++ [last]).getD r false
  · rcases m2 hb with e | ⟨e1, e2⟩
    · obtain ⟨t, h1, h2⟩ := hT.en
      rw [← e] at h1
      exact isP_not (c := ⟨T, pre.length + 1 + u.length, op, mo, 0⟩) h1 (by rw [h2]; decide)
    · obtain ⟨t, h1, h2, h3⟩ := hT.ma _ e1
      rw [isP_of (c := ⟨T, pre.length + 1 + u.length, op, mo, 0⟩) h1 rfl h2]
      rcases h3 with ⟨h3, _⟩ | ⟨_, h3⟩
      · rw [e2] at h3; cases h3
      · rw [h3]; decide
  · obtain ⟨e1, e2⟩ := m1 hb
    obtain ⟨t, h1, h2, h3⟩ := hT.ma _ e1
    rw [isP_of (c := ⟨T, pre.length + 1 + u.length, op, mo, 0⟩) h1 rfl h2]
    rcases h3 with ⟨_, h3⟩ | ⟨h3, _⟩
    · rw [h3]; decide
    · rw [e2] at h3; cases h3
theorem typ_mark (r : Nat) (h : r ≤ pre.length) (u : List Int) (hu : wrT pre last r = u ++ bang ((pre ++ [last]).getD r false)) (op mo : Nat) (U : Cu → Option (ByteArray × ByteArray) × Cu) (c : Cu) (hU : U c = (some (onB, toB u), ⟨T, pre.length + 1 + u.length, op, mo, 0⟩)) :
    typ U c = (some (onB, toB (wrT pre last r)), ⟨T, pre.length + 1 + (wrT pre last r).length, op, mo, 0⟩) := by
  have ho := opt_mark hT r h u hu op mo
  unfold typ
  rw [hU]
  dsimp only
  rw [ho, hu]
  cases hb : (pre ++ [last]).getD r false
  · rw [if_neg (by simp)]
    unfold Cu.punct
    rw [ho, hb]
    simp [bang]
  · rw [if_pos rfl]
    unfold Cu.punct
    rw [ho, hb, if_pos rfl]
    show (some (onB, toB u ++ bBang), _) = _
    rw [show toB u ++ bBang = toB (u ++ [33]) from toB_app u 33]
    simp [bang, Cu.take]
    omega
/-- r levels, from the outermost of them on -/
theorem typ_levels (mo : Nat) (hm : pre.length ≤ mo) : ∀ (r f : Nat), r ≤ pre.length → r < f → typF f ⟨T, pre.length - r, pre.length - r, mo, 0⟩ = (some (onB, toB (wrT pre last r)), ⟨T, pre.length + 1 + (wrT pre last r).length, pre.length - r, mo, 0⟩)
  | 0, f + 1, h, hf => by
    obtain ⟨t, h1, h2, h3⟩ := hT.nm
    have h1' : (⟨T, pre.length - 0, pre.length - 0, mo, 0⟩ : Cu).ts[(⟨T, pre.length - 0, pre.length - 0, mo, 0⟩ : Cu).ix]? = some t := h1
    have hu : wrT pre last 0 = [] ++ bang ((pre ++ [last]).getD 0 false) := by unfold wrT; simp
    refine typ_mark hT 0 h [] hu _ mo _ _ ?_
    unfold unm
    rw [if_neg (by rw [isP_not h1' (by rw [h2]; decide)]; simp), if_pos (isN_of h1' rfl h2)]
    unfold Cu.name
    rw [if_pos (isN_of h1' rfl h2), tok_of h1', h3]
    rfl
  | r + 1, f + 1, h, hf => by
    have ih := typ_levels mo hm r f (by omega) (by omega)
    obtain ⟨t, h1, h2, h3, -, -⟩ := hT.op (pre.length - (r + 1)) (by omega)
    have h1' : (⟨T, pre.length - (r + 1), pre.length - (r + 1), mo, 0⟩ : Cu).ts[(⟨T, pre.length - (r + 1), pre.length - (r + 1), mo, 0⟩ : Cu).ix]? = some t := h1
    have hP : (⟨T, pre.length - (r + 1), pre.length - (r + 1), mo, 0⟩ : Cu).isP bLb = true := by rw [isP_of h1' rfl h2, h3]; decide
    have hO : (⟨T, pre.length - (r + 1), pre.length - (r + 1), mo, 0⟩ : Cu).opB bLb = true := by
      unfold Cu.opB
      rw [hP]
      simp
      omega
    have hop : (⟨T, pre.length - (r + 1), pre.length - (r + 1), mo, 0⟩ : Cu).opn bLb = ⟨T, pre.length - r, pre.length - r, mo, 0⟩ := by
      unfold Cu.opn
      rw [if_pos hP, if_pos (show pre.length - (r + 1) < mo by omega)]
      simp
      omega
    obtain ⟨n1, n2⟩ := wr_next pre last r (by omega)
    obtain ⟨t2, k1, k2, k3⟩ := hT.ma _ n2
    have k1' : (⟨T, pre.length + 1 + (wrT pre last r).length, pre.length - r, mo, 0⟩ : Cu).ts[(⟨T, pre.length + 1 + (wrT pre last r).length, pre.length - r, mo, 0⟩ : Cu).ix]? = some t2 := k1
    have hR : (⟨T, pre.length + 1 + (wrT pre last r).length, pre.length - r, mo, 0⟩ : Cu).isP bRb = true := by
      rw [isP_of k1' rfl k2]
      rcases k3 with ⟨k3, _⟩ | ⟨_, k3⟩
      · rw [n1] at k3; cases k3
      · rw [k3]; decide
    have hu : wrT pre last (r + 1) = (wrT pre last r ++ [93]) ++ bang ((pre ++ [last]).getD (r + 1) false) := wrT_succ pre last r (by omega)
    refine typ_mark hT (r + 1) h (wrT pre last r ++ [93]) hu _ mo _ _ ?_
    unfold unm
    rw [if_pos hP, if_pos hO, hop, ih]
    dsimp only
    rw [if_pos hR]
    unfold Cu.cls
    rw [if_pos hR]
    rw [show toB (wrT pre last r) ++ bRb = toB (wrT pre last r ++ [93]) from toB_app _ 93]
    simp
    omega
/-- too many brackets -/
theorem typ_deep (mo : Nat) (hm : mo < pre.length) : ∀ (r f : Nat), r ≤ mo → r < f → typF f ⟨T, mo - r, mo - r, mo, 0⟩ = (none, ⟨T, mo, mo, mo, 71⟩)
  | 0, f + 1, h, hf => by
    obtain ⟨t, h1, h2, h3, -, -⟩ := hT.op mo hm
    have h1' : (⟨T, mo - 0, mo - 0, mo, 0⟩ : Cu).ts[(⟨T, mo - 0, mo - 0, mo, 0⟩ : Cu).ix]? = some t := h1
    have hP : (⟨T, mo - 0, mo - 0, mo, 0⟩ : Cu).isP bLb = true := by rw [isP_of h1' rfl h2, h3]; decide
    have hO : (⟨T, mo - 0, mo - 0, mo, 0⟩ : Cu).opB bLb = false := by unfold Cu.opB; simp
    show typ (unm (typF f)) _ = _
    unfold typ unm
    rw [if_pos hP, if_neg (by rw [hO]; simp)]
    dsimp only
    unfold Cu.opn
    rw [if_pos hP, if_neg (by show ¬ (mo - 0 < mo); omega)]
    unfold Cu.stop
    rw [if_pos rfl]
    rfl
  | r + 1, f + 1, h, hf => by
    have ih := typ_deep mo hm r f (by omega) (by omega)
    obtain ⟨t, h1, h2, h3, -, -⟩ := hT.op (mo - (r + 1)) (by omega)
    have h1' : (⟨T, mo - (r + 1), mo - (r + 1), mo, 0⟩ : Cu).ts[(⟨T, mo - (r + 1), mo - (r + 1), mo, 0⟩ : Cu).ix]? = some t := h1
    have hP : (⟨T, mo - (r + 1), mo - (r + 1), mo, 0⟩ : Cu).isP bLb = true := by rw [isP_of h1' rfl h2, h3]; decide
    have hO : (⟨T, mo - (r + 1), mo - (r + 1), mo, 0⟩ : Cu).opB bLb = true := by
      unfold Cu.opB
      rw [hP]
      simp
      omega
    have hop : (⟨T, mo - (r + 1), mo - (r + 1), mo, 0⟩ : Cu).opn bLb = ⟨T, mo - r, mo - r, mo, 0⟩ := by
      unfold Cu.opn
      rw [if_pos hP, if_pos (show mo - (r + 1) < mo by omega)]
      simp
      omega
    show typ (unm (typF f)) _ = _
    unfold typ unm
    rw [if_pos hP, if_pos hO, hop, ih]
end
theorem wrT_all (pre : List Bool) (last : Bool) : wrT pre last pre.length = wr pre last := by unfold wrT wr; simp
/-- what is read of a wrapped name -/
theorem readW_yes (pre : List Bool) (last : Bool) (d : Int) (h : pre.length ≤ mostS d) : (readT (srcW pre last) d).1 = some (onB, toB (wr pre last)) ∧ (readT (srcW pre last) d).2.kd = 0 := by
  have hT := src_toks pre last
  have hl : pre.length < (lx.tks (srcW pre last) 0).length := by
    obtain ⟨t, h1, _⟩ := hT.nm
    exact (List.getElem?_eq_some_iff.1 h1).1
  have e := typ_levels hT (mostS d) h pre.length (lx.tks (srcW pre last) 0).length (Nat.le_refl _) hl
  rw [Nat.sub_self] at e
  have e' : typF (lx.tks (srcW pre last) 0).length (newS (srcW pre last) d) = _ := e
  obtain ⟨t, h1, h2⟩ := hT.en
  rw [wrT_all] at e'
  have hF : (⟨lx.tks (srcW pre last) 0, pre.length + 1 + (wr pre last).length, 0, mostS d, 0⟩ : Cu).finB = true := by
    unfold Cu.finB
    rw [tok_of (c := ⟨lx.tks (srcW pre last) 0, pre.length + 1 + (wr pre last).length, 0, mostS d, 0⟩) h1]
    simp [h2]
  unfold readT
  rw [e']
  simp only [Option.isSome_some, if_true]
  unfold Cu.fin
  rw [hF]
  exact ⟨rfl, rfl⟩
theorem readW_no (pre : List Bool) (last : Bool) (d : Int) (h : mostS d < pre.length) : (readT (srcW pre last) d).1 = none ∧ (readT (srcW pre last) d).2.kd = 71 ∧ (readT (srcW pre last) d).2.tok.ln = 1 ∧ (readT (srcW pre last) d).2.tok.co = (mostS d : Int) + 1 := by
  have hT := src_toks pre last
  have hl : pre.length < (lx.tks (srcW pre last) 0).length := by
    obtain ⟨t, h1, _⟩ := hT.nm
    exact (List.getElem?_eq_some_iff.1 h1).1
  have e := typ_deep hT (mostS d) h (mostS d) (lx.tks (srcW pre last) 0).length (Nat.le_refl _) (by omega)
  rw [Nat.sub_self] at e
  have e' : typF (lx.tks (srcW pre last) 0).length (newS (srcW pre last) d) = _ := e
  obtain ⟨t, h1, h2, h3, h4, h5⟩ := hT.op (mostS d) h
  unfold readT
  rw [e']
  simp only [Option.isSome_none]
  refine ⟨rfl, rfl, ?_, ?_⟩
  · show (⟨lx.tks (srcW pre last) 0, mostS d, mostS d, mostS d, 71⟩ : Cu).tok.ln = 1
    rw [tok_of (c := ⟨lx.tks (srcW pre last) 0, mostS d, mostS d, mostS d, 71⟩) h1, h4]
  · show (⟨lx.tks (srcW pre last) 0, mostS d, mostS d, mostS d, 71⟩ : Cu).tok.co = _
    rw [tok_of (c := ⟨lx.tks (srcW pre last) 0, mostS d, mostS d, mostS d, 71⟩) h1, h5]
end Go.Proofs.Ytfegalieiiaopab.cu
