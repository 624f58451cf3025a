import Derived.Test.YtlgmonphhimbdaaDoorTbc
namespace Go.Proofs.YtlgmonphhimbdaaDoor.tab
open Go.ChangeShapes Go.WideShapes Go.ChangeAt Go.RowKit Go.Maps Go.Shelf
set_option linter.unusedVariables false
set_option linter.unusedSimpArgs false
def nmP (p : Pr) : ByteArray × Int := (nm p.1, p.2)
/-- the rows are the list's entries -/
structure Rel (rs : List Rw) (ps : List Pr) : Prop where
  eq : ents rs = ps.map nmP
  rng : ∀ p ∈ ps, InR p.1
theorem Rel.len {rs : List Rw} {ps : List Pr} (h : Rel rs ps) : rs.length = ps.length := by
  have := congrArg List.length h.eq
  simpa [ents] using this
theorem Rel.get {rs : List Rw} {ps : List Pr} (h : Rel rs ps) {i : Nat} {p : Pr} (hp : ps[i]? = some p) : ∃ x, rs[i]? = some (x, nm p.1, p.2) := by
  have e : (ents rs)[i]? = some (nmP p) := by rw [h.eq, List.getElem?_map, hp]; rfl
  unfold ents at e
  rw [List.getElem?_map] at e
  cases hr : rs[i]? with
  | none => rw [hr] at e; cases e
  | some r =>
    rw [hr] at e
    have : r.2 = nmP p := by simpa using e
    exact ⟨r.1, by rw [← Prod.eta r, this]; rfl⟩
theorem gt_ents (rs : List Rw) (s : ByteArray) : gtR rs s = ((ents rs).find? (fun x => decide (x.1 = s))).map (·.2) := by
  unfold gtR ents
  rw [List.find?_map, Option.map_map]
  rfl
theorem gt_nm (ps : List Pr) (k : Int) : ((ps.map nmP).find? (fun x => decide (x.1 = nm k))).map (·.2) = getP' ps k := by
  unfold getP'
  rw [List.find?_map, Option.map_map]
  have : ((fun x : ByteArray × Int => decide (x.1 = nm k)) ∘ nmP) = (fun p : Pr => p.1 == k) := by
    funext p
    by_cases h : p.1 = k
    · simp [nmP, h]
    · have : ¬ nm p.1 = nm k := fun e => h (nm_inj e)
      simp [nmP, h, this]
  rw [this]
  rfl
theorem Rel.gt {rs : List Rw} {ps : List Pr} (h : Rel rs ps) (k : Int) : gtR rs (nm k) = getP' ps k := by rw [gt_ents, h.eq, gt_nm]
theorem get_has (ps : List Pr) (k : Int) : (getP' ps k).isSome = hasP ps k := by
  unfold getP' hasP
  rw [Option.isSome_map]
  induction ps with
  | nil => rfl
  | cons p ps ih =>
    rw [List.find?_cons, List.any_cons]
    cases h : (p.1 == k)
    · simpa using ih
    · simp
theorem Rel.has {rs : List Rw} {ps : List Pr} (h : Rel rs ps) (k : Int) : (gtR rs (nm k)).isSome = hasP ps k := by rw [h.gt, get_has]
theorem Rel.put {rs : List Rw} {ps : List Pr} (h : Rel rs ps) (nx : Nat) (k v : Int) (hk : InR k) : Rel (putR rs nx (nm k) v) (putP ps k v) := by
  unfold putR putP
  rw [h.has]
  by_cases hh : hasP ps k = true
  · rw [if_pos hh, if_pos hh]
    refine ⟨?_, fun p hp => ?_⟩
    · have e1 : ents (rs.map (fun r => if r.2.1 = nm k then (r.1, r.2.1, v) else r)) = (ents rs).map (fun x => if x.1 = nm k then (x.1, v) else x) := by
        unfold ents
        rw [List.map_map, List.map_map]
        refine List.map_congr_left fun r _ => ?_
        simp only [Function.comp]
        split <;> rfl
      rw [e1, h.eq, List.map_map, List.map_map]
      refine List.map_congr_left fun p _ => ?_
      show (if (nmP p).1 = nm k then ((nmP p).1, v) else nmP p) = nmP (setP k v p)
      by_cases hp : p.1 = k
      · have e1 : (nmP p).1 = nm k := by rw [← hp]; rfl
        rw [if_pos e1, setP, if_pos hp]
        rfl
      · have e1 : ¬ (nmP p).1 = nm k := fun e => hp (nm_inj e)
        rw [if_neg e1, setP, if_neg hp]
    · obtain ⟨q, hq, rfl⟩ := List.mem_map.1 hp
      have := h.rng q hq
      unfold setP
      split <;> exact this
  · rw [if_neg hh, if_neg hh]
    refine ⟨?_, fun p hp => ?_⟩
    · have e2 := h.eq
      unfold ents at e2 ⊢
      rw [List.map_append, List.map_append, e2]
      rfl
    · rcases List.mem_append.1 hp with h1 | h1
      · exact h.rng p h1
      · simp at h1
        subst h1
        exact hk
theorem Rel.drp {rs : List Rw} {ps : List Pr} (h : Rel rs ps) (k : Int) : Rel (drpR rs (nm k)) (drpP ps k) := by
  refine ⟨?_, fun p hp => h.rng p (List.mem_filter.1 hp).1⟩
  have e1 : ents (drpR rs (nm k)) = (ents rs).filter (fun x => decide (x.1 ≠ nm k)) := by
    unfold ents drpR
    rw [List.filter_map]
    rfl
  rw [e1, h.eq, List.filter_map]
  unfold drpP
  congr 1
  refine List.filter_congr fun p _ => ?_
  simp only [Function.comp, nmP]
  by_cases hp : p.1 = k
  · simp [hp]
  · have : ¬ nm p.1 = nm k := fun e => hp (nm_inj e)
    simp [hp, this]
theorem put_len (ps : List Pr) (k v : Int) : (putP ps k v).length ≤ ps.length + 1 := by
  unfold putP
  split <;> simp
/-- the table of powers in every world that leaves what lies below B -/
theorem Tw.step {B : Nat} {w w' : World} (h : Tw B w) (hb : Below B w w') : Tw B w' := fun W hW => h W (hb.trans hW)
theorem Tw.at {B : Nat} {w w' : World} (h : Tw B w) (hb : Below B w w') : Lib.TabIs Tryd.prog w' "internal/strconv.uint64pow10" .u64 Lib.pow10Tab := h w' hb
end Go.Proofs.YtlgmonphhimbdaaDoor.tab
