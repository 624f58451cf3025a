import Derived.Test.YtjlafneklcfgoabVlC2
namespace Go.Proofs.Ytjlafneklcfgoab.vl
open Go.ChangeShapes Go.WideShapes Go.ChangeAt Go.RowKit
open stp (St Pth St3)
set_option linter.unusedVariables false
set_option linter.unusedSimpArgs false
/-- where the child number i of a value with these cells lies -/
def Loc (cs : List Value) (s : St) (i b o : Nat) : Prop :=
  ∃ p off n c, if s.it = true then cs[6]? = some (.slice (some ⟨p, off, none⟩) n c) ∧ b = p ∧ o = off + i * 8 else cs[7]? = some (.slice (some ⟨p, off, none⟩) n c) ∧ b = p ∧ o = off + i * 9 + 1
def getS : Vl → St → Option Vl
  | .mk kd b n f tx ty its fls, s => match chI (.mk kd b n f tx ty its fls) s with
    | none => none
    | some i => if s.it = true then its.list[i]? else (fls.list[i]?).map (·.2)
def getP : Vl → List St → Option Vl
  | v, [] => some v
  | v, s :: r => (getS v s).bind fun u => getP u r
theorem chI_mk (kd : Int) (b : Bool) (n : Int) (f : Nat) (tx ty : ByteArray) (its : Vls) (fls : Fls) (s : St) : chI (.mk kd b n f tx ty its fls) s = if s.it = true then (if kd = 5 ∧ 0 ≤ s.ix ∧ s.ix < its.list.length then some s.ix.toNat else none) else (if kd = 6 then fls.list.findIdx? (fun q => decide (q.1 = s.nm)) else none) := rfl
theorem findIdx_get {α : Type} {f : α → Bool} {l : List α} {i : Nat} (h : l.findIdx? f = some i) : ∃ x, l[i]? = some x ∧ f x = true := by
  rw [List.findIdx?_eq_some_iff_getElem] at h
  obtain ⟨hi, hx, _⟩ := h
  exact ⟨l[i], by simp [hi], hx⟩
/-- the child of a value that is read -/
theorem VlC.child {w : World} {v : Vl} {cs : List Value} {s : St} {i b o : Nat} (h : VlC w v cs) (hi : chI v s = some i) (hl : Loc cs s i b o) : ∃ u us, getS v s = some u ∧ Row8 w b o us ∧ VlC w u us := by
  obtain ⟨kd, bb, ni, f, tx, ty, its, fls⟩ := v
  have hg : getS (.mk kd bb ni f tx ty its fls) s = if s.it = true then its.list[i]? else (fls.list[i]?).map (·.2) := by simp only [getS, hi]
  rw [chI_mk] at hi
  unfold VlC at h
  obtain ⟨ai, nI, ci, af, nf, cf, rfl, hI, hF, -⟩ := h
  obtain ⟨p, off, n, c, hl⟩ := hl
  by_cases ht : s.it = true
  · rw [if_pos ht] at hi hl hg
    obtain ⟨h6, rfl, rfl⟩ := hl
    simp at h6
    obtain ⟨rfl, rfl, rfl⟩ := h6
    by_cases hc : kd = 5 ∧ 0 ≤ s.ix ∧ s.ix < its.list.length
    · rw [if_pos hc] at hi
      obtain rfl := Option.some.inj hi
      have hlen := VlsAt.len its _ _ hI
      obtain ⟨b', off', u, us, e, hu, hr, hv⟩ := VlsAt.get its _ _ hI s.ix.toNat (by omega)
      simp only [Option.some.injEq, Addr.mk.injEq, and_true] at e
      obtain ⟨rfl, rfl⟩ := e
      exact ⟨u, us, hg.trans hu, hr, hv⟩
    · rw [if_neg hc] at hi
      cases hi
  · rw [if_neg ht] at hi hl hg
    obtain ⟨h7, rfl, rfl⟩ := hl
    simp at h7
    obtain ⟨rfl, rfl, rfl⟩ := h7
    by_cases hc : kd = 6
    · rw [if_pos hc] at hi
      have hlen := FlsAt.len fls _ _ hF
      obtain ⟨q, hq, _⟩ := findIdx_get hi
      obtain ⟨b', off', nm, u, us, e, hu, _, _, hr, hv⟩ := FlsAt.get fls _ _ hF i (by rw [← hlen]; exact (List.getElem?_eq_some_iff.1 hq).1)
      simp only [Option.some.injEq, Addr.mk.injEq, and_true] at e
      obtain ⟨rfl, rfl⟩ := e
      exact ⟨u, us, hg.trans (by rw [hu]; rfl), hr, hv⟩
    · rw [if_neg hc] at hi
      cases hi
theorem addr_of_vls {w : World} {l : Vls} {a : Option Addr} {n : Nat} (h : VlsAt w l a n) : n = 0 ∨ ∃ p off, a = some ⟨p, off, none⟩ := by
  cases l with
  | nil => unfold VlsAt at h; exact .inl h
  | cons v r => unfold VlsAt at h; obtain ⟨b, off, m, cs, h1, _⟩ := h; exact .inr ⟨b, off, h1⟩
/-- tree.child -/
theorem child_ok (v : Vl) (cs : List Value) (b o : Nat) (s : St) (w : World) (hr : Row8 w b o cs) (hv : VlC w v cs) :
    Calls Try.prog 57 #[.pointer (some ⟨b, o, none⟩), s.val] w fun e w' => Below w.heap.size w w' ∧ ((chI v s = none ∧ e = .returned (.pointer none)) ∨ ∃ i b' o', chI v s = some i ∧ Loc cs s i b' o' ∧ e = .returned (.pointer (some ⟨b', o', none⟩))) := by
  obtain ⟨kd, bb, ni, f, tx, ty, its, fls⟩ := v
  unfold VlC at hv
  obtain ⟨ai, nI, ci, af, nf, cf, rfl, hI, hF, hni, hnf, hai, haf, hk1, hk2, hk3, hk4, hci, hcf⟩ := hv
  have x0 := hr 0 _ rfl
  have x6 := hr 6 _ rfl
  have x7 := hr 7 _ rfl
  have hb := World.block_lt_of_cell? w _ x0
  have hlI := VlsAt.len its _ _ hI
  unfold maxLen at hci hcf
  obtain ⟨nm, ix, it⟩ := s
  unfold St.val
  cases it with
  | true =>
    refine (child_item b o kd ai nI ci nm ix w hb x0 x6 (by omega) (addr_of_vls hI)).mono ?_
    rintro e w' ⟨hB, ⟨rfl, h0, h1, p, off, rfl, rfl⟩ | ⟨hn, rfl⟩⟩
    · refine ⟨hB, .inr ⟨ix.toNat, p, off + ix.toNat * 8, ?_, ⟨p, off, nI, ci, by simp⟩, rfl⟩⟩
      rw [chI_mk]
      rw [if_pos rfl, if_pos ⟨rfl, h0, by rw [hlI]; exact h1⟩]
    · refine ⟨hB, .inl ⟨?_, rfl⟩⟩
      rw [chI_mk]
      rw [if_pos rfl, if_neg (by rw [hlI]; exact hn)]
  | false =>
    refine (child_name b o kd af nf cf fls nm ix w hb x0 x7 hF (by omega)).mono ?_
    rintro e w' ⟨hB, ⟨rfl, j, p, off, rfl, hj, rfl⟩ | ⟨hn, rfl⟩⟩
    · refine ⟨hB, .inr ⟨j, p, off + j * 9 + 1, ?_, ⟨p, off, nf, cf, by simp⟩, rfl⟩⟩
      rw [chI_mk]
      rw [if_neg (by simp), if_pos rfl]
      exact hj
    · refine ⟨hB, .inl ⟨?_, rfl⟩⟩
      rw [chI_mk]
      rw [if_neg (by simp)]
      rcases hn with hn | hn
      · rw [if_neg hn]
      · by_cases hk : kd = 6
        · rw [if_pos hk]; exact hn
        · rw [if_neg hk]
end Go.Proofs.Ytjlafneklcfgoab.vl
