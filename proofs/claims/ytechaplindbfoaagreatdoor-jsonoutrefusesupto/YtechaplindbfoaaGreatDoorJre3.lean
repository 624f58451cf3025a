import Derived.Test.YtechaplindbfoaaGreatDoorJre2
namespace Go.Proofs.YtechaplindbfoaaGreatDoor.og
open Go.ChangeShapes Go.WideShapes Go.ChangeAt Go.RowKit
open vl hiding cB cFl cS cF cI cK cIt
open stp (St Pth St3)
set_option linter.unusedVariables false
set_option linter.unusedSimpArgs false
/-- are these bytes well formed? -/
def clnS (s : ByteArray) : Bool := (((mem.decZ (mem.bytesZ s)).2 : Nat) : Int) == (s.size : Int)
/-- the first fault among names -/
def nmF : List (List UInt8) → List ByteArray → Int
  | _, [] => 0
  | seen, s :: r => if clnS s = false then 1 else if seen.contains s.data.toList = true then 5 else nmF (seen ++ [s.data.toList]) r
/-- what is wrong with a part by itself -/
def flw : Vl → Int
  | .mk kd _ _ f tx _ _ fls => if kd < 0 ∨ 7 ≤ kd then 2 else if kd = 3 then (if badF f = true then 6 else 0) else if kd = 4 then (if clnS tx = false then 1 else 0) else if kd = 6 then nmF [] (fls.list.map (·.1)) else 0
theorem flat_congr {α β : Type} {f g : α → List β} : ∀ {l : List α}, (∀ a ∈ l, f a = g a) → l.flatMap f = l.flatMap g
  | [], _ => rfl
  | a :: l, h => by rw [List.flatMap_cons, List.flatMap_cons, h a (List.mem_cons_self ..), flat_congr (fun b hb => h b (List.mem_cons_of_mem _ hb))]
theorem pts_shift : ∀ (v : Vl) (p : List St), pts v p = (pts v []).map (fun q => (p ++ q.1, q.2)) := by
  refine Vl.all ?_
  intro kd b n f tx ty its fls hI hF p
  have hk := mem_kids (P := fun v => ∀ p : List St, pts v p = (pts v []).map (fun q => (p ++ q.1, q.2))) (kd := kd) (b := b) (n := n) (f := f) (tx := tx) (ty := ty) hI hF
  generalize Vl.mk kd b n f tx ty its fls = v at *
  rw [pts_kids v p, pts_kids v [], List.map_cons, List.append_nil, List.map_flatMap]
  congr 1
  refine flat_congr ?_
  intro q hq
  rw [hk q hq (p ++ [q.1]), hk q hq ([] ++ [q.1]), List.map_map]
  simp [Function.comp_def]
/-- the first part with a fault -/
def ffn (v : Vl) : Option (List St × Vl) := (pts v []).find? (fun q => flw q.2 != 0)
def ffP (v : Vl) : List St := match ffn v with | none => [] | some q => q.1
def ffE (v : Vl) : Int := match ffn v with | none => 0 | some q => flw q.2
theorem ffn_kids (v : Vl) : ffn v = if flw v = 0 then (kids v).findSome? (fun q => (ffn q.2).map (fun r => (q.1 :: r.1, r.2))) else some ([], v) := by
  unfold ffn
  rw [pts_kids v [], List.find?_cons]
  by_cases h : flw v = 0
  · rw [if_pos h]
    simp only [h, bne_self_eq_false]
    rw [List.find?_flatMap]
    congr 1
    funext q
    rw [pts_shift q.2 ([] ++ [q.1]), List.find?_map]
    simp [Function.comp_def]
  · rw [if_neg h]
    have : (flw v != 0) = true := by simpa using h
    simp only [this]
theorem ffE_none {v : Vl} (h : ffE v = 0) : ffn v = none := by
  unfold ffE at h
  cases hn : ffn v with
  | none => rfl
  | some q =>
    rw [hn] at h
    have := List.find?_some (show (pts v []).find? (fun q => flw q.2 != 0) = some q from hn)
    simp at this
    exact absurd h this
theorem ff_own {v : Vl} (h : flw v ≠ 0) : ffP v = [] ∧ ffE v = flw v := by
  have e := ffn_kids v
  rw [if_neg h] at e
  unfold ffP ffE
  rw [e]
  exact ⟨rfl, rfl⟩
theorem ff_done {v : Vl} (h : flw v = 0) (hk : ∀ q ∈ kids v, ffE q.2 = 0) : ffP v = [] ∧ ffE v = 0 := by
  have e := ffn_kids v
  rw [if_pos h, List.findSome?_eq_none_iff.2 (fun q hq => by rw [ffE_none (hk q hq)]; rfl)] at e
  unfold ffP ffE
  rw [e]
  exact ⟨rfl, rfl⟩
theorem ff_stop {v : Vl} (h : flw v = 0) {pre : List (St × Vl)} {q : St × Vl} {k : Nat} (hk : pre ++ [q] = (kids v).take k) (hp : ∀ x ∈ pre, ffE x.2 = 0) (hq : ffE q.2 ≠ 0) : ffP v = q.1 :: ffP q.2 ∧ ffE v = ffE q.2 := by
  have e := ffn_kids v
  rw [if_pos h, ← List.take_append_drop k (kids v), ← hk, List.append_assoc, List.findSome?_append, List.findSome?_eq_none_iff.2 (fun x hx => by rw [ffE_none (hp x hx)]; rfl), Option.none_or, List.singleton_append, List.findSome?_cons] at e
  cases hn : ffn q.2 with
  | none => unfold ffE at hq; rw [hn] at hq; exact absurd rfl hq
  | some r =>
    rw [hn] at e
    simp only [Option.map_some] at e
    unfold ffP ffE
    rw [e, hn]
    exact ⟨rfl, rfl⟩
/-- a part's path is no longer than the parts are many -/
theorem pts_path : ∀ (v : Vl) (q : List St × Vl), q ∈ pts v [] → q.1.length < cnt v := by
  refine Vl.all ?_
  intro kd b n f tx ty its fls hI hF q hq
  have hk := mem_kids (P := fun v => ∀ q : List St × Vl, q ∈ pts v [] → q.1.length < cnt v) (kd := kd) (b := b) (n := n) (f := f) (tx := tx) (ty := ty) hI hF
  generalize Vl.mk kd b n f tx ty its fls = v at *
  rw [pts_kids v []] at hq
  rcases List.mem_cons.1 hq with rfl | hq
  · rw [cnt_kids]; simp; omega
  · rw [List.mem_flatMap] at hq
    obtain ⟨x, hx, hq⟩ := hq
    rw [pts_shift, List.mem_map] at hq
    obtain ⟨r, hr, rfl⟩ := hq
    have h1 := hk x hx r hr
    obtain ⟨j, hj, e⟩ := List.mem_iff_getElem.1 hx
    have h2 := cnt_kid (v := v) (k := j) (q := x) (by rw [← e]; exact List.getElem?_eq_getElem hj)
    simp
    omega
theorem ffP_len (v : Vl) : (ffP v).length < cnt v := by
  unfold ffP
  cases hn : ffn v with
  | none => rw [cnt_kids]; simp; omega
  | some q => exact pts_path v q (List.mem_of_find?_eq_some hn)
end Go.Proofs.YtechaplindbfoaaGreatDoor.og
