import Derived.Test.YtechaplindbfoaaGreatDoorJre6
namespace Go.Proofs.YtechaplindbfoaaGreatDoor.og
open Go.ChangeShapes Go.WideShapes Go.ChangeAt Go.RowKit
open vl hiding cB cFl cS cF cI cK cIt
open stp (St Pth St3)
set_option linter.unusedVariables false
set_option linter.unusedSimpArgs false
/-- what stands at place k when i have been exchanged from both ends -/
def rvk (l : List St) (i k : Nat) : Option St := if k < i ∨ l.length - 1 - i < k then l[l.length - 1 - k]? else l[k]?
/-- the cells while a path is turned round -/
def RvS (l : List St) (g off i : Nat) (w : World) : Prop := ∀ (k : Nat) (s : St), k < l.length → rvk l i k = some s → w.rangeAt g (off + k * 3) (stC s)
theorem there_of {w : World} {b o : Nat} {x : St} (h : w.rangeAt b o (stC x)) (hf : ∀ j, w.frozen? ⟨b, j, none⟩ = false) : w.there b o 3 := fun j hj => by
  rw [h j _ (List.getElem?_eq_getElem (show j < (stC x).length from hj))]; exact ⟨rfl, hf _⟩
theorem rv_swap {l : List St} {g off i j : Nat} {w : World} {x y : St} (h : RvS l g off i w) (hf : ∀ j, w.frozen? ⟨g, j, none⟩ = false) (hj : j = l.length - 1 - i) (hij : i < j) (hjn : j < l.length) (hx : l[i]? = some x) (hy : l[j]? = some y) : RvS l g off (i + 1) ((w.setCells g (off + i * 3) (stC y)).setCells g (off + j * 3) (stC x)) := by
  have rx := h i x (by omega) (by unfold rvk; rw [if_neg (by omega)]; exact hx)
  have ry := h j y (by omega) (by unfold rvk; rw [if_neg (by omega)]; exact hy)
  have l3 : ∀ s : St, (stC s).length = 3 := fun s => rfl
  intro k s hk hs
  by_cases h1 : k = i
  · subst h1
    have : s = y := by
      unfold rvk at hs
      rw [if_pos (by omega), ← hj, hy] at hs
      exact (Option.some.inj hs).symm
    subst this
    exact World.rangeAt_setCells_apart (World.rangeAt_setCells_same w g _ (stC s) (there_of rx hf)) _ _ _ (.inr (.inl (by rw [l3]; omega)))
  by_cases h2 : k = j
  · subst h2
    have : s = x := by
      unfold rvk at hs
      rw [if_pos (by omega), show l.length - 1 - k = i by omega, hx] at hs
      exact (Option.some.inj hs).symm
    subst this
    exact World.rangeAt_setCells_same _ g _ (stC s) (World.there_setCells (there_of ry hf) _ _ _)
  · have h3 := h k s hk (by
      rw [← hs]
      unfold rvk
      by_cases hc : k < i ∨ l.length - 1 - i < k
      · rw [if_pos hc, if_pos (by omega)]
      · rw [if_neg hc, if_neg (by omega)])
    refine World.rangeAt_setCells_apart (World.rangeAt_setCells_apart h3 _ _ _ (.inr ?_)) _ _ _ (.inr ?_)
    · rw [l3, l3]; omega
    · rw [l3, l3]; omega
theorem set3 (w : World) (g o : Nat) (a b c : Value) : ((w.setCell ⟨g, o, none⟩ a).setCell ⟨g, o + 1, none⟩ b).setCell ⟨g, o + 2, none⟩ c = w.setCells g o [a, b, c] := rfl
theorem rv_world {l : List St} {g off i j B : Nat} {w wr : World} {nx ny : ByteArray} {ix iy : Int} {tx ty : Bool} (h : RvS l g off i wr) (hf : ∀ j, wr.frozen? ⟨g, j, none⟩ = false) (hj : j = l.length - 1 - i) (hij : i < j) (hjn : j < l.length) (hx : l[i]? = some ⟨nx, ix, tx⟩) (hy : l[j]? = some ⟨ny, iy, ty⟩) (hb : Below B w wr) (hB : B ≤ g) :
    ∃ X, ((((((wr.setCell ⟨g, off + i * 3, none⟩ (.string ny)).setCell ⟨g, off + i * 3 + 1, none⟩ (.int .i64 iy)).setCell ⟨g, off + i * 3 + 2, none⟩ (.bool ty)).setCell ⟨g, off + j * 3, none⟩ (.string nx)).setCell ⟨g, off + j * 3 + 1, none⟩ (.int .i64 ix)).setCell ⟨g, off + j * 3 + 2, none⟩ (.bool tx)).drew = X ∧ RvS l g off (i + 1) X ∧ (∀ j, X.frozen? ⟨g, j, none⟩ = false) ∧ Below B w X := by
  rw [set3, set3, show [Value.string ny, .int .i64 iy, .bool ty] = stC ⟨ny, iy, ty⟩ from rfl, show [Value.string nx, .int .i64 ix, .bool tx] = stC ⟨nx, ix, tx⟩ from rfl]
  have h1 := rv_swap h hf hj hij hjn hx hy
  have h2 : ∀ k, World.frozen? ((wr.setCells g (off + i * 3) (stC ⟨ny, iy, ty⟩)).setCells g (off + j * 3) (stC ⟨nx, ix, tx⟩)) ⟨g, k, none⟩ = false := fun k => by
    rw [World.frozen?_setCells, World.frozen?_setCells]; exact hf k
  have h3 := below_setCells _ (stC ⟨nx, ix, tx⟩) (off + j * 3) _ (below_setCells _ (stC ⟨ny, iy, ty⟩) (off + i * 3) _ hb hB) hB
  generalize (wr.setCells g (off + i * 3) (stC ⟨ny, iy, ty⟩)).setCells g (off + j * 3) (stC ⟨nx, ix, tx⟩) = Y at *
  exact ⟨_, rfl, h1, h2, h3.drew⟩
set_option maxHeartbeats 4000000 in
set_option maxRecDepth 100000 in
theorem rev_ok (l : List St) (g off c : Nat) (w : World) (h : RvS l g off 0 w) (hf : ∀ j, w.frozen? ⟨g, j, none⟩ = false) (hn : l.length ≤ 1048577) (B : Nat) (hB : B ≤ g) :
    Calls Tryz.prog 30 #[.slice (some ⟨g, off, none⟩) l.length c] w fun e w' => e = .returned (.tuple #[]) ∧ RvS l g off l.length w' ∧ Below B w w' := by
  obtain ⟨n, hnl⟩ : ∃ n, n = l.length := ⟨_, rfl⟩
  rw [← hnl] at hn ⊢
  have HN := hide hnl
  have H := hide h
  have HF := hide hf
  clear hnl h hf
  go_enter Tryz.func30, Tryz.ntmps30
  go_wp2
  go_loopw [2, 3] (fun vi vj wr => ∃ i : Nat, 2 * i ≤ n + 1 ∧ vi = .int .i64 i ∧ vj = .int .i64 ((n : Int) - 1 - i) ∧ vl.Hid (RvS l g off i wr) ∧ vl.Hid (∀ j, wr.frozen? ⟨g, j, none⟩ = false) ∧ Below B w wr) (fun vi _ _ => n - (intOf vi).toNat)
  case atStart => exact ⟨0, by omega, rfl, by simp, H, HF, Below.refl _ _⟩
  case round =>
    obtain ⟨i, hi, rfl, rfl, HR, HZ, hb⟩ := hrel
    by_cases hlt : 2 * i + 1 < n
    · obtain ⟨j, hj⟩ : ∃ j : Nat, j = n - 1 - i := ⟨_, rfl⟩
      have hij : i < j := by omega
      have hjn : j < n := by omega
      have ej : ((n : Int) - 1 - i) = (j : Int) := by omega
      rw [ej]
      obtain ⟨x, hx⟩ : ∃ x, l[i]? = some x := ⟨_, List.getElem?_eq_getElem (by rw [← unhide HN]; omega)⟩
      obtain ⟨y, hy⟩ : ∃ y, l[j]? = some y := ⟨_, List.getElem?_eq_getElem (by rw [← unhide HN]; omega)⟩
      have rx := unhide HR i x (by rw [← unhide HN]; omega) (by unfold rvk; rw [← unhide HN, if_neg (by omega)]; exact hx)
      have ry := unhide HR j y (by rw [← unhide HN]; omega) (by unfold rvk; rw [← unhide HN, if_neg (by omega)]; exact hy)
      have HX := hide hx
      have HY := hide hy
      have HJ := hide hj
      obtain ⟨nx, ix, tx⟩ := x
      obtain ⟨ny, iy, ty⟩ := y
      have x0 : wr.cell? ⟨g, off + i * 3, none⟩ = some (.string nx) := rx 0 _ rfl
      have x1 : wr.cell? ⟨g, off + i * 3 + 1, none⟩ = some (.int .i64 ix) := rx 1 _ rfl
      have x2 : wr.cell? ⟨g, off + i * 3 + 2, none⟩ = some (.bool tx) := rx 2 _ rfl
      have y0 : wr.cell? ⟨g, off + j * 3, none⟩ = some (.string ny) := ry 0 _ rfl
      have y1 : wr.cell? ⟨g, off + j * 3 + 1, none⟩ = some (.int .i64 iy) := ry 1 _ rfl
      have y2 : wr.cell? ⟨g, off + j * 3 + 2, none⟩ = some (.bool ty) := ry 2 _ rfl
      have hfz := unhide HZ
      have u0 := hfz (off + i * 3)
      have u1 := hfz (off + i * 3 + 1)
      have u2 := hfz (off + i * 3 + 2)
      have v0 := hfz (off + j * 3)
      have v1 := hfz (off + j * 3 + 1)
      have v2 := hfz (off + j * 3 + 2)
      have iji : (i : Int) < (j : Int) := by omega
      have ini : (i : Int) < (n : Int) := by omega
      have jni : (j : Int) < (n : Int) := by omega
      have BB := hide hb
      clear hx hy hj rx ry ej hfz hb
      have hmx := vl.mixed
      go_wp2_with fail
      go_region_o
      obtain ⟨X, eX, hX1, hX2, hX3⟩ := rv_world (unhide HR) (unhide HZ) (by rw [← unhide HN]; exact unhide HJ) hij (by rw [← unhide HN]; exact hjn) (unhide HX) (unhide HY) (unhide BB) hB
      rw [eX]
      have G1 := hide hX1
      have G2 := hide hX2
      clear eX hX1 hX2 x0 x1 x2 y0 y1 y2 u0 u1 u2 v0 v1 v2 HR HZ BB
      go_wp2
      go_roundw
      case rel => exact ⟨i + 1, by omega, by simp, by have := unhide HJ; simp; omega, G1, G2, hX3⟩
      case measure => simp [intOf]; omega
    · go_wp2
      go_end0
      refine ⟨rfl, ?_, hb⟩
      intro k s hk hs
      refine unhide HR k s hk ?_
      rw [← hs]
      have hN := unhide HN
      unfold rvk
      rw [← hN] at hk ⊢
      by_cases hc : k < i ∨ n - 1 - i < k
      · rw [if_pos hc, if_pos (.inl hk)]
      · rw [if_neg hc, if_pos (.inl hk)]
        congr 1
        omega
set_option maxHeartbeats 4000000 in
theorem rev_nil (c : Nat) (w : World) : Calls Tryz.prog 30 #[.slice none 0 c] w fun e w' => e = .returned (.tuple #[]) ∧ w = w' := by
  go_enter Tryz.func30, Tryz.ntmps30
  go_wp2
  go_loopw [2, 3] (fun vi vj wr => vi = .int .i64 0 ∧ vj = .int .i64 (-1) ∧ w = wr) (fun _ _ _ => 0)
  case atStart => exact ⟨rfl, rfl, rfl⟩
  case round =>
    obtain ⟨rfl, rfl, rfl⟩ := hrel
    go_wp2
    go_end0
    exact ⟨rfl, rfl⟩
/-- a new list of steps is turned round in its place -/
theorem rev_grs {l : List St} {a : Option Addr} {n c : Nat} {w : World} {B : Nat} (h : GrS B l (.slice a n c) w) (hl : l.length ≤ 1048577) :
    Calls Tryz.prog 30 #[.slice a n c] w fun e w' => e = .returned (.tuple #[]) ∧ Pth w' a n l.reverse ∧ Below B w w' := by
  by_cases h0 : l = []
  · subst h0
    obtain ⟨xss, h1, -⟩ := h
    rcases h1.2 with ⟨e, -⟩ | ⟨g, cap, cur, e, hg, hh, hr⟩
    · cases e
      refine (rev_nil 0 w).mono ?_
      rintro e w1 ⟨rfl, rfl⟩
      exact ⟨rfl, ⟨rfl, .inl rfl⟩, Below.refl _ _⟩
    · simp only [List.length_nil, Value.slice.injEq] at e
      obtain ⟨rfl, rfl, rfl⟩ := e
      refine (rev_ok [] g 0 _ w (fun k s hk => absurd hk (Nat.not_lt_zero _)) (fun j => h1.frozenAt j) (by simp) B hg).mono ?_
      rintro e w1 ⟨rfl, -, hb⟩
      exact ⟨rfl, ⟨rfl, .inl rfl⟩, hb⟩
  · obtain ⟨g, cap, e, hp, hg, hlt, hfz⟩ := PO.of_grs h0 h
    simp only [Value.slice.injEq] at e
    obtain ⟨rfl, rfl, rfl⟩ := e
    obtain ⟨-, hp⟩ := hp
    have hcell : RvS l g 0 0 w := by
      intro k s hk hs
      unfold rvk at hs
      rw [if_neg (by omega)] at hs
      rcases hp with ⟨e, -⟩ | ⟨p, e1, e2, e3⟩
      · exact absurd e h0
      · cases e1
        rw [Nat.zero_add]
        exact e3 k s hs
    refine (rev_ok l g 0 c w hcell (fun j => hfz g (List.mem_singleton.2 rfl) j) hl B hg).mono ?_
    rintro e w1 ⟨rfl, hr, hb⟩
    refine ⟨rfl, ⟨by simp, .inr ⟨g, 0, rfl, Nat.lt_of_lt_of_le hlt hb.size, fun i hi => ?_⟩⟩, hb⟩
    obtain ⟨s, hs⟩ : ∃ s, l[l.length - 1 - i]? = some s := ⟨_, List.getElem?_eq_getElem (by omega)⟩
    have := hr i s hi (by unfold rvk; rw [if_pos (.inl hi)]; exact hs)
    refine ⟨s, by rw [List.getElem?_reverse hi]; exact hs, ?_⟩
    exact ⟨this 0 _ rfl, this 1 _ rfl, this 2 _ rfl⟩
end Go.Proofs.YtechaplindbfoaaGreatDoor.og
