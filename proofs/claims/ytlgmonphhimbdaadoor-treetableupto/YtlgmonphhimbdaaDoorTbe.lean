import Derived.Test.YtlgmonphhimbdaaDoorTbd
namespace Go.Proofs.YtlgmonphhimbdaaDoor.tab
open Go.ChangeShapes Go.WideShapes Go.ChangeAt Go.RowKit Go.Maps Go.Shelf
set_option linter.unusedVariables false
set_option linter.unusedSimpArgs false
theorem keys_cells {w : World} {base G q c : Nat} {e : TypeId} {xs : List (ByteArray × Int)} (h : w.ownsRow base e 1 (.slice (some ⟨G, 0, none⟩) q c) q (encK xs)) {i : Nat} {x : ByteArray × Int} (hx : xs[i]? = some x) : w.cell? ⟨G, i, none⟩ = some (.string x.1) ∧ w.frozen? ⟨G, i, none⟩ = false := by
  rcases h.2 with ⟨h1, -⟩ | ⟨g, cap, cur, h1, hb, hg, hc, hm, hs, ht⟩
  · cases h1
  · cases h1
    refine ⟨?_, by simp [World.frozen?, hg]⟩
    rw [cell_of_row w G i cur e (0, 0) hg]
    have hj : (encK xs)[i]? = some (.string x.1) := by simp [encK, hx]
    rw [← ht, List.getElem?_take] at hj
    split at hj
    · simpa using hj
    · cases hj
set_option maxHeartbeats 1000000 in
set_option maxRecDepth 6000 in
theorem holds_ok {w : World} {B : Nat} {X : Nat → Prop} {b : Nat} {M : Option Nat} {rs : List Rw} {nx : Nat} {N : Nat → Prop} {u : Value} {ps : List Pr} (h : Tb w B X b M rs nx) (hR : Rel rs ps) (hL : RL w N u ps) (hn : ps.length ≤ 1048576) (hT : Tw w.heap.size w) :
    Calls Tryd.prog 8 #[.pointer (some ⟨b, 0, none⟩), u] w fun e w' => e = .returned (.bool true) ∧ Below w.heap.size w w' := by
  have hlen := hR.len
  have LN := hide (len_tb h)
  have KY := hide (keys_tb h (by omega))
  have AT := hide (fun W (hW : Below w.heap.size w W) (i : Nat) (x : Int) (s : ByteArray) (v : Int) (hi : rs[i]? = some (x, s, v)) => at_tb (h.below hW) (by omega) i (x, s, v) hi)
  have AO := hide (fun W (hW : Below w.heap.size w W) => at_out (h.below hW) (by omega) (ps.length : Int) (.inr (by omega)))
  have NM := hide (fun W (hW : Below w.heap.size w W) (k : Int) (hk : InR k) => name_ok k hk W (hT W hW))
  obtain ⟨a, c, rfl, h1⟩ := hL
  have HR := hide hR
  have H1 := hide h1
  obtain ⟨q, hq⟩ : ∃ q, q = ps.length := ⟨_, rfl⟩
  rw [← hq] at hlen AO ⊢
  rw [hlen] at LN
  have hqb : q ≤ 1048576 := by omega
  have HQ := hide hq
  have HE := hide hlen
  clear hq hlen hn h1 hR h hT
  go_enter Tryd.func8, Tryd.ntmps8
  go_wp2_with fail
  refine (unhide LN).mono ?_
  rintro e w0 ⟨rfl, hw0⟩
  subst w0
  go_wp2_with fail
  refine (unhide KY).mono ?_
  rintro e w1 ⟨kc, rfl, hown, b1⟩
  rw [unhide HE] at hown ⊢
  have HO := hide hown
  have sw1 := hown.lt w.heap.size rfl
  clear LN KY hown
  go_wp2_with fail
  go_loopw [6] (fun vi wr => ∃ (i : Nat), i ≤ q ∧ vi = .int .i64 i ∧ Hid (∀ j, i ≤ j → j < q → wr.cell? ⟨w.heap.size, j, none⟩ = w1.cell? ⟨w.heap.size, j, none⟩ ∧ wr.frozen? ⟨w.heap.size, j, none⟩ = w1.frozen? ⟨w.heap.size, j, none⟩) ∧ Below w.heap.size w wr ∧ w.heap.size < wr.heap.size) (fun vi _ => q - (intOf vi).toNat)
  case atStart => exact ⟨0, Nat.zero_le _, rfl, hide (fun j _ _ => ⟨rfl, rfl⟩), b1, sw1.2⟩
  case round =>
    obtain ⟨i, hi, rfl, hK, bw, sw⟩ := hrel
    by_cases hlt : i < q
    · have ki : (i : Int) < (q : Int) := by omega
      obtain ⟨p, hp⟩ : ∃ p, ps[i]? = some p := ⟨_, List.getElem?_eq_getElem (by rw [← unhide HQ]; exact hlt)⟩
      obtain ⟨sx, hrx⟩ := (unhide HR).get hp
      have hin := (unhide HR).rng p (List.mem_of_getElem? hp)
      rcases unhide H1 with h0 | ⟨g, rfl, hg, hN, hr⟩
      · rw [h0] at hp; cases hp
      obtain ⟨z0, z1⟩ := rl_cells hr hp
      obtain ⟨y0, y1⟩ := keys_cells (unhide HO) (ents_get hrx)
      have x0 := (unhide hK i (Nat.le_refl _) hlt).1.trans y0
      have x1 := (unhide hK i (Nat.le_refl _) hlt).2.trans y1
      obtain ⟨x, y⟩ := p
      simp only at z0 z1 x0 hrx hin
      have AT1 := hide (unhide AT wr bw i sx (nm x) y hrx)
      obtain ⟨S, hS⟩ : ∃ S, S = nm x := ⟨_, rfl⟩
      have NM1 := hide (fun W (hW : Below w.heap.size w W) => unhide NM W hW x hin)
      rw [← hS] at x0 AT1 NM1
      clear hp hr hrx hin y0 y1 hS
      go_wp2_with fail
      refine (unhide AT1).mono ?_
      rintro e w2 ⟨rfl, b2⟩
      have bw2 := bw.trans (b2.mono (Nat.le_of_lt sw))
      have z0' := (bw2.cell (p := ⟨g, i * 2, none⟩) hg).trans z0
      have z1' := (bw2.cell (p := ⟨g, i * 2 + 1, none⟩) hg).trans z1
      have x0' := (b2.cell (p := ⟨w.heap.size, i, none⟩) sw).trans x0
      have x1' := (b2.frozen (p := ⟨w.heap.size, i, none⟩) sw).trans x1
      clear AT1
      go_wp2_with fail
      refine (unhide NM1 w2 bw2).mono ?_
      rintro e w3 ⟨rfl, b3⟩
      have sw2 : w.heap.size < w2.heap.size := Nat.lt_of_lt_of_le sw b2.size
      have bw3 := bw2.trans (b3.mono (Nat.le_of_lt sw2))
      have z1'' := (bw3.cell (p := ⟨g, i * 2 + 1, none⟩) hg).trans z1
      have x0'' := (b3.cell (p := ⟨w.heap.size, i, none⟩) sw2).trans x0'
      have x1'' := (b3.frozen (p := ⟨w.heap.size, i, none⟩) sw2).trans x1'
      have B23 := hide b2
      have B33 := hide b3
      clear NM1 z0 z1 x0 x1 x0' x1' z0' z1' b2 b3
      go_wp2
      go_roundw
      case rel =>
        have b2 := unhide B23
        have b3 := unhide B33
        refine ⟨i + 1, by omega, by go_num, hide (fun j h1 h2 => ?_), bw3.setCell (p := ⟨w.heap.size, i, none⟩) (Nat.le_refl _) _, by simp; have := b3.size; omega⟩
        have h0 := unhide hK j (by omega) h2
        refine ⟨((World.cell?_setCell_other _ _ _ _ (by simp <;> omega)).trans ((b3.cell (p := ⟨w.heap.size, j, none⟩) sw2).trans (b2.cell (p := ⟨w.heap.size, j, none⟩) sw))).trans h0.1, ((World.frozen?_setCell _ _ _ _).trans ((b3.frozen (p := ⟨w.heap.size, j, none⟩) sw2).trans (b2.frozen (p := ⟨w.heap.size, j, none⟩) sw))).trans h0.2⟩
      case measure => simp [intOf]; omega
    · obtain rfl : i = q := by omega
      have ki : ¬ (i : Int) < (i : Int) := by omega
      have AO1 := hide (unhide AO wr bw)
      clear hK
      go_wp2_with fail
      refine (unhide AO1).mono ?_
      rintro e w2 ⟨rfl, b2⟩
      go_wp2
      go_ret
      exact ⟨rfl, bw.trans (b2.mono (Nat.le_of_lt sw))⟩
end Go.Proofs.YtlgmonphhimbdaaDoor.tab
