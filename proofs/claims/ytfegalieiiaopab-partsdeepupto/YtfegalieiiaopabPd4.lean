import Derived.Test.YtfegalieiiaopabPd3
import Derived.Test.YtfegalieiiaopabPw2
import Derived.Lib.AppendStr
import Derived.Deep.RegionHeld3
namespace Go.Proofs.Ytfegalieiiaopab.cu
open Go.ChangeShapes Go.WideShapes Go.ChangeAt Go.RowKit
open ints (hide unhide)
open dt (Dt Kp RowAt Ow OwIn)
open mem (Row)
set_option linter.unusedVariables false
set_option linter.unusedSimpArgs false
theorem lst_open {w : World} {k : Nat} {l : List Dt} {r : Dt} {cs : List Value} {F : List Nat} (h : Ow w (.lst k (Dt.of l) r) cs F) : ∃ a c ds G, cs = .slice a l.length c :: ds ∧ Ow w r ds G ∧ ∀ i e, l[i]? = some e → ∃ p es H, a = some ⟨p, 0, none⟩ ∧ RowAt w p (i * k) es ∧ Ow w e es H := by
  unfold Ow at h
  obtain ⟨a, n, c, ds, F1, F2, rfl, h1, h2, h3, h4, h5, rfl⟩ := h
  rcases h4 with ⟨rfl, e, rfl, rfl⟩ | ⟨p, G, rfl, rfl, h4⟩
  · have hl : l = [] := by cases l with | nil => rfl | cons x y => cases e
    subst hl
    exact ⟨_, _, ds, F2, rfl, h5, fun i e he => by simp at he⟩
  · obtain ⟨hl, hg⟩ := dt.OwIn.get l k p 0 n G h4
    subst hl
    refine ⟨_, _, ds, F2, rfl, h5, fun i e he => ?_⟩
    obtain ⟨es, H, q1, q2, q3, _⟩ := hg i e he
    exact ⟨p, es, H, rfl, by simpa using q1, q3⟩
theorem litD_open {w : World} {k : Int} {tx : ByteArray} {bl : Bool} {l1 l2 : List Dt} {ln co : Int} {cs : List Value} {F : List Nat} (h : Ow w (litD k tx bl (Dt.of l1) (Dt.of l2) ln co) cs F) :
    ∃ a c a' c', cs = [.int .i64 k, .string tx, .bool bl, .slice a l1.length c, .slice a' l2.length c', .int .i64 ln, .int .i64 co] ∧ (∀ i e, l1[i]? = some e → ∃ p es H, a = some ⟨p, 0, none⟩ ∧ RowAt w p (i * 7) es ∧ Ow w e es H) ∧ (∀ i e, l2[i]? = some e → ∃ p es H, a' = some ⟨p, 0, none⟩ ∧ RowAt w p (i * 10) es ∧ Ow w e es H) := by
  unfold litD at h
  unfold Ow at h
  obtain ⟨ds, rfl, -, h⟩ := h
  unfold Ow at h
  obtain ⟨ds, rfl, -, h⟩ := h
  unfold Ow at h
  obtain ⟨ds, rfl, -, h⟩ := h
  obtain ⟨a, c, ds, G, rfl, h, q1⟩ := lst_open h
  obtain ⟨a', c', ds, G, rfl, h, q2⟩ := lst_open h
  unfold Ow at h
  obtain ⟨ds, rfl, -, h⟩ := h
  unfold Ow at h
  obtain ⟨ds, rfl, -, h⟩ := h
  unfold Ow at h
  obtain ⟨rfl, rfl⟩ := h
  exact ⟨a, c, a', c', rfl, q1, q2⟩
theorem ow_unapp {w : World} : ∀ (d e : Dt) (cs : List Value) (F : List Nat), Ow w (app d e) cs F → ∃ xs ys G, cs = xs ++ ys ∧ Ow w d xs G
  | .nil, e, cs, F, h => ⟨[], cs, [], rfl, by unfold Ow; exact ⟨rfl, rfl⟩⟩
  | .val v r, e, cs, F, h => by
    unfold app at h
    unfold Ow at h
    obtain ⟨ds, rfl, h1, h2⟩ := h
    obtain ⟨xs, ys, G, rfl, h3⟩ := ow_unapp r e ds F h2
    exact ⟨v :: xs, ys, G, rfl, by unfold Ow; exact ⟨xs, rfl, h1, h3⟩⟩
  | .lst k rs r, e, cs, F, h => by
    unfold app at h
    unfold Ow at h
    obtain ⟨a, n, c, ds, F1, F2, rfl, h1, h2, h3, h4, h5, rfl⟩ := h
    obtain ⟨xs, ys, G, rfl, h6⟩ := ow_unapp r e ds F2 h5
    exact ⟨.slice a n c :: xs, ys, F1 ++ G, rfl, by unfold Ow; exact ⟨a, n, c, xs, F1, G, rfl, h1, h2, h3, h4, h6, rfl⟩⟩
  | .row _ _, e, cs, F, h => by unfold app Ow at h; exact h.elim
theorem fld_open {w : World} {nm : ByteArray} {v : Dt} {ln co : Int} {cs : List Value} {F : List Nat} (h : Ow w (fldD nm v ln co) cs F) : ∃ xs ys G, cs = .string nm :: (xs ++ ys) ∧ Ow w v xs G := by
  unfold fldD at h
  unfold Ow at h
  obtain ⟨ds, rfl, -, h⟩ := h
  obtain ⟨xs, ys, G, rfl, h'⟩ := ow_unapp v _ ds F h
  exact ⟨xs, ys, G, rfl, h'⟩
/-- one step down -/
theorem dD_step {w : World} {o : Nat} {b : Bool} {r : List Bool} {cs : List Value} {F : List Nat} (h : Ow w (dD o (b :: r)) cs F) :
    ∃ p es G x0 a c a' c' x5 x6, cs = [x0, .string em, .bool false, .slice a (if b then 0 else 1) c, .slice a' (if b then 1 else 0) c', x5, x6] ∧ (if b then a' else a) = some ⟨p, 0, none⟩ ∧ RowAt w p (if b then 1 else 0) es ∧ Ow w (dD (o + if b then 3 else 1) r) es G ∧ p < w.heap.size := by
  cases b
  · obtain ⟨a, c, a', c', rfl, q1, q2⟩ := litD_open (l1 := [dD (o + 1) r]) (l2 := []) h
    obtain ⟨p, es, G, rfl, q3, q4⟩ := q1 0 _ rfl
    have hlen : ∃ u, es[0]? = some u := by
      cases r with
      | nil => obtain ⟨_, _, _, _, rfl, _⟩ := litD_open (l1 := []) (l2 := []) q4; exact ⟨_, rfl⟩
      | cons b' r' => cases b'; (obtain ⟨_, _, _, _, rfl, _⟩ := litD_open (l1 := [dD (o + 1 + 1) r']) (l2 := []) q4; exact ⟨_, rfl⟩); (obtain ⟨_, _, _, _, rfl, _⟩ := litD_open (l1 := []) (l2 := [fldD (chB 97) (dD (o + 1 + 3) r') 1 ((o + 1 : Nat) + 1 + 1)]) q4; exact ⟨_, rfl⟩)
    obtain ⟨u, hu⟩ := hlen
    exact ⟨p, es, G, _, _, c, a', c', _, _, rfl, rfl, by simpa using q3, q4, World.block_lt_of_cell? w _ (q3 0 u hu)⟩
  · obtain ⟨a, c, a', c', rfl, q1, q2⟩ := litD_open (l1 := []) (l2 := [fldD (chB 97) (dD (o + 3) r) 1 ((o : Int) + 1 + 1)]) h
    obtain ⟨p, es, G, rfl, q3, q4⟩ := q2 0 _ rfl
    obtain ⟨xs, ys, G', rfl, q5⟩ := fld_open q4
    exact ⟨p, xs, G', _, a, c, _, c', _, _, rfl, rfl, fun i u hu => by
      have := q3 (i + 1) u (by simp only [List.getElem?_cons_succ]; rw [List.getElem?_append_left (List.getElem?_eq_some_iff.1 hu).1]; exact hu)
      rw [show 0 * 10 + (i + 1) = 1 + i by omega] at this
      exact this, q5, World.block_lt_of_cell? w _ (q3 0 _ rfl)⟩
theorem dD_end {w : World} {o : Nat} {cs : List Value} {F : List Nat} (h : Ow w (dD o []) cs F) : ∃ a c a' c', cs = [.int .i64 2, .string (chB 49), .bool false, .slice a 0 c, .slice a' 0 c', .int .i64 1, .int .i64 ((o : Int) + 1)] := by
  obtain ⟨a, c, a', c', rfl, _⟩ := litD_open (l1 := []) (l2 := []) h
  exact ⟨a, c, a', c', rfl⟩
theorem dD_shape {w : World} {o : Nat} {r : List Bool} {cs : List Value} {F : List Nat} (h : Ow w (dD o r) cs F) : LShape cs := by
  cases r with
  | nil => obtain ⟨_, _, _, _, rfl, _⟩ := litD_open (l1 := []) (l2 := []) h; exact ⟨_, _, _, _, _, _, _, _, _, _, _, rfl⟩
  | cons b r =>
    cases b
    · obtain ⟨_, _, _, _, rfl, _⟩ := litD_open (l1 := [dD (o + 1) r]) (l2 := []) h; exact ⟨_, _, _, _, _, _, _, _, _, _, _, rfl⟩
    · obtain ⟨_, _, _, _, rfl, _⟩ := litD_open (l1 := []) (l2 := [fldD (chB 97) (dD (o + 3) r) 1 ((o : Int) + 1 + 1)]) h; exact ⟨_, _, _, _, _, _, _, _, _, _, _, rfl⟩
/-- rows of two types lie in two blocks -/
theorem two_types {w : World} {B B' : Nat} {e e' : TypeId} {s s' : Nat} {v v' : Value} {n n' : Nat} {xs ys : List Value} (h : w.ownsRow B e s v n xs) (h' : w.ownsRow B' e' s' v' n' ys) (he : e ≠ e') : ∀ b, v.ownBlock = some b → v'.ownBlock ≠ some b := by
  intro b hb hb'
  rcases h.2 with ⟨rfl, _⟩ | ⟨g, cap, cur, rfl, _, hh, _⟩
  · cases hb
  rcases h'.2 with ⟨rfl, _⟩ | ⟨g', cap', cur', rfl, _, hh', _⟩
  · cases hb'
  obtain rfl := Option.some.inj hb
  obtain rfl := Option.some.inj hb'
  rw [hh] at hh'
  simp at hh'
  exact he hh'.2
end Go.Proofs.Ytfegalieiiaopab.cu
