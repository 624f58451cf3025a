import Derived.Test.YtechaplindbfoaaGreatDoorJsi28
namespace Go.Proofs.YtechaplindbfoaaGreatDoor.jsn
open Go.ChangeShapes Go.WideShapes Go.ChangeAt Go.RowKit
open mem
open vl hiding hide unhide Hid
open ints (hide unhide)
set_option linter.unusedVariables false
set_option linter.unusedSimpArgs false
theorem runB (c : Int) (W : World) : (Instr.buildSlice 34 1 #[(0, .int .u8 c)]).run Tryz.prog W = .ok (.slice (some ⟨W.heap.size, 0, none⟩) 1 1) (W.alloc (.cells #[.int .u8 c] 5)) := by go_simp
/-- a builder under way: began as r0, l0 in w; the box of the value stands behind w; gs: bytes that lie in blocks of their own -/
structure Sg (B : Nat) (w : World) (CS : Array Value) (r0 r : Value) (l0 l : List UInt8) (gs : List (Nat × UInt8)) (W : World) : Prop where
  own : OwB W B r l
  fr : Fr B w W
  fq : 1 ≤ l0.length → Fq B w r0 W
  box : W.heap[w.heap.size]? = some (.cells CS 29 (0, 0))
  siz : B ≤ W.heap.size
  has : ∀ q ∈ gs, r.ownBlock ≠ some q.1 ∧ W.heap[q.1]? = some (.cells #[.int .u8 (q.2.toNat : Int)] 5 (0, 0))
variable {B : Nat} {w W : World} {CS : Array Value} {r0 r : Value} {l0 l : List UInt8} {gs : List (Nat × UInt8)} {o : Oper} {a : Act} {K : Act → World → Prop} {Q : Exit → Act → World → Prop}
theorem wpO_open (h : Sg B w CS r0 r l0 l gs W) (x : Operand) (ho : o.op = .buildSlice 34 1 #[(0, x)]) (c : UInt8) (hx : a.eval x = .int .u8 (c.toNat : Int))
    (hK : ∀ g W', Sg B w CS r0 r l0 l ((g, c) :: gs) W' → K (a.put o.dst (.slice (some ⟨g, 0, none⟩) 1 1)) W') : o.wp Tryz.prog a W K Q := by
  refine wpO_buildOne 34 x ho _ _ hx (runB _ W) ?_
  have hb : Below W.heap.size W (W.alloc (.cells #[.int .u8 (c.toNat : Int)] 5)) := (Below.refl _ _).alloc (Nat.le_refl _) _
  have hlt := h.own.lt
  have N0 : Fq B W r0 (W.alloc (.cells #[.int .u8 (c.toNat : Int)] 5)) := Fq.new h.siz hb
  refine hK W.heap.size _ ⟨h.own.below hb, h.fr.trans N0.fr, fun h1 => (h.fq h1).same N0, N0.val _ _ _ _ (.inl rfl) h.box, by have := h.siz; simp; omega, ?_⟩
  intro q hq
  rcases List.mem_cons.1 hq with rfl | hq
  · exact ⟨fun e => by have := (hlt _ e).2; simp at this, by show (W.heap.push _)[W.heap.size]? = _; simp⟩
  · obtain ⟨h1, h2⟩ := h.has q hq
    exact ⟨h1, (hb.block _ (lt_heap h2)).trans h2⟩
theorem cell_of {g : Nat} {c : UInt8} (h : Sg B w CS r0 r l0 l gs W) (hg : (g, c) ∈ gs) : W.cell? ⟨g, 0, none⟩ = some (.int .u8 (c.toNat : Int)) := by
  have := (h.has _ hg).2
  simp only at this
  simp [World.cell?, this]
theorem wpO_first (h : Sg B w CS r r l l gs W) (sl x : Operand)
    (ho : o.op = .call { callee := .builtin .append, args := #[sl, x], argTypes := #[34, 34] }) (hs : a.eval sl = r) (g : Nat) (c : UInt8) (hx : a.eval x = .slice (some ⟨g, 0, none⟩) 1 1) (hg : (g, c) ∈ gs) (hl : l.length + 1 ≤ 70368744177664)
    (gs' : List (Nat × UInt8)) (hsub : ∀ q ∈ gs', q ∈ gs ∧ c ≠ q.2)
    (hK : ∀ r' W', Sg B w CS r r' l (l ++ [c]) gs' W' → K (a.put o.dst r') W') : o.wp Tryz.prog a W K Q := by
  refine wpO_putc sl x ho B r l hs h.own g c hx (cell_of h hg) hl h.siz ?_
  intro r' W' ho' f
  refine hK r' W' ⟨ho', h.fr.trans f.fr, fun h1 => (h.fq h1).same f, f.val _ _ _ _ (.inl rfl) h.box, Nat.le_trans h.siz (f.bel.size), ?_⟩
  intro q hq
  obtain ⟨h1, h2⟩ := hsub q hq
  obtain ⟨h3, h4⟩ := h.has q h1
  have h5 := f.one _ _ _ _ h3 h4
  exact ⟨ho'.ne2 h2 h5, h5⟩
/-- a step that is told by what it keeps -/
theorem Sg.next (h : Sg B w CS r0 r l0 l gs W) (hl : 1 ≤ l0.length → 2 ≤ l.length) {r' : Value} {l' : List UInt8} {W' : World} (ho : OwB W' B r' l') (hne : ∀ q ∈ gs, W'.heap[q.1]? = some (.cells #[.int .u8 (q.2.toNat : Int)] 5 (0, 0)) → r'.ownBlock ≠ some q.1) (f : Fq B W r W') : Sg B w CS r0 r' l0 l' gs W' := by
  refine ⟨ho, h.fr.trans f.fr, fun h1 => (h.fq h1).trans f h.own (hl h1), f.val _ _ _ _ (.inl rfl) h.box, Nat.le_trans h.siz (f.bel.size), ?_⟩
  intro q hq
  obtain ⟨h3, h4⟩ := h.has q hq
  have h5 := f.one _ _ _ _ h3 h4
  exact ⟨hne q hq h5, h5⟩
theorem Sg.call {c : UInt8} {P : List UInt8} (h : Sg B w CS r0 r l (l ++ [c]) gs W) (hgs : ∀ q ∈ gs, c ≠ q.2) {r' : Value} {W' : World} (ho : OwB W' B r' (l ++ [c] ++ P)) (f : Fq B W r W') : Sg B w CS r0 r' l (l ++ [c] ++ P) gs W' := by
  refine h.next (fun h1 => by simp only [List.length_append, List.length_cons, List.length_nil]; omega) ho (fun q hq hj => ?_) f
  rcases P with _ | ⟨p, P⟩
  · rw [List.append_nil] at ho
    exact ho.ne2 (hgs q hq) hj
  · exact ho.ne (by simp only [List.length_append, List.length_cons, List.length_nil]; omega) hj
theorem wpO_last (h : Sg B w CS r0 r l0 l gs W) (hl1 : 1 ≤ l.length) (hl2 : 1 ≤ l0.length → 2 ≤ l.length) (sl x : Operand)
    (ho : o.op = .call { callee := .builtin .append, args := #[sl, x], argTypes := #[34, 34] }) (hs : a.eval sl = r) (g : Nat) (c : UInt8) (hx : a.eval x = .slice (some ⟨g, 0, none⟩) 1 1) (hg : (g, c) ∈ gs) (hl : l.length + 1 ≤ 70368744177664)
    (hK : ∀ r' W', Sg B w CS r0 r' l0 (l ++ [c]) gs W' → K (a.put o.dst r') W') : o.wp Tryz.prog a W K Q := by
  refine wpO_putc sl x ho B r l hs h.own g c hx (cell_of h hg) hl h.siz ?_
  intro r' W' ho' f
  exact hK r' W' (h.next hl2 ho' (fun q _ hj => ho'.ne (by simp only [List.length_append, List.length_cons, List.length_nil]; omega) hj) f)
end Go.Proofs.YtechaplindbfoaaGreatDoor.jsn
