import Derived.Test.YtjlafneklcfgoabVlN
import Derived.Deep.MidRow
import Derived.Deep.WholeRow
import Derived.Lib.SliceRun
import Derived.Laws.OwnMore
namespace Go.Proofs.Ytjlafneklcfgoab.vl
open Go.ChangeShapes Go.WideShapes Go.ChangeAt Go.RowKit
set_option linter.unusedVariables false
def Vls.of : List Vl → Vls
  | [] => .nil
  | v :: r => .cons v (Vls.of r)
def Fls.of : List (ByteArray × Vl) → Fls
  | [] => .nil
  | q :: r => .cons q.1 q.2 (Fls.of r)
theorem Vls.of_list : ∀ l : Vls, Vls.of l.list = l
  | .nil => rfl
  | .cons v r => by simp only [Vls.list, Vls.of]; rw [Vls.of_list r]
theorem Fls.of_list : ∀ l : Fls, Fls.of l.list = l
  | .nil => rfl
  | .cons nm v r => by simp only [Fls.list, Fls.of]; rw [Fls.of_list r]
theorem Vls.list_of : ∀ l : List Vl, (Vls.of l).list = l
  | [] => rfl
  | v :: r => by simp only [Vls.list, Vls.of]; rw [Vls.list_of r]
theorem Fls.list_of : ∀ l : List (ByteArray × Vl), (Fls.of l).list = l
  | [] => rfl
  | q :: r => by simp only [Fls.list, Fls.of]; rw [Fls.list_of r]
/-- a list that grows by one value -/
theorem OwsIn.snoc {w : World} {v : Vl} {cs : List Value} {G' : List Nat} : ∀ (l : List Vl) (p off n : Nat) (G : List Nat), OwsIn w (Vls.of l) p off n G → Row8 w p (off + n * 8) cs → OwC w v cs G' → OwsIn w (Vls.of (l ++ [v])) p off (n + 1) (G ++ G')
  | [], p, off, n, G, h, hr, hv => by
    simp only [Vls.of] at h
    unfold OwsIn at h
    obtain ⟨rfl, rfl⟩ := h
    simp only [List.nil_append, Vls.of]
    unfold OwsIn
    exact ⟨0, cs, G', [], rfl, by simpa using hr, hv, by unfold OwsIn; exact ⟨rfl, rfl⟩, by simp⟩
  | u :: r, p, off, n, G, h, hr, hv => by
    simp only [Vls.of] at h
    unfold OwsIn at h
    obtain ⟨m, ds, G1, G2, rfl, h1, h2, h3, rfl⟩ := h
    simp only [List.cons_append, Vls.of]
    unfold OwsIn
    exact ⟨m + 1, ds, G1, G2 ++ G', rfl, h1, h2, OwsIn.snoc r p (off + 8) m G2 h3 (by rw [show off + 8 + m * 8 = off + (m + 1) * 8 by omega]; exact hr) hv, by simp⟩
theorem OwfIn.snoc {w : World} {nm : ByteArray} {v : Vl} {cs : List Value} {G' : List Nat} : ∀ (l : List (ByteArray × Vl)) (p off n : Nat) (G : List Nat), OwfIn w (Fls.of l) p off n G → w.cell? ⟨p, off + n * 9, none⟩ = some (.string nm) → nm.size ≤ maxLen → Row8 w p (off + n * 9 + 1) cs → OwC w v cs G' → OwfIn w (Fls.of (l ++ [(nm, v)])) p off (n + 1) (G ++ G')
  | [], p, off, n, G, h, h0, hz, hr, hv => by
    simp only [Fls.of] at h
    unfold OwfIn at h
    obtain ⟨rfl, rfl⟩ := h
    simp only [List.nil_append, Fls.of]
    unfold OwfIn
    exact ⟨0, cs, G', [], rfl, by simpa using h0, hz, by simpa using hr, hv, by unfold OwfIn; exact ⟨rfl, rfl⟩, by simp⟩
  | u :: r, p, off, n, G, h, h0, hz, hr, hv => by
    simp only [Fls.of] at h
    unfold OwfIn at h
    obtain ⟨m, ds, G1, G2, rfl, g0, gz, h1, h2, h3, rfl⟩ := h
    simp only [List.cons_append, Fls.of]
    unfold OwfIn
    exact ⟨m + 1, ds, G1, G2 ++ G', rfl, g0, gz, h1, h2, OwfIn.snoc r p (off + 9) m G2 h3 (by rw [show off + 9 + m * 9 = off + (m + 1) * 9 by omega]; exact h0) hz (by rw [show off + 9 + m * 9 + 1 = off + (m + 1) * 9 + 1 by omega]; exact hr) hv, by simp⟩
/-- what lies ahead of a place in its block, and all that it holds, stands when only cells from there on are written -/
theorem OwsIn.keep {w w' : World} : ∀ (l : Vls) (p off n : Nat) (G : List Nat), Agree G w w' → (∀ o, o < off + n * 8 → w'.cell? ⟨p, o, none⟩ = w.cell? ⟨p, o, none⟩) → OwsIn w l p off n G → OwsIn w' l p off n G
  | .nil, p, off, n, G, ha, hc, h => by unfold OwsIn at h ⊢; exact h
  | .cons v r, p, off, n, G, ha, hc, h => by
    unfold OwsIn at h ⊢
    obtain ⟨m, cs, G1, G2, rfl, h1, h2, h3, rfl⟩ := h
    have h8 := (OwC.read v cs G1 h2).cells
    exact ⟨m, cs, G1, G2, rfl, fun i u hu => (hc (off + i) (by have := (List.getElem?_eq_some_iff.1 hu).1; omega)).trans (h1 i u hu), OwC.agree v cs G1 ha.left h2, OwsIn.keep r p _ m G2 ha.right (fun o ho => hc o (by omega)) h3, rfl⟩
theorem OwfIn.keep {w w' : World} : ∀ (l : Fls) (p off n : Nat) (G : List Nat), Agree G w w' → (∀ o, o < off + n * 9 → w'.cell? ⟨p, o, none⟩ = w.cell? ⟨p, o, none⟩) → OwfIn w l p off n G → OwfIn w' l p off n G
  | .nil, p, off, n, G, ha, hc, h => by unfold OwfIn at h ⊢; exact h
  | .cons nm v r, p, off, n, G, ha, hc, h => by
    unfold OwfIn at h ⊢
    obtain ⟨m, cs, G1, G2, rfl, h0, hz, h1, h2, h3, rfl⟩ := h
    have h8 := (OwC.read v cs G1 h2).cells
    exact ⟨m, cs, G1, G2, rfl, (hc off (by omega)).trans h0, hz, fun i u hu => (hc (off + 1 + i) (by have := (List.getElem?_eq_some_iff.1 hu).1; omega)).trans (h1 i u hu), OwC.agree v cs G1 ha.left h2, OwfIn.keep r p _ m G2 ha.right (fun o ho => hc o (by omega)) h3, rfl⟩
theorem there_below {w w' : World} {b o n : Nat} {B : Nat} (h : w.there b o n) (hb : Below B w w') (hl : b < B) : w'.there b o n := fun j hj =>
  ⟨by rw [hb.cell (p := ⟨b, o + j, none⟩) hl]; exact (h j hj).1, by rw [hb.frozen (p := ⟨b, o + j, none⟩) hl]; exact (h j hj).2⟩
theorem there_new {w : World} {Z : Array Value} {t : TypeId} {n : Nat} (h : Z.size = n) : (w.alloc (.cells Z t)).there w.heap.size 0 n := fun j hj =>
  ⟨by rw [World.cell?_alloc_at _ _ _ _ rfl]; simp [h]; omega, by rw [World.frozen?_alloc_at _ _ _ _ rfl]⟩
/-- every cell of a value is one cell -/
theorem VlC.one {w : World} {v : Vl} {cs : List Value} (h : VlC w v cs) : cs.toArray.all (·.oneCell') = true := by
  cases v
  unfold VlC at h
  obtain ⟨_, _, _, _, _, _, rfl, _⟩ := h
  simp [Value.oneCell']
theorem below_setCells {B : Nat} {a : World} (b : Nat) : ∀ (vs : List Value) (o : Nat) (w : World), Below B a w → B ≤ b → Below B a (w.setCells b o vs)
  | [], o, w, h, hp => h
  | v :: r, o, w, h, hp => below_setCells b r (o + 1) _ (h.setCell (p := ⟨b, o, none⟩) hp v) hp
theorem size_setCells (b : Nat) : ∀ (vs : List Value) (o : Nat) (w : World), (w.setCells b o vs).heap.size = w.heap.size
  | [], o, w => rfl
  | v :: r, o, w => by rw [World.setCells, size_setCells b r (o + 1)]; simp
theorem there_sub {w : World} {b o n o' n' : Nat} (h : w.there b o n) (h1 : o ≤ o') (h2 : o' + n' ≤ o + n) : w.there b o' n' := fun j hj => by
  have := h (o' - o + j) (by omega)
  rwa [show o + (o' - o + j) = o' + j by omega] at this
theorem agree_setCells {F : List Nat} {b o : Nat} {vs : List Value} (w : World) (h : b ∉ F) : Agree F w (w.setCells b o vs) := fun b' hb' o' => World.cell?_setCells_out b vs o w ⟨b', o', none⟩ (fun e _ => absurd (e ▸ hb') h)
/-- none of these blocks is frozen -/
def Fz (w : World) (F : List Nat) : Prop := ∀ b ∈ F, ∀ j, w.frozen? ⟨b, j, none⟩ = false
theorem Fz.below {w w' : World} {F : List Nat} (h : Fz w F) (hb : Below w.heap.size w w') (hl : ∀ b ∈ F, b < w.heap.size) : Fz w' F := fun b hm j => (hb.frozen (p := ⟨b, j, none⟩) (hl b hm)).trans (h b hm j)
theorem Fz.setCells {w : World} {F : List Nat} (h : Fz w F) (b o : Nat) (vs : List Value) : Fz (w.setCells b o vs) F := fun c hm j => by rw [World.frozen?_setCells]; exact h c hm j
theorem Fz.app {w : World} {F G : List Nat} (h : Fz w F) (h' : Fz w G) : Fz w (F ++ G) := fun b hb => by
  rcases List.mem_append.1 hb with hb | hb
  · exact h b hb
  · exact h' b hb
theorem Fz.cons {w : World} {p : Nat} {G : List Nat} (h : Fz w [p]) (h' : Fz w G) : Fz w (p :: G) := Fz.app h h'
theorem Fz.new {w : World} {Z : Array Value} {t : TypeId} : Fz (w.alloc (.cells Z t)) [w.heap.size] := fun b hb j => by
  simp only [List.mem_singleton] at hb
  rw [hb, World.frozen?_alloc_at _ _ _ _ rfl]
theorem infoV : (Try.prog.info? 27).map (·.size) = some 8 := by kernel_rfl
theorem infoM : (Try.prog.info? 68).map (·.size) = some 9 := by kernel_rfl
/-- a value that reads so in every world that agrees with this one from that block on -/
def FrC (lo : Nat) (w : World) (v : Vl) (cs : List Value) : Prop := ∀ w' : World, (∀ b j, lo ≤ b → b < w.heap.size → w'.cell? ⟨b, j, none⟩ = w.cell? ⟨b, j, none⟩) → VlC w' v cs
theorem FrC.read {lo : Nat} {w : World} {v : Vl} {cs : List Value} (h : FrC lo w v cs) : VlC w v cs := h w (fun _ _ _ _ => rfl)
theorem FrC.mono {lo lo' : Nat} {w : World} {v : Vl} {cs : List Value} (h : FrC lo w v cs) (hl : lo' ≤ lo) : FrC lo' w v cs := fun w' hw => h w' (fun b j hb => hw b j (Nat.le_trans hl hb))
theorem FrC.of {lo : Nat} {w : World} {v : Vl} {cs : List Value} {F : List Nat} (h : OwC w v cs F) (hF : ∀ b ∈ F, lo ≤ b ∧ b < w.heap.size) : FrC lo w v cs := fun w' hw => OwC.read v cs F (OwC.agree v cs F (fun b hb j => hw b j (hF b hb).1 (hF b hb).2) h)
theorem FrC.below {lo : Nat} {w w' : World} {v : Vl} {cs : List Value} (h : FrC lo w v cs) (hb : Below w.heap.size w w') : FrC lo w' v cs := fun w'' hw => h w'' (fun b j h1 h2 => (hw b j h1 (Nat.lt_of_lt_of_le h2 hb.size)).trans (hb.cell (p := ⟨b, j, none⟩) h2))
theorem FrC.setCells {lo : Nat} {w : World} {v : Vl} {cs : List Value} (h : FrC lo w v cs) (b o : Nat) (vs : List Value) (hb : b < lo) : FrC lo (w.setCells b o vs) v cs := fun w' hw => h w' (fun c j hc hc' => (hw c j hc (by rw [size_setCells]; exact hc')).trans (World.cell?_setCells_out _ _ _ _ _ (fun e _ => by have e : c = b := e; omega)))
end Go.Proofs.Ytjlafneklcfgoab.vl
