import Derived.Test.YtjlafneklcfgoabVlK
import Derived.Deep.AppendLies
namespace Go.Proofs.Ytjlafneklcfgoab.vl
open Go.ChangeShapes Go.WideShapes Go.ChangeAt Go.RowKit
set_option linter.unusedVariables false
set_option linter.unusedSimpArgs false
/-- a list of things that are owned, each in so many cells -/
def OwL {E : Type} (Ow : World → E → List Value → List Nat → Prop) (w : World) : List E → List (List Value) → List Nat → Prop
  | [], xss, G => xss = [] ∧ G = []
  | v :: r, xss, G => ∃ cs l G1 G2, xss = cs :: l ∧ Ow w v cs G1 ∧ OwL Ow w r l G2 ∧ G = G1 ++ G2
theorem OwL.snoc {E : Type} {Ow : World → E → List Value → List Nat → Prop} {w : World} {v : E} {cs : List Value} {G' : List Nat} (hv : Ow w v cs G') : ∀ {l : List E} {xss : List (List Value)} {G : List Nat}, OwL Ow w l xss G → OwL Ow w (l ++ [v]) (xss ++ [cs]) (G ++ G')
  | [], xss, G, h => by
    obtain ⟨rfl, rfl⟩ := h
    exact ⟨cs, [], G', [], rfl, hv, ⟨rfl, rfl⟩, by simp⟩
  | u :: r, xss, G, h => by
    obtain ⟨ds, l, G1, G2, rfl, h1, h2, rfl⟩ := h
    exact ⟨ds, l ++ [cs], G1, G2 ++ G', rfl, h1, OwL.snoc hv h2, by simp⟩
theorem OwL.agree {E : Type} {Ow : World → E → List Value → List Nat → Prop} (ha : ∀ w w' e cs F, Agree F w w' → Ow w e cs F → Ow w' e cs F) {w w' : World} : ∀ {l : List E} {xss : List (List Value)} {G : List Nat}, Agree G w w' → OwL Ow w l xss G → OwL Ow w' l xss G
  | [], xss, G, hg, h => h
  | u :: r, xss, G, hg, h => by
    obtain ⟨ds, l, G1, G2, rfl, h1, h2, rfl⟩ := h
    exact ⟨ds, l, G1, G2, rfl, ha w w' u ds G1 hg.left h1, OwL.agree ha hg.right h2, rfl⟩
/-- a list that grows by append -/
structure Grow {E : Type} (Ow : World → E → List Value → List Nat → Prop) (t : TypeId) (size : Nat) (w : World) (B : Nat) (l : List E) (sl : Value) (G : List Nat) : Prop where
  nodup : G.Nodup
  rng : ∀ b ∈ G, B ≤ b ∧ b < w.heap.size
  own : ∀ b ∈ G, sl.ownBlock ≠ some b
  fz : Fz w G
  row : ∃ xss, w.ownsRow B t size sl l.length xss.flatten ∧ OwL Ow w l xss G
theorem Grow.nil {E : Type} {Ow : World → E → List Value → List Nat → Prop} {t : TypeId} {size : Nat} {w : World} {B : Nat} : Grow Ow t size w B [] (.slice none 0 0) [] :=
  ⟨List.nodup_nil, by simp, by simp, fun b hb => by simp at hb, [], ⟨by simp, .inl ⟨rfl, rfl⟩⟩, rfl, rfl⟩
theorem cell_blk {w w' : World} {b : Nat} (h : w'.heap[b]? = w.heap[b]?) (j : Nat) : w'.cell? ⟨b, j, none⟩ = w.cell? ⟨b, j, none⟩ := World.cell?_of_block (w := w) (a := ⟨b, j, none⟩) h
theorem frozen_blk {w w' : World} {b : Nat} (h : w'.heap[b]? = w.heap[b]?) (j : Nat) : w'.frozen? ⟨b, j, none⟩ = w.frozen? ⟨b, j, none⟩ := World.frozen?_of_block (w := w) (a := ⟨b, j, none⟩) h
theorem Grow.keep {E : Type} {Ow : World → E → List Value → List Nat → Prop} (ha : ∀ w w' e cs F, Agree F w w' → Ow w e cs F → Ow w' e cs F) {t : TypeId} {size : Nat} {w w' : World} {B : Nat} {l : List E} {sl : Value} {G : List Nat} (h : Grow Ow t size w B l sl G) (hs : w.heap.size ≤ w'.heap.size)
    (hb : ∀ b, b < w.heap.size → B ≤ b → (b ∈ G ∨ sl.ownBlock = some b) → w'.heap[b]? = w.heap[b]?) : Grow Ow t size w' B l sl G := by
  obtain ⟨xss, hr, hl⟩ := h.row
  have hG : ∀ b ∈ G, w'.heap[b]? = w.heap[b]? := fun b hm => hb b (h.rng b hm).2 (h.rng b hm).1 (.inl hm)
  refine ⟨h.nodup, fun b hm => ⟨(h.rng b hm).1, Nat.lt_of_lt_of_le (h.rng b hm).2 hs⟩, h.own, fun b hm j => (frozen_blk (hG b hm) j).trans (h.fz b hm j), xss, ?_, OwL.agree ha (fun b hm j => cell_blk (hG b hm) j) hl⟩
  have hlt := hr.lt
  obtain ⟨h1, h2⟩ := hr
  refine ⟨h1, ?_⟩
  rcases h2 with h2 | ⟨g, cap, cur, hv, hg, hh, r⟩
  · exact .inl h2
  · have hob : sl.ownBlock = some g := by rw [hv]; rfl
    exact .inr ⟨g, cap, cur, hv, hg, (hb g (hlt g hob).2 hg (.inr hob)).trans hh, r⟩
theorem Grow.below {E : Type} {Ow : World → E → List Value → List Nat → Prop} (ha : ∀ w w' e cs F, Agree F w w' → Ow w e cs F → Ow w' e cs F) {t : TypeId} {size : Nat} {w w' : World} {B : Nat} {l : List E} {sl : Value} {G : List Nat} (h : Grow Ow t size w B l sl G) (hb : Below w.heap.size w w') : Grow Ow t size w' B l sl G :=
  h.keep ha hb.size (fun b hl _ _ => hb.block b hl)
/-- a write outside -/
theorem heap_setCells (b : Nat) (c : Nat) (h : c ≠ b) : ∀ (vs : List Value) (o : Nat) (w : World), (w.setCells b o vs).heap[c]? = w.heap[c]?
  | [], o, w => rfl
  | v :: r, o, w => by rw [World.setCells, heap_setCells b c h r (o + 1)]; exact Below.heap_setCell w ⟨b, o, none⟩ v c h
theorem Grow.setCells {E : Type} {Ow : World → E → List Value → List Nat → Prop} (ha : ∀ w w' e cs F, Agree F w w' → Ow w e cs F → Ow w' e cs F) {t : TypeId} {size : Nat} {w : World} {B : Nat} {l : List E} {sl : Value} {G : List Nat} (h : Grow Ow t size w B l sl G) (b o : Nat) (vs : List Value) (hb : b < B) : Grow Ow t size (w.setCells b o vs) B l sl G :=
  h.keep ha (by rw [size_setCells]; exact Nat.le_refl _) (fun c _ hc _ => heap_setCells b c (by omega) vs o w)
/-- one more -/
theorem wpO_grow {E : Type} {Ow : World → E → List Value → List Nat → Prop} (ha : ∀ w w' e cs F, Agree F w w' → Ow w e cs F → Ow w' e cs F) {P : Program} {t e : TypeId} {size bytes : Nat} {i : TypeInfo} {z : Value} {w : World} {o : Oper} {a : Act} {K : Act → World → Prop} {Q : Exit → Act → World → Prop} (s x : Operand)
    (ho : o.op = .call { callee := .builtin .append, args := #[s, x], argTypes := #[t, t] }) (ht : P.underlying t = some (.slice e)) (hi : P.info? e = some i) (hz : i.zero = some z)
    (hsize : i.size = size) (hby : i.bytes = bytes) (hzs : z.cells.size = size) (hsz : 0 < size)
    (B : Nat) (l : List E) (sl : Value) (G : List Nat) (hs : a.eval s = sl) (hg : Grow Ow e size w B l sl G) (v : E) (ds : List Value) (G' : List Nat) (hv : Ow w v ds G') (hl : ds.length = size) (h1 : ∀ u ∈ ds, u.oneCell' = true)
    (hn' : G'.Nodup) (hr' : ∀ b ∈ G', B ≤ b ∧ b < w.heap.size ∧ b ∉ G ∧ sl.ownBlock ≠ some b) (hf' : Fz w G') (N : Nat) (hN : N = w.heap.size) (hx : a.eval x = .slice (some ⟨N, 0, none⟩) 1 1) (hbytes : (l.length + 1) * bytes ≤ 140737488355328) (h63 : l.length + 1 ≤ maxLen) (hB : B ≤ w.heap.size)
    (h : ∀ sl' w', Grow Ow e size w' B (l ++ [v]) sl' (G ++ G') → Below B w w' → (∀ b, b < w.heap.size → sl.ownBlock ≠ some b → w'.heap[b]? = w.heap[b]?) → K (a.put o.dst sl') w') : o.wp P a (w.alloc (.cells ds.toArray e)) K Q := by
  subst hN
  obtain ⟨xss, hrow, hol⟩ := hg.row
  refine wp_append_lies _ s x t ho B e i z size bytes ht hi hz hsize hby hzs hsz sl l.length xss.flatten hs (World.ownsRow.alloc hrow _) ⟨w.heap.size, 0, none⟩ 1 1 ds hx (by rw [hl]; omega) (fun j u hu => by
    rw [Addr.add_mid, Nat.zero_add, World.cell?_alloc_at _ _ _ _ rfl]; simpa using hu) h1 (by omega) h63 hbytes (by simp; omega) (w.heap.size + 1) (by simp) ?_
  intro g cap w' hrow' hgr hat hlt
  have hold : ∀ b, b < w.heap.size → sl.ownBlock ≠ some b → w'.heap[b]? = w.heap[b]? := fun b hb hne => by
    rw [hgr.block b (by simp; omega) (fun e => hne e.symm)]
    exact Below.heap_alloc w _ b hb
  have hsz' : w.heap.size ≤ w'.heap.size := by have := hgr.size; simp at this; omega
  refine h _ w' ⟨?_, ?_, ?_, ?_, xss ++ [ds], ?_, ?_⟩ (((Below.refl _ _).alloc hB _).grown hgr (by simp; omega) (fun k hk => (hrow.lt k hk).1)) hold
  · rw [List.nodup_append]
    exact ⟨hg.nodup, hn', fun x hx y hy e => (hr' y hy).2.2.1 (e ▸ hx)⟩
  · intro b hb
    rcases List.mem_append.1 hb with hb | hb
    · exact ⟨(hg.rng b hb).1, Nat.lt_of_lt_of_le (hg.rng b hb).2 hsz'⟩
    · exact ⟨(hr' b hb).1, Nat.lt_of_lt_of_le (hr' b hb).2.1 hsz'⟩
  · intro b hb e
    have hgb : g = b := Option.some.inj e
    subst hgb
    have hlt' : g < w.heap.size := by
      rcases List.mem_append.1 hb with hb | hb
      · exact (hg.rng g hb).2
      · exact (hr' g hb).2.1
    rcases hat with hat | hat
    · rcases List.mem_append.1 hb with hb | hb
      · exact hg.own g hb hat
      · exact (hr' g hb).2.2.2 hat
    · omega
  · intro b hb j
    rcases List.mem_append.1 hb with hb | hb
    · exact (frozen_blk (hold b (hg.rng b hb).2 (hg.own b hb)) j).trans (hg.fz b hb j)
    · exact (frozen_blk (hold b (hr' b hb).2.1 (hr' b hb).2.2.2) j).trans (hf' b hb j)
  · simpa using hrow'
  · refine OwL.agree ha (fun b hb j => ?_) (OwL.snoc hv hol)
    rcases List.mem_append.1 hb with hb | hb
    · exact cell_blk (hold b (hg.rng b hb).2 (hg.own b hb)) j
    · exact cell_blk (hold b (hr' b hb).2.1 (hr' b hb).2.2.2) j
theorem wp_grow {E : Type} {Ow : World → E → List Value → List Nat → Prop} (ha : ∀ w w' e cs F, Agree F w w' → Ow w e cs F → Ow w' e cs F) {P : Program} {t e : TypeId} {size bytes : Nat} {i : TypeInfo} {z : Value} {w : World} {ops : Array Oper} {rest : List Oper} {o : Oper} {a : Act} {Q : Exit → Act → World → Prop} (hgd : o.guard = none) (s x : Operand)
    (ho : o.op = .call { callee := .builtin .append, args := #[s, x], argTypes := #[t, t] }) (ht : P.underlying t = some (.slice e)) (hi : P.info? e = some i) (hz : i.zero = some z)
    (hsize : i.size = size) (hby : i.bytes = bytes) (hzs : z.cells.size = size) (hsz : 0 < size)
    (B : Nat) (l : List E) (sl : Value) (G : List Nat) (hs : a.eval s = sl) (hg : Grow Ow e size w B l sl G) (v : E) (ds : List Value) (G' : List Nat) (hv : Ow w v ds G') (hl : ds.length = size) (h1 : ∀ u ∈ ds, u.oneCell' = true)
    (hn' : G'.Nodup) (hr' : ∀ b ∈ G', B ≤ b ∧ b < w.heap.size ∧ b ∉ G ∧ sl.ownBlock ≠ some b) (hf' : Fz w G') (N : Nat) (hN : N = w.heap.size) (hx : a.eval x = .slice (some ⟨N, 0, none⟩) 1 1) (hbytes : (l.length + 1) * bytes ≤ 140737488355328) (h63 : l.length + 1 ≤ maxLen) (hB : B ≤ w.heap.size)
    (h : ∀ sl' w', Grow Ow e size w' B (l ++ [v]) sl' (G ++ G') → Below B w w' → wpList P ops Q rest (a.put o.dst sl') w') : wpList P ops Q (o :: rest) a (w.alloc (.cells ds.toArray e)) :=
  wpList_plain hgd fun _ hK => wpO_grow ha s x ho ht hi hz hsize hby hzs hsz B l sl G hs hg v ds G' hv hl h1 hn' hr' hf' N hN hx hbytes h63 hB fun sl' w' g b _ => hK _ _ (h sl' w' g b)
end Go.Proofs.Ytjlafneklcfgoab.vl
