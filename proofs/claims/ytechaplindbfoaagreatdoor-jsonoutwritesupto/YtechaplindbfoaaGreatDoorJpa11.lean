import Derived.Test.YtechaplindbfoaaGreatDoorJpa10
import Derived.Deep.AppendLies
import Derived.Test.YtechaplindbfoaaGreatDoorJpa3
import Derived.Test.YtechaplindbfoaaGreatDoorJpa1
namespace Go.Proofs.YtechaplindbfoaaGreatDoor.vl
open Go.ChangeShapes Go.WideShapes Go.ChangeAt Go.RowKit
set_option linter.unusedVariables false
set_option linter.unusedSimpArgs false
mutual
/-- lists of bearable length, all the way down -/
def Small : Vl → Prop
  | .mk kd b n f tx ty its fls => its.list.length ≤ 1256584717458 ∧ fls.list.length ≤ 1099511627776 ∧ f < 18446744073709551616 ∧ SmallI its ∧ SmallF fls
def SmallI : Vls → Prop
  | .nil => True
  | .cons v r => Small v ∧ SmallI r
def SmallF : Fls → Prop
  | .nil => True
  | .cons nm v r => Small v ∧ SmallF r
end
theorem SmallI.all : ∀ {l : Vls}, SmallI l → ∀ v ∈ l.list, Small v
  | .nil, _, v, h => by simp [Vls.list] at h
  | .cons u r, hs, v, h => by
    unfold SmallI at hs
    simp only [Vls.list, List.mem_cons] at h
    rcases h with h | h
    · rw [h]; exact hs.1
    · exact hs.2.all v h
theorem SmallF.all : ∀ {l : Fls}, SmallF l → ∀ q ∈ l.list, Small q.2
  | .nil, _, q, h => by simp [Fls.list] at h
  | .cons nm u r, hs, q, h => by
    unfold SmallF at hs
    simp only [Fls.list, List.mem_cons] at h
    rcases h with h | h
    · rw [h]; exact hs.1
    · exact hs.2.all q h
end Go.Proofs.YtechaplindbfoaaGreatDoor.vl
namespace Go.Proofs.YtechaplindbfoaaGreatDoor.vl
open Go.ChangeShapes Go.WideShapes Go.ChangeAt Go.RowKit
set_option linter.unusedVariables false
set_option linter.unusedSimpArgs false
/-- a list of things that are owned, each in so many cells -/
def OwL {E : Type} (Ow : World → E → List Value → List Nat → Prop) (w : World) : List E → List (List Value) → List Nat → Prop
  | [], xss, G => xss = [] ∧ G = []
  | v :: r, xss, G => ∃ cs l G1 G2, xss = cs :: l ∧ Ow w v cs G1 ∧ OwL Ow w r l G2 ∧ G = G1 ++ G2
theorem OwL.snoc {E : Type} {Ow : World → E → List Value → List Nat → Prop} {w : World} {v : E} {cs : List Value} {G' : List Nat} (hv : Ow w v cs G') : ∀ {l : List E} {xss : List (List Value)} {G : List Nat}, OwL Ow w l xss G → OwL Ow w (l ++ [v]) (xss ++ [cs]) (G ++ G')
  | [], xss, G, h => by
    obtain ⟨rfl, rfl⟩ := h
    exact ⟨cs, [], G', [], rfl, hv, ⟨rfl, rfl⟩, by simp⟩
  | u :: r, xss, G, h => by
    obtain ⟨ds, l, G1, G2, rfl, h1, h2, rfl⟩ := h
    exact ⟨ds, l ++ [cs], G1, G2 ++ G', rfl, h1, OwL.snoc hv h2, by simp⟩
theorem OwL.agree {E : Type} {Ow : World → E → List Value → List Nat → Prop} (ha : ∀ w w' e cs F, Agree F w w' → Ow w e cs F → Ow w' e cs F) {w w' : World} : ∀ {l : List E} {xss : List (List Value)} {G : List Nat}, Agree G w w' → OwL Ow w l xss G → OwL Ow w' l xss G
  | [], xss, G, hg, h => h
  | u :: r, xss, G, hg, h => by
    obtain ⟨ds, l, G1, G2, rfl, h1, h2, rfl⟩ := h
    exact ⟨ds, l, G1, G2, rfl, ha w w' u ds G1 hg.left h1, OwL.agree ha hg.right h2, rfl⟩
/-- a list that grows by append -/
structure Grow {E : Type} (Ow : World → E → List Value → List Nat → Prop) (t : TypeId) (size : Nat) (w : World) (B : Nat) (l : List E) (sl : Value) (G : List Nat) : Prop where
  nodup : G.Nodup
  rng : ∀ b ∈ G, B ≤ b ∧ b < w.heap.size
  own : ∀ b ∈ G, sl.ownBlock ≠ some b
  fz : Fz w G
  row : ∃ xss, w.ownsRow B t size sl l.length xss.flatten ∧ OwL Ow w l xss G
theorem Grow.nil {E : Type} {Ow : World → E → List Value → List Nat → Prop} {t : TypeId} {size : Nat} {w : World} {B : Nat} : Grow Ow t size w B [] (.slice none 0 0) [] :=
  ⟨List.nodup_nil, by simp, by simp, fun b hb => by simp at hb, [], ⟨by simp, .inl ⟨rfl, rfl⟩⟩, rfl, rfl⟩
theorem cell_blk {w w' : World} {b : Nat} (h : w'.heap[b]? = w.heap[b]?) (j : Nat) : w'.cell? ⟨b, j, none⟩ = w.cell? ⟨b, j, none⟩ := World.cell?_of_block (w := w) (a := ⟨b, j, none⟩) h
theorem frozen_blk {w w' : World} {b : Nat} (h : w'.heap[b]? = w.heap[b]?) (j : Nat) : w'.frozen? ⟨b, j, none⟩ = w.frozen? ⟨b, j, none⟩ := World.frozen?_of_block (w := w) (a := ⟨b, j, none⟩) h
theorem Grow.keep {E : Type} {Ow : World → E → List Value → List Nat → Prop} (ha : ∀ w w' e cs F, Agree F w w' → Ow w e cs F → Ow w' e cs F) {t : TypeId} {size : Nat} {w w' : World} {B : Nat} {l : List E} {sl : Value} {G : List Nat} (h : Grow Ow t size w B l sl G) (hs : w.heap.size ≤ w'.heap.size)
    (hb : ∀ b, b < w.heap.size → B ≤ b → (b ∈ G ∨ sl.ownBlock = some b) → w'.heap[b]? = w.heap[b]?) : Grow Ow t size w' B l sl G := by
  obtain ⟨xss, hr, hl⟩ := h.row
  have hG : ∀ b ∈ G, w'.heap[b]? = w.heap[b]? := fun b hm => hb b (h.rng b hm).2 (h.rng b hm).1 (.inl hm)
  refine ⟨h.nodup, fun b hm => ⟨(h.rng b hm).1, Nat.lt_of_lt_of_le (h.rng b hm).2 hs⟩, h.own, fun b hm j => (frozen_blk (hG b hm) j).trans (h.fz b hm j), xss, ?_, OwL.agree ha (fun b hm j => cell_blk (hG b hm) j) hl⟩
  have hlt := hr.lt
  obtain ⟨h1, h2⟩ := hr
  refine ⟨h1, ?_⟩
  rcases h2 with h2 | ⟨g, cap, cur, hv, hg, hh, r⟩
  · exact .inl h2
  · have hob : sl.ownBlock = some g := by rw [hv]; rfl
    exact .inr ⟨g, cap, cur, hv, hg, (hb g (hlt g hob).2 hg (.inr hob)).trans hh, r⟩
theorem Grow.below {E : Type} {Ow : World → E → List Value → List Nat → Prop} (ha : ∀ w w' e cs F, Agree F w w' → Ow w e cs F → Ow w' e cs F) {t : TypeId} {size : Nat} {w w' : World} {B : Nat} {l : List E} {sl : Value} {G : List Nat} (h : Grow Ow t size w B l sl G) (hb : Below w.heap.size w w') : Grow Ow t size w' B l sl G :=
  h.keep ha hb.size (fun b hl _ _ => hb.block b hl)
/-- a write outside -/
theorem heap_setCells (b : Nat) (c : Nat) (h : c ≠ b) : ∀ (vs : List Value) (o : Nat) (w : World), (w.setCells b o vs).heap[c]? = w.heap[c]?
  | [], o, w => rfl
  | v :: r, o, w => by rw [World.setCells, heap_setCells b c h r (o + 1)]; exact Below.heap_setCell w ⟨b, o, none⟩ v c h
theorem Grow.setCells {E : Type} {Ow : World → E → List Value → List Nat → Prop} (ha : ∀ w w' e cs F, Agree F w w' → Ow w e cs F → Ow w' e cs F) {t : TypeId} {size : Nat} {w : World} {B : Nat} {l : List E} {sl : Value} {G : List Nat} (h : Grow Ow t size w B l sl G) (b o : Nat) (vs : List Value) (hb : b < B) : Grow Ow t size (w.setCells b o vs) B l sl G :=
  h.keep ha (by rw [size_setCells]; exact Nat.le_refl _) (fun c _ hc _ => heap_setCells b c (by omega) vs o w)
/-- one more -/
theorem wpO_grow {E : Type} {Ow : World → E → List Value → List Nat → Prop} (ha : ∀ w w' e cs F, Agree F w w' → Ow w e cs F → Ow w' e cs F) {P : Program} {t e : TypeId} {size bytes : Nat} {i : TypeInfo} {z : Value} {w : World} {o : Oper} {a : Act} {K : Act → World → Prop} {Q : Exit → Act → World → Prop} (s x : Operand)
    (ho : o.op = .call { callee := .builtin .append, args := #[s, x], argTypes := #[t, t] }) (ht : P.underlying t = some (.slice e)) (hi : P.info? e = some i) (hz : i.zero = some z)
    (hsize : i.size = size) (hby : i.bytes = bytes) (hzs : z.cells.size = size) (hsz : 0 < size)
    (B : Nat) (l : List E) (sl : Value) (G : List Nat) (hs : a.eval s = sl) (hg : Grow Ow e size w B l sl G) (v : E) (ds : List Value) (G' : List Nat) (hv : Ow w v ds G') (hl : ds.length = size) (h1 : ∀ u ∈ ds, u.oneCell' = true)
    (hn' : G'.Nodup) (hr' : ∀ b ∈ G', B ≤ b ∧ b < w.heap.size ∧ b ∉ G ∧ sl.ownBlock ≠ some b) (hf' : Fz w G') (N : Nat) (hN : N = w.heap.size) (hx : a.eval x = .slice (some ⟨N, 0, none⟩) 1 1) (hbytes : (l.length + 1) * bytes ≤ 140737488355328) (h63 : l.length + 1 ≤ maxLen) (hB : B ≤ w.heap.size)
    (h : ∀ sl' w', Grow Ow e size w' B (l ++ [v]) sl' (G ++ G') → Below B w w' → (∀ b, b < w.heap.size → sl.ownBlock ≠ some b → w'.heap[b]? = w.heap[b]?) → K (a.put o.dst sl') w') : o.wp P a (w.alloc (.cells ds.toArray e)) K Q := by
  subst hN
  obtain ⟨xss, hrow, hol⟩ := hg.row
  refine wp_append_lies _ s x t ho B e i z size bytes ht hi hz hsize hby hzs hsz sl l.length xss.flatten hs (World.ownsRow.alloc hrow _) ⟨w.heap.size, 0, none⟩ 1 1 ds hx (by rw [hl]; omega) (fun j u hu => by
    rw [Addr.add_mid, Nat.zero_add, World.cell?_alloc_at _ _ _ _ rfl]; simpa using hu) h1 (by omega) h63 hbytes (by simp; omega) (w.heap.size + 1) (by simp) ?_
  intro g cap w' hrow' hgr hat hlt
  have hold : ∀ b, b < w.heap.size → sl.ownBlock ≠ some b → w'.heap[b]? = w.heap[b]? := fun b hb hne => by
    rw [hgr.block b (by simp; omega) (fun e => hne e.symm)]
    exact Below.heap_alloc w _ b hb
  have hsz' : w.heap.size ≤ w'.heap.size := by have := hgr.size; simp at this; omega
  refine h _ w' ⟨?_, ?_, ?_, ?_, xss ++ [ds], ?_, ?_⟩ (((Below.refl _ _).alloc hB _).grown hgr (by simp; omega) (fun k hk => (hrow.lt k hk).1)) hold
  · rw [List.nodup_append]
    exact ⟨hg.nodup, hn', fun x hx y hy e => (hr' y hy).2.2.1 (e ▸ hx)⟩
  · intro b hb
    rcases List.mem_append.1 hb with hb | hb
    · exact ⟨(hg.rng b hb).1, Nat.lt_of_lt_of_le (hg.rng b hb).2 hsz'⟩
    · exact ⟨(hr' b hb).1, Nat.lt_of_lt_of_le (hr' b hb).2.1 hsz'⟩
  · intro b hb e
    have hgb : g = b := Option.some.inj e
    subst hgb
    have hlt' : g < w.heap.size := by
      rcases List.mem_append.1 hb with hb | hb
      · exact (hg.rng g hb).2
      · exact (hr' g hb).2.1
    rcases hat with hat | hat
    · rcases List.mem_append.1 hb with hb | hb
      · exact hg.own g hb hat
      · exact (hr' g hb).2.2.2 hat
    · omega
  · intro b hb j
    rcases List.mem_append.1 hb with hb | hb
    · exact (frozen_blk (hold b (hg.rng b hb).2 (hg.own b hb)) j).trans (hg.fz b hb j)
    · exact (frozen_blk (hold b (hr' b hb).2.1 (hr' b hb).2.2.2) j).trans (hf' b hb j)
  · simpa using hrow'
  · refine OwL.agree ha (fun b hb j => ?_) (OwL.snoc hv hol)
    rcases List.mem_append.1 hb with hb | hb
    · exact cell_blk (hold b (hg.rng b hb).2 (hg.own b hb)) j
    · exact cell_blk (hold b (hr' b hb).2.1 (hr' b hb).2.2.2) j
theorem wp_grow {E : Type} {Ow : World → E → List Value → List Nat → Prop} (ha : ∀ w w' e cs F, Agree F w w' → Ow w e cs F → Ow w' e cs F) {P : Program} {t e : TypeId} {size bytes : Nat} {i : TypeInfo} {z : Value} {w : World} {ops : Array Oper} {rest : List Oper} {o : Oper} {a : Act} {Q : Exit → Act → World → Prop} (hgd : o.guard = none) (s x : Operand)
    (ho : o.op = .call { callee := .builtin .append, args := #[s, x], argTypes := #[t, t] }) (ht : P.underlying t = some (.slice e)) (hi : P.info? e = some i) (hz : i.zero = some z)
    (hsize : i.size = size) (hby : i.bytes = bytes) (hzs : z.cells.size = size) (hsz : 0 < size)
    (B : Nat) (l : List E) (sl : Value) (G : List Nat) (hs : a.eval s = sl) (hg : Grow Ow e size w B l sl G) (v : E) (ds : List Value) (G' : List Nat) (hv : Ow w v ds G') (hl : ds.length = size) (h1 : ∀ u ∈ ds, u.oneCell' = true)
    (hn' : G'.Nodup) (hr' : ∀ b ∈ G', B ≤ b ∧ b < w.heap.size ∧ b ∉ G ∧ sl.ownBlock ≠ some b) (hf' : Fz w G') (N : Nat) (hN : N = w.heap.size) (hx : a.eval x = .slice (some ⟨N, 0, none⟩) 1 1) (hbytes : (l.length + 1) * bytes ≤ 140737488355328) (h63 : l.length + 1 ≤ maxLen) (hB : B ≤ w.heap.size)
    (h : ∀ sl' w', Grow Ow e size w' B (l ++ [v]) sl' (G ++ G') → Below B w w' → wpList P ops Q rest (a.put o.dst sl') w') : wpList P ops Q (o :: rest) a (w.alloc (.cells ds.toArray e)) :=
  wpList_plain hgd fun _ hK => wpO_grow ha s x ho ht hi hz hsize hby hzs hsz B l sl G hs hg v ds G' hv hl h1 hn' hr' hf' N hN hx hbytes h63 hB fun sl' w' g b _ => hK _ _ (h sl' w' g b)
end Go.Proofs.YtechaplindbfoaaGreatDoor.vl
namespace Go.Proofs.YtechaplindbfoaaGreatDoor.vl
open Go.ChangeShapes Go.WideShapes Go.ChangeAt Go.RowKit
set_option linter.unusedVariables false
set_option linter.unusedSimpArgs false
/-- a member that is owned -/
def OwM (w : World) (q : ByteArray × Vl) (cs : List Value) (F : List Nat) : Prop := ∃ ds, cs = Value.string q.1 :: ds ∧ q.1.size ≤ maxLen ∧ OwC w q.2 ds F
theorem agV : ∀ (w w' : World) (e : Vl) (cs : List Value) (F : List Nat), Agree F w w' → OwC w e cs F → OwC w' e cs F := fun _ _ e cs F ha h => OwC.agree e cs F ha h
theorem agM : ∀ (w w' : World) (e : ByteArray × Vl) (cs : List Value) (F : List Nat), Agree F w w' → OwM w e cs F → OwM w' e cs F := fun _ _ e cs F ha ⟨ds, h1, h2, h3⟩ => ⟨ds, h1, h2, OwC.agree e.2 ds F ha h3⟩
theorem OwL.insV {w : World} : ∀ {l : List Vl} {xss : List (List Value)} {G : List Nat} (p off : Nat), OwL OwC w l xss G → (∀ j u, xss.flatten[j]? = some u → w.cell? ⟨p, off + j, none⟩ = some u) → OwsIn w (Vls.of l) p off l.length G
  | [], xss, G, p, off, h, hc => by
    obtain ⟨rfl, rfl⟩ := h
    simp only [Vls.of]
    unfold OwsIn
    exact ⟨rfl, rfl⟩
  | v :: r, xss, G, p, off, h, hc => by
    obtain ⟨cs, l, G1, G2, rfl, h1, h2, rfl⟩ := h
    have h8 := (OwC.read v cs G1 h1).cells
    simp only [Vls.of]
    unfold OwsIn
    refine ⟨r.length, cs, G1, G2, rfl, fun j u hu => hc j u ?_, h1, OwL.insV p (off + 8) h2 (fun j u hu => ?_), rfl⟩
    · rw [List.flatten_cons, List.getElem?_append_left (List.getElem?_eq_some_iff.1 hu).1]; exact hu
    · rw [show off + 8 + j = off + (8 + j) by omega]
      refine hc (8 + j) u ?_
      rw [List.flatten_cons, List.getElem?_append_right (by omega), h8]
      simpa using hu
theorem OwL.insM {w : World} : ∀ {l : List (ByteArray × Vl)} {xss : List (List Value)} {G : List Nat} (p off : Nat), OwL OwM w l xss G → (∀ j u, xss.flatten[j]? = some u → w.cell? ⟨p, off + j, none⟩ = some u) → OwfIn w (Fls.of l) p off l.length G
  | [], xss, G, p, off, h, hc => by
    obtain ⟨rfl, rfl⟩ := h
    simp only [Fls.of]
    unfold OwfIn
    exact ⟨rfl, rfl⟩
  | q :: r, xss, G, p, off, h, hc => by
    obtain ⟨cs, l, G1, G2, rfl, ⟨ds, rfl, hz, h1⟩, h2, rfl⟩ := h
    have h8 := (OwC.read q.2 ds G1 h1).cells
    simp only [Fls.of]
    unfold OwfIn
    refine ⟨r.length, ds, G1, G2, rfl, ?_, hz, fun j u hu => ?_, h1, OwL.insM p (off + 9) h2 (fun j u hu => ?_), rfl⟩
    · exact hc 0 _ rfl
    · rw [show off + 1 + j = off + (j + 1) by omega]
      refine hc (j + 1) u ?_
      rw [List.flatten_cons, List.getElem?_append_left (by have := (List.getElem?_eq_some_iff.1 hu).1; simp; omega)]
      simpa using hu
    · rw [show off + 9 + j = off + (9 + j) by omega]
      refine hc (9 + j) u ?_
      rw [List.flatten_cons, List.getElem?_append_right (by simp; omega)]
      simpa [h8] using hu
theorem Grow.parts {E : Type} {Ow : World → E → List Value → List Nat → Prop} {t : TypeId} {size : Nat} {w : World} {B : Nat} {l : List E} {sl : Value} {G : List Nat} (h : Grow Ow t size w B l sl G) :
    ∃ (aj : Option Addr) (cj : Nat) (F : List Nat), sl = .slice aj l.length cj ∧ ((aj = none ∧ l = [] ∧ l.length = 0 ∧ F = []) ∨ ∃ p xss, aj = some ⟨p, 0, none⟩ ∧ F = p :: G ∧ OwL Ow w l xss G ∧ ∀ j u, xss.flatten[j]? = some u → w.cell? ⟨p, 0 + j, none⟩ = some u) ∧ F.Nodup ∧ (∀ b ∈ F, B ≤ b ∧ b < w.heap.size) ∧ Fz w F ∧ l.length ≤ cj ∧ (aj = none → cj = 0) ∧ cj ≤ maxLen := by
  obtain ⟨xss, hr, hl⟩ := h.row
  have hlt := hr.lt
  have hr' := hr
  obtain ⟨h1, h2⟩ := hr
  rcases h2 with ⟨rfl, h0⟩ | ⟨g, cap, cur, rfl, hg, hh, hc1, hc2, r⟩
  · have hl0 : l = [] := List.length_eq_zero_iff.1 h0
    subst hl0
    exact ⟨none, 0, [], rfl, .inl ⟨rfl, rfl, rfl, rfl⟩, List.nodup_nil, by simp, fun b hb => by simp at hb, Nat.le_refl _, fun _ => rfl, Nat.zero_le _⟩
  · have hgl := hlt g rfl
    refine ⟨_, cap, g :: G, rfl, .inr ⟨g, xss, rfl, rfl, hl, fun j u hu => ?_⟩, List.nodup_cons.2 ⟨fun hm => h.own g hm rfl, h.nodup⟩, fun b hb => ?_, fun b hb j => ?_, hc1, fun e => (by cases e), hc2⟩
    · rw [Nat.zero_add, hr'.cellAt j (by rw [← h1]; exact (List.getElem?_eq_some_iff.1 hu).1)]
      exact hu
    · rcases List.mem_cons.1 hb with rfl | hb
      · exact hgl
      · exact h.rng b hb
    · rcases List.mem_cons.1 hb with rfl | hb
      · exact hr'.frozenAt j
      · exact h.fz b hb j
theorem Grow.form {E : Type} {Ow : World → E → List Value → List Nat → Prop} {t : TypeId} {size : Nat} {w : World} {B : Nat} {l : List E} {sl : Value} {G : List Nat} (h : Grow Ow t size w B l sl G) : ∃ aj n cj, sl = .slice aj n cj := by
  obtain ⟨aj, cj, _, h, _⟩ := h.parts
  exact ⟨aj, _, cj, h⟩
theorem buildV {w0 : World} {v : Vl} {ds : List Value} (h : VlC w0 v ds) (w : World) : (Instr.buildSlice 22 1 #[(0, .agg ds.toArray)]).run Tryz.prog w = .ok (.slice (some ⟨w.heap.size, 0, none⟩) 1 1) (w.alloc (.cells ds.toArray 29)) := by
  cases v
  unfold VlC at h
  obtain ⟨_, _, _, _, _, _, rfl, -⟩ := h
  go_simp
theorem buildM {w0 : World} {v : Vl} {ds : List Value} (nm : ByteArray) (h : VlC w0 v ds) (w : World) : (Instr.buildSlice 27 1 #[(0, .agg (Value.string nm :: ds).toArray)]).run Tryz.prog w = .ok (.slice (some ⟨w.heap.size, 0, none⟩) 1 1) (w.alloc (.cells (Value.string nm :: ds).toArray 45)) := by
  cases v
  unfold VlC at h
  obtain ⟨_, _, _, _, _, _, rfl, -⟩ := h
  go_simp
theorem wpO_buildOne {P : Program} {o : Oper} {a : Act} {w w' : World} {K : Act → World → Prop} {Q : Exit → Act → World → Prop} (t : TypeId) (x : Operand) (ho : o.op = .buildSlice t 1 #[(0, x)]) (v sl : Value) (hx : a.eval x = v) (hr : (Instr.buildSlice t 1 #[(0, v)]).run P w = .ok sl w')
    (h : K (a.put o.dst sl) w') : o.wp P a w K Q := by
  unfold Oper.wp execOp
  simp only [ho, List.map_toArray, List.map_cons, List.map_nil, hx, Sem.run_bind, hr, Result.andThen_ok, Sem.run_pure]
  exact h
theorem wpList_buildOne {P : Program} {ops : Array Oper} {rest : List Oper} {o : Oper} {a : Act} {w w' : World} {Q : Exit → Act → World → Prop} (hgd : o.guard = none) (t : TypeId) (x : Operand) (ho : o.op = .buildSlice t 1 #[(0, x)]) (v sl : Value) (hx : a.eval x = v) (hr : (Instr.buildSlice t 1 #[(0, v)]).run P w = .ok sl w')
    (h : wpList P ops Q rest (a.put o.dst sl) w') : wpList P ops Q (o :: rest) a w :=
  wpList_plain hgd fun _ hK => by
    unfold Oper.wp execOp
    simp only [ho, List.map_toArray, List.map_cons, List.map_nil, hx, Sem.run_bind, hr, Result.andThen_ok, Sem.run_pure]
    exact hK _ _ h
end Go.Proofs.YtechaplindbfoaaGreatDoor.vl
namespace Go.Proofs.YtechaplindbfoaaGreatDoor.vl
open Go.ChangeShapes Go.WideShapes Go.ChangeAt Go.RowKit
set_option linter.unusedVariables false
set_option linter.unusedSimpArgs false
theorem storeF (f : Nat) (a : Addr) (w : World) (m : Mode) : (store a (.float .f64 f) m).run Tryz.prog w = stored Tryz.prog w a (.float .f64 f) m := run_store _ _ _ _ _ rfl
/-- the call's own variables: v's two lists, the result, and w -/
structure Vars (w0 : World) (kd : Int) (bb : Bool) (ni : Int) (f : Nat) (tx ty : ByteArray) (ai : Option Addr) (nI ci : Nat) (af : Option Addr) (nf cf : Nat) (s6 s7 : Value) (w : World) : Prop where
  x6 : w.cell? ⟨w0.heap.size, 6, none⟩ = some (.slice ai nI ci)
  x7 : w.cell? ⟨w0.heap.size, 7, none⟩ = some (.slice af nf cf)
  res : w.there (w0.heap.size + 1) 0 8
  row : w.rangeAt (w0.heap.size + 1 + 1) 0 [.int .i64 kd, .bool bb, .int .i64 ni, .float .f64 f, .string tx, .string ty, s6, s7]
  may : w.there (w0.heap.size + 1 + 1) 0 8
  bel : Below w0.heap.size w0 w
  siz : w0.heap.size + 3 ≤ w.heap.size
theorem Vars.below {w0 : World} {kd : Int} {bb : Bool} {ni : Int} {f : Nat} {tx ty : ByteArray} {ai : Option Addr} {nI ci : Nat} {af : Option Addr} {nf cf : Nat} {s6 s7 : Value} {w w' : World} (h : Vars w0 kd bb ni f tx ty ai nI ci af nf cf s6 s7 w) (hb : Below (w0.heap.size + 3) w w') : Vars w0 kd bb ni f tx ty ai nI ci af nf cf s6 s7 w' :=
  ⟨(hb.cell (p := ⟨w0.heap.size, 6, none⟩) (by show w0.heap.size < _; omega)).trans h.x6, (hb.cell (p := ⟨w0.heap.size, 7, none⟩) (by show w0.heap.size < _; omega)).trans h.x7, there_below h.res hb (by omega), fun j u hu => (hb.cell (p := ⟨w0.heap.size + 1 + 1, 0 + j, none⟩) (by show w0.heap.size + 1 + 1 < _; omega)).trans (h.row j u hu), there_below h.may hb (by omega), h.bel.trans (hb.mono (by omega)), Nat.le_trans h.siz hb.size⟩
theorem Vars.put6 {w0 : World} {kd : Int} {bb : Bool} {ni : Int} {f : Nat} {tx ty : ByteArray} {ai : Option Addr} {nI ci : Nat} {af : Option Addr} {nf cf : Nat} {s6 s7 : Value} {w : World} (h : Vars w0 kd bb ni f tx ty ai nI ci af nf cf s6 s7 w) (s : Value) : Vars w0 kd bb ni f tx ty ai nI ci af nf cf s s7 (w.setCells (w0.heap.size + 1 + 1) 6 [s]) := by
  have out : ∀ c j, (c ≠ w0.heap.size + 1 + 1 ∨ j ≠ 6) → (w.setCells (w0.heap.size + 1 + 1) 6 [s]).cell? ⟨c, j, none⟩ = w.cell? ⟨c, j, none⟩ := fun c j hc => World.cell?_setCells_out _ _ _ _ _ (fun e _ => by
    have e : c = w0.heap.size + 1 + 1 := e
    show j < 6 ∨ 6 + 1 ≤ j
    omega)
  refine ⟨(out _ _ (.inl (by omega))).trans h.x6, (out _ _ (.inl (by omega))).trans h.x7, World.there_setCells h.res _ _ _, ?_, World.there_setCells h.may _ _ _, below_setCells _ _ _ _ h.bel (by omega), by rw [size_setCells]; exact h.siz⟩
  intro j u hu
  by_cases h6 : j = 6
  · subst h6
    simp at hu
    rw [← hu]
    exact World.cell?_setCell_same _ _ _ (h.row 6 _ rfl)
  · rw [out _ _ (.inr (by omega))]
    refine h.row j u ?_
    have hj : j < 8 := by have := (List.getElem?_eq_some_iff.1 hu).1; simpa using this
    rcases (by omega : j = 0 ∨ j = 1 ∨ j = 2 ∨ j = 3 ∨ j = 4 ∨ j = 5 ∨ j = 7) with rfl | rfl | rfl | rfl | rfl | rfl | rfl <;> exact hu
theorem Vars.put7 {w0 : World} {kd : Int} {bb : Bool} {ni : Int} {f : Nat} {tx ty : ByteArray} {ai : Option Addr} {nI ci : Nat} {af : Option Addr} {nf cf : Nat} {s6 s7 : Value} {w : World} (h : Vars w0 kd bb ni f tx ty ai nI ci af nf cf s6 s7 w) (s : Value) : Vars w0 kd bb ni f tx ty ai nI ci af nf cf s6 s (w.setCells (w0.heap.size + 1 + 1) 7 [s]) := by
  have out : ∀ c j, (c ≠ w0.heap.size + 1 + 1 ∨ j ≠ 7) → (w.setCells (w0.heap.size + 1 + 1) 7 [s]).cell? ⟨c, j, none⟩ = w.cell? ⟨c, j, none⟩ := fun c j hc => World.cell?_setCells_out _ _ _ _ _ (fun e _ => by
    have e : c = w0.heap.size + 1 + 1 := e
    show j < 7 ∨ 7 + 1 ≤ j
    omega)
  refine ⟨(out _ _ (.inl (by omega))).trans h.x6, (out _ _ (.inl (by omega))).trans h.x7, World.there_setCells h.res _ _ _, ?_, World.there_setCells h.may _ _ _, below_setCells _ _ _ _ h.bel (by omega), by rw [size_setCells]; exact h.siz⟩
  intro j u hu
  by_cases h6 : j = 7
  · subst h6
    simp at hu
    rw [← hu]
    exact World.cell?_setCell_same _ _ _ (h.row 7 _ rfl)
  · rw [out _ _ (.inr (by omega))]
    refine h.row j u ?_
    have hj : j < 8 := by have := (List.getElem?_eq_some_iff.1 hu).1; simpa using this
    rcases (by omega : j = 0 ∨ j = 1 ∨ j = 2 ∨ j = 3 ∨ j = 4 ∨ j = 5 ∨ j = 6) with rfl | rfl | rfl | rfl | rfl | rfl | rfl <;> exact hu
end Go.Proofs.YtechaplindbfoaaGreatDoor.vl
namespace Go.Proofs.YtechaplindbfoaaGreatDoor.vl
open Go.ChangeShapes Go.WideShapes Go.ChangeAt Go.RowKit
set_option linter.unusedVariables false
set_option linter.unusedSimpArgs false
theorem infoVz : ∃ i z, Tryz.prog.info? 29 = some i ∧ i.zero = some z ∧ i.size = 8 ∧ i.bytes = 112 ∧ z.cells.size = 8 := by
  have hin : (Tryz.prog.info? 29).map (fun i => (i.bytes, i.size, i.zero.map (·.cells.size))) = some (112, 8, some 8) := by kernel_rfl
  cases hq : Tryz.prog.info? 29 with
  | none => simp [hq] at hin
  | some i =>
    simp [hq] at hin
    obtain ⟨h1, h2, z, hz, h3⟩ := hin
    exact ⟨i, z, rfl, hz, h2, h1, h3⟩
theorem loadSM (w : World) (b o : Nat) (u : Value) (h : w.cell? ⟨b, o, none⟩ = some u) : (Instr.loadAt 27 (.pointer (some ⟨b, o, none⟩))).run Tryz.prog w = .ok u w := by go_simp
theorem wpO_load1 {P : Program} {o : Oper} {a : Act} {w : World} {K : Act → World → Prop} {Q : Exit → Act → World → Prop} (t : TypeId) (x : Operand) (ho : o.op = .load t x) (y v : Value) (hx : a.eval x = y) (hr : (Instr.loadAt t y).run P w = .ok v w) (h : K (a.put o.dst v) w) : o.wp P a w K Q := by
  unfold Oper.wp execOp
  simp only [ho, hx, Sem.run_bind, hr, Result.andThen_ok, Sem.run_pure]
  exact h
theorem infoMz : ∃ i z, Tryz.prog.info? 45 = some i ∧ i.zero = some z ∧ i.size = 9 ∧ i.bytes = 128 ∧ z.cells.size = 9 := by
  have hin : (Tryz.prog.info? 45).map (fun i => (i.bytes, i.size, i.zero.map (·.cells.size))) = some (128, 9, some 9) := by kernel_rfl
  cases hq : Tryz.prog.info? 45 with
  | none => simp [hq] at hin
  | some i =>
    simp [hq] at hin
    obtain ⟨h1, h2, z, hz, h3⟩ := hin
    exact ⟨i, z, rfl, hz, h2, h1, h3⟩
end Go.Proofs.YtechaplindbfoaaGreatDoor.vl
namespace Go.Proofs.YtechaplindbfoaaGreatDoor.vl
open Go.ChangeShapes Go.WideShapes Go.ChangeAt Go.RowKit
open jsn (litV litI litF jkV zrV ffB feB jkI jkF)
set_option linter.unusedVariables false
set_option linter.unusedSimpArgs false
def jkC : List Value := [.int .i64 9, .bool false, .int .i64 0, .float .f64 0, .string ⟨#[]⟩, .string ⟨#[]⟩, .slice none 0 0, .slice none 0 0]
def jmC : List Value := [.string ⟨#[255]⟩, .int .i64 0, .bool false, .int .i64 0, .float .f64 0, .string ⟨#[]⟩, .string ⟨#[]⟩, .slice none 0 0, .slice none 0 0, .string ⟨#[255]⟩, .int .i64 0, .bool false, .int .i64 0, .float .f64 0, .string ⟨#[]⟩, .string ⟨#[]⟩, .slice none 0 0, .slice none 0 0]
/-- littered's own variables -/
structure LV (w0 : World) (x6 x7 : Value) (row : List Value) (w : World) : Prop where
  i6 : w.cell? ⟨w0.heap.size, 6, none⟩ = some x6
  i7 : w.cell? ⟨w0.heap.size, 7, none⟩ = some x7
  res : w.there (w0.heap.size + 1) 0 8
  jI : w.rangeAt (w0.heap.size + 1 + 1) 0 jkC
  fI : Fz w [w0.heap.size + 1 + 1]
  jM : w.rangeAt (w0.heap.size + 1 + 1 + 1) 0 jmC
  fM : Fz w [w0.heap.size + 1 + 1 + 1]
  cel : w.rangeAt (w0.heap.size + 1 + 1 + 1 + 1) 0 row
  len : row.length = 8
  may : w.there (w0.heap.size + 1 + 1 + 1 + 1) 0 8
  bel : Below w0.heap.size w0 w
  siz : w0.heap.size + 5 ≤ w.heap.size
theorem range_below {w w' : World} {b o : Nat} {cs : List Value} {C : Nat} (h : w.rangeAt b o cs) (hb : Below C w w') (hc : b < C) : w'.rangeAt b o cs := fun j u hu => (hb.cell (p := ⟨b, o + j, none⟩) hc).trans (h j u hu)
theorem fz_below {w w' : World} {b C : Nat} (h : Fz w [b]) (hb : Below C w w') (hc : b < C) : Fz w' [b] := fun c hm j => by
  obtain rfl : c = b := by simpa using hm
  exact (hb.frozen (p := ⟨c, j, none⟩) hc).trans (h c hm j)
theorem LV.below {w0 : World} {x6 x7 : Value} {row : List Value} {w w' : World} (h : LV w0 x6 x7 row w) (hb : Below (w0.heap.size + 5) w w') : LV w0 x6 x7 row w' :=
  ⟨(hb.cell (p := ⟨w0.heap.size, 6, none⟩) (by show w0.heap.size < _; omega)).trans h.i6, (hb.cell (p := ⟨w0.heap.size, 7, none⟩) (by show w0.heap.size < _; omega)).trans h.i7, there_below h.res hb (by omega),
   range_below h.jI hb (by omega), fz_below h.fI hb (by omega), range_below h.jM hb (by omega), fz_below h.fM hb (by omega), range_below h.cel hb (by omega), h.len, there_below h.may hb (by omega), h.bel.trans (hb.mono (by omega)), Nat.le_trans h.siz hb.size⟩
theorem LV.put {w0 : World} {x6 x7 : Value} {row : List Value} {w : World} (h : LV w0 x6 x7 row w) (i : Nat) (hi : i < 8) (s : Value) : LV w0 x6 x7 (row.set i s) (w.setCells (w0.heap.size + 1 + 1 + 1 + 1) i [s]) := by
  have out : ∀ c j, (c ≠ w0.heap.size + 1 + 1 + 1 + 1 ∨ j ≠ i) → (w.setCells (w0.heap.size + 1 + 1 + 1 + 1) i [s]).cell? ⟨c, j, none⟩ = w.cell? ⟨c, j, none⟩ := fun c j hc => World.cell?_setCells_out _ _ _ _ _ (fun e _ => by
    have e : c = w0.heap.size + 1 + 1 + 1 + 1 := e
    show j < i ∨ i + 1 ≤ j
    omega)
  have hl := h.len
  refine ⟨(out _ _ (.inl (by omega))).trans h.i6, (out _ _ (.inl (by omega))).trans h.i7, World.there_setCells h.res _ _ _, fun j u hu => (out _ _ (.inl (by omega))).trans (h.jI j u hu), Fz.setCells h.fI _ _ _, fun j u hu => (out _ _ (.inl (by omega))).trans (h.jM j u hu), Fz.setCells h.fM _ _ _, ?_, by rw [List.length_set]; exact hl, World.there_setCells h.may _ _ _, below_setCells _ _ _ _ h.bel (by omega), by rw [size_setCells]; exact h.siz⟩
  intro j u hu
  by_cases h6 : j = i
  · subst h6
    rw [List.getElem?_set_self (by omega)] at hu
    rw [← Option.some.inj hu, Nat.zero_add]
    obtain ⟨x, hx⟩ : ∃ x, row[j]? = some x := ⟨row[j]'(by omega), List.getElem?_eq_getElem (by omega)⟩
    exact World.cell?_setCell_same _ _ _ (by simpa using h.cel j x hx)
  · rw [out _ _ (.inr (by omega))]
    refine h.cel j u ?_
    rw [List.getElem?_set_ne (by omega)] at hu
    exact hu
theorem LV.new (w : World) (c0 c1 c2 c3 c4 c5 c6 c7 : Value) (Z row : List Value) (hZ : Z.length = 8) (hrow : row.length = 8) :
    LV w c6 c7 row (((((w.alloc (.cells #[c0, c1, c2, c3, c4, c5, c6, c7] 29)).alloc (.cells Z.toArray 29)).alloc (.cells jkC.toArray 29)).alloc (.cells jmC.toArray 45)).alloc (.cells row.toArray 29)) ∧
    (((((w.alloc (.cells #[c0, c1, c2, c3, c4, c5, c6, c7] 29)).alloc (.cells Z.toArray 29)).alloc (.cells jkC.toArray 29)).alloc (.cells jmC.toArray 45)).alloc (.cells row.toArray 29)).rangeAt (w.heap.size + 1) 0 Z := by
  obtain ⟨w1, e1⟩ : ∃ w1, w1 = w.alloc (.cells #[c0, c1, c2, c3, c4, c5, c6, c7] 29) := ⟨_, rfl⟩
  obtain ⟨w2, e2⟩ : ∃ w2, w2 = w1.alloc (.cells Z.toArray 29) := ⟨_, rfl⟩
  obtain ⟨w3, e3⟩ : ∃ w3, w3 = w2.alloc (.cells jkC.toArray 29) := ⟨_, rfl⟩
  obtain ⟨w4, e4⟩ : ∃ w4, w4 = w3.alloc (.cells jmC.toArray 45) := ⟨_, rfl⟩
  obtain ⟨w5, e5⟩ : ∃ w5, w5 = w4.alloc (.cells row.toArray 29) := ⟨_, rfl⟩
  rw [← e1, ← e2, ← e3, ← e4, ← e5]
  have s1 : w1.heap.size = w.heap.size + 1 := by rw [e1]; simp
  have s2 : w2.heap.size = w.heap.size + 1 + 1 := by rw [e2]; simp [s1]
  have s3 : w3.heap.size = w.heap.size + 1 + 1 + 1 := by rw [e3]; simp [s2]
  have s4 : w4.heap.size = w.heap.size + 1 + 1 + 1 + 1 := by rw [e4]; simp [s3]
  have s5 : w5.heap.size = w.heap.size + 1 + 1 + 1 + 1 + 1 := by rw [e5]; simp [s4]
  have b1 : Below w.heap.size w w1 := by rw [e1]; exact (Below.refl _ _).alloc (Nat.le_refl _) _
  have b2 : Below w1.heap.size w1 w2 := by rw [e2]; exact (Below.refl _ _).alloc (Nat.le_refl _) _
  have b3 : Below w2.heap.size w2 w3 := by rw [e3]; exact (Below.refl _ _).alloc (Nat.le_refl _) _
  have b4 : Below w3.heap.size w3 w4 := by rw [e4]; exact (Below.refl _ _).alloc (Nat.le_refl _) _
  have b5 : Below w4.heap.size w4 w5 := by rw [e5]; exact (Below.refl _ _).alloc (Nat.le_refl _) _
  have b45 : Below w3.heap.size w3 w5 := b4.trans (b5.mono (by omega))
  have b35 : Below w2.heap.size w2 w5 := b3.trans (b45.mono (by omega))
  have b25 : Below w1.heap.size w1 w5 := b2.trans (b35.mono (by omega))
  have n1 : ∀ j, w1.cell? ⟨w.heap.size, j, none⟩ = (#[c0, c1, c2, c3, c4, c5, c6, c7] : Array Value)[j]? := fun j => by rw [e1]; exact World.cell?_alloc_at _ _ _ _ rfl
  refine ⟨⟨(b25.cell (p := ⟨w.heap.size, 6, none⟩) (by show w.heap.size < _; omega)).trans (n1 6), (b25.cell (p := ⟨w.heap.size, 7, none⟩) (by show w.heap.size < _; omega)).trans (n1 7), ?_, ?_, ?_, ?_, ?_, ?_, hrow, ?_, b1.trans (b25.mono (by omega)), by omega⟩, ?_⟩
  · have h : w2.there w1.heap.size 0 8 := by rw [e2]; exact there_new (by simp [hZ])
    rw [s1] at h
    exact there_below h b35 (by omega)
  · have h : w3.rangeAt (w.heap.size + 1 + 1) 0 jkC := fun j u hu => by
      rw [e3, Nat.zero_add, World.cell?_alloc_at _ _ _ _ s2.symm]
      simpa using hu
    exact range_below h b45 (by omega)
  · have h : Fz w3 [w2.heap.size] := by rw [e3]; exact Fz.new
    rw [s2] at h
    exact fz_below h b45 (by omega)
  · have h : w4.rangeAt (w.heap.size + 1 + 1 + 1) 0 jmC := fun j u hu => by
      rw [e4, Nat.zero_add, World.cell?_alloc_at _ _ _ _ s3.symm]
      simpa using hu
    exact range_below h b5 (by omega)
  · have h : Fz w4 [w3.heap.size] := by rw [e4]; exact Fz.new
    rw [s3] at h
    exact fz_below h b5 (by omega)
  · intro j u hu
    rw [e5, Nat.zero_add, World.cell?_alloc_at _ _ _ _ s4.symm]
    simpa using hu
  · have h : w5.there w4.heap.size 0 8 := by rw [e5]; exact there_new (by simp [hrow])
    rw [s4] at h
    exact h
  · have h : w2.rangeAt (w.heap.size + 1) 0 Z := fun j u hu => by
      rw [e2, Nat.zero_add, World.cell?_alloc_at _ _ _ _ s1.symm]
      simpa using hu
    exact range_below h b35 (by omega)
/-- the two lists that nobody reads -/
theorem LV.ownI {w0 : World} {x6 x7 : Value} {row : List Value} {w : World} (h : LV w0 x6 x7 row w) : OwsIn w jkI (w0.heap.size + 1 + 1) 0 1 [] := by
  unfold jkI OwsIn
  refine ⟨0, jkC, [], [], rfl, fun j u hu => by simpa using h.jI j u hu, ?_, by unfold OwsIn; exact ⟨rfl, rfl⟩, rfl⟩
  unfold jkV OwC
  exact ⟨none, 0, 0, none, 0, 0, [], [], rfl, .inl ⟨rfl, rfl, rfl, rfl⟩, .inl ⟨rfl, rfl, rfl, rfl⟩, Nat.le_refl _, Nat.le_refl _, fun _ => rfl, fun _ => rfl, by decide, by decide, Nat.zero_le _, Nat.zero_le _, Nat.zero_le _, Nat.zero_le _, rfl⟩
def zrC : List Value := [.int .i64 0, .bool false, .int .i64 0, .float .f64 0, .string ⟨#[]⟩, .string ⟨#[]⟩, .slice none 0 0, .slice none 0 0]
theorem zr_own (w : World) : OwC w zrV zrC [] := by
  unfold zrV OwC
  exact ⟨none, 0, 0, none, 0, 0, [], [], rfl, .inl ⟨rfl, rfl, rfl, rfl⟩, .inl ⟨rfl, rfl, rfl, rfl⟩, Nat.le_refl _, Nat.le_refl _, fun _ => rfl, fun _ => rfl, by decide, by decide, Nat.zero_le _, Nat.zero_le _, Nat.zero_le _, Nat.zero_le _, rfl⟩
theorem LV.ownM {w0 : World} {x6 x7 : Value} {row : List Value} {w : World} (h : LV w0 x6 x7 row w) : OwfIn w jkF (w0.heap.size + 1 + 1 + 1) 0 2 [] := by
  have hc : ∀ j u, jmC[j]? = some u → w.cell? ⟨w0.heap.size + 1 + 1 + 1, j, none⟩ = some u := fun j u hu => by simpa using h.jM j u hu
  have hz : ffB.size ≤ maxLen := by unfold maxLen; decide
  have z8 : ∀ o, (∀ j u, zrC[j]? = some u → jmC[o + j]? = some u) → Row8 w (w0.heap.size + 1 + 1 + 1) o zrC := fun o ho j u hu => hc (o + j) u (ho j u hu)
  have q1 : ∀ j u, zrC[j]? = some u → jmC[1 + j]? = some u := by
    intro j u hu
    have hj := (List.getElem?_eq_some_iff.1 hu).1
    have hj : j < 8 := hj
    rcases (by omega : j = 0 ∨ j = 1 ∨ j = 2 ∨ j = 3 ∨ j = 4 ∨ j = 5 ∨ j = 6 ∨ j = 7) with rfl | rfl | rfl | rfl | rfl | rfl | rfl | rfl <;> exact hu
  have q2 : ∀ j u, zrC[j]? = some u → jmC[10 + j]? = some u := by
    intro j u hu
    have hj := (List.getElem?_eq_some_iff.1 hu).1
    have hj : j < 8 := hj
    rcases (by omega : j = 0 ∨ j = 1 ∨ j = 2 ∨ j = 3 ∨ j = 4 ∨ j = 5 ∨ j = 6 ∨ j = 7) with rfl | rfl | rfl | rfl | rfl | rfl | rfl | rfl <;> exact hu
  unfold jkF OwfIn
  refine ⟨1, zrC, [], [], rfl, hc 0 _ rfl, hz, z8 1 q1, zr_own w, ?_, rfl⟩
  unfold OwfIn
  exact ⟨0, zrC, [], [], rfl, hc 9 _ rfl, hz, z8 10 q2, zr_own w, by unfold OwfIn; exact ⟨rfl, rfl⟩, rfl⟩
theorem LV.flat {w0 : World} {x6 x7 : Value} {kd : Int} {e : Bool} {n : Int} {f : Nat} {tx ty : ByteArray} {w : World} (h : LV w0 x6 x7 [.int .i64 kd, .bool e, .int .i64 n, .float .f64 f, .string tx, .string ty, .slice (some ⟨w0.heap.size + 1 + 1, 0, none⟩) 1 1, .slice (some ⟨w0.heap.size + 1 + 1 + 1, 0, none⟩) 2 2] w) (h1 : (Lit.int .i64 kd).wf = true) (h2 : (Lit.int .i64 n).wf = true) (h3 : tx.size ≤ maxLen) (h4 : ty.size ≤ maxLen) :
    ∃ F, OwC w (.mk kd e n f tx ty jkI jkF) [.int .i64 kd, .bool e, .int .i64 n, .float .f64 f, .string tx, .string ty, .slice (some ⟨w0.heap.size + 1 + 1, 0, none⟩) 1 1, .slice (some ⟨w0.heap.size + 1 + 1 + 1, 0, none⟩) 2 2] F ∧ F.Nodup ∧ (∀ b ∈ F, w0.heap.size ≤ b ∧ b < w.heap.size) ∧ Fz w F := by
  have hs := h.siz
  refine ⟨[w0.heap.size + 1 + 1] ++ [w0.heap.size + 1 + 1 + 1], ?_, ?_, ?_, h.fI.app h.fM⟩
  · unfold OwC
    exact ⟨_, 1, 1, _, 2, 2, _, _, rfl, .inr ⟨_, [], rfl, rfl, h.ownI⟩, .inr ⟨_, [], rfl, rfl, h.ownM⟩, Nat.le_refl _, Nat.le_refl _, fun e => (by cases e), fun e => (by cases e), h1, h2, h3, h4, by unfold maxLen; decide, by unfold maxLen; decide, rfl⟩
  · simp
  · intro b hb
    simp at hb
    omega
end Go.Proofs.YtechaplindbfoaaGreatDoor.vl
namespace Go.Proofs.YtechaplindbfoaaGreatDoor.vl
open Go.ChangeShapes Go.WideShapes Go.ChangeAt Go.RowKit
open mem
open ints (hide unhide)
set_option linter.unusedVariables false
set_option linter.unusedSimpArgs false
/-- room: some number from -1 on, no greater -/
def RoomAt (v : Vl) : Prop := ∀ (cs : List Value) (w : World) (n : Int), VlC w v cs → 0 ≤ n → n ≤ 20000 →
  Calls Tryz.prog 18 #[.agg cs.toArray, .int .i64 n] w fun e w' => ∃ r : Int, e = .returned (.int .i64 r) ∧ -1 ≤ r ∧ r ≤ n ∧ Below w.heap.size w w'
theorem storeFr (f : Nat) (a : Addr) (w : World) (m : Mode) : (store a (.float .f64 f) m).run Tryz.prog w = stored Tryz.prog w a (.float .f64 f) m := run_store _ _ _ _ _ rfl
set_option maxHeartbeats 4000000 in
set_option maxRecDepth 100000 in
theorem room_ok : ∀ v : Vl, RoomAt v := by
  refine Vl.all ?_
  intro kd bb ni f tx ty its fls ihI ihF cs w n hv n0 n1
  unfold VlC at hv
  obtain ⟨ai, nI, ci, af, nf, cf, rfl, hI, hF, hni, hnf, hai, haf, hk1, hk2, hk3, hk4, hci, hcf⟩ := hv
  have hsf := storeFr
  have hb0 : Below w.heap.size w (w.alloc (.cells #[.int .i64 kd, .bool bb, .int .i64 ni, .float .f64 f, .string tx, .string ty, .slice ai nI ci, .slice af nf cf] 29)) := (Below.refl _ _).alloc (Nat.le_refl _) _
  obtain ⟨W, eW⟩ : ∃ W, W = w.alloc (.cells #[.int .i64 kd, .bool bb, .int .i64 ni, .float .f64 f, .string tx, .string ty, .slice ai nI ci, .slice af nf cf] 29) := ⟨_, rfl⟩
  have x6 : W.cell? ⟨w.heap.size, 6, none⟩ = some (.slice ai nI ci) := by rw [eW, World.cell?_alloc_at _ _ _ _ rfl]; rfl
  have x7 : W.cell? ⟨w.heap.size, 7, none⟩ = some (.slice af nf cf) := by rw [eW, World.cell?_alloc_at _ _ _ _ rfl]; rfl
  have sW : W.heap.size = w.heap.size + 1 := by rw [eW]; simp
  rw [← eW] at hb0
  have EW := hide eW
  have HI := hide hI
  have HF := hide hF
  have bI : nI ≤ maxLen := by omega
  have bF : nf ≤ maxLen := by omega
  unfold maxLen at bI bF
  clear eW hI hF hni hnf hai haf hk1 hk2 hk3 hk4 hci hcf
  go_enter Tryz.func18, Tryz.ntmps18
  go_wp2_with fail
  rw [← unhide EW]
  clear EW
  go_loopw [1, 5] (fun vn vi wr => ∃ (k : Nat) (m : Int), k ≤ nI ∧ vi = .int .i64 k ∧ vn = .int .i64 m ∧ -1 ≤ m ∧ m ≤ n - 1 ∧ Below W.heap.size W wr) (fun _ vi _ => nI - (intOf vi).toNat)
  case atStart => exact ⟨0, n - 1, Nat.zero_le _, rfl, by go_num, by omega, Int.le_refl _, Below.refl _ _⟩
  case round =>
    obtain ⟨k, m, hk, rfl, rfl, m0, m1, hb⟩ := hrel
    have y6 : wr.cell? ⟨w.heap.size, 6, none⟩ = some (.slice ai nI ci) := (hb.cell (p := ⟨w.heap.size, 6, none⟩) (by show w.heap.size < _; omega)).trans x6
    have y7 : wr.cell? ⟨w.heap.size, 7, none⟩ = some (.slice af nf cf) := (hb.cell (p := ⟨w.heap.size, 7, none⟩) (by show w.heap.size < _; omega)).trans x7
    have rest : ∀ P : Prop, P → P := fun _ h => h
    by_cases hgo : k < nI ∧ 0 ≤ m
    · obtain ⟨hlt, mp⟩ := hgo
      have ki : (k : Int) < (nI : Int) := by omega
      obtain ⟨p, off, v, us, rfl, hg, hr, hv⟩ := VlsAt.get its _ nI (unhide HI) k hlt
      have hro := hide (ihI v (List.mem_of_getElem? hg) us)
      have hbw : Below w.heap.size w wr := hb0.trans (hb.mono (by omega))
      have hr' := hide (Row8.below hr hbw)
      have hv' := hide (VlC.below hbw v us hv)
      have iu := hide (show (Tryz.prog.info? 29).map (·.size) = some us.length by rw [hv.cells]; exact infoV)
      clear hr hv hg
      go_wp2_with (first
        | refine wpList_load_mid (by rfl) 29 _ (by rfl) p (off + k * 8) (by rfl) us _ (unhide hr') Tryz.underlying29 (by rfl) (unhide iu) ?_)
      refine ((unhide hro) wr m (unhide hv') mp (by omega)).mono ?_
      rintro e w1 ⟨r, rfl, r0, r1, b1⟩
      clear hr' hv' iu hro y6 y7
      go_wp2
      exact ⟨⟨k + 1, r, by omega, by go_num, rfl, r0, by omega, hb.trans (b1.mono hb.size)⟩, by simp only [intOf]; omega⟩
    · have hstop : ¬ ((k : Int) < (nI : Int)) ∨ ((k : Int) < (nI : Int) ∧ ¬ (0 ≤ m)) := by omega
      clear hk hgo
      rcases hstop with h | ⟨h, h'⟩
      · go_wp2_with fail
        clear y6 y7
        have hwr0 : w.heap.size + 1 ≤ wr.heap.size := by have := hb.size; omega
        go_loopw [1, 6] (fun vn vi wr' => ∃ (q : Nat) (m' : Int), q ≤ nf ∧ vi = .int .i64 q ∧ vn = .int .i64 m' ∧ -1 ≤ m' ∧ m' ≤ n - 1 ∧ Below W.heap.size W wr') (fun _ vi _ => nf - (intOf vi).toNat)
        case atStart => exact ⟨0, m, Nat.zero_le _, rfl, rfl, m0, m1, hb⟩
        case round =>
          clear hb m0 m1 h
          obtain ⟨q, m', hq, rfl, rfl, m0, m1, hb⟩ := hrel
          have y6 : wr.cell? ⟨w.heap.size, 6, none⟩ = some (.slice ai nI ci) := (hb.cell (p := ⟨w.heap.size, 6, none⟩) (by show w.heap.size < _; omega)).trans x6
          have y7 : wr.cell? ⟨w.heap.size, 7, none⟩ = some (.slice af nf cf) := (hb.cell (p := ⟨w.heap.size, 7, none⟩) (by show w.heap.size < _; omega)).trans x7
          by_cases hgo : q < nf ∧ 0 ≤ m'
          · obtain ⟨hlt, mp⟩ := hgo
            have ki : (q : Int) < (nf : Int) := by omega
            obtain ⟨p, off, nm, v, us, rfl, hg, hn0, hnz, hr, hv⟩ := FlsAt.get fls _ nf (unhide HF) q hlt
            have hro := hide (ihF (nm, v) (List.mem_of_getElem? hg) us)
            have hbw : Below w.heap.size w wr := hb0.trans (hb.mono (by omega))
            have hr' := hide (Row8.below hr hbw)
            have hv' := hide (VlC.below hbw v us hv)
            have iu := hide (show (Tryz.prog.info? 29).map (·.size) = some us.length by rw [hv.cells]; exact infoV)
            clear hr hv hg hn0
            go_wp2_with (first
              | refine wpList_load_mid (by rfl) 29 _ (by rfl) p (off + q * 9 + 1) (by rfl) us _ (unhide hr') Tryz.underlying29 (by rfl) (unhide iu) ?_)
            refine ((unhide hro) wr m' (unhide hv') mp (by omega)).mono ?_
            rintro e w1 ⟨r, rfl, r0, r1, b1⟩
            clear hr' hv' iu hro y6 y7
            go_wp2
            exact ⟨⟨q + 1, r, by omega, by go_num, rfl, r0, by omega, hb.trans (b1.mono hb.size)⟩, by simp only [intOf]; omega⟩
          · have hst2 : ¬ ((q : Int) < (nf : Int)) ∨ ((q : Int) < (nf : Int) ∧ ¬ (0 ≤ m')) := by omega
            rcases hst2 with h | ⟨h, h'⟩
            · go_wp2
              go_ret
              exact ⟨m', rfl, m0, by omega, hb0.trans (hb.mono (by omega))⟩
            · go_wp2
              go_ret
              exact ⟨m', rfl, m0, by omega, hb0.trans (hb.mono (by omega))⟩
      · go_wp2_with fail
        clear y6 y7
        have hwr0 : w.heap.size + 1 ≤ wr.heap.size := by have := hb.size; omega
        go_loopw [1, 6] (fun vn vi wr' => ∃ (q : Nat) (m' : Int), q ≤ nf ∧ vi = .int .i64 q ∧ vn = .int .i64 m' ∧ -1 ≤ m' ∧ m' ≤ n - 1 ∧ Below W.heap.size W wr') (fun _ vi _ => nf - (intOf vi).toNat)
        case atStart => exact ⟨0, m, Nat.zero_le _, rfl, rfl, m0, m1, hb⟩
        case round =>
          clear hb m0 m1 h h'
          obtain ⟨q, m', hq, rfl, rfl, m0, m1, hb⟩ := hrel
          have y6 : wr.cell? ⟨w.heap.size, 6, none⟩ = some (.slice ai nI ci) := (hb.cell (p := ⟨w.heap.size, 6, none⟩) (by show w.heap.size < _; omega)).trans x6
          have y7 : wr.cell? ⟨w.heap.size, 7, none⟩ = some (.slice af nf cf) := (hb.cell (p := ⟨w.heap.size, 7, none⟩) (by show w.heap.size < _; omega)).trans x7
          by_cases hgo : q < nf ∧ 0 ≤ m'
          · obtain ⟨hlt, mp⟩ := hgo
            have ki : (q : Int) < (nf : Int) := by omega
            obtain ⟨p, off, nm, v, us, rfl, hg, hn0, hnz, hr, hv⟩ := FlsAt.get fls _ nf (unhide HF) q hlt
            have hro := hide (ihF (nm, v) (List.mem_of_getElem? hg) us)
            have hbw : Below w.heap.size w wr := hb0.trans (hb.mono (by omega))
            have hr' := hide (Row8.below hr hbw)
            have hv' := hide (VlC.below hbw v us hv)
            have iu := hide (show (Tryz.prog.info? 29).map (·.size) = some us.length by rw [hv.cells]; exact infoV)
            clear hr hv hg hn0
            go_wp2_with (first
              | refine wpList_load_mid (by rfl) 29 _ (by rfl) p (off + q * 9 + 1) (by rfl) us _ (unhide hr') Tryz.underlying29 (by rfl) (unhide iu) ?_)
            refine ((unhide hro) wr m' (unhide hv') mp (by omega)).mono ?_
            rintro e w1 ⟨r, rfl, r0, r1, b1⟩
            clear hr' hv' iu hro y6 y7
            go_wp2
            exact ⟨⟨q + 1, r, by omega, by go_num, rfl, r0, by omega, hb.trans (b1.mono hb.size)⟩, by simp only [intOf]; omega⟩
          · have hst2 : ¬ ((q : Int) < (nf : Int)) ∨ ((q : Int) < (nf : Int) ∧ ¬ (0 ≤ m')) := by omega
            rcases hst2 with h | ⟨h, h'⟩
            · go_wp2
              go_ret
              exact ⟨m', rfl, m0, by omega, hb0.trans (hb.mono (by omega))⟩
            · go_wp2
              go_ret
              exact ⟨m', rfl, m0, by omega, hb0.trans (hb.mono (by omega))⟩
end Go.Proofs.YtechaplindbfoaaGreatDoor.vl
namespace Go.Proofs.YtechaplindbfoaaGreatDoor.vl
open Go.ChangeShapes Go.WideShapes Go.ChangeAt Go.RowKit
open mem
open ints (hide unhide)
open jsn (litV litI litF jkV zrV ffB feB jkI jkF litI_len litF_len litI_at litF_at wt_pos)
set_option linter.unusedVariables false
set_option linter.unusedSimpArgs false
/-- littered: the value in new lists -/
def LitAt (v : Vl) : Prop := ∀ (N : Int) (cs : List Value) (w : World), VlC w v cs → -1000 ≤ N → N + wtV v ≤ 549755813888 →
  Calls Tryz.prog 19 #[.agg cs.toArray, .int .i64 N] w fun e w' => ∃ (ds : List Value) (F : List Nat), e = .returned (.agg ds.toArray) ∧ OwC w' (litV N v) ds F ∧ F.Nodup ∧ (∀ b ∈ F, w.heap.size ≤ b ∧ b < w'.heap.size) ∧ Below w.heap.size w w' ∧ Fz w' F
theorem wf_n {N : Int} (h0 : -1000 ≤ N) (h1 : N ≤ 1099511627776) : (Lit.int .i64 N).wf = true := by
  simp [Lit.wf, IntKind.min, IntKind.max, IntKind.signed, IntKind.bits]; omega
set_option maxHeartbeats 6000000 in
set_option maxRecDepth 6000 in
theorem lit_flat (kd : Int) (bb : Bool) (ni : Int) (f : Nat) (tx ty : ByteArray) (its : Vls) (fls : Fls) (h5 : ¬ kd = 5) (h6 : ¬ kd = 6) : LitAt (.mk kd bb ni f tx ty its fls) := by
  intro N cs w hv n0 n1
  have hwp := wt_pos (.mk kd bb ni f tx ty its fls)
  have hN := wf_n n0 (by omega)
  unfold VlC at hv
  obtain ⟨ai, nI, ci, af, nf, cf, rfl, -, -, -, -, -, -, hk1, hk2, hk3, -, -, -⟩ := hv
  have hsf := storeFr
  have zf : ffB.size ≤ maxLen := by unfold maxLen; decide
  have ze : feB.size ≤ maxLen := by unfold maxLen; decide
  have i8 : (Tryz.prog.info? 29).map (·.size) = some 8 := infoV
  obtain ⟨B, hB⟩ : ∃ B : Bool, B = (Int.tmod N 2 == 0) := ⟨_, rfl⟩
  have hB2 : decide (Int.tmod N 2 = 0) = B := by rw [hB]; cases h : (Int.tmod N 2 == 0) <;> simp_all
  have HB := hide hB
  clear hB
  have nI0 : -9223372036854775808 ≤ N := by omega
  have nI1 : N ≤ 9223372036854775807 := by omega
  by_cases h1 : kd = 1
  · subst h1
    have L := hide (LV.new w (.int .i64 1) (.bool bb) (.int .i64 ni) (.float .f64 f) (.string tx) (.string ty) (.slice ai nI ci) (.slice af nf cf) [.int .i64 1, .bool bb, .int .i64 N, .float .f64 4602678819172646912, .string ⟨#[255]⟩, .string ⟨#[254]⟩, .slice (some ⟨w.heap.size + 1 + 1, 0, none⟩) 1 1, .slice (some ⟨w.heap.size + 1 + 1 + 1, 0, none⟩) 2 2] [.int .i64 1, .bool bb, .int .i64 N, .float .f64 4602678819172646912, .string ⟨#[255]⟩, .string ⟨#[254]⟩, .slice (some ⟨w.heap.size + 1 + 1, 0, none⟩) 1 1, .slice (some ⟨w.heap.size + 1 + 1 + 1, 0, none⟩) 2 2] rfl rfl)
    go_enter Tryz.func19, Tryz.ntmps19
    go_wp2
    have L := unhide L
    refine bodyPost_ret (rgn.result_row rfl _ _ (w.heap.size + 1) 0 [.int .i64 1, .bool bb, .int .i64 N, .float .f64 4602678819172646912, .string ⟨#[255]⟩, .string ⟨#[254]⟩, .slice (some ⟨w.heap.size + 1 + 1, 0, none⟩) 1 1, .slice (some ⟨w.heap.size + 1 + 1 + 1, 0, none⟩) 2 2] _ rfl L.2 Tryz.underlying29 rfl (by show _ = some 8; exact i8)) rfl ?_
    obtain ⟨F, o1, o2, o3, o4⟩ := L.1.flat hk1 hN zf ze
    refine ⟨_, F, rfl, ?_, o2, o3, L.1.bel, o4⟩
    rw [litV, hB2, unhide HB]
    simp only [show ¬ ((1 : Int) = 2) by decide, show ¬ ((1 : Int) = 3) by decide, show ¬ ((1 : Int) = 4) by decide, show ¬ ((1 : Int) = 5) by decide, show ¬ ((1 : Int) = 6) by decide, if_true, if_false]
    exact o1
  by_cases h2 : kd = 2
  · subst h2
    have L := hide (LV.new w (.int .i64 2) (.bool bb) (.int .i64 ni) (.float .f64 f) (.string tx) (.string ty) (.slice ai nI ci) (.slice af nf cf) [.int .i64 2, .bool (Int.tmod N 2 == 0), .int .i64 ni, .float .f64 4602678819172646912, .string ⟨#[255]⟩, .string ⟨#[254]⟩, .slice (some ⟨w.heap.size + 1 + 1, 0, none⟩) 1 1, .slice (some ⟨w.heap.size + 1 + 1 + 1, 0, none⟩) 2 2] [.int .i64 2, .bool (Int.tmod N 2 == 0), .int .i64 ni, .float .f64 4602678819172646912, .string ⟨#[255]⟩, .string ⟨#[254]⟩, .slice (some ⟨w.heap.size + 1 + 1, 0, none⟩) 1 1, .slice (some ⟨w.heap.size + 1 + 1 + 1, 0, none⟩) 2 2] rfl rfl)
    go_enter Tryz.func19, Tryz.ntmps19
    go_wp2
    have L := unhide L
    refine bodyPost_ret (rgn.result_row rfl _ _ (w.heap.size + 1) 0 [.int .i64 2, .bool (Int.tmod N 2 == 0), .int .i64 ni, .float .f64 4602678819172646912, .string ⟨#[255]⟩, .string ⟨#[254]⟩, .slice (some ⟨w.heap.size + 1 + 1, 0, none⟩) 1 1, .slice (some ⟨w.heap.size + 1 + 1 + 1, 0, none⟩) 2 2] _ rfl L.2 Tryz.underlying29 rfl (by show _ = some 8; exact i8)) rfl ?_
    obtain ⟨F, o1, o2, o3, o4⟩ := L.1.flat hk1 hk2 zf ze
    refine ⟨_, F, rfl, ?_, o2, o3, L.1.bel, o4⟩
    rw [litV, hB2, unhide HB]
    simp only [show ¬ ((2 : Int) = 1) by decide, show ¬ ((2 : Int) = 3) by decide, show ¬ ((2 : Int) = 4) by decide, show ¬ ((2 : Int) = 5) by decide, show ¬ ((2 : Int) = 6) by decide, if_true, if_false]
    exact o1
  by_cases h3 : kd = 3
  · subst h3
    have L := hide (LV.new w (.int .i64 3) (.bool bb) (.int .i64 ni) (.float .f64 f) (.string tx) (.string ty) (.slice ai nI ci) (.slice af nf cf) [.int .i64 3, .bool (Int.tmod N 2 == 0), .int .i64 N, .float .f64 f, .string ⟨#[255]⟩, .string ⟨#[254]⟩, .slice (some ⟨w.heap.size + 1 + 1, 0, none⟩) 1 1, .slice (some ⟨w.heap.size + 1 + 1 + 1, 0, none⟩) 2 2] [.int .i64 3, .bool (Int.tmod N 2 == 0), .int .i64 N, .float .f64 f, .string ⟨#[255]⟩, .string ⟨#[254]⟩, .slice (some ⟨w.heap.size + 1 + 1, 0, none⟩) 1 1, .slice (some ⟨w.heap.size + 1 + 1 + 1, 0, none⟩) 2 2] rfl rfl)
    go_enter Tryz.func19, Tryz.ntmps19
    go_wp2
    have L := unhide L
    refine bodyPost_ret (rgn.result_row rfl _ _ (w.heap.size + 1) 0 [.int .i64 3, .bool (Int.tmod N 2 == 0), .int .i64 N, .float .f64 f, .string ⟨#[255]⟩, .string ⟨#[254]⟩, .slice (some ⟨w.heap.size + 1 + 1, 0, none⟩) 1 1, .slice (some ⟨w.heap.size + 1 + 1 + 1, 0, none⟩) 2 2] _ rfl L.2 Tryz.underlying29 rfl (by show _ = some 8; exact i8)) rfl ?_
    obtain ⟨F, o1, o2, o3, o4⟩ := L.1.flat hk1 hN zf ze
    refine ⟨_, F, rfl, ?_, o2, o3, L.1.bel, o4⟩
    rw [litV, hB2, unhide HB]
    simp only [show ¬ ((3 : Int) = 1) by decide, show ¬ ((3 : Int) = 2) by decide, show ¬ ((3 : Int) = 4) by decide, show ¬ ((3 : Int) = 5) by decide, show ¬ ((3 : Int) = 6) by decide, if_true, if_false]
    exact o1
  by_cases h4 : kd = 4
  · subst h4
    have L := hide (LV.new w (.int .i64 4) (.bool bb) (.int .i64 ni) (.float .f64 f) (.string tx) (.string ty) (.slice ai nI ci) (.slice af nf cf) [.int .i64 4, .bool (Int.tmod N 2 == 0), .int .i64 N, .float .f64 4602678819172646912, .string tx, .string ⟨#[254]⟩, .slice (some ⟨w.heap.size + 1 + 1, 0, none⟩) 1 1, .slice (some ⟨w.heap.size + 1 + 1 + 1, 0, none⟩) 2 2] [.int .i64 4, .bool (Int.tmod N 2 == 0), .int .i64 N, .float .f64 4602678819172646912, .string tx, .string ⟨#[254]⟩, .slice (some ⟨w.heap.size + 1 + 1, 0, none⟩) 1 1, .slice (some ⟨w.heap.size + 1 + 1 + 1, 0, none⟩) 2 2] rfl rfl)
    go_enter Tryz.func19, Tryz.ntmps19
    go_wp2
    have L := unhide L
    refine bodyPost_ret (rgn.result_row rfl _ _ (w.heap.size + 1) 0 [.int .i64 4, .bool (Int.tmod N 2 == 0), .int .i64 N, .float .f64 4602678819172646912, .string tx, .string ⟨#[254]⟩, .slice (some ⟨w.heap.size + 1 + 1, 0, none⟩) 1 1, .slice (some ⟨w.heap.size + 1 + 1 + 1, 0, none⟩) 2 2] _ rfl L.2 Tryz.underlying29 rfl (by show _ = some 8; exact i8)) rfl ?_
    obtain ⟨F, o1, o2, o3, o4⟩ := L.1.flat hk1 hN hk3 ze
    refine ⟨_, F, rfl, ?_, o2, o3, L.1.bel, o4⟩
    rw [litV, hB2, unhide HB]
    simp only [show ¬ ((4 : Int) = 1) by decide, show ¬ ((4 : Int) = 2) by decide, show ¬ ((4 : Int) = 3) by decide, show ¬ ((4 : Int) = 5) by decide, show ¬ ((4 : Int) = 6) by decide, if_true, if_false]
    exact o1
  have L := hide (LV.new w (.int .i64 kd) (.bool bb) (.int .i64 ni) (.float .f64 f) (.string tx) (.string ty) (.slice ai nI ci) (.slice af nf cf) [.int .i64 kd, .bool (Int.tmod N 2 == 0), .int .i64 N, .float .f64 4602678819172646912, .string ⟨#[255]⟩, .string ⟨#[254]⟩, .slice (some ⟨w.heap.size + 1 + 1, 0, none⟩) 1 1, .slice (some ⟨w.heap.size + 1 + 1 + 1, 0, none⟩) 2 2] [.int .i64 kd, .bool (Int.tmod N 2 == 0), .int .i64 N, .float .f64 4602678819172646912, .string ⟨#[255]⟩, .string ⟨#[254]⟩, .slice (some ⟨w.heap.size + 1 + 1, 0, none⟩) 1 1, .slice (some ⟨w.heap.size + 1 + 1 + 1, 0, none⟩) 2 2] rfl rfl)
  go_enter Tryz.func19, Tryz.ntmps19
  go_wp2
  have L := unhide L
  refine bodyPost_ret (rgn.result_row rfl _ _ (w.heap.size + 1) 0 [.int .i64 kd, .bool (Int.tmod N 2 == 0), .int .i64 N, .float .f64 4602678819172646912, .string ⟨#[255]⟩, .string ⟨#[254]⟩, .slice (some ⟨w.heap.size + 1 + 1, 0, none⟩) 1 1, .slice (some ⟨w.heap.size + 1 + 1 + 1, 0, none⟩) 2 2] _ rfl L.2 Tryz.underlying29 rfl (by show _ = some 8; exact i8)) rfl ?_
  obtain ⟨F, o1, o2, o3, o4⟩ := L.1.flat hk1 hN zf ze
  refine ⟨_, F, rfl, ?_, o2, o3, L.1.bel, o4⟩
  rw [litV, hB2, unhide HB]
  simp only [h1, h2, h3, h4, h5, h6, if_false]
  exact o1
end Go.Proofs.YtechaplindbfoaaGreatDoor.vl
namespace Go.Proofs.YtechaplindbfoaaGreatDoor.vl
open Go.ChangeShapes Go.WideShapes Go.ChangeAt Go.RowKit
open mem
open ints (hide unhide)
open jsn (litV litI litF jkV zrV ffB feB jkI jkF litI_len litF_len litI_at litF_at wt_pos)
set_option linter.unusedVariables false
set_option linter.unusedSimpArgs false
theorem take_ge {α : Type} (f : α → Nat) (hf : ∀ x, 1 ≤ f x) : ∀ (l : List α), l.length ≤ (l.map f).sum
  | [] => by simp
  | x :: r => by
    have h1 := take_ge f hf r
    have h2 := hf x
    rw [List.map_cons, List.sum_cons, List.length_cons]
    omega
theorem tmod_wrap (N : Int) : decide (Int.tmod N 2 = 0) = (Int.tmod N 2 == 0) := by cases h : (Int.tmod N 2 == 0) <;> simp_all
set_option maxHeartbeats 6000000 in
set_option maxRecDepth 6000 in
theorem lit_list (bb : Bool) (ni : Int) (f : Nat) (tx ty : ByteArray) (its : Vls) (fls : Fls) (ihI : ∀ v ∈ its.list, LitAt v) : LitAt (.mk 5 bb ni f tx ty its fls) := by
  intro N cs w hv n0 n1
  have hN := wf_n n0 (by have := wt_pos (.mk 5 bb ni f tx ty its fls); omega)
  rw [wtV] at n1
  unfold VlC at hv
  obtain ⟨ai, nI, ci, af, nf, cf, rfl, hI, -, hni, -, -, -, hk1, -, -, -, hci, -⟩ := hv
  have hlI := VlsAt.len its _ _ hI
  have hlL := litI_len its N
  have hsf := storeFr
  have hwI := jsn.wtI_sum its
  have bI : nI ≤ 1099511627776 + 1000 := by
    have := take_ge wtV wt_pos its.list
    rw [← hwI, hlI] at this
    omega
  obtain ⟨B, hB⟩ : ∃ B : Bool, B = (Int.tmod N 2 == 0) := ⟨_, rfl⟩
  obtain ⟨W, eW⟩ : ∃ W, W = (((((w.alloc (.cells #[.int .i64 5, .bool bb, .int .i64 ni, .float .f64 f, .string tx, .string ty, .slice ai nI ci, .slice af nf cf] 29)).alloc (.cells #[.int .i64 0, .bool false, .int .i64 0, .float .f64 0, .string { data := #[] }, .string { data := #[] }, .slice none 0 0, .slice none 0 0] 29)).alloc (.cells jkC.toArray 29)).alloc (.cells jmC.toArray 45)).alloc (.cells ([.int .i64 5, .bool B, .int .i64 N, .float .f64 4602678819172646912, .string ⟨#[255]⟩, .string ⟨#[254]⟩, .slice none 0 0, .slice (some ⟨w.heap.size + 1 + 1 + 1, 0, none⟩) 2 2] : List Value).toArray 29)) := ⟨_, rfl⟩
  have hV0 : LV w (.slice ai nI ci) (.slice af nf cf) [.int .i64 5, .bool B, .int .i64 N, .float .f64 4602678819172646912, .string ⟨#[255]⟩, .string ⟨#[254]⟩, .slice none 0 0, .slice (some ⟨w.heap.size + 1 + 1 + 1, 0, none⟩) 2 2] W := by
    rw [eW]
    exact (LV.new w _ _ _ _ _ _ _ _ (#[.int .i64 0, .bool false, .int .i64 0, .float .f64 0, .string { data := #[] }, .string { data := #[] }, .slice none 0 0, .slice none 0 0] : Array Value).toList _ rfl rfl).1
  have EW := hide (show W = (((((w.alloc (.cells #[.int .i64 5, .bool bb, .int .i64 ni, .float .f64 f, .string tx, .string ty, .slice ai nI ci, .slice af nf cf] 29)).alloc (.cells #[.int .i64 0, .bool false, .int .i64 0, .float .f64 0, .string { data := #[] }, .string { data := #[] }, .slice none 0 0, .slice none 0 0] 29)).alloc (.cells #[.int .i64 9, .bool false, .int .i64 0, .float .f64 0, .string { data := #[] }, .string { data := #[] }, .slice none 0 0, .slice none 0 0] 29)).alloc (.cells #[.string { data := #[255] }, .int .i64 0, .bool false, .int .i64 0, .float .f64 0, .string { data := #[] }, .string { data := #[] }, .slice none 0 0, .slice none 0 0, .string { data := #[255] }, .int .i64 0, .bool false, .int .i64 0, .float .f64 0, .string { data := #[] }, .string { data := #[] }, .slice none 0 0, .slice none 0 0] 45)).alloc (.cells #[.int .i64 5, .bool (Int.tmod N 2 == 0), .int .i64 N, .float .f64 4602678819172646912, .string { data := #[255] }, .string { data := #[254] }, .slice none 0 0, .slice (some ⟨w.heap.size + 1 + 1 + 1, 0, none⟩) 2 2] 29)) from by rw [eW, hB]; rfl)
  have HB := hide hB
  have HI := hide (And.intro hI (And.intro hlI hlL))
  clear eW hI hlI hlL hB hni hci
  have nI0 : -9223372036854775808 ≤ N := by omega
  have nI1 : N ≤ 9223372036854775807 := by omega
  go_enter Tryz.func19, Tryz.ntmps19
  go_wp2_with fail
  rw [← unhide EW]
  clear EW
  go_loopw [6] (fun vi wr => ∃ (k : Nat) (sl : Value) (G : List Nat), k ≤ nI ∧ vi = .int .i64 k ∧ Hid (LV w (.slice ai nI ci) (.slice af nf cf) [.int .i64 5, .bool B, .int .i64 N, .float .f64 4602678819172646912, .string ⟨#[255]⟩, .string ⟨#[254]⟩, sl, .slice (some ⟨w.heap.size + 1 + 1 + 1, 0, none⟩) 2 2] wr) ∧ Hid (Grow OwC 29 8 wr (w.heap.size + 5) ((litI N its).list.take k) sl G)) (fun vi _ => nI - (intOf vi).toNat)
  case atStart => exact ⟨0, .slice none 0 0, [], Nat.zero_le _, rfl, hide hV0, hide (by rw [List.take_zero]; exact Grow.nil)⟩
  case round =>
    obtain ⟨k, sl, G, hk, rfl, hV, hG⟩ := hrel
    have x6 := (unhide hV).i6
    by_cases hlt : k < nI
    · have ki : (k : Int) < (nI : Int) := by omega
      obtain ⟨p, off, v, us, rfl, hg, hr, hv⟩ := VlsAt.get its _ nI (unhide HI).1 k hlt
      have hsum := jsn.sum_snoc wtV its.list k v hg
      have hge := take_ge wtV wt_pos (its.list.take k)
      rw [List.length_take, (unhide HI).2.1, Nat.min_eq_left hk] at hge
      have hcop := hide (fun W' hv' => ihI v (List.mem_of_getElem? hg) (N + k) us W' hv' (by omega) (by omega))
      have hr' := hide (Row8.below hr (unhide hV).bel)
      have hv' := hide (VlC.below (unhide hV).bel v us hv)
      have iu := hide (show (Tryz.prog.info? 29).map (·.size) = some us.length by rw [hv.cells]; exact infoV)
      have Hg := hide (litI_at its N k v hg)
      have kb : N + (k : Int) ≤ 9223372036854775807 := by omega
      have ka : -9223372036854775808 ≤ N + (k : Int) := by omega
      clear hr hv hg hsum hge
      go_wp2_with (first
        | refine wpList_load_mid (by rfl) 29 _ (by rfl) p (off + k * 8) (by rfl) us _ (unhide hr') Tryz.underlying29 (by rfl) (unhide iu) ?_)
      refine ((unhide hcop) wr (unhide hv')).mono ?_
      generalize litV (N + k) v = v2 at *
      rintro e w1 ⟨ds, F, rfl, hO1, hnd1, hF1, b1, z1⟩
      obtain ⟨V, eV⟩ : ∃ V, V = (w1.alloc (.cells #[.int .i64 0, .bool false, .int .i64 0, .float .f64 0, .string { data := #[] }, .string { data := #[] }, .slice none 0 0, .slice none 0 0] 29)).setCells w1.heap.size 0 ds := ⟨_, rfl⟩
      have d8 := (OwC.read v2 ds F hO1).cells
      have d1 := (OwC.read v2 ds F hO1).one
      have th : (w1.alloc (.cells #[.int .i64 0, .bool false, .int .i64 0, .float .f64 0, .string { data := #[] }, .string { data := #[] }, .slice none 0 0, .slice none 0 0] 29)).there w1.heap.size 0 ds.toArray.size := there_new (by simp [d8])
      have b2 : Below w1.heap.size w1 V := by rw [eV]; exact below_setCells _ _ _ _ ((Below.refl _ _).alloc (Nat.le_refl _) _) (Nat.le_refl _)
      have hrV : V.rangeAt w1.heap.size 0 ds := by rw [eV]; exact World.rangeAt_setCells_same _ _ _ _ (by simpa using th)
      have s1 := b1.size
      have s2 := b2.size
      have sV := (unhide hV).siz
      have V2 := ((unhide hV).below (b1.mono sV)).below (b2.mono (by omega))
      have G2 := ((unhide hG).below agV b1).below agV b2
      have O2 : OwC V v2 ds F := OwC.agree v2 ds F (Agree.of_below b2 (fun b hb => (hF1 b hb).2)) hO1
      have z2 := z1.below b2 (fun b hb => (hF1 b hb).2)
      have hown := fun b (hb : sl.ownBlock = some b) => (let ⟨xss, hr, _⟩ := (unhide hG).row; (hr.lt b hb).2)
      have hr2 : ∀ b ∈ F, w.heap.size + 5 ≤ b ∧ b < V.heap.size ∧ b ∉ G ∧ sl.ownBlock ≠ some b := fun b hb => by
        have h1 := hF1 b hb
        refine ⟨by omega, by omega, fun h => ?_, fun h => ?_⟩
        · have := ((unhide hG).rng b h).2; omega
        · have := hown b h; omega
      have c6 : V.cell? ⟨w.heap.size + 1 + 1 + 1 + 1, 6, none⟩ = some sl := V2.cel 6 _ rfl
      have hlen : ((litI N its).list.take k).length = k := by rw [List.length_take, (unhide HI).2.2, (unhide HI).2.1]; omega
      obtain ⟨i0, z0', hi0, hz0, hs0, hb0, hc0⟩ := infoVz
      have i8 : (Tryz.prog.info? 29).map (·.size) = some ds.toArray.size := by simp [d8, infoV]
      have i8' : (Tryz.prog.info? 29).map (·.size) = some ds.length := by rw [d8]; exact infoV
      have hone : ∀ u ∈ ds, u.oneCell' = true := fun u hu => (Array.all_eq_true_iff_forall_mem.1 d1) u (by simpa using hu)
      have hby : (((litI N its).list.take k).length + 1) * 112 ≤ 140737488355328 := by rw [hlen]; omega
      have hml : ((litI N its).list.take k).length + 1 ≤ maxLen := by rw [hlen]; unfold maxLen; omega
      have hbd := buildV (OwC.read v2 ds F hO1)
      have hBV : w.heap.size + 5 ≤ V.heap.size := by omega
      have A := hide (And.intro th (And.intro hrV (And.intro i8 (And.intro i8' (And.intro hone (And.intro hby (And.intro hml hbd)))))))
      have C := hide (And.intro hi0 (And.intro hz0 (And.intro hs0 (And.intro hb0 hc0))))
      have D := hide (And.intro V2 (And.intro G2 (And.intro O2 (And.intro z2 (And.intro hr2 hnd1)))))
      have EV := hide eV
      have EL := hide hlen
      clear th hrV i8 i8' hone hby hml hbd hi0 hz0 hs0 hb0 hc0 V2 G2 O2 z2 hr2 hnd1 eV hO1 d8 hF1 z1 hown hlen x6 hr' hv' iu hcop b1 b2
      have dl : ds.length = 8 := by have := (unhide A).2.2.2.1; rw [infoV] at this; exact (Option.some.inj this).symm
      have DL := hide dl
      clear dl
      go_wp2_with (first
        | (refine wpList_store_mid (by rfl) 29 _ _ (by rfl) w1.heap.size 0 ds.toArray (by rfl) (by rfl) (unhide A).1 (unhide A).2.2.1 d1 ?_; rw [show (w1.alloc (.cells #[.int .i64 0, .bool false, .int .i64 0, .float .f64 0, .string { data := #[] }, .string { data := #[] }, .slice none 0 0, .slice none 0 0] 29)).setCells w1.heap.size 0 ds.toArray.toList = V from (unhide EV).symm])
        | refine wpList_load_mid (by rfl) 29 _ (by rfl) w1.heap.size 0 (by rfl) ds _ (unhide A).2.1 Tryz.underlying29 (by rfl) (unhide A).2.2.2.1 ?_
        | refine wpList_buildOne (by rfl) 22 _ (by rfl) (.agg ds.toArray) _ (by rfl) ((unhide A).2.2.2.2.2.2.2 V) ?_
        | (at_builtin; refine wp_grow agV (by rfl) _ _ (by rfl) Tryz.underlying22 (unhide C).1 (unhide C).2.1 (unhide C).2.2.1 (unhide C).2.2.2.1 (unhide C).2.2.2.2 (by omega) (w.heap.size + 5) ((litI N its).list.take k) sl G (by rfl) (unhide D).2.1 v2 ds F (unhide D).2.2.1 (unhide DL) (unhide A).2.2.2.2.1 (unhide D).2.2.2.2.2 (unhide D).2.2.2.2.1 (unhide D).2.2.2.1 V.heap.size rfl (by rfl) (unhide A).2.2.2.2.2.1 (unhide A).2.2.2.2.2.2.1 hBV ?_; intro sl' w4 g4 b4; obtain ⟨aj, nj, cj, rfl⟩ := g4.form; have V4 := (unhide D).1.below b4; have e6 : w4.cell? ⟨w.heap.size + 1 + 1 + 1 + 1, 6, none⟩ = some sl := V4.cel 6 _ rfl; have f6 : w4.frozen? ⟨w.heap.size + 1 + 1 + 1 + 1, 6, none⟩ = false := (V4.may 6 (by omega)).2; have HV4 := hide V4; have HG4 := hide g4; clear V4 g4))
      refine ⟨⟨k + 1, .slice aj nj cj, G ++ F, by omega, by go_num, hide ((unhide HV4).put 6 (by omega) _), hide ?_⟩, by simp only [intOf]; omega⟩
      rw [List.take_add_one, unhide Hg]
      exact Grow.setCells agV (unhide HG4) (w.heap.size + 1 + 1 + 1 + 1) 6 [.slice aj nj cj] (by omega)
    · obtain rfl : k = nI := by omega
      have hG' := hide (show Grow OwC 29 8 wr (w.heap.size + 5) (litI N its).list sl G by have := unhide hG; rwa [List.take_of_length_le (by rw [(unhide HI).2.2, (unhide HI).2.1]; exact Nat.le_refl _)] at this)
      clear hG
      obtain ⟨L, eL⟩ : ∃ L : List Value, L = [.int .i64 5, .bool B, .int .i64 N, .float .f64 4602678819172646912, .string ⟨#[255]⟩, .string ⟨#[254]⟩, sl, .slice (some ⟨w.heap.size + 1 + 1 + 1, 0, none⟩) 2 2] := ⟨_, rfl⟩
      have hrL : wr.rangeAt (w.heap.size + 1 + 1 + 1 + 1) 0 L := by rw [eL]; exact (unhide hV).cel
      have hL8 : L.length = 8 := by rw [eL]; rfl
      obtain ⟨aj, nj, cj, rfl⟩ := (unhide hG').form
      have ho8 : L.toArray.all (·.oneCell') = true := by rw [eL]; simp [Value.oneCell']
      have iL : (Tryz.prog.info? 29).map (·.size) = some L.length := by rw [hL8]; exact infoV
      have iL' : (Tryz.prog.info? 29).map (·.size) = some L.toArray.size := by simp [hL8, infoV]
      have hT : wr.there (w.heap.size + 1) 0 L.toArray.size := by rw [show L.toArray.size = 8 by simp [hL8]]; exact (unhide hV).res
      have A := hide (And.intro hrL (And.intro iL (And.intro iL' (And.intro hT (And.intro hL8 eL)))))
      clear hrL iL iL' hT hL8 eL
      go_wp2_with (first
        | refine wpList_load_mid (by rfl) 29 _ (by rfl) (w.heap.size + 1 + 1 + 1 + 1) 0 (by rfl) L _ (unhide A).1 Tryz.underlying29 (by rfl) (unhide A).2.1 ?_
        | refine wpList_store_mid (by rfl) 29 _ _ (by rfl) (w.heap.size + 1) 0 L.toArray (by rfl) (by rfl) (unhide A).2.2.2.1 (unhide A).2.2.1 ho8 ?_)
      obtain ⟨hrL, iL, iL', hT, hL8, eL⟩ := unhide A
      have V9 := unhide hV
      have hs9 := V9.siz
      have hr9 : (wr.setCells (w.heap.size + 1) 0 L).rangeAt (w.heap.size + 1) 0 L := World.rangeAt_setCells_same _ _ _ _ hT
      refine bodyPost_ret (rgn.result_row rfl _ _ (w.heap.size + 1) 0 L _ rfl hr9 Tryz.underlying29 rfl iL) rfl ?_
      have G9 := Grow.setCells agV (unhide hG') (w.heap.size + 1) 0 L (by omega)
      obtain ⟨aj', cj', Fi, e6, hOI, ndI, rnI, fzI, q1, q2, q3⟩ := G9.parts
      simp only [Value.slice.injEq] at e6
      obtain ⟨rfl, rfl, rfl⟩ := e6
      have hsz9 := size_setCells (w.heap.size + 1) L 0 wr
      have hlI := (unhide HI).2.1
      have hlL := (unhide HI).2.2
      have hM9 : OwfIn (wr.setCells (w.heap.size + 1) 0 L) jkF (w.heap.size + 1 + 1 + 1) 0 2 [] := OwfIn.agree jkF _ _ _ _ (agree_setCells wr (by simp)) V9.ownM
      have fz9 : Fz (wr.setCells (w.heap.size + 1) 0 L) [w.heap.size + 1 + 1 + 1] := Fz.setCells V9.fM _ _ _
      rw [hlL] at eL q1 hOI
      refine ⟨L, rfl, Fi ++ [w.heap.size + 1 + 1 + 1], ?_, ?_, ?_, below_setCells _ _ _ _ V9.bel (by omega), fzI.app fz9⟩
      · rw [litV, tmod_wrap, ← unhide HB]
        simp only [show ¬ ((5 : Int) = 1) by decide, show ¬ ((5 : Int) = 2) by decide, show ¬ ((5 : Int) = 3) by decide, show ¬ ((5 : Int) = 4) by decide, show ¬ ((5 : Int) = 6) by decide, if_true, if_false]
        unfold OwC
        refine ⟨_, _, _, _, 2, 2, Fi, [w.heap.size + 1 + 1 + 1], eL, ?_, .inr ⟨_, [], rfl, rfl, hM9⟩, q1, Nat.le_refl _, q2, fun e => (by cases e), hk1, hN, by unfold maxLen; decide, by unfold maxLen; decide, q3, by unfold maxLen; decide, rfl⟩
        rcases hOI with ⟨h1, h2, h3, h4⟩ | ⟨p, xss, hp, rfl, hl, hc⟩
        · exact .inl ⟨h1, by rw [← Vls.of_list (litI N its), h2]; rfl, h3, h4⟩
        · refine .inr ⟨p, G, hp, rfl, ?_⟩
          have := OwL.insV p 0 hl hc
          rwa [Vls.of_list, hlL] at this
      · rw [List.nodup_append]
        refine ⟨ndI, by simp, fun x hx y hy e => ?_⟩
        have h1 := (rnI x hx).1
        simp at hy
        omega
      · intro b hb
        rcases List.mem_append.1 hb with h | h
        · have := rnI b h; omega
        · simp at h; omega
end Go.Proofs.YtechaplindbfoaaGreatDoor.vl
